/-
  Texts as lists of numbers; signs and digits of a text, by the program and by the reference.
-/
import Derived.Test.YtdmijejcifjaoaaUtfD
import Derived.Test.YtdmijejcifjaoaaTokQ
import Derived.Lib.Strings
import Derived.Lib.IndexBytes
set_option linter.unusedVariables false
set_option linter.unusedSimpArgs false
namespace Go.Proofs.Ytdmijejcifjaoaa
open Go.RowKit

/-- A text's bytes. -/
def bl (s : ByteArray) : List Int := s.data.toList.map fun b => (b.toNat : Int)
theorem bl_len (s : ByteArray) : (bl s).length = s.size := by
  unfold bl
  rw [List.length_map, Array.length_toList]
  rfl
theorem bl_inj {s t : ByteArray} (h : bl s = bl t) : s = t := by
  have : s.data.toList = t.data.toList := by
    refine List.map_inj_right (f := fun b : UInt8 => (b.toNat : Int)) ?_ |>.1 h
    intro x y e
    exact UInt8.toNat_inj.1 (Int.ofNat.inj e)
  cases s; cases t
  congr
  exact Array.toList_inj.1 this
theorem bl_by (s : ByteArray) : By (bl s) := by
  intro x hx
  simp only [bl, List.mem_map] at hx
  obtain ⟨b, _, rfl⟩ := hx
  have := b.toNat_lt
  omega
theorem bl_at (s : ByteArray) (i : Nat) (h : i < s.size) : (s[i].toNat : Int) = gt (bl s) i := by
  rw [gt_eq (by rw [bl_len]; exact h)]
  simp [bl, ByteArray.getElem_eq_getElem_data]
theorem bl_nx (s : ByteArray) (i : Nat) (h : i < s.size) : nx (bl s) i = (s[i].toNat : Int) := by
  rw [bl_at s i h]
  simp [nx, gt, List.getD_eq_getElem?_getD, List.getElem?_eq_getElem (show i < (bl s).length by rw [bl_len]; exact h)]
theorem bl_out (s : ByteArray) (i : Nat) (h : s.size ≤ i) : nx (bl s) i = -1 := by
  simp [nx, List.getD_eq_getElem?_getD, List.getElem?_eq_none (show (bl s).length ≤ i by rw [bl_len]; exact h)]
theorem bl_drop (s : ByteArray) (a : Nat) : bl (s.extract a s.size) = (bl s).drop a := by
  unfold bl
  rw [Lib.extract_data, List.map_take, List.map_drop]
  exact List.take_of_length_le (by rw [List.length_drop, List.length_map, Array.length_toList]; exact Nat.le_refl _)
theorem bl_take (s : ByteArray) (n : Nat) : bl (s.extract 0 n) = (bl s).take n := by
  unfold bl
  rw [Lib.extract_data, List.map_take, List.map_drop]
  simp
theorem bl_mid (s : ByteArray) (a b : Nat) : bl (s.extract a b) = ((bl s).drop a).take (b - a) := by
  unfold bl
  rw [Lib.extract_data, List.map_take, List.map_drop]
theorem bl_app (s t : ByteArray) : bl (s ++ t) = bl s ++ bl t := by
  unfold bl
  rw [ByteArray.data_append, Array.toList_append, List.map_append]
theorem bl_nil {s : ByteArray} (h : s.size = 0) : bl s = [] := List.eq_nil_of_length_eq_zero (by rw [bl_len]; exact h)
theorem bl_size0 {s : ByteArray} : bl s = [] ↔ s.size = 0 := by
  rw [← bl_len]; exact ⟨fun h => by rw [h]; rfl, fun h => List.eq_nil_of_length_eq_zero h⟩
theorem nx_cons {s : List Int} {k : Nat} (h : nx s k ≠ -1) : s.drop k = nx s k :: s.drop (k + 1) := by
  have hk : k < s.length := Nat.lt_of_not_le fun g => h (by simp [nx, List.getD_eq_getElem?_getD, List.getElem?_eq_none g])
  rw [List.drop_eq_getElem_cons hk]
  congr 1
  simp [nx, List.getD_eq_getElem?_getD, List.getElem?_eq_getElem hk]
theorem nx_take {s : List Int} {k : Nat} (h : nx s k ≠ -1) : s.take (k + 1) = s.take k ++ [nx s k] := by
  have hk : k < s.length := Nat.lt_of_not_le fun g => h (by simp [nx, List.getD_eq_getElem?_getD, List.getElem?_eq_none g])
  rw [List.take_succ_eq_append_getElem hk]
  congr 2
  simp [nx, List.getD_eq_getElem?_getD, List.getElem?_eq_getElem hk]
theorem isDig_ne1 {c : Int} (h : isDig c = true) : c ≠ -1 := by rintro rfl; exact absurd h (by decide)
theorem dgs_step {s : List Int} {k : Nat} (h : isDig (nx s k) = true) : dgs (s.drop k) = dgs (s.drop (k + 1)) ∧ s.take k ++ tkd (s.drop k) = s.take (k + 1) ++ tkd (s.drop (k + 1)) := by
  have hn := isDig_ne1 h
  rw [nx_cons hn, nx_take hn]
  unfold dgs tkd
  rw [List.dropWhile_cons_of_pos h, List.takeWhile_cons_of_pos h]
  exact ⟨rfl, by simp⟩
theorem dgs_stop {s : List Int} {k : Nat} (h : isDig (nx s k) = false) : dgs (s.drop k) = s.drop k ∧ tkd (s.drop k) = [] := by
  by_cases hn : nx s k = -1
  · by_cases hk : k < s.length
    · have e : s.drop k = nx s k :: s.drop (k + 1) := by
        rw [List.drop_eq_getElem_cons hk]
        congr 1
        simp [nx, List.getD_eq_getElem?_getD, List.getElem?_eq_getElem hk]
      rw [e]; unfold dgs tkd
      rw [List.dropWhile_cons_of_neg (by simp [h]), List.takeWhile_cons_of_neg (by simp [h])]
      exact ⟨rfl, rfl⟩
    · rw [List.drop_of_length_le (by omega)]; exact ⟨rfl, rfl⟩
  · rw [nx_cons hn]; unfold dgs tkd
    rw [List.dropWhile_cons_of_neg (by simp [h]), List.takeWhile_cons_of_neg (by simp [h])]
    exact ⟨rfl, rfl⟩
theorem byte3 (s : ByteArray) (k : Nat) (h : k < s.size) : ((s[k].toNat : Int) < 48 ∧ isDig (nx (bl s) k) = false) ∨ (48 ≤ (s[k].toNat : Int) ∧ (s[k].toNat : Int) ≤ 57 ∧ isDig (nx (bl s) k) = true) ∨ (57 < (s[k].toNat : Int) ∧ isDig (nx (bl s) k) = false) := by
  rw [bl_nx s k h]
  generalize (s[k].toNat : Int) = x
  simp [isDig]; omega
/-- The state of a loop over digits. -/
def RelDg (s : ByteArray) (i : Value) : Prop := ∃ k : Nat, k ≤ s.size ∧ i = .int .i64 k ∧ Hid (dgs (bl s) = dgs ((bl s).drop k) ∧ tkd (bl s) = (bl s).take k ++ tkd ((bl s).drop k))
theorem RelDg.mk {s : ByteArray} {i : Value} (k : Nat) (h1 : k ≤ s.size) (h2 : i = .int .i64 k) (h3 : dgs (bl s) = dgs ((bl s).drop k) ∧ tkd (bl s) = (bl s).take k ++ tkd ((bl s).drop k)) : RelDg s i := ⟨k, h1, h2, h3⟩
theorem sgn_cases (s : ByteArray) : (s.size = 0 ∧ sgn (bl s) = (false, bl s)) ∨ ∃ h : 0 < s.size, ((s[0].toNat : Int) = 43 ∧ sgn (bl s) = (false, (bl s).drop 1)) ∨ ((s[0].toNat : Int) = 45 ∧ sgn (bl s) = (true, (bl s).drop 1)) ∨ ((s[0].toNat : Int) ≠ 43 ∧ (s[0].toNat : Int) ≠ 45 ∧ sgn (bl s) = (false, bl s)) := by
  by_cases h : 0 < s.size
  · right
    refine ⟨h, ?_⟩
    unfold sgn
    rw [bl_nx s 0 h]
    generalize (s[0].toNat : Int) = x
    rcases (show x = 43 ∨ x = 45 ∨ (x ≠ 43 ∧ x ≠ 45) by omega) with rfl | rfl | ⟨h1, h2⟩
    · left; exact ⟨rfl, rfl⟩
    · right; left; exact ⟨rfl, rfl⟩
    · right; right; refine ⟨h1, h2, ?_⟩; rw [if_neg (by simp [isSg, h1, h2])]
  · left
    refine ⟨by omega, ?_⟩
    unfold sgn
    rw [bl_out s 0 (by omega)]; rfl
theorem emp_t {s : ByteArray} (h : s.size = 0) : s.toList.isEmpty = true := by
  rw [Lib.toList_data, List.isEmpty_iff]
  exact List.eq_nil_of_length_eq_zero (by rw [Array.length_toList]; exact h)
theorem emp_f {s : ByteArray} (h : 0 < s.size) : s.toList.isEmpty = false := by
  rw [Lib.toList_data]
  cases hl : s.data.toList with
  | nil =>
    have : s.data.toList.length = 0 := by rw [hl]; rfl
    rw [Array.length_toList] at this
    have h' : 0 < s.data.size := h
    omega
  | cons a r => rfl
/-- The state of the reference's loop over digits. -/
def RelRun (s : ByteArray) (i0 : Nat) (i : Value) : Prop := ∃ k : Nat, i0 ≤ k ∧ k ≤ s.size ∧ i = .int .i64 k ∧ Hid (dgs ((bl s).drop i0) = dgs ((bl s).drop k) ∧ (tkd ((bl s).drop i0)).length = k - i0 + (tkd ((bl s).drop k)).length)
theorem RelRun.mk {s : ByteArray} {i0 : Nat} {i : Value} (k : Nat) (h0 : i0 ≤ k) (h1 : k ≤ s.size) (h2 : i = .int .i64 k) (h3 : dgs ((bl s).drop i0) = dgs ((bl s).drop k) ∧ (tkd ((bl s).drop i0)).length = k - i0 + (tkd ((bl s).drop k)).length) : RelRun s i0 i := ⟨k, h0, h1, h2, h3⟩
theorem tkd_step {s : List Int} {k : Nat} (h : isDig (nx s k) = true) : (tkd (s.drop k)).length = 1 + (tkd (s.drop (k + 1))).length := by
  rw [nx_cons (isDig_ne1 h)]
  unfold tkd
  rw [List.takeWhile_cons_of_pos h]
  simp; omega
end Go.Proofs.Ytdmijejcifjaoaa
