/-
  Bytes of characters, by the program.
  Texts as lists of numbers; signs and digits of a text, by the program and by the reference.
  The program's small tests; what stands next; blanks, digits, a sign.
  What is written; blanks, digits, a sign, remarks; an escape.
-/
import Derived.Test.YtlkocepoohhglaaDoorA10
import Derived.Test.YtlkocepoohhglaaDoorA02
import Derived.Test.YtlkocepoohhglaaDoorA09
import Derived.Lib.Strings
import Derived.Lib.IndexBytes
import Derived.Test.YtlkocepoohhglaaDoorA03
import Derived.Deep.LoopGhost
import Derived.Laws.BytesArg
import Derived.Laws.IdiomStrings
set_option linter.unusedVariables false
set_option linter.unusedSimpArgs false
namespace Go.Proofs.YtlkocepoohhglaaDoor
open Go.RowKit

theorem isC_cases (x : Int) : (x < 0 ∧ isC x = false) ∨ (1114111 < x ∧ isC x = false) ∨ (55296 ≤ x ∧ x ≤ 57343 ∧ isC x = false) ∨ (0 ≤ x ∧ x < 55296 ∧ isC x = true) ∨ (57343 < x ∧ x ≤ 1114111 ∧ isC x = true) := by
  have := isC_iff x
  by_cases h : isC x = true
  · have := this.1 h; rcases this with ⟨h1, h2, h3 | h3⟩
    · right; right; right; left; exact ⟨h1, h3, h⟩
    · right; right; right; right; exact ⟨h3, h2, h⟩
  · have h' : isC x = false := by simpa using h
    have : ¬ (0 ≤ x ∧ x ≤ 1114111 ∧ (x < 55296 ∨ 57343 < x)) := fun k => h (this.2 k)
    simp only [h', and_true]; omega
set_option maxRecDepth 100000 in
set_option maxHeartbeats 1000000 in
theorem isR_any (x : Int) (w : World) : Calls Tryd.prog 60 #[.int .i32 x] w fun e w' => e = .returned (.bool (isC x)) ∧ w' = w := by
  rcases isC_cases x with ⟨h, e⟩ | ⟨h, e⟩ | ⟨h, g, e⟩ | ⟨h, g, e⟩ | ⟨h, g, e⟩
  all_goals
    have E := hide e
    clear e
    go_enter Tryd.func60, Tryd.ntmps60
    go_wp2
    go_ret
    exact ⟨ret_bool (by first | (rw [E.out]; done) | (rw [E.out]; simp; omega)), rfl⟩
theorem newsL (w : World) (l : List Value) (t : TypeId) : ∀ j x, l[j]? = some x → (w.alloc (.cells l.toArray t)).cell? ((⟨w.heap.size, 0, none⟩ : Addr).add j) = some x := fun j x hx => by
  rw [Addr.add_lit, cell_of_row _ w.heap.size (0 + j) _ t (0, 0) (heap_alloc_new w _)]
  simpa using hx
theorem info8 : (Tryd.prog.info? 5).map (fun i => (i.zero, i.size, i.bytes)) = some (some (.int .u8 0), 1, 1) := by kernel_rfl
theorem enc1_1 {x : Int} (h : x ≤ 127) : enc1 x = [x] := by unfold enc1; rw [if_pos h]
theorem enc1_2 {x : Int} (h : 127 < x) (h2 : x ≤ 2047) : enc1 x = [192 + x / 64, 128 + x % 64] := by unfold enc1; rw [if_neg (by omega), if_pos h2]
theorem enc1_3 {x : Int} (h : 2047 < x) (h2 : x ≤ 65535) : enc1 x = [224 + x / 4096, 128 + x / 64 % 64, 128 + x % 64] := by unfold enc1; rw [if_neg (by omega), if_neg (by omega), if_pos h2]
theorem enc1_4 {x : Int} (h : 65535 < x) : enc1 x = [240 + x / 262144, 128 + x / 4096 % 64, 128 + x / 64 % 64, 128 + x % 64] := by unfold enc1; rw [if_neg (by omega), if_neg (by omega), if_neg (by omega)]
/-- The state of a loop that writes characters. -/
def RelEnc (W : World) (n : Nat) (ls : List Int) (b i : Value) (wr : World) : Prop :=
  ∃ k : Nat, k ≤ n ∧ i = .int .i64 k ∧ Own W .u8 5 wr b (enc (ls.take k))
theorem RelEnc.mk {W : World} {n : Nat} {ls : List Int} {b i : Value} {wr : World} (k : Nat) (h1 : k ≤ n) (h2 : i = .int .i64 k) (h3 : Own W .u8 5 wr b (enc (ls.take k))) : RelEnc W n ls b i wr := ⟨k, h1, h2, h3⟩
theorem take_gt {bs : List Int} {i : Nat} (h : i < bs.length) : bs.take (i + 1) = bs.take i ++ [gt bs i] := by
  rw [gt_eq h]; exact List.take_succ_eq_append_getElem h
theorem enc_take_len (ls : List Int) (k : Nat) : (enc (ls.take k)).length ≤ 4 * k := by
  have h1 := (enc_len (ls.take k)).2
  have h2 : (ls.take k).length ≤ k := List.length_take_le _ _
  omega
theorem chr_yes {x : Int} (h : isC x = true) : chr x = x := by unfold chr; rw [if_pos h]
theorem chr_no {x : Int} (h : isC x = false) : chr x = 65533 := by unfold chr; rw [h]; rfl
end Go.Proofs.YtlkocepoohhglaaDoor
set_option linter.unusedVariables false
set_option linter.unusedSimpArgs false
namespace Go.Proofs.YtlkocepoohhglaaDoor
open Go.RowKit

/-- A text's bytes. -/
def bl (s : ByteArray) : List Int := s.data.toList.map fun b => (b.toNat : Int)
theorem bl_len (s : ByteArray) : (bl s).length = s.size := by
  unfold bl
  rw [List.length_map, Array.length_toList]
  rfl
theorem bl_inj {s t : ByteArray} (h : bl s = bl t) : s = t := by
  have : s.data.toList = t.data.toList := by
    refine List.map_inj_right (f := fun b : UInt8 => (b.toNat : Int)) ?_ |>.1 h
    intro x y e
    exact UInt8.toNat_inj.1 (Int.ofNat.inj e)
  cases s; cases t
  congr
  exact Array.toList_inj.1 this
theorem bl_by (s : ByteArray) : By (bl s) := by
  intro x hx
  simp only [bl, List.mem_map] at hx
  obtain ⟨b, _, rfl⟩ := hx
  have := b.toNat_lt
  omega
theorem bl_at (s : ByteArray) (i : Nat) (h : i < s.size) : (s[i].toNat : Int) = gt (bl s) i := by
  rw [gt_eq (by rw [bl_len]; exact h)]
  simp [bl, ByteArray.getElem_eq_getElem_data]
theorem bl_nx (s : ByteArray) (i : Nat) (h : i < s.size) : nx (bl s) i = (s[i].toNat : Int) := by
  rw [bl_at s i h]
  simp [nx, gt, List.getD_eq_getElem?_getD, List.getElem?_eq_getElem (show i < (bl s).length by rw [bl_len]; exact h)]
theorem bl_out (s : ByteArray) (i : Nat) (h : s.size ≤ i) : nx (bl s) i = -1 := by
  simp [nx, List.getD_eq_getElem?_getD, List.getElem?_eq_none (show (bl s).length ≤ i by rw [bl_len]; exact h)]
theorem bl_drop (s : ByteArray) (a : Nat) : bl (s.extract a s.size) = (bl s).drop a := by
  unfold bl
  rw [Lib.extract_data, List.map_take, List.map_drop]
  exact List.take_of_length_le (by rw [List.length_drop, List.length_map, Array.length_toList]; exact Nat.le_refl _)
theorem bl_take (s : ByteArray) (n : Nat) : bl (s.extract 0 n) = (bl s).take n := by
  unfold bl
  rw [Lib.extract_data, List.map_take, List.map_drop]
  simp
theorem bl_mid (s : ByteArray) (a b : Nat) : bl (s.extract a b) = ((bl s).drop a).take (b - a) := by
  unfold bl
  rw [Lib.extract_data, List.map_take, List.map_drop]
theorem bl_app (s t : ByteArray) : bl (s ++ t) = bl s ++ bl t := by
  unfold bl
  rw [ByteArray.data_append, Array.toList_append, List.map_append]
theorem bl_nil {s : ByteArray} (h : s.size = 0) : bl s = [] := List.eq_nil_of_length_eq_zero (by rw [bl_len]; exact h)
theorem bl_size0 {s : ByteArray} : bl s = [] ↔ s.size = 0 := by
  rw [← bl_len]; exact ⟨fun h => by rw [h]; rfl, fun h => List.eq_nil_of_length_eq_zero h⟩
theorem nx_cons {s : List Int} {k : Nat} (h : nx s k ≠ -1) : s.drop k = nx s k :: s.drop (k + 1) := by
  have hk : k < s.length := Nat.lt_of_not_le fun g => h (by simp [nx, List.getD_eq_getElem?_getD, List.getElem?_eq_none g])
  rw [List.drop_eq_getElem_cons hk]
  congr 1
  simp [nx, List.getD_eq_getElem?_getD, List.getElem?_eq_getElem hk]
theorem nx_take {s : List Int} {k : Nat} (h : nx s k ≠ -1) : s.take (k + 1) = s.take k ++ [nx s k] := by
  have hk : k < s.length := Nat.lt_of_not_le fun g => h (by simp [nx, List.getD_eq_getElem?_getD, List.getElem?_eq_none g])
  rw [List.take_succ_eq_append_getElem hk]
  congr 2
  simp [nx, List.getD_eq_getElem?_getD, List.getElem?_eq_getElem hk]
theorem isDig_ne1 {c : Int} (h : isDig c = true) : c ≠ -1 := by rintro rfl; exact absurd h (by decide)
theorem dgs_step {s : List Int} {k : Nat} (h : isDig (nx s k) = true) : dgs (s.drop k) = dgs (s.drop (k + 1)) ∧ s.take k ++ tkd (s.drop k) = s.take (k + 1) ++ tkd (s.drop (k + 1)) := by
  have hn := isDig_ne1 h
  rw [nx_cons hn, nx_take hn]
  unfold dgs tkd
  rw [List.dropWhile_cons_of_pos h, List.takeWhile_cons_of_pos h]
  exact ⟨rfl, by simp⟩
theorem dgs_stop {s : List Int} {k : Nat} (h : isDig (nx s k) = false) : dgs (s.drop k) = s.drop k ∧ tkd (s.drop k) = [] := by
  by_cases hn : nx s k = -1
  · by_cases hk : k < s.length
    · have e : s.drop k = nx s k :: s.drop (k + 1) := by
        rw [List.drop_eq_getElem_cons hk]
        congr 1
        simp [nx, List.getD_eq_getElem?_getD, List.getElem?_eq_getElem hk]
      rw [e]; unfold dgs tkd
      rw [List.dropWhile_cons_of_neg (by simp [h]), List.takeWhile_cons_of_neg (by simp [h])]
      exact ⟨rfl, rfl⟩
    · rw [List.drop_of_length_le (by omega)]; exact ⟨rfl, rfl⟩
  · rw [nx_cons hn]; unfold dgs tkd
    rw [List.dropWhile_cons_of_neg (by simp [h]), List.takeWhile_cons_of_neg (by simp [h])]
    exact ⟨rfl, rfl⟩
theorem byte3 (s : ByteArray) (k : Nat) (h : k < s.size) : ((s[k].toNat : Int) < 48 ∧ isDig (nx (bl s) k) = false) ∨ (48 ≤ (s[k].toNat : Int) ∧ (s[k].toNat : Int) ≤ 57 ∧ isDig (nx (bl s) k) = true) ∨ (57 < (s[k].toNat : Int) ∧ isDig (nx (bl s) k) = false) := by
  rw [bl_nx s k h]
  generalize (s[k].toNat : Int) = x
  simp [isDig]; omega
/-- The state of a loop over digits. -/
def RelDg (s : ByteArray) (i : Value) : Prop := ∃ k : Nat, k ≤ s.size ∧ i = .int .i64 k ∧ Hid (dgs (bl s) = dgs ((bl s).drop k) ∧ tkd (bl s) = (bl s).take k ++ tkd ((bl s).drop k))
theorem RelDg.mk {s : ByteArray} {i : Value} (k : Nat) (h1 : k ≤ s.size) (h2 : i = .int .i64 k) (h3 : dgs (bl s) = dgs ((bl s).drop k) ∧ tkd (bl s) = (bl s).take k ++ tkd ((bl s).drop k)) : RelDg s i := ⟨k, h1, h2, h3⟩
theorem sgn_cases (s : ByteArray) : (s.size = 0 ∧ sgn (bl s) = (false, bl s)) ∨ ∃ h : 0 < s.size, ((s[0].toNat : Int) = 43 ∧ sgn (bl s) = (false, (bl s).drop 1)) ∨ ((s[0].toNat : Int) = 45 ∧ sgn (bl s) = (true, (bl s).drop 1)) ∨ ((s[0].toNat : Int) ≠ 43 ∧ (s[0].toNat : Int) ≠ 45 ∧ sgn (bl s) = (false, bl s)) := by
  by_cases h : 0 < s.size
  · right
    refine ⟨h, ?_⟩
    unfold sgn
    rw [bl_nx s 0 h]
    generalize (s[0].toNat : Int) = x
    rcases (show x = 43 ∨ x = 45 ∨ (x ≠ 43 ∧ x ≠ 45) by omega) with rfl | rfl | ⟨h1, h2⟩
    · left; exact ⟨rfl, rfl⟩
    · right; left; exact ⟨rfl, rfl⟩
    · right; right; refine ⟨h1, h2, ?_⟩; rw [if_neg (by simp [isSg, h1, h2])]
  · left
    refine ⟨by omega, ?_⟩
    unfold sgn
    rw [bl_out s 0 (by omega)]; rfl
theorem emp_t {s : ByteArray} (h : s.size = 0) : s.toList.isEmpty = true := by
  rw [Lib.toList_data, List.isEmpty_iff]
  exact List.eq_nil_of_length_eq_zero (by rw [Array.length_toList]; exact h)
theorem emp_f {s : ByteArray} (h : 0 < s.size) : s.toList.isEmpty = false := by
  rw [Lib.toList_data]
  cases hl : s.data.toList with
  | nil =>
    have : s.data.toList.length = 0 := by rw [hl]; rfl
    rw [Array.length_toList] at this
    have h' : 0 < s.data.size := h
    omega
  | cons a r => rfl
theorem isDig1_any (c : Int) (w : World) : Calls Tryd.prog 94 #[.int .u8 c] w fun e w' => e = .returned (.bool (isDig c)) ∧ w' = w := by
  rcases (show c < 48 ∨ (48 ≤ c ∧ c ≤ 57) ∨ 57 < c by omega) with h | ⟨h, g⟩ | h
  all_goals
    go_enter Tryd.func94, Tryd.ntmps94
    go_wp2
    go_ret
    exact ⟨ret_bool (by simp [isDig]; omega), rfl⟩
/-- The state of the reference's loop over digits. -/
def RelRun (s : ByteArray) (i0 : Nat) (i : Value) : Prop := ∃ k : Nat, i0 ≤ k ∧ k ≤ s.size ∧ i = .int .i64 k ∧ Hid (dgs ((bl s).drop i0) = dgs ((bl s).drop k) ∧ (tkd ((bl s).drop i0)).length = k - i0 + (tkd ((bl s).drop k)).length)
theorem RelRun.mk {s : ByteArray} {i0 : Nat} {i : Value} (k : Nat) (h0 : i0 ≤ k) (h1 : k ≤ s.size) (h2 : i = .int .i64 k) (h3 : dgs ((bl s).drop i0) = dgs ((bl s).drop k) ∧ (tkd ((bl s).drop i0)).length = k - i0 + (tkd ((bl s).drop k)).length) : RelRun s i0 i := ⟨k, h0, h1, h2, h3⟩
theorem tkd_step {s : List Int} {k : Nat} (h : isDig (nx s k) = true) : (tkd (s.drop k)).length = 1 + (tkd (s.drop (k + 1))).length := by
  rw [nx_cons (isDig_ne1 h)]
  unfold tkd
  rw [List.takeWhile_cons_of_pos h]
  simp; omega
set_option maxHeartbeats 1000000 in
theorem run_any (s : ByteArray) (i : Nat) (w : World) (hs : s.size ≤ 140737488355328) (hi : i ≤ s.size) :
    Calls Tryd.prog 84 #[.string s, .int .i64 i] w fun e w' => e = .returned (.int .i64 ((i + (tkd ((bl s).drop i)).length : Nat) : Int)) ∧ w' = w := by
  go_enter Tryd.func84, Tryd.ntmps84
  go_wp2
  go_loop [1] (fun a => RelRun s i a) (fun a => s.size - (intOf a).toNat)
  case atStart => exact .mk i (Nat.le_refl _) hi rfl (by simp)
  case round =>
    obtain ⟨k, hk0, hk, rfl, R⟩ := hrel
    have fin : isDig (nx (bl s) k) = false → (k : Int) = ((i + (tkd ((bl s).drop i)).length : Nat) : Int) := fun h => by
      have := R.out.2
      rw [(dgs_stop h).2] at this
      simp at this
      omega
    by_cases hlt : k < s.size
    · have cx := bl_nx s k hlt
      cases hd : isDig (nx (bl s) k)
      · have D := hide (show isDig (s[k].toNat : Int) = false by rw [← cx]; exact hd)
        have F := hide (fin hd)
        clear cx hd fin
        go_wp2_with (go_at_call 94; refine (isDig1_any _ _).mono ?_; rintro e w' ⟨rfl, rfl⟩; rw [D.out])
        go_ret
        exact ⟨ret_int F.out, rfl⟩
      · have D := hide (show isDig (s[k].toNat : Int) = true by rw [← cx]; exact hd)
        have S := hide (dgs_step hd)
        have S2 := hide (tkd_step hd)
        clear cx hd fin
        go_wp2_with (go_at_call 94; refine (isDig1_any _ _).mono ?_; rintro e w' ⟨rfl, rfl⟩; rw [D.out])
        go_round
        case rel => exact .mk (k + 1) (by omega) (by omega) (by go_num) ⟨R.out.1.trans S.out.1, by have := R.out.2; have := S2.out; omega⟩
        case measure => simp [intOf]; omega
    · have F := hide (fin (by rw [bl_out s k (by omega)]; decide))
      clear fin
      go_wp2
      go_ret
      exact ⟨ret_int F.out, rfl⟩
end Go.Proofs.YtlkocepoohhglaaDoor
set_option linter.unusedVariables false
set_option linter.unusedSimpArgs false
namespace Go.Proofs.YtlkocepoohhglaaDoor
open Go.RowKit

theorem un_cases (c : Int) : (c < 0 ∧ isUn c = false) ∨ (0 ≤ c ∧ c ≤ 8 ∧ isUn c = true) ∨ (8 < c ∧ c < 11 ∧ isUn c = false) ∨ (c = 11 ∧ isUn c = true) ∨ (11 < c ∧ c < 14 ∧ isUn c = false) ∨ (14 ≤ c ∧ c ≤ 31 ∧ isUn c = true) ∨ (31 < c ∧ c < 127 ∧ isUn c = false) ∨ (c = 127 ∧ isUn c = true) ∨ (127 < c ∧ isUn c = false) := by
  have : isUn c = true ↔ (0 ≤ c ∧ c ≤ 8) ∨ c = 11 ∨ (14 ≤ c ∧ c ≤ 31) ∨ c = 127 := by simp [isUn]; omega
  by_cases h : isUn c = true
  · have := this.1 h; simp only [h, and_true]; simp; omega
  · have h' : isUn c = false := by simpa using h
    have : ¬ ((0 ≤ c ∧ c ≤ 8) ∨ c = 11 ∨ (14 ≤ c ∧ c ≤ 31) ∨ c = 127) := fun k => h (this.2 k)
    simp only [h', and_true]; simp; omega
/-- A digit to the base 16, as the program tells it. -/
def hxN (c : Int) : Int := if hexv c < 0 then 0 else hexv c
def hxB (c : Int) : Bool := decide (0 ≤ hexv c)
theorem hx_no {c : Int} (h : hexv c < 0) : hxN c = 0 ∧ hxB c = false := by unfold hxN hxB; rw [if_pos h]; simp; omega
theorem hx_yes {c : Int} (h : 0 ≤ hexv c) : hxN c = hexv c ∧ hxB c = true := by unfold hxN hxB; rw [if_neg (by omega)]; simp; omega
theorem hexv_cases (c : Int) : (c < 48 ∧ isDig c = false ∧ hexv c = -1) ∨ (48 ≤ c ∧ c ≤ 57 ∧ isDig c = true ∧ hexv c = c - 48) ∨ (57 < c ∧ c < 65 ∧ isDig c = false ∧ hexv c = -1) ∨ (65 ≤ c ∧ c ≤ 70 ∧ isDig c = false ∧ hexv c = c - 65 + 10) ∨ (70 < c ∧ c < 97 ∧ isDig c = false ∧ hexv c = -1) ∨ (97 ≤ c ∧ c ≤ 102 ∧ isDig c = false ∧ hexv c = c - 97 + 10) ∨ (102 < c ∧ isDig c = false ∧ hexv c = -1) := by
  have hd : isDig c = true ↔ 48 ≤ c ∧ c ≤ 57 := by simp [isDig]
  have hd' : isDig c = false ↔ ¬ (48 ≤ c ∧ c ≤ 57) := by rw [← hd]; simp
  rcases (show c < 48 ∨ (48 ≤ c ∧ c ≤ 57) ∨ (57 < c ∧ c < 65) ∨ (65 ≤ c ∧ c ≤ 70) ∨ (70 < c ∧ c < 97) ∨ (97 ≤ c ∧ c ≤ 102) ∨ 102 < c by omega) with h | h | h | h | h | h | h
  all_goals unfold hexv
  · left; exact ⟨h, hd'.2 (by omega), by rw [if_neg (by omega), if_neg (by omega), if_neg (by omega)]⟩
  · right; left; exact ⟨h.1, h.2, hd.2 h, by rw [if_pos h]⟩
  · right; right; left; exact ⟨h.1, h.2, hd'.2 (by omega), by rw [if_neg (by omega), if_neg (by omega), if_neg (by omega)]⟩
  · right; right; right; left; exact ⟨h.1, h.2, hd'.2 (by omega), by rw [if_neg (by omega), if_neg (by omega), if_pos h]⟩
  · right; right; right; right; left; exact ⟨h.1, h.2, hd'.2 (by omega), by rw [if_neg (by omega), if_neg (by omega), if_neg (by omega)]⟩
  · right; right; right; right; right; left; exact ⟨h.1, h.2, hd'.2 (by omega), by rw [if_neg (by omega), if_pos h]⟩
  · right; right; right; right; right; right; exact ⟨h, hd'.2 (by omega), by rw [if_neg (by omega), if_neg (by omega), if_neg (by omega)]⟩
theorem tup2 {a a' : Int} {b b' : Bool} (h1 : a = a') (h2 : b = b') : Ending.returned (.tuple #[.int .i32 a, .bool b]) = .returned (.tuple #[.int .i32 a', .bool b']) := by rw [h1, h2]
/-- Just these come next. -/
def stB : List Int → List Int → Bool
  | _, [] => true
  | s, c :: r => (nx s 0 == c) && stB (s.drop 1) r
def RelSt (s sg : List Int) (i : Value) : Prop := ∃ k : Nat, k ≤ sg.length ∧ i = .int .i64 k ∧ Hid (stB s sg = stB (s.drop k) (sg.drop k))
theorem RelSt.mk {s sg : List Int} {i : Value} (k : Nat) (h1 : k ≤ sg.length) (h2 : i = .int .i64 k) (h3 : stB s sg = stB (s.drop k) (sg.drop k)) : RelSt s sg i := ⟨k, h1, h2, h3⟩
def RelStw (w : World) (s sg : List Int) (i : Value) (wr : World) : Prop := RelSt s sg i ∧ Below w.heap.size w wr
end Go.Proofs.YtlkocepoohhglaaDoor
set_option linter.unusedVariables false
set_option linter.unusedSimpArgs false
namespace Go.Proofs.YtlkocepoohhglaaDoor
open Go.RowKit

theorem enc1_rng {x : Int} (h : isC x = true) : ∀ y ∈ enc1 x, 0 ≤ y ∧ y ≤ 255 := by
  rw [isC_iff] at h
  intro y hy
  unfold enc1 at hy
  split at hy
  · simp at hy; omega
  · split at hy
    · simp at hy; omega
    · split at hy
      · simp at hy; omega
      · simp at hy; omega
theorem enc_rng (l : List Int) : By (enc l) := by
  intro y hy
  unfold enc at hy
  obtain ⟨x, _, h⟩ := List.mem_flatMap.1 hy
  exact enc1_rng (isC_chr x) y h
def l8 (xs : List Int) : List UInt8 := xs.map fun x => UInt8.ofNat x.toNat
theorem l8_back {xs : List Int} (h : By xs) : (l8 xs).map (fun b => (b.toNat : Int)) = xs := by
  unfold l8
  rw [List.map_map]
  conv => rhs; rw [← List.map_id xs]
  refine List.map_congr_left fun x hx => ?_
  have := h x hx
  simp
  omega
theorem conv_anyT (w : World) (u : Value) (xs : List Int) (h : Nums .u8 w u xs) (hb : By xs) : ∃ t, bl t = xs ∧ (convert 55 9 u).run Tryd.prog w = .ok (.string t) w := by
  refine ⟨⟨(l8 xs).toArray⟩, ?_, ?_⟩
  · unfold bl; simpa using l8_back hb
  · rcases h with ⟨a, c, rfl, rfl⟩ | ⟨b, o, n, c, rfl, hn, h0, hbw, hc, hn9, hc9, hcell⟩
    · cases a with
      | none => exact run_convert_bytes_nil (P := Tryd.prog) w 55 5 Tryd.underlying55 Tryd.underlying5 0 c 9 Tryd.underlying9
      | some a => exact run_convert_bytes_back (P := Tryd.prog) w 55 9 5 a c [] Tryd.underlying55 Tryd.underlying5 Tryd.underlying9 (fun j hj => absurd hj (by simp))
    · have hl : n = (l8 xs).length := by unfold l8; rw [List.length_map]; exact hn
      have k := run_convert_bytes_back (P := Tryd.prog) w 55 9 5 ⟨b, o, none⟩ c (l8 xs) Tryd.underlying55 Tryd.underlying5 Tryd.underlying9 (fun j hj => by
        rw [Addr.add_lit, hcell j (by omega)]
        congr 2
        have e := l8_back hb
        have : gt xs j = ((l8 xs).map (fun b => (b.toNat : Int))).getD j 0 := by rw [e]; rfl
        rw [this]
        simp [List.getD_eq_getElem?_getD, List.getElem?_map, List.getElem?_eq_getElem hj])
      rw [← hl] at k
      exact k
/-- The state of a loop that takes as long as something comes. -/
def RelSk (f : List Int → List Int) (T : TypeId) (W w : World) (b : Nat) (v : Value) (l s : List Int) (g : Nat) (wr : World) : Prop :=
  ∃ t, At T W wr b v l t ∧ t.length ≤ g ∧ Hid (f s = f t) ∧ w.grownBy wr (some b)
theorem RelSk.mk {f : List Int → List Int} {T : TypeId} {W w : World} {b : Nat} {v : Value} {l s : List Int} {g : Nat} {wr : World} (t : List Int) (h1 : At T W wr b v l t) (h2 : t.length ≤ g) (h3 : f s = f t) (h4 : w.grownBy wr (some b)) : RelSk f T W w b v l s g wr := ⟨t, h1, h2, h3, h4⟩
theorem bls_go {s : List Int} (h : isBl (nx s 0) = true) : bls s = bls (s.drop 1) := by
  cases s with
  | nil => exact absurd h (by decide)
  | cons x r => show (x :: r).dropWhile isBl = _; rw [List.dropWhile_cons_of_pos (show isBl x = true from h)]; rfl
theorem bls_no {s : List Int} (h : isBl (nx s 0) = false) : bls s = s := by
  cases s with
  | nil => rfl
  | cons x r => show (x :: r).dropWhile isBl = _; rw [List.dropWhile_cons_of_neg (by simp [show isBl x = false from h])]
theorem dgs_go {s : List Int} (h : isDig (nx s 0) = true) : dgs s = dgs (s.drop 1) := by
  cases s with
  | nil => exact absurd h (by decide)
  | cons x r => show (x :: r).dropWhile isDig = _; rw [List.dropWhile_cons_of_pos (show isDig x = true from h)]; rfl
end Go.Proofs.YtlkocepoohhglaaDoor
