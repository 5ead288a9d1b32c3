/-
  Plain: each token takes something; all tokens of some characters.
  Texts as lists of numbers; signs and digits of a text, by the program and by the reference.
  Powers: what the program multiplies and divides for a decimal.
  A number times a power of ten, in lowest terms, by the program; what stands behind an e.
-/
import Derived.Test.YtmkbjcoagfnegaaGreatDoorZ04
import Derived.Test.YtmkbjcoagfnegaaGreatDoorZ02
import Derived.Lib.Strings
import Derived.Lib.IndexBytes
import Derived.Deep.RegionWith
set_option linter.unusedVariables false
namespace Go.Proofs.YtmkbjcoagfnegaaGreatDoor
open Go.RowKit

theorem nam_len (n : Nat) : ∀ acc s : List Int, s.length ≤ n → (nam acc s).2.length ≤ s.length := by
  induction n with
  | zero =>
    intro acc s h
    obtain rfl : s = [] := List.eq_nil_of_length_eq_zero (by omega)
    rw [nam_end (by decide) (by decide)]; simp
  | succ n ih =>
    intro acc s h
    by_cases h1 : isLet (nx s 0) = true
    · have := isLet_ne h1
      rw [nam_let h1]
      have := ih (acc ++ [nx s 0]) (s.drop 1) (by rw [List.length_drop]; omega)
      rw [List.length_drop] at this; omega
    · have h1' : isLet (nx s 0) = false := by simpa using h1
      by_cases h2 : es2 (nx s 0) (nx s 1) = true
      · have := es2_ne h2
        have q := tesc_len (s.drop 1)
        rw [List.length_drop] at q
        rw [nam_esc h1' h2]
        have := ih (acc ++ [(tesc (s.drop 1)).1]) (tesc (s.drop 1)).2 (by omega)
        omega
      · rw [nam_end h1' (by simpa using h2)]; simp
theorem nam_le (acc s : List Int) : (nam acc s).2.length ≤ s.length := nam_len s.length acc s (Nat.le_refl _)
theorem nam_lt {acc s : List Int} (h : isLet (nx s 0) = true ∨ es2 (nx s 0) (nx s 1) = true) : (nam acc s).2.length < s.length := by
  by_cases h1 : isLet (nx s 0) = true
  · have := isLet_ne h1
    rw [nam_let h1]
    have := nam_le (acc ++ [nx s 0]) (s.drop 1)
    rw [List.length_drop] at this; omega
  · have h2 : es2 (nx s 0) (nx s 1) = true := by rcases h with h | h; exact absurd h h1; exact h
    have := es2_ne h2
    have q := tesc_len (s.drop 1)
    rw [List.length_drop] at q
    rw [nam_esc (by simpa using h1) h2]
    have := nam_le (acc ++ [(tesc (s.drop 1)).1]) (tesc (s.drop 1)).2
    omega
theorem nmB_lt {acc s : List Int} (h : nmB (nx s 0) (nx s 1) (nx s 2) = true) : (nam acc s).2.length < s.length := by
  refine nam_lt ?_
  unfold nmB at h
  by_cases g : nx s 0 = 45
  · left; rw [g]; decide
  · rw [if_neg g] at h
    rcases Bool.or_eq_true_iff.1 h with h | h
    · left; unfold isLet; rw [h]; rfl
    · right; exact h
theorem dgs_len (s : List Int) : (dgs s).length ≤ s.length := (List.dropWhile_sublist _).length_le
theorem dgs_lt {s : List Int} (h : isDig (nx s 0) = true) : (dgs s).length < s.length := by
  cases s with
  | nil => exact absurd h (by decide)
  | cons x r =>
    have hx : isDig x = true := h
    show ((x :: r).dropWhile isDig).length < _
    rw [List.dropWhile_cons_of_pos hx]
    have := (List.dropWhile_sublist isDig (l := r)).length_le
    simp; omega
theorem dgs_no {s : List Int} (h : isDig (nx s 0) = false) : dgs s = s := by
  cases s with
  | nil => rfl
  | cons x r =>
    have hx : isDig x = false := h
    show (x :: r).dropWhile isDig = _
    rw [List.dropWhile_cons_of_neg (by simp [hx])]
theorem nmS_len (s : List Int) : (nmS s).length ≤ s.length := by unfold nmS; split <;> simp
theorem nmP_len (s : List Int) : (nmP s).length ≤ s.length := by
  unfold nmP; split
  · have := dgs_len (s.drop 1); rw [List.length_drop] at this; omega
  · simp
theorem nmE_len (s : List Int) : (nmE s).length ≤ s.length := by
  unfold nmE; split
  · have := dgs_len (nmS (s.drop 1)); have := nmS_len (s.drop 1); rw [List.length_drop] at this; omega
  · simp
theorem nmZ_len (s : List Int) : (nmZ s).length ≤ s.length := by
  unfold nmZ
  have h1 := nmE_len (nmP (dgs (nmS s))); have h2 := nmP_len (dgs (nmS s)); have h3 := dgs_len (nmS s); have h4 := nmS_len s
  omega
theorem nmZ_lt {s : List Int} (h : nuB (nx s 0) (nx s 1) (nx s 2) = true) : (nmZ s).length < s.length := by
  have h1 := nmE_len (nmP (dgs (nmS s))); have h2 := nmP_len (dgs (nmS s)); have h3 := dgs_len (nmS s); have h4 := nmS_len s
  unfold nuB at h
  unfold nmZ
  by_cases g : isSg (nx s 0) = true
  · have hp : 0 < s.length := nx_pos fun e => by rw [e] at g; exact absurd g (by decide)
    have : (nmS s).length < s.length := by unfold nmS; rw [if_pos g, List.length_drop]; omega
    omega
  · rw [if_neg g] at h
    have e : nmS s = s := by unfold nmS; rw [if_neg g]
    rcases Bool.or_eq_true_iff.1 h with h | h
    · have := dgs_lt h
      rw [e] at h1 h2 h3 ⊢
      omega
    · rw [e] at h1 h2 h3 ⊢
      have hd : isDig (nx s 0) = false := by
        have : nx s 0 = 46 := by simp at h; exact h.1
        rw [this]; decide
      rw [dgs_no hd] at h1 h2 ⊢
      have hp : 0 < s.length := nx_pos fun q => by rw [q] at h; simp at h
      have : (nmP s).length < s.length := by
        unfold nmP; rw [if_pos h]
        have := dgs_len (s.drop 1); rw [List.length_drop] at this; omega
      omega
theorem bad_len (n : Nat) : ∀ s : List Int, s.length ≤ n → (bad s).length ≤ s.length := by
  induction n with
  | zero =>
    intro s h
    obtain rfl : s = [] := List.eq_nil_of_length_eq_zero (by omega)
    rw [bad]; simp [nx_nil]
  | succ n ih =>
    intro s h
    rw [bad]
    by_cases h0 : nx s 0 = -1 ∨ nx s 0 = 41
    · rw [dif_pos h0]; simp
    · have hp := nx_pos (s := s) (fun e => h0 (.inl e))
      rw [dif_neg h0]
      by_cases h1 : es2 (nx s 0) (nx s 1) = true
      · rw [if_pos h1]
        have q := tesc_len (s.drop 1)
        rw [List.length_drop] at q
        have := ih (tesc (s.drop 1)).2 (by omega)
        omega
      · rw [if_neg h1]
        have := ih (s.drop 1) (by rw [List.length_drop]; omega)
        rw [List.length_drop] at this; omega
theorem bad_le (s : List Int) : (bad s).length ≤ s.length := bad_len s.length s (Nat.le_refl _)
theorem url_len (n : Nat) : ∀ acc s : List Int, s.length ≤ n → (url acc s).2.length ≤ s.length := by
  induction n with
  | zero =>
    intro acc s h
    obtain rfl : s = [] := List.eq_nil_of_length_eq_zero (by omega)
    rw [url]; simp [nx_nil]
  | succ n ih =>
    intro acc s h
    rw [url]
    by_cases h0 : nx s 0 = -1 ∨ nx s 0 = 41
    · rw [dif_pos h0]; simp
    · have hp := nx_pos (s := s) (fun e => h0 (.inl e))
      rw [dif_neg h0]
      by_cases h1 : isBl (nx s 0) = true
      · rw [dif_pos h1]
        have q := bls_lt h1
        split
        · have := ih acc (bls s) (by omega); omega
        · have := bad_le (bls s); simp only; omega
      · rw [dif_neg h1]
        split
        · have q := tesc_len (s.drop 1)
          rw [List.length_drop] at q
          have := ih (acc ++ [(tesc (s.drop 1)).1]) (tesc (s.drop 1)).2 (by omega)
          omega
        · split
          · exact bad_le s
          · have := ih (acc ++ [nx s 0]) (s.drop 1) (by rw [List.length_drop]; omega)
            rw [List.length_drop] at this; omega
theorem url_le (acc s : List Int) : (url acc s).2.length ≤ s.length := url_len s.length acc s (Nat.le_refl _)
theorem str_len (n : Nat) : ∀ (q : Int) (acc s : List Int), s.length ≤ n → (str q acc s).2.length ≤ s.length := by
  induction n with
  | zero =>
    intro q acc s h
    obtain rfl : s = [] := List.eq_nil_of_length_eq_zero (by omega)
    rw [str]; simp [nx_nil]
  | succ n ih =>
    intro q acc s h
    rw [str]
    by_cases h0 : nx s 0 = -1 ∨ nx s 0 = q
    · rw [dif_pos h0]; simp
    · have hp := nx_pos (s := s) (fun e => h0 (.inl e))
      rw [dif_neg h0]
      by_cases h1 : nx s 0 = 10
      · rw [dif_pos h1]; simp
      · rw [dif_neg h1]
        by_cases h2 : nx s 0 = 92
        · rw [dif_pos h2]
          split
          · have := ih q acc (s.drop 1) (by rw [List.length_drop]; omega)
            rw [List.length_drop] at this; omega
          · split
            · have := ih q acc (s.drop 2) (by rw [List.length_drop]; omega)
              rw [List.length_drop] at this; omega
            · have r := tesc_len (s.drop 1)
              rw [List.length_drop] at r
              have := ih q (acc ++ [(tesc (s.drop 1)).1]) (tesc (s.drop 1)).2 (by omega)
              omega
        · rw [dif_neg h2]
          have := ih q (acc ++ [nx s 0]) (s.drop 1) (by rw [List.length_drop]; omega)
          rw [List.length_drop] at this; omega
theorem str_le (q : Int) (acc s : List Int) : (str q acc s).2.length ≤ s.length := str_len s.length q acc s (Nat.le_refl _)
theorem sbl_len (s : List Int) : (sbl s).length ≤ s.length := by
  induction s with
  | nil => simp [sbl]
  | cons x r ih => simp only [sbl]; split <;> simp; omega
theorem word_lt {s : List Int} (h : (nam [] s).2.length < s.length) : (word s).2.length < s.length := by
  unfold word
  have h1 := sbl_len ((nam [] s).2.drop 1)
  have h2 := bls_len (sbl ((nam [] s).2.drop 1))
  have h3 := url_le [] (bls (sbl ((nam [] s).2.drop 1)))
  rw [List.length_drop] at h1
  split
  · exact h
  · split
    · split
      · simp only; omega
      · omega
    · simp only [List.length_drop]; omega
theorem numb_lt {s : List Int} (h : nuB (nx s 0) (nx s 1) (nx s 2) = true) : (numb s).2.length < s.length := by
  have h1 := nmZ_lt h
  have h2 := nam_le [] (nmZ s)
  unfold numb
  split
  · simp only; omega
  · split
    · simp only [List.length_drop]; omega
    · exact h1
theorem one_lt {s : List Int} (h : nx s 0 ≠ -1) : (one s).2.length < s.length := by
  have := nx_pos h
  unfold one; simp only [List.length_drop]; omega
theorem sgnT_lt {s : List Int} (h : nx s 0 ≠ -1) : (sgnT s).2.length < s.length := by
  have hp := nx_pos h
  have ho := one_lt h
  have hn := nam_le [] (s.drop 1)
  rw [List.length_drop] at hn
  unfold sgnT
  split
  · split
    · unfold hash; simp only; omega
    · exact ho
  · split
    · split
      · rename_i g; exact numb_lt g
      · exact ho
    · split
      · split
        · rename_i g; exact numb_lt g
        · split
          · simp only [List.length_drop]; omega
          · split
            · rename_i g; exact word_lt (nmB_lt g)
            · exact ho
      · split
        · split
          · simp only [List.length_drop]; omega
          · exact ho
        · split
          · split
            · simp only; omega
            · exact ho
          · split
            · split
              · rename_i g; exact word_lt (nam_lt (.inr g))
              · exact ho
            · exact ho
theorem isFst_let {c : Int} (h : isFst c = true) : isLet c = true := by unfold isLet; rw [h]; rfl
theorem isDig_nu {s : List Int} (h : isDig (nx s 0) = true) : nuB (nx s 0) (nx s 1) (nx s 2) = true := by
  have hs : isSg (nx s 0) = false := by
    generalize nx s 0 = c at *
    simp [isDig] at h
    simp [isSg]; omega
  unfold nuB; rw [hs, h]; rfl
theorem tokn_lt {s : List Int} (h : nx s 0 ≠ -1) : (tokn s).2.length < s.length := by
  have hp := nx_pos h
  unfold tokn
  split
  · rename_i g; exact bls_lt g
  · split
    · have := str_le (nx s 0) [] (s.drop 1)
      rw [List.length_drop] at this; omega
    · split
      · rename_i g; exact numb_lt (isDig_nu g)
      · split
        · rename_i g; exact word_lt (nam_lt (.inl (isFst_let g)))
        · exact sgnT_lt h
theorem rmk_len (n : Nat) : ∀ s : List Int, s.length ≤ n → (rmk s).length ≤ s.length := by
  induction n with
  | zero =>
    intro s h
    obtain rfl : s = [] := List.eq_nil_of_length_eq_zero (by omega)
    rw [rmk_end (by simp [nx_nil])]; simp
  | succ n ih =>
    intro s h
    by_cases g : nx s 0 = 47 ∧ nx s 1 = 42
    · have hp : 0 < s.length := nx_pos (by omega)
      rw [rmk_go g.1 g.2]
      have q := untl_len (s.drop 2)
      rw [List.length_drop] at q
      have := ih (untl (s.drop 2)) (by omega)
      omega
    · rw [rmk_end g]; simp
theorem rmk_le (s : List Int) : (rmk s).length ≤ s.length := rmk_len s.length s (Nat.le_refl _)
/-- The tokens of these characters. -/
def toks (s : List Int) : List Tk :=
  if h : nx (rmk s) 0 = -1 then [] else (tokn (rmk s)).1 :: toks (tokn (rmk s)).2
termination_by s.length
decreasing_by
  have := tokn_lt h
  have := rmk_le s
  omega
theorem toks_end {s : List Int} (h : nx (rmk s) 0 = -1) : toks s = [] := by rw [toks, dif_pos h]
theorem toks_go {s : List Int} (h : nx (rmk s) 0 ≠ -1) : toks s = (tokn (rmk s)).1 :: toks (tokn (rmk s)).2 := by rw [toks, dif_neg h]
end Go.Proofs.YtmkbjcoagfnegaaGreatDoor
set_option linter.unusedVariables false
set_option linter.unusedSimpArgs false
namespace Go.Proofs.YtmkbjcoagfnegaaGreatDoor
open Go.RowKit

/-- A text's bytes. -/
def bl (s : ByteArray) : List Int := s.data.toList.map fun b => (b.toNat : Int)
theorem bl_len (s : ByteArray) : (bl s).length = s.size := by
  unfold bl
  rw [List.length_map, Array.length_toList]
  rfl
theorem bl_inj {s t : ByteArray} (h : bl s = bl t) : s = t := by
  have : s.data.toList = t.data.toList := by
    refine List.map_inj_right (f := fun b : UInt8 => (b.toNat : Int)) ?_ |>.1 h
    intro x y e
    exact UInt8.toNat_inj.1 (Int.ofNat.inj e)
  cases s; cases t
  congr
  exact Array.toList_inj.1 this
theorem bl_by (s : ByteArray) : By (bl s) := by
  intro x hx
  simp only [bl, List.mem_map] at hx
  obtain ⟨b, _, rfl⟩ := hx
  have := b.toNat_lt
  omega
theorem bl_at (s : ByteArray) (i : Nat) (h : i < s.size) : (s[i].toNat : Int) = gt (bl s) i := by
  rw [gt_eq (by rw [bl_len]; exact h)]
  simp [bl, ByteArray.getElem_eq_getElem_data]
theorem bl_nx (s : ByteArray) (i : Nat) (h : i < s.size) : nx (bl s) i = (s[i].toNat : Int) := by
  rw [bl_at s i h]
  simp [nx, gt, List.getD_eq_getElem?_getD, List.getElem?_eq_getElem (show i < (bl s).length by rw [bl_len]; exact h)]
theorem bl_out (s : ByteArray) (i : Nat) (h : s.size ≤ i) : nx (bl s) i = -1 := by
  simp [nx, List.getD_eq_getElem?_getD, List.getElem?_eq_none (show (bl s).length ≤ i by rw [bl_len]; exact h)]
theorem bl_drop (s : ByteArray) (a : Nat) : bl (s.extract a s.size) = (bl s).drop a := by
  unfold bl
  rw [Lib.extract_data, List.map_take, List.map_drop]
  exact List.take_of_length_le (by rw [List.length_drop, List.length_map, Array.length_toList]; exact Nat.le_refl _)
theorem bl_take (s : ByteArray) (n : Nat) : bl (s.extract 0 n) = (bl s).take n := by
  unfold bl
  rw [Lib.extract_data, List.map_take, List.map_drop]
  simp
theorem bl_mid (s : ByteArray) (a b : Nat) : bl (s.extract a b) = ((bl s).drop a).take (b - a) := by
  unfold bl
  rw [Lib.extract_data, List.map_take, List.map_drop]
theorem bl_app (s t : ByteArray) : bl (s ++ t) = bl s ++ bl t := by
  unfold bl
  rw [ByteArray.data_append, Array.toList_append, List.map_append]
theorem bl_nil {s : ByteArray} (h : s.size = 0) : bl s = [] := List.eq_nil_of_length_eq_zero (by rw [bl_len]; exact h)
theorem bl_size0 {s : ByteArray} : bl s = [] ↔ s.size = 0 := by
  rw [← bl_len]; exact ⟨fun h => by rw [h]; rfl, fun h => List.eq_nil_of_length_eq_zero h⟩
theorem nx_cons {s : List Int} {k : Nat} (h : nx s k ≠ -1) : s.drop k = nx s k :: s.drop (k + 1) := by
  have hk : k < s.length := Nat.lt_of_not_le fun g => h (by simp [nx, List.getD_eq_getElem?_getD, List.getElem?_eq_none g])
  rw [List.drop_eq_getElem_cons hk]
  congr 1
  simp [nx, List.getD_eq_getElem?_getD, List.getElem?_eq_getElem hk]
theorem nx_take {s : List Int} {k : Nat} (h : nx s k ≠ -1) : s.take (k + 1) = s.take k ++ [nx s k] := by
  have hk : k < s.length := Nat.lt_of_not_le fun g => h (by simp [nx, List.getD_eq_getElem?_getD, List.getElem?_eq_none g])
  rw [List.take_succ_eq_append_getElem hk]
  congr 2
  simp [nx, List.getD_eq_getElem?_getD, List.getElem?_eq_getElem hk]
theorem isDig_ne1 {c : Int} (h : isDig c = true) : c ≠ -1 := by rintro rfl; exact absurd h (by decide)
theorem dgs_step {s : List Int} {k : Nat} (h : isDig (nx s k) = true) : dgs (s.drop k) = dgs (s.drop (k + 1)) ∧ s.take k ++ tkd (s.drop k) = s.take (k + 1) ++ tkd (s.drop (k + 1)) := by
  have hn := isDig_ne1 h
  rw [nx_cons hn, nx_take hn]
  unfold dgs tkd
  rw [List.dropWhile_cons_of_pos h, List.takeWhile_cons_of_pos h]
  exact ⟨rfl, by simp⟩
theorem dgs_stop {s : List Int} {k : Nat} (h : isDig (nx s k) = false) : dgs (s.drop k) = s.drop k ∧ tkd (s.drop k) = [] := by
  by_cases hn : nx s k = -1
  · by_cases hk : k < s.length
    · have e : s.drop k = nx s k :: s.drop (k + 1) := by
        rw [List.drop_eq_getElem_cons hk]
        congr 1
        simp [nx, List.getD_eq_getElem?_getD, List.getElem?_eq_getElem hk]
      rw [e]; unfold dgs tkd
      rw [List.dropWhile_cons_of_neg (by simp [h]), List.takeWhile_cons_of_neg (by simp [h])]
      exact ⟨rfl, rfl⟩
    · rw [List.drop_of_length_le (by omega)]; exact ⟨rfl, rfl⟩
  · rw [nx_cons hn]; unfold dgs tkd
    rw [List.dropWhile_cons_of_neg (by simp [h]), List.takeWhile_cons_of_neg (by simp [h])]
    exact ⟨rfl, rfl⟩
/-- The state of a loop over digits. -/
def RelDg (s : ByteArray) (i : Value) : Prop := ∃ k : Nat, k ≤ s.size ∧ i = .int .i64 k ∧ Hid (dgs (bl s) = dgs ((bl s).drop k) ∧ tkd (bl s) = (bl s).take k ++ tkd ((bl s).drop k))
theorem RelDg.mk {s : ByteArray} {i : Value} (k : Nat) (h1 : k ≤ s.size) (h2 : i = .int .i64 k) (h3 : dgs (bl s) = dgs ((bl s).drop k) ∧ tkd (bl s) = (bl s).take k ++ tkd ((bl s).drop k)) : RelDg s i := ⟨k, h1, h2, h3⟩
theorem emp_t {s : ByteArray} (h : s.size = 0) : s.toList.isEmpty = true := by
  rw [Lib.toList_data, List.isEmpty_iff]
  exact List.eq_nil_of_length_eq_zero (by rw [Array.length_toList]; exact h)
theorem emp_f {s : ByteArray} (h : 0 < s.size) : s.toList.isEmpty = false := by
  rw [Lib.toList_data]
  cases hl : s.data.toList with
  | nil =>
    have : s.data.toList.length = 0 := by rw [hl]; rfl
    rw [Array.length_toList] at this
    have h' : 0 < s.data.size := h
    omega
  | cons a r => rfl
theorem isDig1_any (c : Int) (w : World) : Calls Tryz.prog 166 #[.int .u8 c] w fun e w' => e = .returned (.bool (isDig c)) ∧ w' = w := by
  rcases (show c < 48 ∨ (48 ≤ c ∧ c ≤ 57) ∨ 57 < c by omega) with h | ⟨h, g⟩ | h
  all_goals
    go_enter Tryz.func166, Tryz.ntmps166
    go_wp2
    go_ret
    exact ⟨ret_bool (by simp [isDig]; omega), rfl⟩
/-- The state of the reference's loop over digits. -/
def RelRun (s : ByteArray) (i0 : Nat) (i : Value) : Prop := ∃ k : Nat, i0 ≤ k ∧ k ≤ s.size ∧ i = .int .i64 k ∧ Hid (dgs ((bl s).drop i0) = dgs ((bl s).drop k) ∧ (tkd ((bl s).drop i0)).length = k - i0 + (tkd ((bl s).drop k)).length)
theorem RelRun.mk {s : ByteArray} {i0 : Nat} {i : Value} (k : Nat) (h0 : i0 ≤ k) (h1 : k ≤ s.size) (h2 : i = .int .i64 k) (h3 : dgs ((bl s).drop i0) = dgs ((bl s).drop k) ∧ (tkd ((bl s).drop i0)).length = k - i0 + (tkd ((bl s).drop k)).length) : RelRun s i0 i := ⟨k, h0, h1, h2, h3⟩
theorem tkd_step {s : List Int} {k : Nat} (h : isDig (nx s k) = true) : (tkd (s.drop k)).length = 1 + (tkd (s.drop (k + 1))).length := by
  rw [nx_cons (isDig_ne1 h)]
  unfold tkd
  rw [List.takeWhile_cons_of_pos h]
  simp; omega
set_option maxHeartbeats 1000000 in
theorem run_any (s : ByteArray) (i : Nat) (w : World) (hs : s.size ≤ 140737488355328) (hi : i ≤ s.size) :
    Calls Tryz.prog 137 #[.string s, .int .i64 i] w fun e w' => e = .returned (.int .i64 ((i + (tkd ((bl s).drop i)).length : Nat) : Int)) ∧ w' = w := by
  go_enter Tryz.func137, Tryz.ntmps137
  go_wp2
  go_loop [1] (fun a => RelRun s i a) (fun a => s.size - (intOf a).toNat)
  case atStart => exact .mk i (Nat.le_refl _) hi rfl (by simp)
  case round =>
    obtain ⟨k, hk0, hk, rfl, R⟩ := hrel
    have fin : isDig (nx (bl s) k) = false → (k : Int) = ((i + (tkd ((bl s).drop i)).length : Nat) : Int) := fun h => by
      have := R.out.2
      rw [(dgs_stop h).2] at this
      simp at this
      omega
    by_cases hlt : k < s.size
    · have cx := bl_nx s k hlt
      cases hd : isDig (nx (bl s) k)
      · have D := hide (show isDig (s[k].toNat : Int) = false by rw [← cx]; exact hd)
        have F := hide (fin hd)
        clear cx hd fin
        go_wp2_with (go_at_call 166; refine (isDig1_any _ _).mono ?_; rintro e w' ⟨rfl, rfl⟩; rw [D.out])
        go_ret
        exact ⟨ret_int F.out, rfl⟩
      · have D := hide (show isDig (s[k].toNat : Int) = true by rw [← cx]; exact hd)
        have S := hide (dgs_step hd)
        have S2 := hide (tkd_step hd)
        clear cx hd fin
        go_wp2_with (go_at_call 166; refine (isDig1_any _ _).mono ?_; rintro e w' ⟨rfl, rfl⟩; rw [D.out])
        go_round
        case rel => exact .mk (k + 1) (by omega) (by omega) (by go_num) ⟨R.out.1.trans S.out.1, by have := R.out.2; have := S2.out; omega⟩
        case measure => simp [intOf]; omega
    · have F := hide (fin (by rw [bl_out s k (by omega)]; decide))
      clear fin
      go_wp2
      go_ret
      exact ⟨ret_int F.out, rfl⟩
end Go.Proofs.YtmkbjcoagfnegaaGreatDoor
set_option linter.unusedVariables false
set_option linter.unusedSimpArgs false
namespace Go.Proofs.YtmkbjcoagfnegaaGreatDoor
open Go.RowKit

theorem pow_over {m b k : Nat} (h : 9223372036854775807 < m * b) (hb : 1 ≤ b) (hk : 1 ≤ k) : ¬ m * b ^ k ≤ 9223372036854775807 := by
  obtain ⟨j, rfl⟩ : ∃ j, k = j + 1 := ⟨k - 1, by omega⟩
  have h1 : 1 ≤ b ^ j := Nat.pow_pos (by omega)
  have h2 : m * b * 1 ≤ m * b * b ^ j := Nat.mul_le_mul_left _ h1
  rw [Nat.pow_succ, Nat.mul_comm (b ^ j), ← Nat.mul_assoc]
  omega
theorem pow_go {m b k P : Nat} (h : m * b ^ k = P) (hk : 1 ≤ k) : m * b * b ^ (k - 1) = P := by
  obtain ⟨j, rfl⟩ : ∃ j, k = j + 1 := ⟨k - 1, by omega⟩
  rw [Nat.add_sub_cancel, ← h, Nat.pow_succ, Nat.mul_assoc, Nat.mul_comm b]
/-- What the program multiplies: the product, or too great. -/
def mulV (P : Nat) : Nat := if P ≤ 9223372036854775807 then P else 0
def mulB (P : Nat) : Bool := decide (P ≤ 9223372036854775807)
def mulR (P : Nat) : Value := .tuple #[.int .u64 (mulV P), .bool (mulB P)]
theorem mulV_no {P : Nat} (h : ¬ P ≤ 9223372036854775807) : mulV P = 0 := if_neg h
theorem mulV_yes {P : Nat} (h : P ≤ 9223372036854775807) : mulV P = P := if_pos h
theorem mulB_no {P : Nat} (h : ¬ P ≤ 9223372036854775807) : mulB P = false := decide_eq_false h
theorem mulB_yes {P : Nat} (h : P ≤ 9223372036854775807) : mulB P = true := decide_eq_true h
theorem mulR_no {P : Nat} (h : ¬ P ≤ 9223372036854775807) : mulR P = .tuple #[.int .u64 0, .bool false] := by unfold mulR; rw [mulV_no h, mulB_no h]; rfl
theorem mulR_yes {P : Nat} (h : P ≤ 9223372036854775807) : mulR P = .tuple #[.int .u64 (P : Int), .bool true] := by unfold mulR; rw [mulV_yes h, mulB_yes h]
/-- The state of the loop. -/
def RelMul (b P : Nat) (n t : Value) : Prop := ∃ m k : Nat, n = .int .u64 m ∧ t = .int .i64 k ∧ 1 ≤ m ∧ m ≤ 9223372036854775807 ∧ k ≤ 1152921504606846976 ∧ Hid (m * b ^ k = P)
theorem RelMul.mk {b P : Nat} {n t : Value} (m k : Nat) (h1 : n = .int .u64 m) (h2 : t = .int .i64 k) (h3 : 1 ≤ m) (h4 : m ≤ 9223372036854775807) (h5 : k ≤ 1152921504606846976) (h6 : m * b ^ k = P) : RelMul b P n t := ⟨m, k, h1, h2, h3, h4, h5, h6⟩
theorem ret_of {a b : Value} (h : b = a) : Ending.returned a = .returned b := by rw [h]
set_option maxHeartbeats 1000000 in
theorem multiplied5_any (n t : Nat) (w : World) (n1 : 1 ≤ n) (n2 : n ≤ 9223372036854775807) (ht : t ≤ 1152921504606846976) :
    Calls Tryz.prog 240 #[.int .u64 n, .int .u64 5, .int .i64 t] w fun e w' => e = .returned (mulR (n * 5 ^ t)) ∧ w' = w := by
  obtain ⟨P, hP⟩ : ∃ P, n * 5 ^ t = P := ⟨_, rfl⟩
  rw [hP]
  have HP := hide hP
  clear hP
  go_enter Tryz.func240, Tryz.ntmps240
  go_wp2
  go_loop [0, 2] (fun a b => RelMul 5 P a b) (fun _ b => (intOf b).toNat)
  case atStart => exact .mk n t rfl rfl n1 n2 ht HP.out
  case round =>
    obtain ⟨m, k, rfl, rfl, m1, m2, k1, R⟩ := hrel
    by_cases hk : 0 < k
    · by_cases hm : m ≤ 1844674407370955161
      · have R2 := hide (pow_go R.out hk)
        have hm2 : (m : Int) ≤ 1844674407370955161 := by omega
        have hk2 : (0 : Int) < k := by omega
        go_wp2
        go_round
        case rel => exact .mk (m * 5) (k - 1) (by go_num) (by go_num) (by omega) (by omega) (by omega) R2.out
        case measure => simp [intOf]; omega
      · have F := hide (mulR_no (show ¬ P ≤ 9223372036854775807 by rw [← R.out]; exact pow_over (by omega) (by omega) hk))
        have hm2 : 1844674407370955161 < (m : Int) := by omega
        have hk2 : (0 : Int) < k := by omega
        go_wp2
        go_ret2
        exact ⟨ret_of F.out, rfl⟩
    · obtain rfl : k = 0 := by omega
      have F := hide (show mulR P = .tuple #[.int .u64 (m : Int), .bool true] by have := R.out; rw [Nat.pow_zero, Nat.mul_one] at this; rw [← this]; exact mulR_yes m2)
      go_wp2
      go_ret2
      exact ⟨ret_of F.out, rfl⟩
set_option maxHeartbeats 1000000 in
theorem multiplied2_any (n t : Nat) (w : World) (n1 : 1 ≤ n) (n2 : n ≤ 9223372036854775807) (ht : t ≤ 1152921504606846976) :
    Calls Tryz.prog 240 #[.int .u64 n, .int .u64 2, .int .i64 t] w fun e w' => e = .returned (mulR (n * 2 ^ t)) ∧ w' = w := by
  obtain ⟨P, hP⟩ : ∃ P, n * 2 ^ t = P := ⟨_, rfl⟩
  rw [hP]
  have HP := hide hP
  clear hP
  go_enter Tryz.func240, Tryz.ntmps240
  go_wp2
  go_loop [0, 2] (fun a b => RelMul 2 P a b) (fun _ b => (intOf b).toNat)
  case atStart => exact .mk n t rfl rfl n1 n2 ht HP.out
  case round =>
    obtain ⟨m, k, rfl, rfl, m1, m2, k1, R⟩ := hrel
    by_cases hk : 0 < k
    · by_cases hm : m ≤ 4611686018427387903
      · have R2 := hide (pow_go R.out hk)
        have hm2 : (m : Int) ≤ 4611686018427387903 := by omega
        have hk2 : (0 : Int) < k := by omega
        go_wp2
        go_round
        case rel => exact .mk (m * 2) (k - 1) (by go_num) (by go_num) (by omega) (by omega) (by omega) R2.out
        case measure => simp [intOf]; omega
      · have F := hide (mulR_no (show ¬ P ≤ 9223372036854775807 by rw [← R.out]; exact pow_over (by omega) (by omega) hk))
        have hm2 : 4611686018427387903 < (m : Int) := by omega
        have hk2 : (0 : Int) < k := by omega
        go_wp2
        go_ret2
        exact ⟨ret_of F.out, rfl⟩
    · obtain rfl : k = 0 := by omega
      have F := hide (show mulR P = .tuple #[.int .u64 (m : Int), .bool true] by have := R.out; rw [Nat.pow_zero, Nat.mul_one] at this; rw [← this]; exact mulR_yes m2)
      go_wp2
      go_ret2
      exact ⟨ret_of F.out, rfl⟩
/-- What is left of n over p^q. -/
theorem strip_go {p n q : Nat} (h : n % p = 0) : strip p n (q + 1) = strip p (n / p) q := by simp only [strip]; rw [if_pos h]
theorem strip_stop {p n q : Nat} (h : n % p ≠ 0) : strip p n q = (n, q) := by
  cases q with
  | zero => rfl
  | succ q => simp only [strip]; rw [if_neg h]
theorem strip_le (p : Nat) (q : Nat) : ∀ n, (strip p n q).1 ≤ n ∧ (strip p n q).2 ≤ q := by
  induction q with
  | zero => intro n; simp [strip]
  | succ q ih =>
    intro n
    simp only [strip]
    split
    · have := ih (n / p)
      have := Nat.div_le_self n p
      omega
    · simp
/-- The state of the loop that divides. -/
def RelDiv (p n0 q0 : Nat) (n t : Value) : Prop := ∃ m k : Nat, n = .int .u64 m ∧ t = .int .i64 k ∧ 1 ≤ m ∧ m ≤ 9223372036854775807 ∧ k ≤ 1152921504606846976 ∧ Hid (strip p n0 q0 = strip p m k)
theorem RelDiv.mk {p n0 q0 : Nat} {n t : Value} (m k : Nat) (h1 : n = .int .u64 m) (h2 : t = .int .i64 k) (h3 : 1 ≤ m) (h4 : m ≤ 9223372036854775807) (h5 : k ≤ 1152921504606846976) (h6 : strip p n0 q0 = strip p m k) : RelDiv p n0 q0 n t := ⟨m, k, h1, h2, h3, h4, h5, h6⟩
end Go.Proofs.YtmkbjcoagfnegaaGreatDoor
set_option linter.unusedVariables false
set_option linter.unusedSimpArgs false
namespace Go.Proofs.YtmkbjcoagfnegaaGreatDoor
open Go.RowKit

end Go.Proofs.YtmkbjcoagfnegaaGreatDoor

