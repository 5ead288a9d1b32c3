/-
  Digits, a sign, remarks, an escape, by the program.
  An escape, a name, a number, by the program.
  Whether an exponent begins; a number taken, by the program.
  A number taken, by the program.
-/
import Derived.Test.YtlkocepoohhglaaDoorA11
import Derived.Outline
set_option linter.unusedVariables false
set_option linter.unusedSimpArgs false
namespace Go.Proofs.YtlkocepoohhglaaDoor
open Go.RowKit

theorem At.end {T : TypeId} {W w : World} {b : Nat} {v : Value} {l s : List Int} (h : At T W w b v l s) (hn : nx s 0 = -1) : s = [] := by
  cases s with
  | nil => rfl
  | cons x r =>
    have hx : isC x = true := h.chr x (by simp)
    rw [isC_iff] at hx
    have : x = -1 := hn
    omega
theorem untl_stop {s : List Int} (h0 : nx s 0 = 42) (h1 : nx s 1 = 47) : untl s = s.drop 2 := by
  cases s with
  | nil => simp [nx] at h0
  | cons x r =>
    have hx : x = 42 := h0
    have hr : nx r 0 = 47 := h1
    show (if x = 42 ∧ nx r 0 = 47 then r.drop 1 else untl r) = r.drop 1
    rw [if_pos ⟨hx, hr⟩]
theorem untl_go {s : List Int} (h : ¬ (nx s 0 = 42 ∧ nx s 1 = 47)) : untl s = untl (s.drop 1) := by
  cases s with
  | nil => rfl
  | cons x r =>
    have hx : ¬ (x = 42 ∧ nx r 0 = 47) := h
    show (if x = 42 ∧ nx r 0 = 47 then r.drop 1 else untl r) = untl r
    rw [if_neg hx]
theorem stB2 (s : List Int) (a b : Int) : stB s [a, b] = ((nx s 0 == a) && (nx s 1 == b)) := by
  show ((nx s 0 == a) && ((nx (s.drop 1) 0 == b) && true)) = _
  rw [nx_drop, Bool.and_true]
theorem lit2 (u : World) (a b : Int) : Nums .i32 (u.alloc (.cells #[.int .i32 a, .int .i32 b] 21)) (.slice (some ⟨u.heap.size, 0, none⟩) 2 2) [a, b] := Nums.lit u 21 [a, b] 2 rfl (by omega) (by omega)
/-- The state of the loop over digits to the base 16. -/
def RelHxT (T : TypeId) (W w : World) (b : Nat) (v : Value) (l s : List Int) (n i : Value) (wr : World) : Prop :=
  ∃ (k m : Nat) (t : List Int), k ≤ 6 ∧ i = .int .i64 k ∧ n = .int .i32 m ∧ m < 16 ^ k ∧ Hid (hexs 6 0 s = hexs (6 - k) m t ∧ At T W wr b v l t ∧ w.grownBy wr (some b))
theorem RelHxT.mk {T : TypeId} {W w : World} {b : Nat} {v : Value} {l s : List Int} {n i : Value} {wr : World} (k m : Nat) (t : List Int) (h1 : k ≤ 6) (h2 : i = .int .i64 k) (h3 : n = .int .i32 m) (h4 : m < 16 ^ k) (h5 : hexs 6 0 s = hexs (6 - k) m t) (h6 : At T W wr b v l t) (h7 : w.grownBy wr (some b)) : RelHxT T W w b v l s n i wr := ⟨k, m, t, h1, h2, h3, h4, h5, h6, h7⟩
theorem p16 {k : Nat} (h : k ≤ 5) : 16 ^ k ≤ 1048576 := Nat.le_trans (Nat.pow_le_pow_right (by omega) h) (by decide)
theorem hexs_lt (k : Nat) : ∀ (m : Nat) (n : Nat) (s : List Int), n < 16 ^ m → k + m = 6 → 0 ≤ (hexs k n s).1 ∧ (hexs k n s).1 < 16777216 := by
  induction k with
  | zero => intro m n s h hk; obtain rfl : m = 6 := by omega
            show 0 ≤ (n : Int) ∧ (n : Int) < 16777216
            have : (16 : Nat) ^ 6 = 16777216 := by decide
            omega
  | succ k ih =>
    intro m n s h hk
    simp only [hexs]
    split
    · have h1 : 16 ^ m ≤ 16 ^ 6 := Nat.pow_le_pow_right (by omega) (by omega)
      have h2 : (16 : Nat) ^ 6 = 16777216 := by decide
      show 0 ≤ (n : Int) ∧ (n : Int) < 16777216
      omega
    · rename_i g
      have hv : hexv (nx s 0) < 16 := by
        rcases hexv_cases (nx s 0) with ⟨_, _, e⟩ | ⟨_, _, _, e⟩ | ⟨_, _, _, e⟩ | ⟨_, _, _, e⟩ | ⟨_, _, _, e⟩ | ⟨_, _, _, e⟩ | ⟨_, _, e⟩ <;> omega
      have := ih (m + 1) (n * 16 + (hexv (nx s 0)).toNat) (s.drop 1) (by rw [Nat.pow_succ]; omega) (by omega)
      rw [show ((n * 16 + (hexv (nx s 0)).toNat : Nat) : Int) = (n : Int) * 16 + hexv (nx s 0) by omega] at this
      exact this
end Go.Proofs.YtlkocepoohhglaaDoor
set_option linter.unusedVariables false
set_option linter.unusedSimpArgs false
namespace Go.Proofs.YtlkocepoohhglaaDoor
open Go.RowKit

theorem tesc_end {s : List Int} (h : nx s 0 = -1) : tesc s = (65533, s) := by unfold tesc; rw [if_pos h]
theorem tesc_oneT {s : List Int} (h : nx s 0 ≠ -1) (g : hexv (nx s 0) < 0) : tesc s = (nx s 0, s.drop 1) := by unfold tesc; rw [if_neg h, if_pos g]
theorem tesc_hex {s : List Int} (h : nx s 0 ≠ -1) (g : ¬ hexv (nx s 0) < 0) (n : Int) (r : List Int) (hn : hexs 6 0 s = (n, r)) : tesc s = (if n = 0 then 65533 else chr n, if isBl (nx r 0) then r.drop 1 else r) := by
  unfold tesc; rw [if_neg h, if_neg g, hn]
end Go.Proofs.YtlkocepoohhglaaDoor
set_option linter.unusedVariables false
set_option linter.unusedSimpArgs false
namespace Go.Proofs.YtlkocepoohhglaaDoor
open Go.RowKit

theorem exB_s (s u : List Int) (hu : s.drop 1 = u) : exB (nx s 0) (nx s 1) (nx s 2) = (((nx s 0 == 101) || (nx s 0 == 69)) && isDig (nx (nmS u) 0)) := by
  subst hu
  unfold exB nmS
  rw [nx_drop]
  split
  · rw [nx_drop, nx_drop]
  · rw [nx_drop]
end Go.Proofs.YtlkocepoohhglaaDoor
set_option linter.unusedVariables false
set_option linter.unusedSimpArgs false
namespace Go.Proofs.YtlkocepoohhglaaDoor
open Go.RowKit

theorem Mod.drew {w w' : World} {b : Nat} (h : w.grownBy w' (some b)) : w.grownBy w'.drew (some b) := ⟨h.os, h.tape, h.output, h.size, h.block⟩
/-- A part of a slice. -/
theorem Nums.part {k : IntKind} {w : World} {b o n c : Nat} {bs : List Int} (h : Nums k w (.slice (some ⟨b, o, none⟩) n c) bs) (p q : Nat) (h1 : p ≤ q) (h2 : q ≤ n) (hc : p < c) :
    Nums k w (.slice (some ⟨b, o + p, none⟩) (q - p) (c - p)) ((bs.drop p).take (q - p)) := by
  rcases h with ⟨a, c', e, rfl⟩ | ⟨b', o', n', c', e, hn, h0, hbw, hl, hn9, hc9, hcc⟩
  · simp at e; obtain ⟨_, rfl, _⟩ := e
    exact .inl ⟨_, _, by rw [show q - p = 0 by omega], by simp⟩
  · simp at e
    obtain ⟨⟨rfl, rfl⟩, rfl, rfl⟩ := e
    by_cases h : q - p = 0
    · exact .inl ⟨_, _, by rw [h], by rw [h]; rfl⟩
    · refine .inr ⟨b, o + p, q - p, c - p, rfl, by rw [List.length_take, List.length_drop]; omega, by omega, hbw, by omega, by omega, by omega, fun i hi => ?_⟩
      rw [Nat.add_assoc, hcc (p + i) (by omega)]
      congr 2
      unfold gt
      simp [List.getD_eq_getElem?_getD, List.getElem?_take, hi]
theorem enc_chs (l : List Int) : enc (chs l) = enc l := by
  unfold enc chs
  rw [List.flatMap_map]
  congr 1
  funext x
  rw [chrT (isC_chr x)]
/-- The text of what was taken from p to q. -/
theorem enc_part (l : List Int) (p q : Nat) (hp : p ≤ q) (hq : q ≤ l.length) : enc ((l.drop p).take (q - p)) = enc (((chs l).drop p).take (((chs l).drop p).length - ((chs l).drop q).length)) := by
  rw [← enc_chs]
  congr 1
  rw [List.length_drop, List.length_drop, chs_len, show l.length - p - (l.length - q) = q - p by omega]
  unfold chs
  rw [List.map_take, List.map_drop]
end Go.Proofs.YtlkocepoohhglaaDoor
