/-
  The program's small tests; what stands next; blanks, digits, a sign.
  What is written; blanks, digits, a sign, remarks; an escape.
  Digits, a sign, remarks, an escape, by the program.
  An escape, a name, a number, by the program.
-/
import Derived.Test.YtmkbjcoagfnegaaGreatDoorZ27
import Derived.Test.YtmkbjcoagfnegaaGreatDoorZ03
import Derived.Test.YtmkbjcoagfnegaaGreatDoorZ04
import Derived.Test.YtmkbjcoagfnegaaGreatDoorZ05
import Derived.Deep.LoopGhost
import Derived.Laws.BytesArg
import Derived.Laws.IdiomStrings
import Derived.Outline
set_option linter.unusedVariables false
set_option linter.unusedSimpArgs false
namespace Go.Proofs.YtmkbjcoagfnegaaGreatDoor
open Go.RowKit

theorem un_cases (c : Int) : (c < 0 ∧ isUn c = false) ∨ (0 ≤ c ∧ c ≤ 8 ∧ isUn c = true) ∨ (8 < c ∧ c < 11 ∧ isUn c = false) ∨ (c = 11 ∧ isUn c = true) ∨ (11 < c ∧ c < 14 ∧ isUn c = false) ∨ (14 ≤ c ∧ c ≤ 31 ∧ isUn c = true) ∨ (31 < c ∧ c < 127 ∧ isUn c = false) ∨ (c = 127 ∧ isUn c = true) ∨ (127 < c ∧ isUn c = false) := by
  have : isUn c = true ↔ (0 ≤ c ∧ c ≤ 8) ∨ c = 11 ∨ (14 ≤ c ∧ c ≤ 31) ∨ c = 127 := by simp [isUn]; omega
  by_cases h : isUn c = true
  · have := this.1 h; simp only [h, and_true]; simp; omega
  · have h' : isUn c = false := by simpa using h
    have : ¬ ((0 ≤ c ∧ c ≤ 8) ∨ c = 11 ∨ (14 ≤ c ∧ c ≤ 31) ∨ c = 127) := fun k => h (this.2 k)
    simp only [h', and_true]; simp; omega
/-- A digit to the base 16, as the program tells it. -/
def hxN (c : Int) : Int := if hexv c < 0 then 0 else hexv c
def hxB (c : Int) : Bool := decide (0 ≤ hexv c)
theorem hx_no {c : Int} (h : hexv c < 0) : hxN c = 0 ∧ hxB c = false := by unfold hxN hxB; rw [if_pos h]; simp; omega
theorem hx_yes {c : Int} (h : 0 ≤ hexv c) : hxN c = hexv c ∧ hxB c = true := by unfold hxN hxB; rw [if_neg (by omega)]; simp; omega
theorem hexv_cases (c : Int) : (c < 48 ∧ isDig c = false ∧ hexv c = -1) ∨ (48 ≤ c ∧ c ≤ 57 ∧ isDig c = true ∧ hexv c = c - 48) ∨ (57 < c ∧ c < 65 ∧ isDig c = false ∧ hexv c = -1) ∨ (65 ≤ c ∧ c ≤ 70 ∧ isDig c = false ∧ hexv c = c - 65 + 10) ∨ (70 < c ∧ c < 97 ∧ isDig c = false ∧ hexv c = -1) ∨ (97 ≤ c ∧ c ≤ 102 ∧ isDig c = false ∧ hexv c = c - 97 + 10) ∨ (102 < c ∧ isDig c = false ∧ hexv c = -1) := by
  have hd : isDig c = true ↔ 48 ≤ c ∧ c ≤ 57 := by simp [isDig]
  have hd' : isDig c = false ↔ ¬ (48 ≤ c ∧ c ≤ 57) := by rw [← hd]; simp
  rcases (show c < 48 ∨ (48 ≤ c ∧ c ≤ 57) ∨ (57 < c ∧ c < 65) ∨ (65 ≤ c ∧ c ≤ 70) ∨ (70 < c ∧ c < 97) ∨ (97 ≤ c ∧ c ≤ 102) ∨ 102 < c by omega) with h | h | h | h | h | h | h
  all_goals unfold hexv
  · left; exact ⟨h, hd'.2 (by omega), by rw [if_neg (by omega), if_neg (by omega), if_neg (by omega)]⟩
  · right; left; exact ⟨h.1, h.2, hd.2 h, by rw [if_pos h]⟩
  · right; right; left; exact ⟨h.1, h.2, hd'.2 (by omega), by rw [if_neg (by omega), if_neg (by omega), if_neg (by omega)]⟩
  · right; right; right; left; exact ⟨h.1, h.2, hd'.2 (by omega), by rw [if_neg (by omega), if_neg (by omega), if_pos h]⟩
  · right; right; right; right; left; exact ⟨h.1, h.2, hd'.2 (by omega), by rw [if_neg (by omega), if_neg (by omega), if_neg (by omega)]⟩
  · right; right; right; right; right; left; exact ⟨h.1, h.2, hd'.2 (by omega), by rw [if_neg (by omega), if_pos h]⟩
  · right; right; right; right; right; right; exact ⟨h, hd'.2 (by omega), by rw [if_neg (by omega), if_neg (by omega), if_neg (by omega)]⟩
theorem tup2 {a a' : Int} {b b' : Bool} (h1 : a = a') (h2 : b = b') : Ending.returned (.tuple #[.int .i32 a, .bool b]) = .returned (.tuple #[.int .i32 a', .bool b']) := by rw [h1, h2]
/-- Just these come next. -/
def stB : List Int → List Int → Bool
  | _, [] => true
  | s, c :: r => (nx s 0 == c) && stB (s.drop 1) r
def RelSt (s sg : List Int) (i : Value) : Prop := ∃ k : Nat, k ≤ sg.length ∧ i = .int .i64 k ∧ Hid (stB s sg = stB (s.drop k) (sg.drop k))
theorem RelSt.mk {s sg : List Int} {i : Value} (k : Nat) (h1 : k ≤ sg.length) (h2 : i = .int .i64 k) (h3 : stB s sg = stB (s.drop k) (sg.drop k)) : RelSt s sg i := ⟨k, h1, h2, h3⟩
end Go.Proofs.YtmkbjcoagfnegaaGreatDoor
set_option linter.unusedVariables false
set_option linter.unusedSimpArgs false
namespace Go.Proofs.YtmkbjcoagfnegaaGreatDoor
open Go.RowKit

theorem enc1_rng {x : Int} (h : isC x = true) : ∀ y ∈ enc1 x, 0 ≤ y ∧ y ≤ 255 := by
  rw [isC_iff] at h
  intro y hy
  unfold enc1 at hy
  split at hy
  · simp at hy; omega
  · split at hy
    · simp at hy; omega
    · split at hy
      · simp at hy; omega
      · simp at hy; omega
theorem enc_rng (l : List Int) : By (enc l) := by
  intro y hy
  unfold enc at hy
  obtain ⟨x, _, h⟩ := List.mem_flatMap.1 hy
  exact enc1_rng (isC_chr x) y h
def l8 (xs : List Int) : List UInt8 := xs.map fun x => UInt8.ofNat x.toNat
theorem l8_back {xs : List Int} (h : By xs) : (l8 xs).map (fun b => (b.toNat : Int)) = xs := by
  unfold l8
  rw [List.map_map]
  conv => rhs; rw [← List.map_id xs]
  refine List.map_congr_left fun x hx => ?_
  have := h x hx
  simp
  omega
theorem conv_anyT (w : World) (u : Value) (xs : List Int) (h : Nums .u8 w u xs) (hb : By xs) : ∃ t, bl t = xs ∧ (convert 30 9 u).run Tryz.prog w = .ok (.string t) w := by
  refine ⟨⟨(l8 xs).toArray⟩, ?_, ?_⟩
  · unfold bl; simpa using l8_back hb
  · rcases h with ⟨a, c, rfl, rfl⟩ | ⟨b, o, n, c, rfl, hn, h0, hbw, hc, hn9, hc9, hcell⟩
    · cases a with
      | none => exact run_convert_bytes_nil (P := Tryz.prog) w 30 5 Tryz.underlying30 Tryz.underlying5 0 c 9 Tryz.underlying9
      | some a => exact run_convert_bytes_back (P := Tryz.prog) w 30 9 5 a c [] Tryz.underlying30 Tryz.underlying5 Tryz.underlying9 (fun j hj => absurd hj (by simp))
    · have hl : n = (l8 xs).length := by unfold l8; rw [List.length_map]; exact hn
      have k := run_convert_bytes_back (P := Tryz.prog) w 30 9 5 ⟨b, o, none⟩ c (l8 xs) Tryz.underlying30 Tryz.underlying5 Tryz.underlying9 (fun j hj => by
        rw [Addr.add_lit, hcell j (by omega)]
        congr 2
        have e := l8_back hb
        have : gt xs j = ((l8 xs).map (fun b => (b.toNat : Int))).getD j 0 := by rw [e]; rfl
        rw [this]
        simp [List.getD_eq_getElem?_getD, List.getElem?_map, List.getElem?_eq_getElem hj])
      rw [← hl] at k
      exact k
/-- The state of a loop that takes as long as something comes. -/
def RelSk (f : List Int → List Int) (T : TypeId) (W w : World) (b : Nat) (v : Value) (l s : List Int) (g : Nat) (wr : World) : Prop :=
  ∃ t, At T W wr b v l t ∧ t.length ≤ g ∧ Hid (f s = f t) ∧ w.grownBy wr (some b)
theorem RelSk.mk {f : List Int → List Int} {T : TypeId} {W w : World} {b : Nat} {v : Value} {l s : List Int} {g : Nat} {wr : World} (t : List Int) (h1 : At T W wr b v l t) (h2 : t.length ≤ g) (h3 : f s = f t) (h4 : w.grownBy wr (some b)) : RelSk f T W w b v l s g wr := ⟨t, h1, h2, h3, h4⟩
theorem bls_go {s : List Int} (h : isBl (nx s 0) = true) : bls s = bls (s.drop 1) := by
  cases s with
  | nil => exact absurd h (by decide)
  | cons x r => show (x :: r).dropWhile isBl = _; rw [List.dropWhile_cons_of_pos (show isBl x = true from h)]; rfl
theorem bls_no {s : List Int} (h : isBl (nx s 0) = false) : bls s = s := by
  cases s with
  | nil => rfl
  | cons x r => show (x :: r).dropWhile isBl = _; rw [List.dropWhile_cons_of_neg (by simp [show isBl x = false from h])]
theorem dgs_go {s : List Int} (h : isDig (nx s 0) = true) : dgs s = dgs (s.drop 1) := by
  cases s with
  | nil => exact absurd h (by decide)
  | cons x r => show (x :: r).dropWhile isDig = _; rw [List.dropWhile_cons_of_pos (show isDig x = true from h)]; rfl
end Go.Proofs.YtmkbjcoagfnegaaGreatDoor
set_option linter.unusedVariables false
set_option linter.unusedSimpArgs false
namespace Go.Proofs.YtmkbjcoagfnegaaGreatDoor
open Go.RowKit

theorem At.end {T : TypeId} {W w : World} {b : Nat} {v : Value} {l s : List Int} (h : At T W w b v l s) (hn : nx s 0 = -1) : s = [] := by
  cases s with
  | nil => rfl
  | cons x r =>
    have hx : isC x = true := h.chr x (by simp)
    rw [isC_iff] at hx
    have : x = -1 := hn
    omega
theorem untl_stop {s : List Int} (h0 : nx s 0 = 42) (h1 : nx s 1 = 47) : untl s = s.drop 2 := by
  cases s with
  | nil => simp [nx] at h0
  | cons x r =>
    have hx : x = 42 := h0
    have hr : nx r 0 = 47 := h1
    show (if x = 42 ∧ nx r 0 = 47 then r.drop 1 else untl r) = r.drop 1
    rw [if_pos ⟨hx, hr⟩]
theorem untl_go {s : List Int} (h : ¬ (nx s 0 = 42 ∧ nx s 1 = 47)) : untl s = untl (s.drop 1) := by
  cases s with
  | nil => rfl
  | cons x r =>
    have hx : ¬ (x = 42 ∧ nx r 0 = 47) := h
    show (if x = 42 ∧ nx r 0 = 47 then r.drop 1 else untl r) = untl r
    rw [if_neg hx]
/-- The state of the loop over digits to the base 16. -/
def RelHxT (T : TypeId) (W w : World) (b : Nat) (v : Value) (l s : List Int) (n i : Value) (wr : World) : Prop :=
  ∃ (k m : Nat) (t : List Int), k ≤ 6 ∧ i = .int .i64 k ∧ n = .int .i32 m ∧ m < 16 ^ k ∧ Hid (hexs 6 0 s = hexs (6 - k) m t ∧ At T W wr b v l t ∧ w.grownBy wr (some b))
theorem RelHxT.mk {T : TypeId} {W w : World} {b : Nat} {v : Value} {l s : List Int} {n i : Value} {wr : World} (k m : Nat) (t : List Int) (h1 : k ≤ 6) (h2 : i = .int .i64 k) (h3 : n = .int .i32 m) (h4 : m < 16 ^ k) (h5 : hexs 6 0 s = hexs (6 - k) m t) (h6 : At T W wr b v l t) (h7 : w.grownBy wr (some b)) : RelHxT T W w b v l s n i wr := ⟨k, m, t, h1, h2, h3, h4, h5, h6, h7⟩
theorem p16 {k : Nat} (h : k ≤ 5) : 16 ^ k ≤ 1048576 := Nat.le_trans (Nat.pow_le_pow_right (by omega) h) (by decide)
end Go.Proofs.YtmkbjcoagfnegaaGreatDoor
set_option linter.unusedVariables false
set_option linter.unusedSimpArgs false
namespace Go.Proofs.YtmkbjcoagfnegaaGreatDoor
open Go.RowKit

end Go.Proofs.YtmkbjcoagfnegaaGreatDoor

