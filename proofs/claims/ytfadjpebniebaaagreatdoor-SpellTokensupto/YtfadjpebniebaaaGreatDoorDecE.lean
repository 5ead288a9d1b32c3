/-
  A number of a stylesheet taken apart, by the program.
-/
import Derived.Test.YtfadjpebniebaaaGreatDoorDecD
import Derived.Test.YtfadjpebniebaaaGreatDoorShelfD
set_option linter.unusedVariables false
set_option linter.unusedSimpArgs false
namespace Go.Proofs.YtfadjpebniebaaaGreatDoor
open Go.RowKit

theorem hasPre (t : ByteArray) : Lib.hasPrefix t.data.toList (⟨#[46]⟩ : ByteArray).data.toList = (nx (bl t) 0 == 46) := by
  show List.isPrefixOf [46] t.data.toList = _
  unfold bl nx
  cases t.data.toList with
  | nil => rfl
  | cons x r =>
    simp only [List.isPrefixOf, List.map_cons, List.getD_cons_zero, Bool.and_true]
    rw [Bool.eq_iff_iff]
    simp only [beq_iff_eq]
    constructor
    · rintro rfl; rfl
    · intro h
      have : x.toNat = 46 := by omega
      exact (UInt8.toNat_inj.1 this).symm
/-- A number, taken apart. -/
def numV (b : Bool) (x y : ByteArray) (e : Int) (h : Bool) : Value := .agg #[.bool b, .string x, .string y, .int .i64 e, .bool h]
/-- What is told of a number taken apart. -/
def TA (S : List Int) (b : Bool) (x y : ByteArray) (e : Int) (h ok : Bool) : Prop :=
  (ok = false ∧ dec S = none) ∨ (ok = true ∧ ∃ E, Near e E ∧ -18014398509481984 ≤ e ∧ e ≤ 18014398509481984 ∧ (bl x ++ bl y).length ≤ S.length ∧ Digs (bl x ++ bl y) ∧ dec S = some (valOf b (bl x ++ bl y) (E - (bl y).length), h))
def PostTA (s : ByteArray) (w : World) (e : Ending) (w' : World) : Prop :=
  ∃ b x y i h ok, e = .returned (.tuple #[numV b x y i h, .bool ok]) ∧ TA (bl s) b x y i h ok ∧ Below w.heap.size w w'
theorem PostTA.mk {s : ByteArray} {w w' : World} {e : Ending} (b : Bool) (x y : ByteArray) (i : Int) (h ok : Bool) (h1 : e = .returned (.tuple #[numV b x y i h, .bool ok])) (h2 : TA (bl s) b x y i h ok) (h3 : Below w.heap.size w w') : PostTA s w e w' := ⟨b, x, y, i, h, ok, h1, h2, h3⟩
/-! The pieces of a text -/
def p0 (S : List Int) : List Int := (sgn S).2
def p1 (S : List Int) : List Int := dgs (p0 S)
def pA (S : List Int) : List Int := tkd (p0 S)
def pB (S : List Int) : List Int := tkd ((p1 S).drop 1)
def p2 (S : List Int) : List Int := dgs ((p1 S).drop 1)
theorem dec_dot {S : List Int} (h : nx (p1 S) 0 = 46) : dec S = if pB S = [] then none else decE (sgn S).1 (pA S ++ pB S) (pB S).length false (p2 S) := by
  unfold dec
  rw [if_pos (show nx (dgs (sgn S).2) 0 = 46 from h)]
  rfl
theorem dec_nodot {S : List Int} (h : nx (p1 S) 0 ≠ 46) : dec S = decE (sgn S).1 (pA S) 0 true (p1 S) := by
  unfold dec
  rw [if_neg (show ¬ nx (dgs (sgn S).2) 0 = 46 from h)]
  rfl
theorem p_len (S : List Int) : (p0 S).length ≤ S.length ∧ (p1 S).length ≤ S.length ∧ (pA S).length + (p1 S).length ≤ S.length ∧ (pA S).length + (pB S).length ≤ S.length ∧ (p2 S).length ≤ S.length := by
  have h0 := sgn_len S
  have h1 : (pA S).length + (p1 S).length = (p0 S).length := by
    unfold pA p1 tkd dgs
    rw [← List.length_append, List.takeWhile_append_dropWhile]
  have h2 := tkd_len ((p1 S).drop 1)
  have h3 := dgs_len ((p1 S).drop 1)
  rw [List.length_drop] at h2 h3
  have h0' : (p0 S).length ≤ S.length := h0
  have h2' : (pB S).length ≤ (p1 S).length - 1 := h2
  have h3' : (p2 S).length ≤ (p1 S).length - 1 := h3
  omega
theorem digs_ab (S : List Int) : Digs (pA S ++ pB S) := by
  intro x hx
  rcases List.mem_append.1 hx with h | h
  · exact tkd_digs _ x h
  · exact tkd_digs _ x h
theorem decE_none {neg : Bool} {k : Nat} {wh : Bool} {s : List Int} : decE neg [] k wh s = none := by unfold decE; rw [if_pos rfl]
theorem decE_end {neg : Bool} {ds : List Int} {k : Nat} {wh : Bool} (h : ds ≠ []) : decE neg ds k wh [] = some (valOf neg ds (-k), wh) := by unfold decE; rw [if_neg h, if_pos rfl]
theorem decE_exp {neg : Bool} {ds : List Int} {k : Nat} {wh : Bool} {s : List Int} (h : ds ≠ []) (g : s ≠ []) : decE neg ds k wh s = (expo s).map fun e => (valOf neg ds (e - k), false) := by unfold decE; rw [if_neg h, if_neg g]
/-- From an exponent's answer to the number's. -/
theorem ta_exp {S s : List Int} {b : Bool} {x y : ByteArray} {e : Int} {ok : Bool} (h : ExR s e ok) (hd : dec S = (expo s).map fun E => (valOf b (bl x ++ bl y) (E - (bl y).length), false)) (hl : (bl x ++ bl y).length ≤ S.length) (hg : Digs (bl x ++ bl y)) : TA S b x y e false ok := by
  unfold ExR at h
  cases hx : expo s with
  | none =>
    rw [hx] at h hd
    exact .inl ⟨h.2, hd⟩
  | some E =>
    rw [hx] at h hd
    obtain ⟨h1, h2, h3, h4⟩ := h
    exact .inr ⟨h1, E, h2, h3, h4, hl, hg, hd⟩
theorem ta_end {S : List Int} {b : Bool} {x y : ByteArray} {h : Bool} (hd : dec S = some (valOf b (bl x ++ bl y) (-((bl y).length : Nat)), h)) (hl : (bl x ++ bl y).length ≤ S.length) (hg : Digs (bl x ++ bl y)) : TA S b x y 0 h true :=
  .inr ⟨rfl, 0, .inl rfl, by omega, by omega, hl, hg, by rw [hd]; congr 3; omega⟩
end Go.Proofs.YtfadjpebniebaaaGreatDoor
