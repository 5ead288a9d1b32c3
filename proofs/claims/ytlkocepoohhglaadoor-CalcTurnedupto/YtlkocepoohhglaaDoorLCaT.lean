/-
  Expressions that a call builds: an own row of them.
-/
import Derived.Test.YtlkocepoohhglaaDoorLCaP
set_option linter.unusedVariables false
set_option linter.unusedSimpArgs false
namespace Go.Proofs.YtlkocepoohhglaaDoor.cc
open Go.RowKit

/-- A slice of expressions in memory, all of whose blocks are such. -/
inductive EMP (w : World) (P : Nat → Prop) : Value → List Ex → Prop
  | nil (a : Option Addr) (c : Nat) : EMP w P (.slice a 0 c) []
  | row (b o c : Nat) (l : List Ex) (u : Nat → Value) (hP : P b) (h0 : 0 < l.length) (hb : b < w.heap.size) (hc : l.length ≤ c) (hn : l.length ≤ 1000000000) (hm : c ≤ 9223372036854775807)
      (hx : ∀ (i : Nat) (v : Ex), l[i]? = some v → v.Ok) (ht : ∀ i v, l[i]? = some v → Fiv w b (o + i * 5) v) (hu : ∀ i v, l[i]? = some v → w.cell? ⟨b, o + i * 5 + 4, none⟩ = some (u i))
      (hk : ∀ i v, l[i]? = some v → EMP w P (u i) v.ks) : EMP w P (.slice (some ⟨b, o, none⟩) l.length c) l
theorem EMP.em {w : World} {P : Nat → Prop} {v : Value} {l : List Ex} (h : EMP w P v l) : EM w v l := by
  induction h with
  | nil a c => exact .nil a c
  | row b o c l u hP h0 hb hc hn hm hx ht hu _ ih => exact .row b o c l u h0 hb hc hn hm hx ht hu ih
theorem emp_of {w : World} {v : Value} {l : List Ex} (h : EM w v l) : EMP w (fun b => b < w.heap.size) v l := by
  induction h with
  | nil a c => exact .nil a c
  | row b o c l u h0 hb hc hn hm hx ht hu _ ih => exact .row b o c l u hb h0 hb hc hn hm hx ht hu ih
theorem cell_blk {w w' : World} {b : Nat} (h : w'.heap[b]? = w.heap[b]?) (j : Nat) : w'.cell? ⟨b, j, none⟩ = w.cell? ⟨b, j, none⟩ := by simp only [World.cell?, h]
theorem EMP.move {w w' : World} {P Q : Nat → Prop} {v : Value} {l : List Ex} (h : EMP w P v l) (hk : ∀ b, P b → b < w.heap.size → w'.heap[b]? = w.heap[b]? ∧ Q b) : EMP w' Q v l := by
  induction h with
  | nil a c => exact .nil a c
  | row b o c l u hP h0 hb hc hn hm hx ht hu _ ih =>
    obtain ⟨e, hq⟩ := hk b hP hb
    have hb' : b < w'.heap.size := (Array.getElem?_eq_some_iff.1 (e.trans (Array.getElem?_eq_getElem hb))).1
    refine .row b o c l u hq h0 hb' hc hn hm hx (fun i v hi => ?_) (fun i v hi => ?_) (fun i v hi => ih i v hi)
    · obtain ⟨q0, q1, q2, q3⟩ := ht i v hi
      exact ⟨(cell_blk e _).trans q0, (cell_blk e _).trans q1, (cell_blk e _).trans q2, (cell_blk e _).trans q3⟩
    · exact (cell_blk e _).trans (hu i v hi)
theorem EMP.shape {w : World} {P : Nat → Prop} {v : Value} {l : List Ex} (h : EMP w P v l) : ∃ a c, v = .slice a l.length c ∧ l.length ≤ 1000000000 := h.em.shape
theorem EMP.at {w : World} {P : Nat → Prop} {v : Value} {l : List Ex} (h : EMP w P v l) {i : Nat} {x : Ex} (hi : l[i]? = some x) : ∃ b o c u, v = .slice (some ⟨b, o, none⟩) l.length c ∧ b < w.heap.size ∧ l.length ≤ c ∧ c ≤ 9223372036854775807 ∧ x.Ok ∧ Fiv w b (o + i * 5) x ∧ w.cell? ⟨b, o + i * 5 + 4, none⟩ = some u ∧ EMP w P u x.ks := by
  cases h with
  | nil a c => simp at hi
  | row b o c l u hP h0 hb hc hn hm hx ht hu hk => exact ⟨b, o, c, u i, rfl, hb, hc, hm, hx i x hi, ht i x hi, hu i x hi, hk i x hi⟩
def kidC (p : Ex × Value) : List Value := [.int .i64 p.1.k, .int .i64 p.1.n, .int .i64 p.1.d, .int .i64 p.1.u, p.2]
theorem kid_at (ps : List (Ex × Value)) : ∀ (i : Nat) (p : Ex × Value), ps[i]? = some p → ∀ j, j < 5 → (ps.flatMap kidC)[i * 5 + j]? = (kidC p)[j]? := by
  induction ps with
  | nil => intro i p h; simp at h
  | cons x r ih =>
    intro i p h j hj
    rw [List.flatMap_cons]
    cases i with
    | zero =>
      cases h
      rw [List.getElem?_append_left (by simp [kidC]; omega)]
      simp
    | succ i =>
      rw [List.getElem?_append_right (by simp [kidC]; omega)]
      have := ih i p h j hj
      rw [← this]
      congr 1
      simp [kidC]
      omega
/-- An own row of expressions, whose kids lie elsewhere. -/
def OwnE (w : World) (H0 base : Nat) (v : Value) (ps : List (Ex × Value)) : Prop :=
  w.ownsRow base 26 5 v ps.length (ps.flatMap kidC) ∧ ∀ p ∈ ps, p.1.Ok ∧ EMP w (fun b => (b < H0 ∨ base ≤ b) ∧ some b ≠ v.ownBlock) p.2 p.1.ks
theorem OwnE.nil (w : World) (H0 base : Nat) : OwnE w H0 base (.slice none 0 0) [] := ⟨World.ownsRow_nil _ _ _ _, fun p hp => by cases hp⟩
theorem OwnE.low {w w1 : World} {H0 base : Nat} {v : Value} {ps : List (Ex × Value)} (h : OwnE w H0 base v ps) (B : Below w.heap.size w w1) : OwnE w1 H0 base v ps :=
  ⟨h.1.kept (Mod.of w.heap.size B) (by cases hv : v.ownBlock with | none => exact .inl rfl | some k => exact .inr (fun e => by have := (h.1.lt k hv).2; cases e; omega)), fun p hp => ⟨(h.2 p hp).1, (h.2 p hp).2.move fun b hP hb => ⟨B.block b hb, hP⟩⟩⟩
theorem OwnE.push {w w8 : World} {H0 base g cap : Nat} {v : Value} {ps : List (Ex × Value)} {p : Ex × Value} (h : OwnE w H0 base v ps) (hp : p.1.Ok) (he : EMP w (fun b => (b < H0 ∨ base ≤ b) ∧ some b ≠ v.ownBlock) p.2 p.1.ks)
    (ho : w8.ownsRow base 26 5 (.slice (some ⟨g, 0, none⟩) (ps.length + 1) cap) (ps.length + 1) (ps.flatMap kidC ++ kidC p)) (hg : w.grownBy w8 v.ownBlock) (hl : v.ownBlock = some g ∨ g = w.heap.size) :
    OwnE w8 H0 base (.slice (some ⟨g, 0, none⟩) (ps.length + 1) cap) (ps ++ [p]) := by
  have key : ∀ (u : Value) (l : List Ex), EMP w (fun b => (b < H0 ∨ base ≤ b) ∧ some b ≠ v.ownBlock) u l → EMP w8 (fun b => (b < H0 ∨ base ≤ b) ∧ some b ≠ (Value.slice (some ⟨g, 0, none⟩) (ps.length + 1) cap).ownBlock) u l := fun u l hu =>
    hu.move fun b hP hb => ⟨hg.block b hb (Ne.symm (Ne.symm hP.2)), hP.1, by
      show some b ≠ some g
      rcases hl with hl | hl
      · rw [← hl]; exact hP.2
      · intro e; cases e; omega⟩
  refine ⟨?_, fun q hq => ?_⟩
  · rw [List.length_append, List.length_singleton, List.flatMap_append, List.flatMap_singleton]
    exact ho
  · rcases List.mem_append.1 hq with hq | hq
    · exact ⟨(h.2 q hq).1, key _ _ (h.2 q hq).2⟩
    · obtain rfl := List.mem_singleton.1 hq
      exact ⟨hp, key _ _ he⟩
theorem OwnE.emp {w : World} {H0 base : Nat} {v : Value} {ps : List (Ex × Value)} (h : OwnE w H0 base v ps) (hl : ps.length ≤ 1000000000) : EMP w (fun b => b < H0 ∨ base ≤ b) v (ps.map (·.1)) := by
  obtain ⟨h1, h2⟩ := h
  by_cases hp : ps = []
  · subst hp
    rcases h1.2 with ⟨rfl, _⟩ | ⟨g, cap, cur, rfl, hb, hg, hn, hm, hs, ht⟩
    · exact .nil _ _
    · exact .nil _ _
  · have h0 : 0 < ps.length := List.length_pos_iff.2 hp
    rcases h1.2 with ⟨rfl, h'⟩ | ⟨g, cap, cur, rfl, hb, hg, hn, hm, hs, ht⟩
    · omega
    · have cells : ∀ i p, ps[i]? = some p → ∀ j, j < 5 → ∀ x, (kidC p)[j]? = some x → w.cell? ⟨g, i * 5 + j, none⟩ = some x := fun i p hi j hj x hx => by
        have := h1.cells (g := g) rfl (i * 5 + j) x (by rw [kid_at ps i p hi j hj]; exact hx)
        rwa [Addr.add_lit, Nat.zero_add] at this
      have key : ∀ (i : Nat) (y : Ex), (ps.map (·.1))[i]? = some y → ∃ u, ps[i]? = some (y, u) := fun i y hi => by
        rw [List.getElem?_map, Option.map_eq_some_iff] at hi
        obtain ⟨p, hp1, rfl⟩ := hi
        exact ⟨p.2, hp1⟩
      have e : (ps.map (·.1)).length = ps.length := List.length_map ..
      have R := EMP.row (w := w) (P := fun b => b < H0 ∨ base ≤ b) g 0 cap (ps.map (·.1)) (fun i => ((ps[i]?).map (·.2)).getD (.bool false)) (.inr hb) (by rw [e]; exact h0) (Array.getElem?_eq_some_iff.1 hg).1 (by rw [e]; exact hn) (by rw [e]; exact hl) (by unfold maxLen at hm; omega)
        (fun i y hi => by obtain ⟨u, hu⟩ := key i y hi; exact (h2 _ (List.mem_of_getElem? hu)).1)
        (fun i y hi => by
          obtain ⟨u, hu⟩ := key i y hi
          rw [Nat.zero_add]
          exact ⟨cells i _ hu 0 (by omega) _ rfl, cells i _ hu 1 (by omega) _ rfl, cells i _ hu 2 (by omega) _ rfl, cells i _ hu 3 (by omega) _ rfl⟩)
        (fun i y hi => by
          obtain ⟨u, hu⟩ := key i y hi
          rw [Nat.zero_add, hu]
          exact cells i _ hu 4 (by omega) _ rfl)
        (fun i y hi => by
          obtain ⟨u, hu⟩ := key i y hi
          rw [hu]
          exact (h2 _ (List.mem_of_getElem? hu)).2.move fun b hP _ => ⟨rfl, hP.1⟩)
      rw [e] at R
      exact R
end Go.Proofs.YtlkocepoohhglaaDoor.cc
