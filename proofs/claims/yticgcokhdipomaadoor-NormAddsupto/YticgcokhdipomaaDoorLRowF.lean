/-
  A slice of forms as a row reads it, and how many parts they have.
-/
import Derived.Test.YticgcokhdipomaaDoorLRowG2
import Derived.Test.YticgcokhdipomaaDoorLNoRb
import Derived.Test.YticgcokhdipomaaDoorLNvB
set_option linter.unusedVariables false
set_option linter.unusedSimpArgs false
namespace Go.Proofs.YticgcokhdipomaaDoor.rowg
open Go.ChangeShapes Go.WideShapes Go.ChangeAt Go.RowKit Go.Joins
open Go.ChangeMaps (open_string shut_string)
open Go.Proofs.YticgcokhdipomaaDoor.nm

set_option maxRecDepth 100000 in
/-- Fifteen cells that are a form's. -/
theorem fo_cells2 {H : Type} {enc : TypeId × Value → H} {W : World} {held : Bool} {cs : List Value} {m N : Nat} {d : DataW H × List MemPlace} {X : Value → List Pa → Prop}
    (hf : DataW.trod enc Tryd.prog W 0 (fun _ => true) held m 29 cs = some d) (hN : Rows.uptoBulk d.1 ≤ N)
    (hX : ∀ (c : Value) (fuel : Nat) (x : DataW H × List MemPlace), DataW.trod enc Tryd.prog W 0 (fun _ => true) held fuel 27 [c] = some x → Rows.uptoBulk x.1 + 23 ≤ N → ∃ l, X c l ∧ l.length ≤ Rows.uptoBulk x.1) :
    ∃ us ps u, Us us ∧ cs = usL us ++ [u] ∧ X u ps ∧ ps.length ≤ Rows.uptoBulk d.1 := by
  obtain ⟨xs, k', _, hx', hc, hl', hq⟩ := DataW.trod_struct Tryd.underlying29 hf
  rw [cFo] at hc
  match cs, hc, xs, hl' with
  | [c0, c1, c2, c3, c4, c5, c6, c7, c8, c9, c10, c11, c12, c13, c14], _, [y0, y1], _ =>
    have q0' : DataW.trod enc Tryd.prog W 0 (fun _ => true) held k' 26 (([c0, c1, c2, c3, c4, c5, c6, c7, c8, c9, c10, c11, c12, c13, c14].drop 0).take (Tryd.prog.cellsOf 26)) = some y0 := hq 0 _ rfl
    rw [cUn] at q0'
    have q0 : DataW.trod enc Tryd.prog W 0 (fun _ => true) held k' 26 [c0, c1, c2, c3, c4, c5, c6, c7, c8, c9, c10, c11, c12, c13] = some y0 := q0'
    have q1' : DataW.trod enc Tryd.prog W 0 (fun _ => true) held k' 27 (([c0, c1, c2, c3, c4, c5, c6, c7, c8, c9, c10, c11, c12, c13, c14].drop 14).take (Tryd.prog.cellsOf 27)) = some y1 := hq 1 _ rfl
    rw [cPs] at q1'
    have q1 : DataW.trod enc Tryd.prog W 0 (fun _ => true) held k' 27 [c14] = some y1 := q1'
    obtain ⟨us, hus, hcs, hb⟩ := un_cells q0
    have hD : d.1 = .agg [y0.1, y1.1] := by simpa using congrArg Prod.fst hx'
    rw [hD] at hN ⊢
    simp only [Rows.uptoBulk, Rows.uptoBulkAll] at hN ⊢
    obtain ⟨ps, hps, hpz⟩ := hX c14 k' y1 q1 (by omega)
    refine ⟨us, ps, c14, hus, ?_, hps, by omega⟩
    rw [← hcs]
    rfl
theorem ones_sum {α : Type} (l : List α) : (l.map (fun _ => 1)).sum = l.length := by
  induction l with
  | nil => rfl
  | cons x r ih => rw [List.map_cons, List.sum_cons, ih, List.length_cons, Nat.add_comm]
/-- The parts of a form that comes in. -/
theorem pas_open2 {H : Type} {enc : TypeId × Value → H} {W : World} {held : Bool} {X : Value → List Fo → Prop} {N : Nat} {c : Value} {fuel : Nat} {x : DataW H × List MemPlace}
    (hf : DataW.trod enc Tryd.prog W 0 (fun _ => true) held fuel 27 [c] = some x) (hb : Rows.uptoBulk x.1 ≤ N) (hN : N ≤ 1048576)
    (hX : ∀ (c : Value) (fuel : Nat) (x : DataW H × List MemPlace), DataW.trod enc Tryd.prog W 0 (fun _ => true) held fuel 22 [c] = some x → Rows.uptoBulk x.1 + 3 ≤ N → ∃ l, X c l) : ∃ l, nm.RowOf W 2 (PaR W X) c l ∧ l.length ≤ Rows.uptoBulk x.1 := by
  have h1 := one_le x.1
  obtain ⟨l, hr, hz⟩ := row_open2 (α := Pa) (N := N - 1) Tryd.underlying27 cPa (by omega) (PaR W X) (fun _ => 1) hf (by omega) (by omega) (fun b o m cs d h1 h2 h3 h4 h5 => by
    obtain ⟨mx, l, u, rfl, hX'⟩ := pa_cells (N := N - 1) (X := X) h4 h5 (fun c fuel x hx hbx => hX c fuel x hx (by omega))
    exact ⟨(mx, l), ⟨u, h2 0 (by omega), h2 1 (by omega), hX'⟩, one_le _⟩)
  refine ⟨l, hr, ?_⟩
  rw [ones_sum] at hz
  exact hz
theorem ssP_len (l : List Fo) : (ssP l).length = (l.map (fun f => f.ps.length)).sum := by
  unfold ssP
  induction l with
  | nil => rfl
  | cons x r ih => rw [List.flatMap_cons, List.length_append, ih]; rfl
set_option maxRecDepth 100000 in
/-- A slice of forms that comes in, by value. -/
theorem fol_open {H : Type} {enc : TypeId × Value → H} {W : World} {base : Nat} {held : Bool} {v : Value} {x : DataW H} {p : List MemPlace} (hv : Value.okWide Tryd.prog W .any base 22 v) (h : DataW.Trod enc Tryd.prog W 0 (fun _ => true) held 22 v x p) (hb : Rows.uptoBulk x ≤ 1048576) :
    ∃ l : List Fo, FM W (65535 + 1) v l ∧ (ssP l).length ≤ 1000000000 := by
  obtain ⟨fuel, hf⟩ := h
  obtain ⟨sa, sn, sc, rfl⟩ := okWide_slice Tryd.underlying22 hv
  have hf' : DataW.trod enc Tryd.prog W 0 (fun _ => true) held fuel 22 [.slice sa sn sc] = some (x, p) := by simpa [Value.cells] using hf
  obtain ⟨l, hr, hz⟩ := row_open2 (α := Fo) (N := 1048575) Tryd.underlying22 cFo (by omega) (FoR W (FM W 65535)) (fun f => f.ps.length) hf' (by show Rows.uptoBulk x ≤ _; omega) (by omega) (fun b o m cs d h1 h2 h3 h4 h5 => by
    obtain ⟨us, ps, u, hus, rfl, hX', hpz⟩ := fo_cells2 (N := 1048575) (X := nm.RowOf W 2 (PaR W (FM W 65535))) h4 h5 (fun c fuel x hx hbx => pas_open2 (N := 1048576 - 24) hx (by omega) (by omega) (fun c fuel x hx hbx => by
      have hx1 := one_le x.1
      obtain ⟨l, hl⟩ := fos_open (1048576 - 27) c fuel x hx (by omega) (by omega)
      exact ⟨l, FM.le (by omega) hl⟩))
    refine ⟨.mk us ps, ⟨u, ⟨hus, fun i r hi => ?_⟩, ?_, hX'⟩, hpz⟩
    · obtain ⟨rn, rd⟩ := r
      obtain ⟨e1, e2⟩ := usL_at hi
      have hi7 : i < 7 := by have := (List.getElem?_eq_some_iff.1 hi).1; rw [show (Fo.mk us ps).us = us from rfl, hus.1] at this; exact this
      have ll := usL_len us
      rw [hus.1] at ll
      refine ⟨?_, ?_⟩
      · rw [h2 (i * 2) (by omega), List.getElem?_append_left (by omega)]; exact e1
      · rw [show o + i * 2 + 1 = o + (i * 2 + 1) by omega, h2 (i * 2 + 1) (by omega), List.getElem?_append_left (by omega)]; exact e2
    · have ll := usL_len us
      rw [hus.1] at ll
      rw [h2 14 (by omega), List.getElem?_append_right (by omega), show 14 - (usL us).length = 0 by omega]; rfl)
  refine ⟨l, hr, ?_⟩
  rw [ssP_len]
  have : Rows.uptoBulk x ≤ 1048576 := hb
  exact Nat.le_trans hz (by show Rows.uptoBulk x ≤ _; omega)
end Go.Proofs.YticgcokhdipomaaDoor.rowg
