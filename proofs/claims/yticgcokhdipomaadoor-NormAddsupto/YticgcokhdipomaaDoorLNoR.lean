/-
  Forms as a row reads them.
-/
import Derived.Test.YticgcokhdipomaaDoorN20
import Derived.Test.YticgcokhdipomaaDoorLNoG
set_option linter.unusedVariables false
set_option linter.unusedSimpArgs false
namespace Go.Proofs.YticgcokhdipomaaDoor.rowg
open Go.ChangeShapes Go.WideShapes Go.ChangeAt Go.RowKit Go.Joins
open Go.ChangeMaps (open_string shut_string)
open Go.Proofs.YticgcokhdipomaaDoor.nm

instance : Inhabited Fo := ⟨.mk [] []⟩
theorem cFo : Tryd.prog.cellsOf 29 = 15 := by kernel_rfl
theorem cUn : Tryd.prog.cellsOf 26 = 14 := by kernel_rfl
theorem cPa : Tryd.prog.cellsOf 41 = 2 := by kernel_rfl
theorem cPs : Tryd.prog.cellsOf 27 = 1 := by kernel_rfl
theorem cFs : Tryd.prog.cellsOf 22 = 1 := by kernel_rfl
set_option maxRecDepth 100000 in
/-- Two cells that are a fraction's. -/
theorem rat_cells {H : Type} {enc : TypeId × Value → H} {W : World} {held : Bool} {cs : List Value} {m : Nat} {d : DataW H × List MemPlace}
    (hf : DataW.trod enc Tryd.prog W 0 (fun _ => true) held m 24 cs = some d) : ∃ n e, cs = [.int .i64 n, .int .i64 e] ∧ i64 n ∧ i64 e ∧ 3 ≤ Rows.uptoBulk d.1 := by
  obtain ⟨ys, m2, _, hy, hc, hl2, hq2⟩ := DataW.trod_struct Tryd.underlying24 hf
  rw [cR] at hc
  match cs, hc, ys, hl2 with
  | [c1, c2], _, [u0, u1], _ =>
    have r0' : DataW.trod enc Tryd.prog W 0 (fun _ => true) held m2 2 (([c1, c2].drop 0).take (Tryd.prog.cellsOf 2)) = some u0 := hq2 0 _ rfl
    rw [cL] at r0'
    have r0 : DataW.trod enc Tryd.prog W 0 (fun _ => true) held m2 2 [c1] = some u0 := r0'
    have r1' : DataW.trod enc Tryd.prog W 0 (fun _ => true) held m2 2 (([c1, c2].drop 1).take (Tryd.prog.cellsOf 2)) = some u1 := hq2 1 _ rfl
    rw [cL] at r1'
    have r1 : DataW.trod enc Tryd.prog W 0 (fun _ => true) held m2 2 [c2] = some u1 := r1'
    obtain ⟨n, en, rfl, wn⟩ := DataW.trod_int Tryd.underlying2 r0
    obtain ⟨dd, ed, rfl, wd⟩ := DataW.trod_int Tryd.underlying2 r1
    simp at en ed
    subst en ed
    have hD : d.1 = .agg [.lit (.int .i64 n), .lit (.int .i64 dd)] := by simpa using congrArg Prod.fst hy
    refine ⟨n, dd, rfl, bounds_i64 wn, bounds_i64 wd, ?_⟩
    rw [hD]
    simp only [Rows.uptoBulk, Rows.uptoBulkAll]
    omega
set_option maxRecDepth 100000 in
/-- Fourteen cells that are seven fractions. -/
theorem un_cells {H : Type} {enc : TypeId × Value → H} {W : World} {held : Bool} {cs : List Value} {m : Nat} {d : DataW H × List MemPlace}
    (hf : DataW.trod enc Tryd.prog W 0 (fun _ => true) held m 26 cs = some d) : ∃ us, Us us ∧ cs = usL us ∧ 22 ≤ Rows.uptoBulk d.1 := by
  obtain ⟨xs, m2, _, hx, hc, hl, hq⟩ := DataW.trod_array (n := 7) (e := 24) Tryd.underlying26 hf
  rw [cUn] at hc
  rw [cR] at hq
  match cs, hc, xs, hl with
  | [c0, c1, c2, c3, c4, c5, c6, c7, c8, c9, c10, c11, c12, c13], _, [x0, x1, x2, x3, x4, x5, x6], _ =>
    obtain ⟨n0, e0, h0, a0, b0, k0⟩ := rat_cells (d := x0) (hq 0 (by omega))
    obtain ⟨n1, e1, h1, a1, b1, k1⟩ := rat_cells (d := x1) (hq 1 (by omega))
    obtain ⟨n2, e2, h2, a2, b2, k2⟩ := rat_cells (d := x2) (hq 2 (by omega))
    obtain ⟨n3, e3, h3, a3, b3, k3⟩ := rat_cells (d := x3) (hq 3 (by omega))
    obtain ⟨n4, e4, h4, a4, b4, k4⟩ := rat_cells (d := x4) (hq 4 (by omega))
    obtain ⟨n5, e5, h5, a5, b5, k5⟩ := rat_cells (d := x5) (hq 5 (by omega))
    obtain ⟨n6, e6, h6, a6, b6, k6⟩ := rat_cells (d := x6) (hq 6 (by omega))
    simp at h0 h1 h2 h3 h4 h5 h6
    obtain ⟨rfl, rfl⟩ := h0
    obtain ⟨rfl, rfl⟩ := h1
    obtain ⟨rfl, rfl⟩ := h2
    obtain ⟨rfl, rfl⟩ := h3
    obtain ⟨rfl, rfl⟩ := h4
    obtain ⟨rfl, rfl⟩ := h5
    obtain ⟨rfl, rfl⟩ := h6
    refine ⟨[(n0, e0), (n1, e1), (n2, e2), (n3, e3), (n4, e4), (n5, e5), (n6, e6)], ⟨rfl, ?_⟩, rfl, ?_⟩
    · intro r hr
      simp at hr
      rcases hr with rfl | rfl | rfl | rfl | rfl | rfl | rfl
      · exact ⟨a0, b0⟩
      · exact ⟨a1, b1⟩
      · exact ⟨a2, b2⟩
      · exact ⟨a3, b3⟩
      · exact ⟨a4, b4⟩
      · exact ⟨a5, b5⟩
      · exact ⟨a6, b6⟩
    · have hD : d.1 = .agg [x0.1, x1.1, x2.1, x3.1, x4.1, x5.1, x6.1] := by simpa using congrArg Prod.fst hx
      rw [hD]
      simp only [Rows.uptoBulk, Rows.uptoBulkAll]
      omega
set_option maxRecDepth 100000 in
/-- Fifteen cells that are a form's. -/
theorem fo_cells {H : Type} {enc : TypeId × Value → H} {W : World} {held : Bool} {cs : List Value} {m N : Nat} {d : DataW H × List MemPlace} {X : Value → List Pa → Prop}
    (hf : DataW.trod enc Tryd.prog W 0 (fun _ => true) held m 29 cs = some d) (hN : Rows.uptoBulk d.1 ≤ N)
    (hX : ∀ (c : Value) (fuel : Nat) (x : DataW H × List MemPlace), DataW.trod enc Tryd.prog W 0 (fun _ => true) held fuel 27 [c] = some x → Rows.uptoBulk x.1 + 23 ≤ N → ∃ l, X c l) :
    ∃ us ps u, Us us ∧ cs = usL us ++ [u] ∧ X u ps := by
  obtain ⟨xs, k', _, hx', hc, hl', hq⟩ := DataW.trod_struct Tryd.underlying29 hf
  rw [cFo] at hc
  match cs, hc, xs, hl' with
  | [c0, c1, c2, c3, c4, c5, c6, c7, c8, c9, c10, c11, c12, c13, c14], _, [y0, y1], _ =>
    have q0' : DataW.trod enc Tryd.prog W 0 (fun _ => true) held k' 26 (([c0, c1, c2, c3, c4, c5, c6, c7, c8, c9, c10, c11, c12, c13, c14].drop 0).take (Tryd.prog.cellsOf 26)) = some y0 := hq 0 _ rfl
    rw [cUn] at q0'
    have q0 : DataW.trod enc Tryd.prog W 0 (fun _ => true) held k' 26 [c0, c1, c2, c3, c4, c5, c6, c7, c8, c9, c10, c11, c12, c13] = some y0 := q0'
    have q1' : DataW.trod enc Tryd.prog W 0 (fun _ => true) held k' 27 (([c0, c1, c2, c3, c4, c5, c6, c7, c8, c9, c10, c11, c12, c13, c14].drop 14).take (Tryd.prog.cellsOf 27)) = some y1 := hq 1 _ rfl
    rw [cPs] at q1'
    have q1 : DataW.trod enc Tryd.prog W 0 (fun _ => true) held k' 27 [c14] = some y1 := q1'
    obtain ⟨us, hus, hcs, hb⟩ := un_cells q0
    have hD : d.1 = .agg [y0.1, y1.1] := by simpa using congrArg Prod.fst hx'
    rw [hD] at hN
    simp only [Rows.uptoBulk, Rows.uptoBulkAll] at hN
    obtain ⟨ps, hps⟩ := hX c14 k' y1 q1 (by omega)
    refine ⟨us, ps, c14, hus, ?_, hps⟩
    rw [← hcs]
    rfl
set_option maxRecDepth 100000 in
/-- Two cells that are a part's. -/
theorem pa_cells {H : Type} {enc : TypeId × Value → H} {W : World} {held : Bool} {cs : List Value} {m N : Nat} {d : DataW H × List MemPlace} {X : Value → List Fo → Prop}
    (hf : DataW.trod enc Tryd.prog W 0 (fun _ => true) held m 41 cs = some d) (hN : Rows.uptoBulk d.1 ≤ N)
    (hX : ∀ (c : Value) (fuel : Nat) (x : DataW H × List MemPlace), DataW.trod enc Tryd.prog W 0 (fun _ => true) held fuel 22 [c] = some x → Rows.uptoBulk x.1 + 2 ≤ N → ∃ l, X c l) :
    ∃ mx l u, cs = [.bool mx, u] ∧ X u l := by
  obtain ⟨xs, k', _, hx', hc, hl', hq⟩ := DataW.trod_struct Tryd.underlying41 hf
  rw [cPa] at hc
  match cs, hc, xs, hl' with
  | [c0, c1], _, [y0, y1], _ =>
    have q0' : DataW.trod enc Tryd.prog W 0 (fun _ => true) held k' 4 (([c0, c1].drop 0).take (Tryd.prog.cellsOf 4)) = some y0 := hq 0 _ rfl
    rw [cB] at q0'
    have q0 : DataW.trod enc Tryd.prog W 0 (fun _ => true) held k' 4 [c0] = some y0 := q0'
    have q1' : DataW.trod enc Tryd.prog W 0 (fun _ => true) held k' 22 (([c0, c1].drop 1).take (Tryd.prog.cellsOf 22)) = some y1 := hq 1 _ rfl
    rw [cFs] at q1'
    have q1 : DataW.trod enc Tryd.prog W 0 (fun _ => true) held k' 22 [c1] = some y1 := q1'
    obtain ⟨b, eb, hy0⟩ := DataW.trod_bool Tryd.underlying4 q0
    simp at eb
    subst eb
    have hD : d.1 = .agg [y0.1, y1.1] := by simpa using congrArg Prod.fst hx'
    rw [hD] at hN
    simp only [Rows.uptoBulk, Rows.uptoBulkAll] at hN
    have := one_le y0.1
    obtain ⟨l, hl⟩ := hX c1 k' y1 q1 (by omega)
    exact ⟨b, l, c1, rfl, hl⟩
theorem FM.le {w : World} {n m : Nat} (h : n ≤ m) {v : Value} {l : List Fo} (hf : FM w n v l) : FM w m v l := by
  induction m with
  | zero => obtain rfl : n = 0 := by omega
            exact hf
  | succ m ih =>
    by_cases e : n = m + 1
    · subst e; exact hf
    · exact (ih (by omega)).up
/-- The parts of a form that comes in. -/
theorem pas_open {H : Type} {enc : TypeId × Value → H} {W : World} {held : Bool} {X : Value → List Fo → Prop} {N : Nat} {c : Value} {fuel : Nat} {x : DataW H × List MemPlace}
    (hf : DataW.trod enc Tryd.prog W 0 (fun _ => true) held fuel 27 [c] = some x) (hb : Rows.uptoBulk x.1 ≤ N) (hN : N ≤ 1048576)
    (hX : ∀ (c : Value) (fuel : Nat) (x : DataW H × List MemPlace), DataW.trod enc Tryd.prog W 0 (fun _ => true) held fuel 22 [c] = some x → Rows.uptoBulk x.1 + 3 ≤ N → ∃ l, X c l) : ∃ l, nm.RowOf W 2 (PaR W X) c l := by
  have h1 := one_le x.1
  obtain ⟨l, hr⟩ := row_open (α := Pa) (N := N - 1) Tryd.underlying27 cPa (by omega) (PaR W X) hf (by omega) (by omega) (fun b o m cs d h1 h2 h3 h4 h5 => by
    obtain ⟨mx, l, u, rfl, hX'⟩ := pa_cells (N := N - 1) (X := X) h4 h5 (fun c fuel x hx hbx => hX c fuel x hx (by omega))
    exact ⟨(mx, l), u, h2 0 (by omega), h2 1 (by omega), hX'⟩)
  exact ⟨l, hr⟩
/-- A slice of forms that comes in. -/
theorem fos_open {H : Type} {enc : TypeId × Value → H} {W : World} {held : Bool} (N : Nat) : ∀ (c : Value) (fuel : Nat) (x : DataW H × List MemPlace),
    DataW.trod enc Tryd.prog W 0 (fun _ => true) held fuel 22 [c] = some x → Rows.uptoBulk x.1 ≤ N → N ≤ 1048576 → ∃ l : List Fo, FM W (N / 16) c l := by
  induction N using Nat.strongRecOn with
  | ind N ih =>
    intro c fuel x hf hb hN
    have h1 := one_le x.1
    by_cases h28 : 16 ≤ N
    · obtain ⟨l, hr⟩ := row_open (α := Fo) (N := N - 1) Tryd.underlying22 cFo (by omega) (FoR W (FM W (N / 16 - 1))) hf (by omega) (by omega) (fun b o m cs d h1 h2 h3 h4 h5 => by
        obtain ⟨us, ps, u, hus, rfl, hX'⟩ := fo_cells (N := N - 1) (X := nm.RowOf W 2 (PaR W (FM W (N / 16 - 1)))) h4 h5 (fun c fuel x hx hbx => pas_open (N := N - 24) hx (by omega) (by omega) (fun c fuel x hx hbx => by
          have hx1 := one_le x.1
          obtain ⟨l, hl⟩ := ih (N - 27) (by omega) c fuel x hx (by omega) (by omega)
          exact ⟨l, FM.le (by omega) hl⟩))
        refine ⟨.mk us ps, u, ⟨hus, fun i r hi => ?_⟩, ?_, hX'⟩
        · obtain ⟨rn, rd⟩ := r
          obtain ⟨e1, e2⟩ := usL_at hi
          have hi7 : i < 7 := by have := (List.getElem?_eq_some_iff.1 hi).1; rw [show (Fo.mk us ps).us = us from rfl, hus.1] at this; exact this
          have ll := usL_len us
          rw [hus.1] at ll
          refine ⟨?_, ?_⟩
          · rw [h2 (i * 2) (by omega), List.getElem?_append_left (by omega)]; exact e1
          · rw [show o + i * 2 + 1 = o + (i * 2 + 1) by omega, h2 (i * 2 + 1) (by omega), List.getElem?_append_left (by omega)]; exact e2
        · have ll := usL_len us
          rw [hus.1] at ll
          rw [h2 14 (by omega), List.getElem?_append_right (by omega), show 14 - (usL us).length = 0 by omega]; rfl)
      refine ⟨l, ?_⟩
      obtain ⟨q, hq⟩ : ∃ q, N / 16 = q + 1 := ⟨N / 16 - 1, by omega⟩
      rw [hq] at hr ⊢
      exact hr
    · obtain ⟨l, hr⟩ := row_open (α := Fo) (N := N - 1) Tryd.underlying22 cFo (by omega) (fun _ _ _ => False) hf (by omega) (by omega) (fun b o m cs d h1 h2 h3 h4 h5 => by
        exfalso
        obtain ⟨us, ps, u, hus, rfl, hX'⟩ := fo_cells (N := N - 1) (X := fun _ _ => False) h4 h5 (fun c fuel x hx hbx => by exfalso; omega)
        exact hX')
      refine ⟨l, ?_⟩
      rcases hr with ⟨a, cp, rfl, rfl⟩ | ⟨b, o, cp, rfl, h0, hb', hc, hn, hm, hr⟩
      · exact FM.le (Nat.zero_le _) ⟨rfl, a, cp, rfl⟩
      · exact absurd (hr 0 l[0] (List.getElem?_eq_getElem h0)) id
end Go.Proofs.YticgcokhdipomaaDoor.rowg
