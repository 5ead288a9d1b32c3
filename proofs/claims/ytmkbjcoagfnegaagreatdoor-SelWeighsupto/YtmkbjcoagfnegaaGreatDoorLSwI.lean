/-
  The weight of a selector, whatever it is, by the program.
-/
import Derived.Test.YtmkbjcoagfnegaaGreatDoorLSwH
set_option linter.unusedVariables false
set_option linter.unusedSimpArgs false
namespace Go.Proofs.YtmkbjcoagfnegaaGreatDoor
open Go.RowKit

/-- A list of one selector, laid anew. -/
theorem CM.one {w w' : World} {n : Nat} {v : Value} {c : Cx} (hv : PsM w n v c) (hw : Below w.heap.size w w') {b : Nat} (hb : w'.heap[b]? = some (.cells #[v] 40)) : CM w' (n + 1) (.slice (some ⟨b, 0, none⟩) 1 1) [c] := by
  refine .inr ⟨b, 0, 1, rfl, by simp, (Array.getElem?_eq_some_iff.1 hb).1, by simp, by simp, by omega, fun i x hi => ?_⟩
  cases i with
  | zero =>
    obtain rfl : c = x := by simpa using hi
    exact ⟨v, by rw [row_blk hb]; rfl, hv.low hw⟩
  | succ i => simp at hi
theorem ret3e {fn : Func} {R : Ending → World → Prop} {a : Act} {w : World} {t u : Tmp} {b : Nat} {x : Wt} {v : Value} (hf : fn.results = #[.cell t 42, .tmp u]) (ht : a.tmps.getD t undef = .pointer (some ⟨b, 0, none⟩)) (hu : a.tmps.getD u undef = v) (hb : Bk3 w b x) (hd : a.defers = []) (h : R (.returned (.tuple #[wV x, v])) w) : bodyPost Tryz.prog fn R .ret a w :=
  ret_cell2 (cs := [.int .i64 x.1, .int .i64 x.2.1, .int .i64 x.2.2]) hf ht hu (range_blk (cs := [.int .i64 x.1, .int .i64 x.2.1, .int .i64 x.2.2]) hb) Tryz.underlying42 rfl (by kernel_rfl) hd h
/-- What is told of a selector. -/
def wgW (n : Nat) (c : Cx) : Wt := if lsM 65 [c] then wtC (wtM n) c else z3
def wgE (c : Cx) : Int := if lsM 65 [c] then 0 else 1
set_option maxRecDepth 100000 in
set_option maxHeartbeats 4000000 in
theorem weighP_any (n : Nat) (c : Cx) (v : Value) (w : World) (hv : PsM w n v c) (hz : szC (szM n) c ≤ 1048576) (hK : KT w) (hT : Tabs w) : Calls Tryz.prog 19 #[.agg #[v]] w fun e w' => e = .returned (.tuple #[wV (wgW n c), .int .i64 (wgE c)]) ∧ Below w.heap.size w w' := by
  obtain ⟨a, cc, rfl, h9⟩ := hv.shape
  obtain ⟨W1, hW1⟩ : ∃ W1, ((w.alloc (.cells #[.slice a c.length cc] 40)).alloc (.cells #[.int .i64 0, .int .i64 0, .int .i64 0] 42)).alloc (.cells #[.slice a c.length cc] 40) = W1 := ⟨_, rfl⟩
  have HW1 := hide hW1
  have B0 := hide (show Below w.heap.size w W1 by rw [← hW1]; exact bplus (bplus (bplus (Below.refl _ _) _) _) _)
  have P0 := hide (show W1.heap[w.heap.size]? = some (.cells #[.slice a c.length cc] 40) by rw [← hW1]; exact (Below.heap_alloc _ _ _ (by simp; omega)).trans ((Below.heap_alloc _ _ _ (by simp)).trans (heap_alloc_new w _)))
  have P1 := hide (show Bk3 W1 (w.heap.size + 1) z3 by rw [← hW1]; have := (Bk3.new (w.alloc (.cells #[.slice a c.length cc] 40)) z3).more (.cells #[.slice a c.length cc] 40); simpa [z3] using this)
  have P2 := hide (show W1.heap[w.heap.size + 2]? = some (.cells #[.slice a c.length cc] 40) by rw [← hW1]; have := heap_alloc_new ((w.alloc (.cells #[.slice a c.length cc] 40)).alloc (.cells #[.int .i64 0, .int .i64 0, .int .i64 0] 42)) (.cells #[.slice a c.length cc] 40); simpa using this)
  clear hW1
  have CY := hide (may9_any (n + 1) [c] _ W1 (CM.one hv B0.out P2.out) (hK.below B0.out) (hT.below B0.out))
  have CW := hide (fun (W : World) (h : Below w.heap.size w W) => weightOf_any n c _ W (hv.low h) hz (weightsOf_any n))
  have EW := hide (show ∀ r, lsM 65 [c] = r → wgW n c = if r then wtC (wtM n) c else z3 by rintro r rfl; rfl)
  have EE := hide (show ∀ r, lsM 65 [c] = r → wgE c = if r then 0 else 1 by rintro r rfl; rfl)
  clear hv hz hK hT P2
  generalize lsM 65 [c] = RB at CY EW EE
  generalize wgW n c = RW at EW ⊢
  generalize wgE c = RE at EE ⊢
  generalize wtC (wtM n) c = WT at CW EW
  generalize List.length c = ln at *
  cases RB with
  | false =>
    have F := hide (EW.out _ rfl)
    have G := hide (EE.out _ rfl)
    clear EW EE CW P0
    simp only [Bool.false_eq_true, if_false] at F G
    go_enter Tryz.func19, Tryz.ntmps19
    go_wp2_with (go_at_call 15; rw [HW1.out]; refine CY.out.mono ?_; rintro e w1 ⟨rfl, B1⟩; replace P1 := hide (P1.out.up B1); replace B0 := hide (bto B0.out B1); obtain ⟨i0, i1, i2⟩ := P1.out.cells; have j0 := P1.out.fz 0; have j1 := P1.out.fz 1; have j2 := P1.out.fz 2; clear B1)
    exact ret3e (b := w.heap.size + 1) (v := .int .i64 1) Tryz.results19 rfl rfl (P1.out.put z3) rfl ⟨by rw [F.out, G.out], below_put B0.out (by omega) _ _ _⟩
  | true =>
    have F := hide (EW.out _ rfl)
    have G := hide (EE.out _ rfl)
    clear EW EE
    simp only [if_true] at F G
    unfold wV at CW
    obtain ⟨m0, m1, m2⟩ := WT
    simp only at CW
    go_enter Tryz.func19, Tryz.ntmps19
    go_wp2_with (first
      | (go_at_call 15; rw [HW1.out]; refine CY.out.mono ?_; rintro e w1 ⟨rfl, B1⟩; replace P1 := hide (P1.out.up B1); replace B0 := hide (bto B0.out B1); replace P0 := hide ((B1.block _ (Array.getElem?_eq_some_iff.1 P0.out).1).trans P0.out); have k0 := bxk_1 P0.out; clear B1)
      | (go_at_call 39; refine (CW.out _ B0.out).mono ?_; rintro e w2 ⟨rfl, B2⟩; replace P1 := hide (P1.out.up B2); replace B0 := hide (bto B0.out B2); obtain ⟨i0, i1, i2⟩ := P1.out.cells; have j0 := P1.out.fz 0; have j1 := P1.out.fz 1; have j2 := P1.out.fz 2; clear B2))
    exact ret3e (b := w.heap.size + 1) (v := .int .i64 0) Tryz.results19 rfl rfl (P1.out.put (m0, m1, m2)) rfl ⟨by rw [F.out, G.out], below_put B0.out (by omega) _ _ _⟩
end Go.Proofs.YtmkbjcoagfnegaaGreatDoor
