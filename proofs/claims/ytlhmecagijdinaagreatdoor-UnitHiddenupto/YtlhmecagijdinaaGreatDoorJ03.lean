/-
  What form tells of any expression that is a length: the walk of the program.
  What Form tells of any expression, by the program.
-/
import Derived.Test.YtlhmecagijdinaaGreatDoorJ02
import Derived.Test.YtlhmecagijdinaaGreatDoorH06
set_option linter.unusedVariables false
set_option linter.unusedSimpArgs false
namespace Go.Proofs.YtlhmecagijdinaaGreatDoor.nm
open Go.RowKit cc be

theorem run_ixF {ρ : Operand → Value} {w : World} {o : Oper} {x y : Operand} {b n c k : Nat} (ho : o.op = .indexAddr 58 x y) (hx : ρ x = .slice (some ⟨b, 0, none⟩) n c) (hy : ρ y = .int .i64 k) (hk : (k : Int) < n) : (execOp ρ o).run Tryz.prog w = .ok (.value (.pointer (some ⟨b, k * 15, none⟩))) w := by
  have hk0 : ¬ (k : Int) < 0 := by omega
  have hk1 : 0 ≤ (k : Int) := by omega
  unfold execOp
  rw [ho]
  simp [go_sem, hx, hy, hk, hk0, hk1]
def RelFm (w : World) (n' : Nat) (gq : List Fo) (e5 : List Value) (i : Value) (wr : World) : Prop := ∃ (m : Nat) (ys zs : List Value), i = .int .i64 m ∧ m ≤ gq.length ∧ Hid (Bk wr (w.heap.size + 2) 30 (ys ++ zs) ∧ FoC (cutW (w.heap.size + 3) wr) n' (gq.take m) ys ∧ zs.length + m * 15 = gq.length * 15 ∧ Bk wr (w.heap.size + 1) 30 z15 ∧ Bk wr w.heap.size 26 e5 ∧ Below w.heap.size w wr)
theorem RelFm.mk {w : World} {n' : Nat} {gq : List Fo} {e5 : List Value} {i : Value} {wr : World} (m : Nat) (ys zs : List Value) (h1 : i = .int .i64 m) (h2 : m ≤ gq.length) (h3 : Bk wr (w.heap.size + 2) 30 (ys ++ zs)) (h4 : FoC (cutW (w.heap.size + 3) wr) n' (gq.take m) ys) (h5 : zs.length + m * 15 = gq.length * 15) (h6 : Bk wr (w.heap.size + 1) 30 z15) (h7 : Bk wr w.heap.size 26 e5) (h8 : Below w.heap.size w wr) : RelFm w n' gq e5 i wr := ⟨m, ys, zs, h1, h2, h3, h4, h5, h6, h7, h8⟩
/-- What is there behind the kids' forms. -/
structure FmS (w wr : World) (B L p : Nat) (gq : List Fo) : Prop where
  hB : B = w.heap.size + 2
  sl : FM (cutW B wr) (2 * p + 1) (.slice (some ⟨B, 0, none⟩) L L) gq
  gl : gq.length = L
  q1 : Bk wr (w.heap.size + 1) 30 z15
  bw : Below w.heap.size w wr
  hq : B < wr.heap.size
theorem FmS.us {w wr : World} {B L p : Nat} {gq : List Fo} (h : FmS w wr B L p gq) : ∀ f ∈ gq, Us f.us := fm_us h.sl
/-- A pick of the kids' forms. -/
theorem FmS.pick {w wr : World} {B L p : Nat} {gq : List Fo} (h : FmS w wr B L p gq) (hN : Nth w) (hT : TabD w) (mx : Bool) : Calls Tryz.prog 51 #[.bool mx, .slice (some ⟨B, 0, none⟩) L L] wr fun e w' => ∃ v, e = .returned (.agg (usL (pkF mx gq).us ++ [v]).toArray) ∧ Us (pkF mx gq).us ∧ PM (cutW B w') (2 * p + 1) v (pkF mx gq).ps ∧ Below wr.heap.size wr w' := by
  refine (pickE_any (2 * p + 1) mx gq _ (cutW B wr) wr (hN.low h.bw) (hT.low h.bw) h.sl (cut_sees B wr)).mono ?_
  rintro e w1 ⟨fu, rfl, hp, hb⟩
  have h1 := h.hq
  exact ⟨fu, rfl, pkF_us h.us, hp (cutW B w1) (cut_keep (Nat.le_refl _) hb.size (fun b _ hl => hb.block b hl)) (fun b hb1 hb2 => cut_blk w1 (by omega)), hb⟩
/-- Their sum. -/
theorem FmS.sum {w wr : World} {B L p : Nat} {gq : List Fo} (h : FmS w wr B L p gq) (hN : Nth w) (hpl : (ssP gq).length ≤ 1000000000) : Calls Tryz.prog 49 #[.slice (some ⟨B, 0, none⟩) L L] wr fun e w' => ∃ v, e = .returned (.agg (usL (ssU gq) ++ [v]).toArray) ∧ Us (ssU gq) ∧ PM (cutW B w') (2 * p) v (ssP gq) ∧ Below wr.heap.size wr w' := by
  refine (sumE_any (2 * p) gq _ (cutW B wr) wr (hN.low h.bw) (cut_sees B wr) h.sl hpl).mono ?_
  rintro e w5 ⟨v, rfl, B9, hB9, PV, B5⟩
  have h1 := h.hq
  exact ⟨v, rfl, ssU_us h.us, PO.pmS (PO.keep PV (w' := cutW B w5) (fun g hg hl => cut_blk w5 (by omega))) (cut_keep (Nat.le_refl _) B5.size (fun b hb hl => B5.block b hl)) hpl, B5⟩
/-- The first of them, times a fraction. -/
theorem FmS.first {w wr : World} {B L p : Nat} {gq : List Fo} (h : FmS w wr B L p gq) (i : Nat) (hi : i < L) : ∃ u, Us (foAt gq i).us ∧ wr.rangeAt B (i * 15) (usL (foAt gq i).us ++ [u]) ∧ PM (cutW B wr) (2 * p) u (foAt gq i).ps := by
  have hg := h.gl
  obtain ⟨f, hf⟩ : ∃ f, gq[i]? = some f := ⟨_, List.getElem?_eq_getElem (by omega)⟩
  obtain ⟨m, b, o, c, u, hm, hv, hb, hus, hr, hp⟩ := fm_rangeN h.sl hf
  obtain ⟨rfl, rfl⟩ : B = b ∧ 0 = o := by simp at hv; exact ⟨hv.1.1, hv.1.2⟩
  obtain rfl : 2 * p = m := by omega
  have e : foAt gq i = f := by unfold foAt; rw [List.getD_eq_getElem?_getD, hf]; rfl
  rw [e]
  refine ⟨u, hus, fun q v hq => ?_, hp⟩
  have := hr q v hq
  rw [Nat.zero_add] at this
  exact (cut_sees B wr).2 _ _ _ this
theorem FmS.scale {w wr : World} {B L p : Nat} {gq : List Fo} (h : FmS w wr B L p gq) (hN : Nth w) (hT : TabD w) (k : Int × Int) (hk : R64 k) (hL : 0 < L) (hsz : szF (foAt gq 0) ≤ 1000000000) (W : World) (hW : Below wr.heap.size wr W) (u : Value) (hu : PM (cutW B wr) (2 * p) u (foAt gq 0).ps) : Calls Tryz.prog 38 #[.agg (usL (foAt gq 0).us ++ [u]).toArray, .agg #[.int .i64 k.1, .int .i64 k.2]] W fun e w' => ∃ v, e = .returned (.agg (usL (scF k (2 * p) (foAt gq 0)).us ++ [v]).toArray) ∧ Us (scF k (2 * p) (foAt gq 0)).us ∧ PM (cutW B w') (2 * p) v (scF k (2 * p) (foAt gq 0)).ps ∧ Below W.heap.size W w' := by
  obtain ⟨_, hus, -, -⟩ := h.first 0 hL
  have hz : Fo.mk (foAt gq 0).us (foAt gq 0).ps = foAt gq 0 := by cases foAt gq 0; rfl
  have q := scaling_all k hk (2 * p) (foAt gq 0).us (foAt gq 0).ps u W (hN.low (bto h.bw hW)) (hT.low (bto h.bw hW)) hus (PM.low hW (pm_sees (cut_sees B wr) hu)) (by rw [hz]; exact hsz)
  rw [hz] at q
  refine q.mono ?_
  rintro e w' ⟨v, rfl, h1, h2, h3⟩
  have s1 := h.hq
  have s2 := hW.size
  exact ⟨v, rfl, h1, pm_sees (cut_keep (by omega) (Nat.le_refl _) (fun _ _ _ => rfl)) h2, h3⟩
theorem pk2_us {mx : Bool} {f g : Fo} (hf : Us f.us) (hg : Us g.us) : Us (pkF mx [f, g]).us := pkF_us fun x hx => by
  simp at hx
  rcases hx with rfl | rfl
  · exact hf
  · exact hg
/-- What stands behind each of a clamp's last operations. -/
def ClT (w wr : World) (B n : Nat) (A0 A1 A2 : List Value) (I O : Fo) : Nat → Value → World → Prop
  | 0, v, W => Below wr.heap.size wr W
  | 1, v, W => Below wr.heap.size wr W ∧ ∃ g, v = .slice (some ⟨g, 0, none⟩) 2 2 ∧ wr.heap.size ≤ g ∧ W.heap[g]? = some (.cells (A1 ++ A2).toArray 30)
  | 2, v, W => Below wr.heap.size wr W ∧ ∃ fu, v = .agg (usL I.us ++ [fu]).toArray ∧ PM (cutW B W) (n + 1) fu I.ps
  | 3, v, W => Below wr.heap.size wr W ∧ ∃ g fu, v = .slice (some ⟨g, 0, none⟩) 2 2 ∧ wr.heap.size ≤ g ∧ W.heap[g]? = some (.cells (A0 ++ (usL I.us ++ [fu])).toArray 30) ∧ PM (cutW B W) (n + 1) fu I.ps
  | 4, v, W => Below wr.heap.size wr W ∧ ∃ fu, v = .agg (usL O.us ++ [fu]).toArray ∧ PM (cutW B W) (n + 2) fu O.ps
  | _, v, W => ∃ W5 fu, W = W5.setCells (w.heap.size + 1) 0 (usL O.us ++ [fu]) ∧ Below wr.heap.size wr W5 ∧ PM (cutW B W5) (n + 2) fu O.ps
theorem range_low {wr W : World} {b o : Nat} {A : List Value} (h : Below wr.heap.size wr W) (hb : b < wr.heap.size) (hr : wr.rangeAt b o A) : W.rangeAt b o A := fun q v hq => (h.cell (p := ⟨b, o + q, none⟩) hb).trans (hr q v hq)
theorem ClT.rg {w wr : World} {B n : Nat} {A0 A1 A2 : List Value} {I O : Fo} {q : Nat} {v : Value} {W : World} (h : ClT w wr B n A0 A1 A2 I O q v W) {b o : Nat} {A : List Value} (hb : b < wr.heap.size) (hne : b ≠ w.heap.size + 1) (hr : wr.rangeAt b o A) : W.rangeAt b o A := by
  match q, h with
  | 0, h => exact range_low h hb hr
  | 1, h => exact range_low h.1 hb hr
  | 2, h => exact range_low h.1 hb hr
  | 3, h => exact range_low h.1 hb hr
  | 4, h => exact range_low h.1 hb hr
  | q + 5, h =>
    obtain ⟨W5, fu, rfl, h5, -⟩ := h
    exact fun j x hj => (cell_blk (setCells_far b (w.heap.size + 1) 0 hne _ _ _) _).trans (range_low h5 hb hr j x hj)
def enC (b m c : Nat) (A0 A1 A2 : List Value) : Nat → Option Value
  | 0 => some (.slice (some ⟨b, 0, none⟩) m c)
  | 1 => some (.pointer (some ⟨b, 0 * 15, none⟩))
  | 2 => some (.agg A0.toArray)
  | 3 => some (.slice (some ⟨b, 0, none⟩) m c)
  | 4 => some (.pointer (some ⟨b, 1 * 15, none⟩))
  | 5 => some (.agg A1.toArray)
  | 6 => some (.slice (some ⟨b, 0, none⟩) m c)
  | 7 => some (.pointer (some ⟨b, 2 * 15, none⟩))
  | 8 => some (.agg A2.toArray)
  | _ => none
def tlC (q : Nat) : Nat := q + 9
end Go.Proofs.YtlhmecagijdinaaGreatDoor.nm
set_option linter.unusedVariables false
set_option linter.unusedSimpArgs false
namespace Go.Proofs.YtlhmecagijdinaaGreatDoor.nm
open Go.RowKit cc

end Go.Proofs.YtlhmecagijdinaaGreatDoor.nm

