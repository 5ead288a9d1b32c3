/-
  Two forms held against each other: what is asked.
  Two forms held against each other, by the program.
  Two parts held against each other, by the program.
  Are two forms the same: by the program.
  Are two forms the same: by the reference.
-/
import Derived.Test.YtlhmecagijdinaaGreatDoorMNoB
import Derived.Test.YtlhmecagijdinaaGreatDoorH01
import Derived.Deep.RegionHeld3
import Derived.Deep.RegionWith
import Derived.Deep.DeepCutAuto
import Derived.Test.YtlhmecagijdinaaGreatDoorJ02
import Derived.Test.YtlhmecagijdinaaGreatDoorH06
import Derived.Test.YtlhmecagijdinaaGreatDoorK09
set_option linter.unusedVariables false
set_option linter.unusedSimpArgs false
namespace Go.Proofs.YtlhmecagijdinaaGreatDoor.nm
open Go.RowKit
def RelA2 {α : Type} (W : World) (f : α → α → Bool) (x y : List α) (i : Value) (wr : World) : Prop := ∃ k : Nat, i = .int .i64 k ∧ k ≤ x.length ∧ Below W.heap.size W wr ∧ Hid (al2 f x y = al2 f (x.drop k) (y.drop k))
theorem RelA2.mk {α : Type} {W : World} {f : α → α → Bool} {x y : List α} {i : Value} {wr : World} (k : Nat) (h1 : i = .int .i64 k) (h2 : k ≤ x.length) (h3 : Below W.heap.size W wr) (h4 : al2 f x y = al2 f (x.drop k) (y.drop k)) : RelA2 W f x y i wr := ⟨k, h1, h2, h3, h4⟩
end Go.Proofs.YtlhmecagijdinaaGreatDoor.nm
set_option linter.unusedVariables false
set_option linter.unusedSimpArgs false
namespace Go.Proofs.YtlhmecagijdinaaGreatDoor.nm
open Go.RowKit
end Go.Proofs.YtlhmecagijdinaaGreatDoor.nm
set_option linter.unusedVariables false
set_option linter.unusedSimpArgs false
namespace Go.Proofs.YtlhmecagijdinaaGreatDoor.nm
open Go.RowKit
end Go.Proofs.YtlhmecagijdinaaGreatDoor.nm
set_option linter.unusedVariables false
set_option linter.unusedSimpArgs false
namespace Go.Proofs.YtlhmecagijdinaaGreatDoor.nm
open Go.RowKit
end Go.Proofs.YtlhmecagijdinaaGreatDoor.nm
set_option linter.unusedVariables false
set_option linter.unusedSimpArgs false
namespace Go.Proofs.YtlhmecagijdinaaGreatDoor.nm
open Go.RowKit

/-- Two parts in blocks of their own. -/
def RelPQ (W1 : World) (A B : Obj) (x y : Value) (wx : World) : Prop := ∃ bp bq : Nat, x = .pointer (some ⟨bp, 0, none⟩) ∧ y = .pointer (some ⟨bq, 0, none⟩) ∧ Hid (wx.heap[bp]? = some A ∧ wx.heap[bq]? = some B ∧ Below W1.heap.size W1 wx)
theorem RelPQ.mk {W1 : World} {A B : Obj} {x y : Value} {wx : World} (bp bq : Nat) (h1 : x = .pointer (some ⟨bp, 0, none⟩)) (h2 : y = .pointer (some ⟨bq, 0, none⟩)) (h3 : wx.heap[bp]? = some A) (h4 : wx.heap[bq]? = some B) (h5 : Below W1.heap.size W1 wx) : RelPQ W1 A B x y wx := ⟨bp, bq, h1, h2, h3, h4, h5⟩
end Go.Proofs.YtlhmecagijdinaaGreatDoor.nm

set_option linter.unusedVariables false
set_option linter.unusedSimpArgs false
namespace Go.Proofs.YtlhmecagijdinaaGreatDoor.nm
open Go.RowKit cc be

theorem run_ixF {ρ : Operand → Value} {w : World} {o : Oper} {x y : Operand} {b n c k : Nat} (ho : o.op = .indexAddr 58 x y) (hx : ρ x = .slice (some ⟨b, 0, none⟩) n c) (hy : ρ y = .int .i64 k) (hk : (k : Int) < n) : (execOp ρ o).run Tryz.prog w = .ok (.value (.pointer (some ⟨b, k * 15, none⟩))) w := by
  have hk0 : ¬ (k : Int) < 0 := by omega
  have hk1 : 0 ≤ (k : Int) := by omega
  unfold execOp
  rw [ho]
  simp [go_sem, hx, hy, hk, hk0, hk1]
def RelFm (w : World) (n' : Nat) (gq : List Fo) (e5 : List Value) (i : Value) (wr : World) : Prop := ∃ (m : Nat) (ys zs : List Value), i = .int .i64 m ∧ m ≤ gq.length ∧ Hid (Bk wr (w.heap.size + 2) 30 (ys ++ zs) ∧ FoC (cutW (w.heap.size + 3) wr) n' (gq.take m) ys ∧ zs.length + m * 15 = gq.length * 15 ∧ Bk wr (w.heap.size + 1) 30 z15 ∧ Bk wr w.heap.size 26 e5 ∧ Below w.heap.size w wr)
theorem RelFm.mk {w : World} {n' : Nat} {gq : List Fo} {e5 : List Value} {i : Value} {wr : World} (m : Nat) (ys zs : List Value) (h1 : i = .int .i64 m) (h2 : m ≤ gq.length) (h3 : Bk wr (w.heap.size + 2) 30 (ys ++ zs)) (h4 : FoC (cutW (w.heap.size + 3) wr) n' (gq.take m) ys) (h5 : zs.length + m * 15 = gq.length * 15) (h6 : Bk wr (w.heap.size + 1) 30 z15) (h7 : Bk wr w.heap.size 26 e5) (h8 : Below w.heap.size w wr) : RelFm w n' gq e5 i wr := ⟨m, ys, zs, h1, h2, h3, h4, h5, h6, h7, h8⟩
/-- What is there behind the kids' forms. -/
structure FmS (w wr : World) (B L p : Nat) (gq : List Fo) : Prop where
  hB : B = w.heap.size + 2
  sl : FM (cutW B wr) (2 * p + 1) (.slice (some ⟨B, 0, none⟩) L L) gq
  gl : gq.length = L
  q1 : Bk wr (w.heap.size + 1) 30 z15
  bw : Below w.heap.size w wr
  hq : B < wr.heap.size
theorem FmS.us {w wr : World} {B L p : Nat} {gq : List Fo} (h : FmS w wr B L p gq) : ∀ f ∈ gq, Us f.us := fm_us h.sl
/-- A pick of the kids' forms. -/
theorem FmS.pick {w wr : World} {B L p : Nat} {gq : List Fo} (h : FmS w wr B L p gq) (hN : Nth w) (hT : TabD w) (mx : Bool) : Calls Tryz.prog 51 #[.bool mx, .slice (some ⟨B, 0, none⟩) L L] wr fun e w' => ∃ v, e = .returned (.agg (usL (pkF mx gq).us ++ [v]).toArray) ∧ Us (pkF mx gq).us ∧ PM (cutW B w') (2 * p + 1) v (pkF mx gq).ps ∧ Below wr.heap.size wr w' := by
  refine (pickE_any (2 * p + 1) mx gq _ (cutW B wr) wr (hN.low h.bw) (hT.low h.bw) h.sl (cut_sees B wr)).mono ?_
  rintro e w1 ⟨fu, rfl, hp, hb⟩
  have h1 := h.hq
  exact ⟨fu, rfl, pkF_us h.us, hp (cutW B w1) (cut_keep (Nat.le_refl _) hb.size (fun b _ hl => hb.block b hl)) (fun b hb1 hb2 => cut_blk w1 (by omega)), hb⟩
/-- Their sum. -/
theorem FmS.sum {w wr : World} {B L p : Nat} {gq : List Fo} (h : FmS w wr B L p gq) (hN : Nth w) (hpl : (ssP gq).length ≤ 1000000000) : Calls Tryz.prog 49 #[.slice (some ⟨B, 0, none⟩) L L] wr fun e w' => ∃ v, e = .returned (.agg (usL (ssU gq) ++ [v]).toArray) ∧ Us (ssU gq) ∧ PM (cutW B w') (2 * p) v (ssP gq) ∧ Below wr.heap.size wr w' := by
  refine (sumE_any (2 * p) gq _ (cutW B wr) wr (hN.low h.bw) (cut_sees B wr) h.sl hpl).mono ?_
  rintro e w5 ⟨v, rfl, B9, hB9, PV, B5⟩
  have h1 := h.hq
  exact ⟨v, rfl, ssU_us h.us, PO.pmS (PO.keep PV (w' := cutW B w5) (fun g hg hl => cut_blk w5 (by omega))) (cut_keep (Nat.le_refl _) B5.size (fun b hb hl => B5.block b hl)) hpl, B5⟩
/-- The first of them, times a fraction. -/
theorem FmS.first {w wr : World} {B L p : Nat} {gq : List Fo} (h : FmS w wr B L p gq) (i : Nat) (hi : i < L) : ∃ u, Us (foAt gq i).us ∧ wr.rangeAt B (i * 15) (usL (foAt gq i).us ++ [u]) ∧ PM (cutW B wr) (2 * p) u (foAt gq i).ps := by
  have hg := h.gl
  obtain ⟨f, hf⟩ : ∃ f, gq[i]? = some f := ⟨_, List.getElem?_eq_getElem (by omega)⟩
  obtain ⟨m, b, o, c, u, hm, hv, hb, hus, hr, hp⟩ := fm_rangeN h.sl hf
  obtain ⟨rfl, rfl⟩ : B = b ∧ 0 = o := by simp at hv; exact ⟨hv.1.1, hv.1.2⟩
  obtain rfl : 2 * p = m := by omega
  have e : foAt gq i = f := by unfold foAt; rw [List.getD_eq_getElem?_getD, hf]; rfl
  rw [e]
  refine ⟨u, hus, fun q v hq => ?_, hp⟩
  have := hr q v hq
  rw [Nat.zero_add] at this
  exact (cut_sees B wr).2 _ _ _ this
theorem FmS.scale {w wr : World} {B L p : Nat} {gq : List Fo} (h : FmS w wr B L p gq) (hN : Nth w) (hT : TabD w) (k : Int × Int) (hk : R64 k) (hL : 0 < L) (hsz : szF (foAt gq 0) ≤ 1000000000) (W : World) (hW : Below wr.heap.size wr W) (u : Value) (hu : PM (cutW B wr) (2 * p) u (foAt gq 0).ps) : Calls Tryz.prog 38 #[.agg (usL (foAt gq 0).us ++ [u]).toArray, .agg #[.int .i64 k.1, .int .i64 k.2]] W fun e w' => ∃ v, e = .returned (.agg (usL (scF k (2 * p) (foAt gq 0)).us ++ [v]).toArray) ∧ Us (scF k (2 * p) (foAt gq 0)).us ∧ PM (cutW B w') (2 * p) v (scF k (2 * p) (foAt gq 0)).ps ∧ Below W.heap.size W w' := by
  obtain ⟨_, hus, -, -⟩ := h.first 0 hL
  have hz : Fo.mk (foAt gq 0).us (foAt gq 0).ps = foAt gq 0 := by cases foAt gq 0; rfl
  have q := scaling_all k hk (2 * p) (foAt gq 0).us (foAt gq 0).ps u W (hN.low (bto h.bw hW)) (hT.low (bto h.bw hW)) hus (PM.low hW (pm_sees (cut_sees B wr) hu)) (by rw [hz]; exact hsz)
  rw [hz] at q
  refine q.mono ?_
  rintro e w' ⟨v, rfl, h1, h2, h3⟩
  have s1 := h.hq
  have s2 := hW.size
  exact ⟨v, rfl, h1, pm_sees (cut_keep (by omega) (Nat.le_refl _) (fun _ _ _ => rfl)) h2, h3⟩
theorem pk2_us {mx : Bool} {f g : Fo} (hf : Us f.us) (hg : Us g.us) : Us (pkF mx [f, g]).us := pkF_us fun x hx => by
  simp at hx
  rcases hx with rfl | rfl
  · exact hf
  · exact hg
/-- What stands behind each of a clamp's last operations. -/
def ClT (w wr : World) (B n : Nat) (A0 A1 A2 : List Value) (I O : Fo) : Nat → Value → World → Prop
  | 0, v, W => Below wr.heap.size wr W
  | 1, v, W => Below wr.heap.size wr W ∧ ∃ g, v = .slice (some ⟨g, 0, none⟩) 2 2 ∧ wr.heap.size ≤ g ∧ W.heap[g]? = some (.cells (A1 ++ A2).toArray 30)
  | 2, v, W => Below wr.heap.size wr W ∧ ∃ fu, v = .agg (usL I.us ++ [fu]).toArray ∧ PM (cutW B W) (n + 1) fu I.ps
  | 3, v, W => Below wr.heap.size wr W ∧ ∃ g fu, v = .slice (some ⟨g, 0, none⟩) 2 2 ∧ wr.heap.size ≤ g ∧ W.heap[g]? = some (.cells (A0 ++ (usL I.us ++ [fu])).toArray 30) ∧ PM (cutW B W) (n + 1) fu I.ps
  | 4, v, W => Below wr.heap.size wr W ∧ ∃ fu, v = .agg (usL O.us ++ [fu]).toArray ∧ PM (cutW B W) (n + 2) fu O.ps
  | _, v, W => ∃ W5 fu, W = W5.setCells (w.heap.size + 1) 0 (usL O.us ++ [fu]) ∧ Below wr.heap.size wr W5 ∧ PM (cutW B W5) (n + 2) fu O.ps
theorem range_low {wr W : World} {b o : Nat} {A : List Value} (h : Below wr.heap.size wr W) (hb : b < wr.heap.size) (hr : wr.rangeAt b o A) : W.rangeAt b o A := fun q v hq => (h.cell (p := ⟨b, o + q, none⟩) hb).trans (hr q v hq)
theorem ClT.rg {w wr : World} {B n : Nat} {A0 A1 A2 : List Value} {I O : Fo} {q : Nat} {v : Value} {W : World} (h : ClT w wr B n A0 A1 A2 I O q v W) {b o : Nat} {A : List Value} (hb : b < wr.heap.size) (hne : b ≠ w.heap.size + 1) (hr : wr.rangeAt b o A) : W.rangeAt b o A := by
  match q, h with
  | 0, h => exact range_low h hb hr
  | 1, h => exact range_low h.1 hb hr
  | 2, h => exact range_low h.1 hb hr
  | 3, h => exact range_low h.1 hb hr
  | 4, h => exact range_low h.1 hb hr
  | q + 5, h =>
    obtain ⟨W5, fu, rfl, h5, -⟩ := h
    exact fun j x hj => (cell_blk (setCells_far b (w.heap.size + 1) 0 hne _ _ _) _).trans (range_low h5 hb hr j x hj)
def enC (b m c : Nat) (A0 A1 A2 : List Value) : Nat → Option Value
  | 0 => some (.slice (some ⟨b, 0, none⟩) m c)
  | 1 => some (.pointer (some ⟨b, 0 * 15, none⟩))
  | 2 => some (.agg A0.toArray)
  | 3 => some (.slice (some ⟨b, 0, none⟩) m c)
  | 4 => some (.pointer (some ⟨b, 1 * 15, none⟩))
  | 5 => some (.agg A1.toArray)
  | 6 => some (.slice (some ⟨b, 0, none⟩) m c)
  | 7 => some (.pointer (some ⟨b, 2 * 15, none⟩))
  | 8 => some (.agg A2.toArray)
  | _ => none
def tlC (q : Nat) : Nat := q + 9
end Go.Proofs.YtlhmecagijdinaaGreatDoor.nm
set_option linter.unusedVariables false
set_option linter.unusedSimpArgs false
namespace Go.Proofs.YtlhmecagijdinaaGreatDoor.nm
open Go.RowKit cc

end Go.Proofs.YtlhmecagijdinaaGreatDoor.nm

set_option linter.unusedVariables false
set_option linter.unusedSimpArgs false
namespace Go.Proofs.YtlhmecagijdinaaGreatDoor.nm
open Go.RowKit cc be

theorem numberR_any (x : Ex) (j : Nat) (u : Value) (w : World) (hx : OkX x) (h1 : exM x j = true) (h2 : kdE x = 1) (hu : EM w u x.ks) : Calls Tryz.prog 31 #[exV x u] w fun e w' => e = .returned (ratV (rkE z0R x)) ∧ Below w.heap.size w w' := by
  have C2 := hide (fun (W : World) (h : Below w.heap.size w W) => reckon_all z0R c00 rfl (szE x) x j u W (Nat.le_refl _) hx h1 (.inl h2) (hu.low h))
  rw [show cxV c00 = .agg #[.int .i64 0, .int .i64 0, .int .i64 0, .int .i64 0, .int .i64 0, .int .i64 0, .int .i64 0, .int .i64 0, .int .i64 0, .int .i64 0, .int .i64 0, .int .i64 0] from rfl] at C2
  obtain ⟨a, c, rfl, hl9⟩ := hu.shape
  obtain ⟨W1, hW1⟩ : ∃ W1, (w.alloc (.cells #[.int .i64 x.k, .int .i64 x.n, .int .i64 x.d, .int .i64 x.u, .slice a x.ks.length c] 26)).alloc (.cells #[.int .i64 0, .int .i64 0] 23) = W1 := ⟨_, rfl⟩
  have B0 := hide (show Below w.heap.size w W1 by rw [← hW1]; exact bplus (bplus (Below.refl _ _) _) _)
  have P0 := hide (show Bk W1 w.heap.size 26 [.int .i64 x.k, .int .i64 x.n, .int .i64 x.d, .int .i64 x.u, .slice a x.ks.length c] by rw [← hW1]; exact (two_new w _ _).1)
  have KR := hide (fun (W : World) (h : Below W1.heap.size W1 W) => show Bk W (w.heap.size + 1) 23 [.int .i64 0, .int .i64 0] from Bk.up (show Bk W1 (w.heap.size + 1) 23 _ by rw [← hW1]; exact (two_new w _ _).2) h)
  have HW1 := hide hW1
  clear hW1
  unfold exV at *
  generalize x.k = xk at *
  generalize x.n = xn at *
  generalize x.d = xd at *
  generalize x.u = xu at *
  generalize x.ks.length = xl at *
  generalize rkE z0R x = r at *
  unfold ratV at *
  obtain ⟨a0, a1, a2, a3, a4⟩ := bxk_5m P0.out
  clear hu hx h1 h2
  go_enter Tryz.func31, Tryz.ntmps31
  go_upto_region 1 with fail
  rw [HW1.out]
  clear HW1
  go_wp2_with (go_at_call 53; refine (C2.out _ B0.out).mono ?_; rintro e w5 ⟨rfl, B5⟩; have QR := KR.out _ B5; have t0 := Bk.cell QR 0; have t1 := Bk.cell QR 1; simp at t0 t1; have v0 := Bk.fz QR 0; have v1 := Bk.fz QR 1; clear QR)
  exact bodyPost_ret (v := .agg #[.int .i64 r.1, .int .i64 r.2]) (by simp [results, Tryz.results31, go_sem, *]) rfl ⟨rfl, ((bto B0.out B5).setCell (by simp) _).setCell (by simp) _⟩
/-- What the reference's Form tells lies in new memory. -/
def FrC (N : Nat) : Prop := ∀ (x : Ex) (j : Nat) (u : Value) (w : World), szE x ≤ N → szE x ≤ 200000000 → OkX x → exM x j = true → kdE x = 2 → EM w u x.ks → Calls Tryz.prog 12 #[exV x u] w fun e w' => ∃ v, e = .returned (foV (fmE x j).us v) ∧ Us (fmE x j).us ∧ PM (cutW w.heap.size w') (2 * j) v (fmE x j).ps ∧ Below w.heap.size w w'
/-- A slice of one form. -/
theorem run_bs1F {ρ : Operand → Value} {w : World} {o : Oper} {x : Operand} {A : List Value} (ho : o.op = .buildSlice 58 1 #[(0, x)]) (hx : ρ x = .agg A.toArray) (hA : A.length = 15) :
    (execOp ρ o).run Tryz.prog w = .ok (.value (.slice (some ⟨w.heap.size, 0, none⟩) 1 1)) (w.alloc (.cells A.toArray 30)) := by
  obtain ⟨ie, hie, hz0, hz1, hz2⟩ := info_parts infoFo
  have hf : Instr.fill (fun i => some (i * ie.size, ie.size)) ((Array.range (1 * ie.size)).map ((Value.agg #[.int .i64 0, .int .i64 0, .int .i64 0, .int .i64 0, .int .i64 0, .int .i64 0, .int .i64 0, .int .i64 0, .int .i64 0, .int .i64 0, .int .i64 0, .int .i64 0, .int .i64 0, .int .i64 0, .slice none 0 0]).cells[· % (Value.agg #[.int .i64 0, .int .i64 0, .int .i64 0, .int .i64 0, .int .i64 0, .int .i64 0, .int .i64 0, .int .i64 0, .int .i64 0, .int .i64 0, .int .i64 0, .int .i64 0, .int .i64 0, .int .i64 0, .slice none 0 0]).cells.size]!)) (#[(0, x)].map fun (i, x) => (i, ρ x)).toList = some A.toArray := by
    rw [hz1, show (#[((0 : Nat), x)].map fun (i, x) => (i, ρ x)).toList = [(0, .agg A.toArray)] by simp [hx]]
    obtain ⟨a0, a1, a2, a3, a4, a5, a6, a7, a8, a9, b0, b1, b2, b3, b4, rfl⟩ := list15 hA
    kernel_rfl
  unfold execOp
  rw [ho]
  simp only [Sem.run_bind, run_buildSlice w 58 30 1 _ _ ie _ Tryz.underlying58 hie hz0 (by rw [hz1]; decide) (by rw [hz1]; decide) hf, Result.andThen_ok]
  rfl
theorem wpList_bs1F {ops : Array Oper} {rest : List Oper} {o : Oper} {a : Act} {w : World} {Q : Exit → Act → World → Prop} (hgd : o.guard = none) (x : Operand) (ho : o.op = .buildSlice 58 1 #[(0, x)]) (A : List Value) (hx : a.eval x = .agg A.toArray) (hA : A.length = 15)
    (h : wpList Tryz.prog ops Q rest (a.put o.dst (.slice (some ⟨w.heap.size, 0, none⟩) 1 1)) (w.alloc (.cells A.toArray 30))) : wpList Tryz.prog ops Q (o :: rest) a w :=
  wpList_plain hgd fun _ hK => by
    unfold Oper.wp
    rw [run_bs1F ho hx hA]
    exact hK _ _ h
theorem row2_blk {W : World} {g : Nat} {r s : Int × Int} {T : TypeId} (h : W.heap[g]? = some (.cells #[.int .i64 r.1, .int .i64 r.2, .int .i64 s.1, .int .i64 s.2] T)) : wk.Row W (.slice (some ⟨g, 0, none⟩) 2 2) [r, s] := by
  refine .inr ⟨g, 0, 2, rfl, (Array.getElem?_eq_some_iff.1 h).1, by show 2 ≤ 9223372036854775807; decide, fun i hi => ?_⟩
  rcases (show i = 0 ∨ i = 1 by simp at hi; omega) with rfl | rfl <;> (refine ⟨?_, ?_⟩ <;> (rw [row_blk h]; rfl))
structure FrS (w wr : World) (B g L lc p : Nat) (gq : List Fo) : Prop where
  hB : w.heap.size + 2 ≤ B
  sl : FM (cutW B wr) (2 * p + 1) (.slice (some ⟨g, 0, none⟩) L lc) gq
  gl : gq.length = L
  bw : Below w.heap.size w wr
  hg : B ≤ g
  hq : g < wr.heap.size
theorem FrS.us {w wr : World} {B g L lc p : Nat} {gq : List Fo} (h : FrS w wr B g L lc p gq) : ∀ f ∈ gq, Us f.us := fm_us h.sl
theorem FrS.pick {w wr : World} {B g L lc p : Nat} {gq : List Fo} (h : FrS w wr B g L lc p gq) (mx : Bool) : Calls Tryz.prog 33 #[.bool mx, .slice (some ⟨g, 0, none⟩) L lc] wr fun e w' => ∃ v, e = .returned (.agg (usL (pkF mx gq).us ++ [v]).toArray) ∧ Us (pkF mx gq).us ∧ PM (cutW B w') (2 * p + 1) v (pkF mx gq).ps ∧ Below wr.heap.size wr w' := by
  refine (pickRE_any (2 * p + 1) mx gq _ (cutW B wr) wr h.sl (cut_sees B wr)).mono ?_
  rintro e w1 ⟨fu, rfl, hp, hb⟩
  have h1 := h.hq
  have h2 := h.hg
  exact ⟨fu, rfl, pkF_us h.us, hp (cutW B w1) (cut_keep (Nat.le_refl _) hb.size (fun b _ hl => hb.block b hl)) (fun b hb1 hb2 => cut_blk w1 (by omega)), hb⟩
theorem FrS.sum {w wr : World} {B g L lc p : Nat} {gq : List Fo} (h : FrS w wr B g L lc p gq) (hpl : (ssP gq).length ≤ 1000000000) (h0 : 0 < L) (hmay : ∀ f ∈ gq, mayU f.us = true) : Calls Tryz.prog 22 #[.slice (some ⟨g, 0, none⟩) L lc] wr fun e w' => ∃ v, e = .returned (.agg (usL (ssU gq) ++ [v]).toArray) ∧ Us (ssU gq) ∧ PM (cutW B w') (2 * p) v (ssP gq) ∧ Below wr.heap.size wr w' := by
  have hra : raU gq = ssU gq := by
    have hg := h.gl
    have hu := h.us
    cases gq with
    | nil => simp at hg; omega
    | cons x r => exact ra_sc (hu x (by simp)) (hmay x (by simp))
  refine (addRF_any (2 * p) gq _ (cutW B wr) wr (cut_sees B wr) h.sl hpl).mono ?_
  rintro e w5 ⟨v, rfl, B9, hB9, PV, B5⟩
  have h1 := h.hq
  have h2 := h.hg
  rw [hra]
  exact ⟨v, rfl, ssU_us h.us, PO.pmS (PO.keep PV (w' := cutW B w5) (fun g hg hl => cut_blk w5 (by omega))) (cut_keep (Nat.le_refl _) B5.size (fun b hb hl => B5.block b hl)) hpl, B5⟩
theorem FrS.first {w wr : World} {B g L lc p : Nat} {gq : List Fo} (h : FrS w wr B g L lc p gq) (i : Nat) (hi : i < L) : ∃ u, Us (foAt gq i).us ∧ wr.rangeAt g (i * 15) (usL (foAt gq i).us ++ [u]) ∧ PM (cutW B wr) (2 * p) u (foAt gq i).ps := by
  have hg := h.gl
  obtain ⟨f, hf⟩ : ∃ f, gq[i]? = some f := ⟨_, List.getElem?_eq_getElem (by omega)⟩
  obtain ⟨m, b, o, c, u, hm, hv, hb, hus, hr, hp⟩ := fm_rangeN h.sl hf
  obtain ⟨rfl, rfl⟩ : g = b ∧ 0 = o := by simp at hv; exact ⟨hv.1.1, hv.1.2⟩
  obtain rfl : 2 * p = m := by omega
  have e : foAt gq i = f := by unfold foAt; rw [List.getD_eq_getElem?_getD, hf]; rfl
  rw [e]
  refine ⟨u, hus, fun q v hq => ?_, hp⟩
  have := hr q v hq
  rw [Nat.zero_add] at this
  exact (cut_sees B wr).2 _ _ _ this
theorem FrS.scale {w wr : World} {B g L lc p : Nat} {gq : List Fo} (h : FrS w wr B g L lc p gq) (k : Int × Int) (hk : R64 k) (hm : mayB k.1 k.2 = true) (hL : 0 < L) (hsz : szF (foAt gq 0) ≤ 1000000000) (W : World) (hW : Below wr.heap.size wr W) (u : Value) (hu : PM (cutW B wr) (2 * p) u (foAt gq 0).ps) : Calls Tryz.prog 15 #[.agg (usL (foAt gq 0).us ++ [u]).toArray, .agg #[.int .i64 k.1, .int .i64 k.2]] W fun e w' => ∃ v, e = .returned (.agg (usL (scF k (2 * p) (foAt gq 0)).us ++ [v]).toArray) ∧ Us (scF k (2 * p) (foAt gq 0)).us ∧ PM (cutW B w') (2 * p) v (scF k (2 * p) (foAt gq 0)).ps ∧ Below W.heap.size W w' := by
  obtain ⟨_, hus, -, -⟩ := h.first 0 hL
  have hz : Fo.mk (foAt gq 0).us (foAt gq 0).ps = foAt gq 0 := by cases foAt gq 0; rfl
  have hpm := PM.low hW (pm_sees (cut_sees B wr) hu)
  have q := scaleR_all (2 * p) k hk (foAt gq 0).us (foAt gq 0).ps u W hus hpm (by rw [hz]; exact hsz)
  have hU := (scG_us k (2 * p) hus hpm).2
  rw [show ctR k = k by unfold ctR; rw [if_pos hm]] at q
  rw [hz] at q hU
  refine q.mono ?_
  rintro e w' ⟨v, rfl, h2, h3⟩
  have s1 := h.hq
  have s2 := hW.size
  have s3 := h.hg
  exact ⟨v, rfl, hU, pm_sees (cut_keep (by omega) (Nat.le_refl _) (fun _ _ _ => rfl)) h2, h3⟩
/-- A pick of two forms that lie in a row of their own. -/
theorem pick2R_any {B n b : Nat} {f g : Fo} {u v : Value} {W : World} (mx : Bool) (hf : Us f.us) (hg : Us g.us) (pf : PM (cutW B W) n u f.ps) (pg : PM (cutW B W) n v g.ps) (hB : B ≤ b) (hb : W.heap[b]? = some (.cells ((usL f.us ++ [u]) ++ (usL g.us ++ [v])).toArray 30)) :
    Calls Tryz.prog 33 #[.bool mx, .slice (some ⟨b, 0, none⟩) 2 2] W fun e w' => ∃ x, e = .returned (.agg (usL (pkF mx [f, g]).us ++ [x]).toArray) ∧ PM (cutW B w') (n + 1) x (pkF mx [f, g]).ps ∧ Below W.heap.size W w' := by
  have fc : FoC (cutW B W) n [f, g] ((usL f.us ++ [u]) ++ (usL g.us ++ [v])) := by
    have := FoC.cons f [g] _ u hf pf (FoC.cons g [] [] v hg pg .nil)
    rwa [List.append_nil] at this
  have fm := foc_fm fc (show Bk (cutW B W) b 30 _ from (cut_blk W hB).trans hb) (by show 2 ≤ 1000000000; decide)
  have hl : b < W.heap.size := (Array.getElem?_eq_some_iff.1 hb).1
  refine (pickRE_any (n + 1) mx [f, g] _ (cutW B W) W fm (cut_sees B W)).mono ?_
  rintro e w1 ⟨fu, rfl, hp, hbl⟩
  exact ⟨fu, rfl, hp (cutW B w1) (cut_keep (Nat.le_refl _) hbl.size (fun b _ hl => hbl.block b hl)) (fun b hb1 hb2 => cut_blk w1 (by omega)), hbl⟩
theorem fmEs_le (l : List Ex) (j : Nat) : (fmEs l j).length ≤ l.length := by
  rw [fmEs_len]
  have := cnK_le (l.map kdE) 2
  rwa [List.length_map] at this
def RelFr (w : World) (kb p : Nat) (ks : List Ex) (e5 : List Value) (i lv fv : Value) (wr : World) : Prop := ∃ (m : Nat) (la : Option Addr) (lc : Nat), i = .int .i64 m ∧ lv = .slice la (fmEs (ks.take m) p).length lc ∧ fv = .bool (nmE (ks.take m)).isEmpty ∧ m ≤ ks.length ∧ Hid (Bk wr kb 23 [.int .i64 (wk.mulAll (nmE (ks.take m))).1, .int .i64 (wk.mulAll (nmE (ks.take m))).2] ∧ FH (w.heap.size + 4) (2 * p) wr lv (fmEs (ks.take m) p) ∧ Bk wr (w.heap.size + 1) 30 z15 ∧ Bk wr w.heap.size 26 e5 ∧ Below w.heap.size w wr)
theorem RelFr.mk {w : World} {kb p : Nat} {ks : List Ex} {e5 : List Value} {i lv fv : Value} {wr : World} (m : Nat) (la : Option Addr) (lc : Nat) (h1 : i = .int .i64 m) (h2 : lv = .slice la (fmEs (ks.take m) p).length lc) (h3 : fv = .bool (nmE (ks.take m)).isEmpty) (h4 : m ≤ ks.length) (h5 : Bk wr kb 23 [.int .i64 (wk.mulAll (nmE (ks.take m))).1, .int .i64 (wk.mulAll (nmE (ks.take m))).2]) (h6 : FH (w.heap.size + 4) (2 * p) wr lv (fmEs (ks.take m) p)) (h7 : Bk wr (w.heap.size + 1) 30 z15) (h8 : Bk wr w.heap.size 26 e5) (h9 : Below w.heap.size w wr) : RelFr w kb p ks e5 i lv fv wr := ⟨m, la, lc, h1, h2, h3, h4, h5, h6, h7, h8, h9⟩
def kdR20 (g m c : Nat) (A : List Value) (r : Int × Int) : Nat → Kd
  | 0 => .val (.slice (some ⟨g, 0, none⟩) m c)
  | 1 => .val (.pointer (some ⟨g, 0 * 15, none⟩))
  | 2 => .val (.agg A.toArray)
  | 3 => .val (.agg #[.int .i64 r.1, .int .i64 r.2])
  | _ => .val undef
/-- A product's next number: what is known ahead. -/
def enM (kv : Int × Int) (e5 : List Value) : Nat → Option Value
  | 0 => some (.agg #[.int .i64 kv.1, .int .i64 kv.2])
  | 1 => some (.agg e5.toArray)
  | _ => none
def tlM (q : Nat) : Nat := q + 2
def MuT (w1 : World) (kb : Nat) (kv ry rm : Int × Int) : Nat → Value → World → Prop
  | 0, v, W => Below w1.heap.size w1 W
  | 1, v, W => Below w1.heap.size w1 W ∧ v = .agg #[.int .i64 ry.1, .int .i64 ry.2]
  | 2, v, W => Below w1.heap.size w1 W ∧ ∃ g, v = .slice (some ⟨g, 0, none⟩) 2 2 ∧ W.heap[g]? = some (.cells #[.int .i64 kv.1, .int .i64 kv.2, .int .i64 ry.1, .int .i64 ry.2] 23)
  | 3, v, W => Below w1.heap.size w1 W ∧ v = .agg #[.int .i64 rm.1, .int .i64 rm.2]
  | _, v, W => ∃ W6, W = (W6.setCell ⟨kb, 0, none⟩ (.int .i64 rm.1)).setCell ⟨kb, 1, none⟩ (.int .i64 rm.2) ∧ Below w1.heap.size w1 W6
theorem MuT.low {w1 : World} {kb : Nat} {kv ry rm : Int × Int} {q : Nat} {v : Value} {W : World} (h : MuT w1 kb kv ry rm q v W) (hq : q < 4) : Below w1.heap.size w1 W := by
  match q, h with
  | 0, h => exact h
  | 1, h => exact h.1
  | 2, h => exact h.1
  | 3, h => exact h.1
  | q + 4, h => omega
set_option maxRecDepth 100000 in
set_option maxHeartbeats 16000000 in
theorem formR_step (N : Nat) (IH : FrC N) : FrC (N + 1) := by
  intro x j u w hN hsz hx hm hk hu
  obtain ⟨a, c, rfl, hl9⟩ := hu.shape
  have KX := hx.kids
  have XO := hx.ok
  have KK := fun h => kids_kind hm h (by omega)
  have KL := fun h => kids_len hm h
  have KM := fun h => exMs_mem (exM_kids hm h).1
  have FSZ := fm_sz _ x j (Nat.le_refl _) hm hk
  have K0 : x.k = 1 → x.ks = [] := fun h => by
    rw [exM_eq, Bool.and_eq_true, if_pos h, Bool.and_eq_true] at hm
    simpa using hm.2.2
  obtain ⟨p, rfl⟩ : ∃ p, j = p + 1 := by
    rw [exM_eq, Bool.and_eq_true] at hm
    have := of_decide_eq_true hm.1
    exact ⟨j - 1, by omega⟩
  have hz1 := szE_ks x
  obtain ⟨k, n, d, q, ks⟩ := x
  simp only [Ex.k, Ex.n, Ex.d, Ex.u, Ex.ks, Nat.add_sub_cancel] at hN hl9 hu KX KK KL KM hz1 K0
  have E := fmE_mk k n d q ks (p + 1)
  rw [Nat.add_sub_cancel] at E
  have d1 : ∀ y ∈ ks, kdE y = 1 ∨ kdE y = 2 := fun y hy => by
    by_cases k1 : k = 1
    · rw [K0 k1] at hy; cases hy
    · exact (KK k1).1 y hy
  have dM : ∀ y ∈ ks, exM y p = true := fun y hy => by
    by_cases k1 : k = 1
    · rw [K0 k1] at hy; cases hy
    · exact KM k1 y hy
  have hkk : k = 1 ∨ (k = 2 ∨ k = 3 ∨ k = 4 ∨ k = 6 ∨ k = 7 ∨ (k = 8 ∧ (fmEs ks p).length = 3)) ∧ 0 < (fmEs ks p).length := by
    by_cases k1 : k = 1
    · exact .inl k1
    · right
      obtain ⟨c1, c2, c3⟩ := KL k1
      obtain ⟨e1, e2, e3, e4⟩ := KK k1
      have hcnt : ¬ k = 4 → (fmEs ks p).length = ks.length := fun k4 => by
        rw [fmEs_all p (fun y hy => (e2 k4 y hy).trans hk), List.length_map]
      have h5 := e4 hk
      have hc4 : k = 4 → (fmEs ks p).length = 1 := fun k4 => by rw [fmEs_len]; exact (e3 k4).2 hk
      rcases c1 with c | c | c | c | c | c | c
      · exact ⟨.inl c, by rw [hcnt (by omega)]; omega⟩
      · exact ⟨.inr (.inl c), by rw [hcnt (by omega)]; omega⟩
      · exact ⟨.inr (.inr (.inl c)), by rw [hc4 c]; omega⟩
      · exact absurd c h5
      · exact ⟨.inr (.inr (.inr (.inl c))), by rw [hcnt (by omega)]; omega⟩
      · exact ⟨.inr (.inr (.inr (.inr (.inl c)))), by rw [hcnt (by omega)]; omega⟩
      · exact ⟨.inr (.inr (.inr (.inr (.inr ⟨c, by rw [hcnt (by omega)]; exact c3 c⟩)))), by rw [hcnt (by omega)]; omega⟩
  have GZ : ∀ i, i < (fmEs ks p).length → szF (foAt (fmEs ks p) i) ≤ 1000000000 := fun i hi => by
    have hmem : foAt (fmEs ks p) i ∈ fmEs ks p := by unfold foAt; rw [List.getD_eq_getElem?_getD, List.getElem?_eq_getElem hi]; exact List.getElem_mem hi
    obtain ⟨y, hy, hy2, e⟩ := fmEs_mem hmem
    rw [e]
    obtain ⟨i2, hi2⟩ := List.mem_iff_getElem?.1 hy
    have h1 := fm_sz _ y p (Nat.le_refl _) (dM y hy) hy2
    have h2 := szEs_at hi2
    omega
  have GM : ∀ f ∈ fmEs ks p, mayU f.us = true := fun f hf => by
    obtain ⟨y, hy, hy2, e⟩ := fmEs_mem hf
    rw [e]
    exact fm_may _ y p (Nat.le_refl _)
  have FPL : (fmE (.mk k n d q ks) (p + 1)).ps.length ≤ 1000000000 := by have := ps_le (fmE (.mk k n d q ks) (p + 1)); omega
  show Calls Tryz.prog 12 #[.agg #[.int .i64 k, .int .i64 n, .int .i64 d, .int .i64 q, .slice a ks.length c]] w _
  have CK := hide (fun (i : Nat) (y : Ex) (u : Value) (W : World) (hy : ks[i]? = some y) (hW : Below w.heap.size w W) (hu : EM w u y.ks) => kindR_all N y p u W (by have := szEs_at hy; omega) (dM y (List.mem_of_getElem? hy)) (hu.low hW))
  have CI := hide (fun (i : Nat) (y : Ex) (u : Value) (W : World) (hy : ks[i]? = some y) (hW : Below w.heap.size w W) (hu : EM w u y.ks) (h2 : kdE y = 2) => IH y p u W (by have := szEs_at hy; omega) (by have := szEs_at hy; omega) (KX y (List.mem_of_getElem? hy)) (dM y (List.mem_of_getElem? hy)) h2 (hu.low hW))
  have CN := hide (fun (i : Nat) (y : Ex) (u : Value) (W : World) (hy : ks[i]? = some y) (hW : Below w.heap.size w W) (hu : EM w u y.ks) (h2 : kdE y = 1) => numberR_any y p u W (KX y (List.mem_of_getElem? hy)) (dM y (List.mem_of_getElem? hy)) h2 (hu.low hW))
  have CR := hide (fun (i : Nat) (y : Ex) (hy : ks[i]? = some y) => And.intro (rk_64 z0R (KX y (List.mem_of_getElem? hy))) (rk_may z0R (KX y (List.mem_of_getElem? hy)) (dM y (List.mem_of_getElem? hy))))
  obtain ⟨FX, hFX⟩ : ∃ FX, fmE (.mk k n d q ks) (p + 1) = FX := ⟨_, rfl⟩
  rw [hFX] at E FPL ⊢
  have HE := hide E
  have HV := hide hu
  have HGZ := hide GZ
  have HGM := hide GM
  have HPL := hide FPL
  have KD := hide d1
  have HKK := hide hkk
  have HXO := hide XO
  clear E hFX d1 dM KX XO KK KL KM FSZ hu hx hm hk hN hsz IH GZ GM FPL hz1 hkk K0
  obtain ⟨W1, hW1⟩ : ∃ W1, (w.alloc (.cells #[.int .i64 k, .int .i64 n, .int .i64 d, .int .i64 q, .slice a ks.length c] 26)).alloc (.cells #[.int .i64 0, .int .i64 0, .int .i64 0, .int .i64 0, .int .i64 0, .int .i64 0, .int .i64 0, .int .i64 0, .int .i64 0, .int .i64 0, .int .i64 0, .int .i64 0, .int .i64 0, .int .i64 0, .slice none 0 0] 30) = W1 := ⟨_, rfl⟩
  have S1 : W1.heap.size = w.heap.size + 2 := by rw [← hW1]; simp
  have B0 := hide (show Below w.heap.size w W1 by rw [← hW1]; exact bplus (bplus (Below.refl _ _) _) _)
  have P0 := hide (show Bk W1 w.heap.size 26 [.int .i64 k, .int .i64 n, .int .i64 d, .int .i64 q, .slice a ks.length c] by rw [← hW1]; exact (two_new w _ _).1)
  have P1 := hide (show Bk W1 (w.heap.size + 1) 30 z15 by rw [← hW1]; exact (two_new w _ _).2)
  have HW1 := hide hW1
  clear hW1
  go_enter Tryz.func12, Tryz.ntmps12
  go_upto_region 1 with fail
  rw [HW1.out]
  clear HW1
  go_upto_region 3 with (go_at_call 30; refine (wk.int_any 1 _).mono ?_; rintro e wi ⟨rfl, cc, rfl⟩)
  obtain ⟨W2, hW2⟩ : ∃ W2, (W1.alloc (.cells cc 23)).alloc (.cells #[.int .i64 1, .int .i64 1] 23) = W2 := ⟨_, rfl⟩
  have J0 := hide (show Bk W2 w.heap.size 26 [.int .i64 k, .int .i64 n, .int .i64 d, .int .i64 q, .slice a ks.length c] by rw [← hW2]; exact Bk.more (Bk.more P0.out _) _)
  have J1 := hide (show Bk W2 (w.heap.size + 1) 30 z15 by rw [← hW2]; exact Bk.more (Bk.more P1.out _) _)
  have J2 := hide (show Bk W2 (w.heap.size + 2 + 1) 23 [.int .i64 1, .int .i64 1] by
    rw [← hW2]
    have := heap_alloc_new (W1.alloc (.cells cc 23)) (.cells #[.int .i64 1, .int .i64 1] 23)
    rw [show (W1.alloc (.cells cc 23)).heap.size = w.heap.size + 2 + 1 by simp [S1]] at this
    exact this)
  have JB := hide (show Below w.heap.size w W2 by rw [← hW2]; exact bplus (bplus B0.out _) _)
  (try rw [hW2])
  obtain ⟨kb, hkb⟩ : ∃ kb, w.heap.size + 2 + 1 = kb := ⟨_, rfl⟩
  have hkb1 : w.heap.size + 3 ≤ kb := by omega
  have hkb2 : kb + 1 ≤ w.heap.size + 4 := by omega
  rw [hkb] at J2
  (try rw [hkb])
  clear hW2 P0 P1 B0 hkb
  have a4 := Bk.cell J0.out 4
  simp at a4
  go_wp2_with fail
  go_loopw [12, 3, 5] (fun i lv fv wr => RelFr w kb p ks [.int .i64 k, .int .i64 n, .int .i64 d, .int .i64 q, .slice a ks.length c] i lv fv wr) (fun i _ _ _ => ks.length - (intOf i).toNat)
  case atStart => exact .mk 0 none 0 rfl rfl rfl (by omega) J2.out (by rw [List.take_zero, fmEs_nil]; exact FO.nil _ _ _ _) J1.out J0.out JB.out
  case round =>
    obtain ⟨m, la, lc, rfl, rfl, rfl, hmn, R⟩ := hrel
    have Q3 := hide R.out.1
    have QF := hide R.out.2.1
    have Q1 := hide R.out.2.2.1
    have Q0 := hide R.out.2.2.2.1
    have BW := hide R.out.2.2.2.2
    clear R J0 J1 J2 JB a4 S1
    have hq4 : w.heap.size + 4 ≤ wr.heap.size := by have := Bk.lt Q3.out; omega
    by_cases hlt : m < ks.length
    · have hlt' : (m : Int) < ks.length := by omega
      obtain ⟨y, hy⟩ : ∃ y, ks[m]? = some y := ⟨_, List.getElem?_eq_getElem hlt⟩
      obtain ⟨b, o, c', u5, hv', hb, -, -, yo, t5, hu5, hku⟩ := HV.out.at hy
      obtain ⟨rfl, rfl⟩ : a = some ⟨b, o, none⟩ ∧ c = c' := by cases hv'; exact ⟨rfl, rfl⟩
      have NS := hide (nmE_step hy)
      have FS := hide (fmEs_step hy p)
      have YK := KD.out y (List.mem_of_getElem? hy)
      have CK2 := hide (fun (W : World) (h : Below w.heap.size w W) => CK.out m y u5 W hy h hku)
      have CF2 := hide (fun (W : World) (h : Below w.heap.size w W) => CI.out m y u5 W hy h hku)
      have CN2 := hide (fun (W : World) (h : Below w.heap.size w W) => CN.out m y u5 W hy h hku)
      have CR2 := hide (CR.out m y hy)
      have OL := fmEs_le (ks.take m) p
      rw [List.length_take] at OL
      obtain ⟨ua, uc, rfl, -⟩ := hku.shape
      obtain ⟨c0, c1, c2, c3⟩ := t5.below BW.out hb
      have c4 := (BW.out.cell (p := ⟨b, o + m * 5 + 4, none⟩) hb).trans hu5
      have hbw : b < wr.heap.size := by have := BW.out.size; omega
      have nb : b ≠ wr.heap.size := by omega
      unfold exV at CK2 CF2 CN2
      clear hy t5 hu5 hku yo
      (try clear hv')
      generalize fmE y p = fy at *
      generalize rkE z0R y = ry at *
      generalize y.k = yk at *
      generalize y.n = yn at *
      generalize y.d = yd at *
      generalize y.u = yu at *
      generalize y.ks.length = yl at *
      obtain ⟨W5, hW5⟩ : ∃ W5, wr.alloc (.cells #[.int .i64 yk, .int .i64 yn, .int .i64 yd, .int .i64 yu, .slice ua yl uc] 26) = W5 := ⟨_, rfl⟩
      have B5 := hide (show Below wr.heap.size wr W5 by rw [← hW5]; exact bplus (Below.refl _ _) _)
      have K5 := hide (show Bk W5 wr.heap.size 26 [.int .i64 yk, .int .i64 yn, .int .i64 yd, .int .i64 yu, .slice ua yl uc] by rw [← hW5]; exact Bk.new wr _ _)
      have HW5 := hide hW5
      have KX := hide (fun (W : World) (h : Below W5.heap.size W5 W) => show W.cell? ⟨wr.heap.size, 0, none⟩ = some (.int .i64 yk) ∧ W.cell? ⟨wr.heap.size, 1, none⟩ = some (.int .i64 yn) ∧ W.cell? ⟨wr.heap.size, 2, none⟩ = some (.int .i64 yd) ∧ W.cell? ⟨wr.heap.size, 3, none⟩ = some (.int .i64 yu) ∧ W.cell? ⟨wr.heap.size, 4, none⟩ = some (.slice ua yl uc) from by
        have q := fun n => Bk.cell (Bk.up K5.out h) n
        exact ⟨q 0, q 1, q 2, q 3, q 4⟩)
      clear hW5
      go_upto_region 7 with fail
      rw [HW5.out]
      clear HW5 c0 c1 c2 c3 c4
      obtain ⟨x0, x1, x2, x3, x4⟩ := KX.out W5 (Below.refl _ _)
      rcases YK with hk | hk
      · have NS2 := hide (show nmE (ks.take (m + 1)) = nmE (ks.take m) ++ [ry] by rw [NS.out, if_pos hk])
        have FS2 := hide (show fmEs (ks.take (m + 1)) p = fmEs (ks.take m) p by rw [FS.out, if_neg (by omega), List.append_nil])
        rw [hk] at CK2
        replace CN2 := hide (fun (W : World) (h : Below w.heap.size w W) => CN2.out W h hk)
        have MA := hide (mulAll_app (nmE (ks.take m)) ry)
        have M1 := hide (mulAll_one CR2.out.1 CR2.out.2)
        have KV64 : R64 (wk.mulAll (nmE (ks.take m))) := wk.mulAll_I64 _
        have RY64 := CR2.out.1
        have CM := hide (fun (W : World) (g : Nat) (T : TypeId) (h : W.heap[g]? = some (.cells #[.int .i64 (wk.mulAll (nmE (ks.take m))).1, .int .i64 (wk.mulAll (nmE (ks.take m))).2, .int .i64 ry.1, .int .i64 ry.2] T)) => (wk.mulR_any _ [wk.mulAll (nmE (ks.take m)), ry] W (row2_blk h) (in_two KV64 RY64)).mono (R' := fun e w' => e = .returned (ratV (wk.mulAll [wk.mulAll (nmE (ks.take m)), ry])) ∧ Below W.heap.size W w') (by rintro e w1 ⟨rfl, U⟩; exact ⟨rfl, U.1⟩))
        have K3 := hide (fun (W : World) (h : Below wr.heap.size wr W) => show (W.cell? ⟨kb, 0, none⟩ = some (.int .i64 (wk.mulAll (nmE (ks.take m))).1) ∧ W.cell? ⟨kb, 1, none⟩ = some (.int .i64 (wk.mulAll (nmE (ks.take m))).2)) ∧ W.frozen? ⟨kb, 0, none⟩ = false ∧ W.frozen? ⟨kb, 1, none⟩ = false from ⟨⟨Bk.cell (Bk.up Q3.out h) 0, Bk.cell (Bk.up Q3.out h) 1⟩, Bk.fz (Bk.up Q3.out h) 0, Bk.fz (Bk.up Q3.out h) 1⟩)
        have NX := hide (fun (W : World) (r : Int × Int) (h : Below wr.heap.size wr W) (hr : wk.mulAll (nmE (ks.take (m + 1))) = r) => show Bk ((W.setCell ⟨kb, 0, none⟩ (.int .i64 r.1)).setCell ⟨kb, 1, none⟩ (.int .i64 r.2)) kb 23 [.int .i64 (wk.mulAll (nmE (ks.take (m + 1)))).1, .int .i64 (wk.mulAll (nmE (ks.take (m + 1)))).2] ∧ FH (w.heap.size + 4) (2 * p) ((W.setCell ⟨kb, 0, none⟩ (.int .i64 r.1)).setCell ⟨kb, 1, none⟩ (.int .i64 r.2)) (.slice la (fmEs (ks.take m) p).length lc) (fmEs (ks.take (m + 1)) p) ∧ Bk ((W.setCell ⟨kb, 0, none⟩ (.int .i64 r.1)).setCell ⟨kb, 1, none⟩ (.int .i64 r.2)) (w.heap.size + 1) 30 z15 ∧ Bk ((W.setCell ⟨kb, 0, none⟩ (.int .i64 r.1)).setCell ⟨kb, 1, none⟩ (.int .i64 r.2)) w.heap.size 26 [.int .i64 k, .int .i64 n, .int .i64 d, .int .i64 q, .slice (some ⟨b, o, none⟩) ks.length c] ∧ Below w.heap.size w ((W.setCell ⟨kb, 0, none⟩ (.int .i64 r.1)).setCell ⟨kb, 1, none⟩ (.int .i64 r.2)) from by
          rw [hr]
          refine ⟨Bk.put (Bk.put (Bk.up Q3.out h) 0 _) 1 _, ?_, Bk.far (Bk.far (Bk.up Q1.out h) (by omega) _ _) (by omega) _ _, Bk.far (Bk.far (Bk.up Q0.out h) (by omega) _ _) (by omega) _ _, ((bto BW.out h).setCell (by show w.heap.size ≤ kb; omega) _).setCell (by show w.heap.size ≤ kb; omega) _⟩
          rw [FS2.out]
          exact FH.keep (FH.up QF.out h) (by simp) (fun b hb hl => (Below.heap_setCell _ ⟨kb, 1, none⟩ _ b (by show b ≠ kb; omega)).trans (Below.heap_setCell _ ⟨kb, 0, none⟩ _ b (by show b ≠ kb; omega))))
        clear CF2 NS FS hk CR2 RY64 KV64
        have FS3 := hide (show (fmEs (ks.take m) p).length = (fmEs (ks.take (m + 1)) p).length by rw [FS2.out])
        unfold ratV at CN2 CM
        cases hb2 : (nmE (ks.take m)).isEmpty
        · have EM2 := hide (show wk.mulAll (nmE (ks.take (m + 1))) = wk.mulAll [wk.mulAll (nmE (ks.take m)), ry] by rw [NS2.out, MA.out])
          have EI := hide (show (nmE (ks.take (m + 1))).isEmpty = false by rw [NS2.out]; cases nmE (ks.take m) <;> rfl)
          generalize wk.mulAll [wk.mulAll (nmE (ks.take m)), ry] = rm at *
          generalize wk.mulAll (nmE (ks.take m)) = kv at *
          clear MA M1
          go_upto_region 11 with (go_at_call 28; refine (CK2.out _ (bto BW.out B5.out)).mono ?_; rintro e w1 ⟨rfl, B1⟩; replace B1 := hide B1)
          have A3 := hide (fun (W : World) (h : Below w1.heap.size w1 W) => K3.out W (bto B5.out (bto B1.out h)))
          have A7 := hide (fun (W : World) (h : Below w1.heap.size w1 W) => show W.rangeAt wr.heap.size 0 [.int .i64 yk, .int .i64 yn, .int .i64 yd, .int .i64 yu, .slice ua yl uc] from range_blk (Bk.up K5.out (bto B1.out h)))
          have B51 := hide (bto B5.out B1.out)
          have CN3 := hide (fun (W : World) (h : Below w1.heap.size w1 W) => CN2.out W (bto BW.out (bto B51.out h)))
          clear x0 x1 x2 x3 x4 hb2
          refine wp_region_ch (by kernel_rfl) (enM kv [.int .i64 yk, .int .i64 yn, .int .i64 yd, .int .i64 yu, .slice ua yl uc]) tlM 4 (Stat.of (by kernel_rfl)) (acy_of (by kernel_rfl)) (by kernel_rfl) (by kernel_rfl) (by decide) rfl (MuT w1 kb kv ry rm) (Below.refl _ _).drew ?_ ?_ ?_
          · as_aux_lemma =>
              intro i o v hi ho hv listed a wx q u hqk hT I hd
              have hB : Below w1.heap.size w1 wx := hT.low hqk
              rcases (show i = 0 ∨ i = 1 ∨ i ≥ 2 by omega) with rfl | rfl | h9
              · obtain rfl := Option.some.inj ho
                obtain rfl := Option.some.inj hv
                exact ⟨rfl, run_ldA rfl (show a.tmps.getD 4 undef = _ from (I.oth_at (by kernel_rfl)).trans rfl) (A3.out wx hB).1.1 (A3.out wx hB).1.2⟩
              · obtain rfl := Option.some.inj ho
                obtain rfl := Option.some.inj hv
                exact ⟨rfl, run_ldF rfl (show a.tmps.getD 7 undef = _ from (I.oth_at (by kernel_rfl)).trans rfl) (A7.out wx hB) Tryz.underlying26 rfl (by kernel_rfl)⟩
              · exfalso
                match i, h9 with
                | i + 2, _ => cases hv
          · as_aux_lemma =>
              intro Q' q o hq ho listed a wx I hd hT
              rcases (show q = 0 ∨ q = 1 ∨ q = 2 ∨ q = 3 by omega) with rfl | rfl | rfl | rfl
              · obtain rfl := Option.some.inj (show (_ : Array Oper)[2]? = some o from ho)
                have hB : Below w1.heap.size w1 wx := hT
                have v1 := I.val 1 _ 28 (by decide) (hd ⟨1, .data⟩ (by simp) rfl) rfl rfl
                refine wpOp_callW rfl (wn rfl) (run_cl1 rfl rfl (fun v => enters_of Tryz.func31 (by kernel_rfl) rfl #[v] wx)) ?_
                refine (show Calls Tryz.prog 31 #[a.tmps.getD 28 undef] wx _ from ?_)
                rw [v1]
                refine (CN3.out wx hB).mono ?_
                rintro e w' ⟨rfl, hb2⟩
                exact ⟨_, rfl, _, rfl, (fun h => by cases h), bto hB hb2, rfl⟩
              · obtain rfl := Option.some.inj (show (_ : Array Oper)[3]? = some o from ho)
                obtain ⟨hB, hv⟩ := hT
                replace hv : a.tmps.getD 29 undef = .agg #[.int .i64 ry.1, .int .i64 ry.2] := hv
                exact wpOp_valW rfl (wn rfl) (run_bs2 rfl (I.val 0 _ 27 (by decide) (hd ⟨0, .data⟩ (by simp) rfl) rfl rfl) hv) ⟨_, rfl, (fun h => by cases h), bplus hB _, wx.heap.size, rfl, heap_alloc_new wx _⟩
              · obtain rfl := Option.some.inj (show (_ : Array Oper)[4]? = some o from ho)
                obtain ⟨hB, g, hv, hg⟩ := hT
                replace hv : a.tmps.getD 30 undef = _ := hv
                refine wpOp_callW rfl (wn rfl) (run_cl1 rfl rfl (fun v => enters_of Tryz.func24 (by kernel_rfl) rfl #[v] wx)) ?_
                refine (show Calls Tryz.prog 24 #[a.tmps.getD 30 undef] wx _ from ?_)
                rw [hv]
                refine (CM.out wx g _ hg).mono ?_
                rintro e w' ⟨rfl, hb2⟩
                exact ⟨_, rfl, _, rfl, (fun h => by cases h), bto hB hb2, rfl⟩
              · obtain rfl := Option.some.inj (show (_ : Array Oper)[5]? = some o from ho)
                obtain ⟨hB, hv⟩ := hT
                replace hv : a.tmps.getD 31 undef = .agg #[.int .i64 rm.1, .int .i64 rm.2] := hv
                have hbk := Bk.up Q3.out (bto B51.out hB)
                exact wpOp_st rfl rfl rfl ((I.oth_at (by kernel_rfl)).trans rfl) hv hbk (fun v => ⟨undef, rfl, (fun _ => rfl), wx, rfl, hB⟩)
          · intro a' wx OTH DF hT
            obtain ⟨w6, rfl, hB⟩ := hT
            have NY := hide (NX.out _ rm (bto B51.out hB) EM2.out)
            obtain ⟨v27, hv27⟩ : ∃ v, a'.tmps.getD 27 undef = v := ⟨_, rfl⟩
            obtain ⟨v28, hv28⟩ : ∃ v, a'.tmps.getD 28 undef = v := ⟨_, rfl⟩
            obtain ⟨v29, hv29⟩ : ∃ v, a'.tmps.getD 29 undef = v := ⟨_, rfl⟩
            obtain ⟨v30, hv30⟩ : ∃ v, a'.tmps.getD 30 undef = v := ⟨_, rfl⟩
            obtain ⟨v31, hv31⟩ : ∃ v, a'.tmps.getD 31 undef = v := ⟨_, rfl⟩
            have fr := fr_frame w6 OTH.1 OTH.2 DF [(27, v27), (28, v28), (29, v29), (30, v30), (31, v31)] (by
              intro p hp
              simp only [List.mem_cons, List.not_mem_nil, or_false] at hp
              rcases hp with rfl | rfl | rfl | rfl | rfl
              · exact ⟨by simp, hv27⟩
              · exact ⟨by simp, hv28⟩
              · exact ⟨by simp, hv29⟩
              · exact ⟨by simp, hv30⟩
              · exact ⟨by simp, hv31⟩) (by kernel_rfl)
            clear OTH DF hv27 hv28 hv29 hv30 hv31
            subst fr
            dsimp only [setsL, List.set_cons_zero, List.set_cons_succ]
            go_wp2_with fail
            go_roundw
            case rel => exact .mk (m + 1) la lc (by go_num) (by rw [FS3.out]) (by rw [EI.out]) (by omega) NY.out.1 NY.out.2.1 NY.out.2.2.1 NY.out.2.2.2.1 NY.out.2.2.2.2
            case measure => simp [intOf]; omega
        · have EM2 := hide (show wk.mulAll (nmE (ks.take (m + 1))) = ry by rw [NS2.out, show nmE (ks.take m) = [] from List.isEmpty_iff.1 hb2]; exact M1.out)
          have EI := hide (show (nmE (ks.take (m + 1))).isEmpty = false by rw [NS2.out]; cases nmE (ks.take m) <;> rfl)
          generalize wk.mulAll (nmE (ks.take m)) = kv at *
          clear MA M1 CM hb2
          go_wp2_with (first
            | (go_at_call 28; refine (CK2.out _ (bto BW.out B5.out)).mono ?_; rintro e w1 ⟨rfl, B1⟩; replace B1 := hide B1; obtain ⟨g0, g1, g2, g3, g4⟩ := KX.out w1 B1.out)
            | (go_at_call 31; refine (CN2.out _ (bto BW.out (bto B5.out B1.out))).mono ?_; rintro e w4 ⟨rfl, B4⟩; replace B4 := hide (bto B5.out (bto B1.out B4)); obtain ⟨⟨t0, t1⟩, z0, z1⟩ := K3.out _ B4.out))
          have NY := hide (NX.out _ ry B4.out EM2.out)
          go_roundw
          case rel => exact .mk (m + 1) la lc (by go_num) (by rw [FS3.out]) (by rw [EI.out]) (by omega) NY.out.1 NY.out.2.1 NY.out.2.2.1 NY.out.2.2.2.1 NY.out.2.2.2.2
          case measure => simp [intOf]; omega
      · have NS2 := hide (show nmE (ks.take (m + 1)) = nmE (ks.take m) by rw [NS.out, if_neg (by omega), List.append_nil])
        have FS2 := hide (show fmEs (ks.take m) p ++ [fy] = fmEs (ks.take (m + 1)) p by rw [FS.out, if_pos hk])
        rw [hk] at CK2
        replace CF2 := hide (fun (W : World) (h : Below w.heap.size w W) => show Calls Tryz.prog 12 #[.agg #[.int .i64 yk, .int .i64 yn, .int .i64 yd, .int .i64 yu, .slice ua yl uc]] W fun e w' => ∃ v, e = .returned (.agg (usL fy.us ++ [v]).toArray) ∧ Us fy.us ∧ PM (cutW W.heap.size w') (2 * p) v fy.ps ∧ Below W.heap.size W w' from CF2.out W h hk)
        have OWN := hide (fun (g : Nat) (h : (Value.slice la (fmEs (ks.take m) p).length lc).ownBlock = some g) => (FH.own QF.out g h).2)
        clear CN2 NS FS hk CR2
        go_wp2_with (first
          | (go_at_call 28; refine (CK2.out _ (bto BW.out B5.out)).mono ?_; rintro e w1 ⟨rfl, B1⟩; replace B1 := hide B1; obtain ⟨g0, g1, g2, g3, g4⟩ := KX.out w1 B1.out)
          | (go_at_call 12; refine (CF2.out _ (bto BW.out (bto B5.out B1.out))).mono ?_; rintro e w4 ⟨fv, rfl, UV, PV, B4⟩; have B6 := hide (bto B5.out (bto B1.out B4)); have LV := hide (fo_len UV fv); have UVH := hide UV; have PVH := hide (show PM (hidW (w.heap.size + 4) (.slice la (fmEs (ks.take m) p).length lc) w4) (2 * p) fv fy.ps from pm_sees (cut_hid (by have := (bto B5.out B1.out).size; omega) (fun g hg => by have := OWN.out g hg; have := (bto B5.out B1.out).size; omega)) PV); clear UV PV B4)
          | (refine wpList_bs1F rfl (.tmp 21) rfl (usL fy.us ++ [fv]) rfl LV.out ?_)
          | (at_builtin; refine wpList_append_formH rfl (.tmp 19) (.tmp 22) rfl (.slice la (fmEs (ks.take m) p).length lc) (fmEs (ks.take m) p) rfl (FH.up QF.out (bplus B6.out _)) (Nat.le_trans hq4 (bplus B6.out _).size) w4.heap.size fy fv rfl (Bk.new w4 _ (usL fy.us ++ [fv])) UVH.out (pm_sees (hid_up (bplus (Below.refl _ _) _)) PVH.out) (by omega) ?_; intro v' w' HO HB; rw [FS2.out] at HO; obtain ⟨la', lc', hv'⟩ := FH.shape HO; subst hv'; replace HO := hide HO; replace HB := hide HB))
        go_roundw
        case rel => exact .mk (m + 1) la' lc' (by go_num) rfl (by rw [NS2.out]) (by omega) (by rw [NS2.out]; exact Bk.low (Bk.up Q3.out (bplus B6.out _)) HB.out (by omega)) HO.out (Bk.low (Bk.up Q1.out (bplus B6.out _)) HB.out (by omega)) (Bk.low (Bk.up Q0.out (bplus B6.out _)) HB.out (by omega)) ((bto BW.out (bplus B6.out _)).trans (HB.out.mono (by omega)))
        case measure => simp [intOf]; omega
    · obtain rfl : m = ks.length := by omega
      have hlt' : ¬ (ks.length : Int) < ks.length := by omega
      rw [show ks.take ks.length = ks from List.take_of_length_le (Nat.le_refl _)] at Q3 QF ⊢
      have FIN0 := hide (fun (SU : List (Int × Int)) (SP : List Pa) (n : Nat) (hn : n ≤ 2 * (p + 1)) (hF : FX = .mk SU SP) (w5 : World) (v : Value) (hU : Us SU) (hPV : PM (cutW (w.heap.size + 4) w5) n v SP) (h5 : Below wr.heap.size wr w5) => show ∃ u, (Ending.returned (.agg (usL SU ++ [v]).toArray) : Ending) = .returned (foV FX.us u) ∧ Us FX.us ∧ PM (cutW w.heap.size (w5.setCells (w.heap.size + 1) 0 (usL SU ++ [v]))) (2 * (p + 1)) u FX.ps ∧ Below w.heap.size w (w5.setCells (w.heap.size + 1) 0 (usL SU ++ [v])) from by
        subst hF
        exact ⟨v, rfl, hU, pm_le hn (pm_sees (cut_keep (by omega) (by rw [setCells_size]; exact Nat.le_refl _) (fun b hb hl => setCells_far b (w.heap.size + 1) 0 (by omega) _ _ _)) hPV), (bto BW.out h5).grown (setCells_grown _ _ _ _) (bto BW.out h5).size (fun k hk => by cases hk; omega)⟩)
      have TH := hide (fun (W : World) (h : Below wr.heap.size wr W) => show W.there (w.heap.size + 1) 0 15 from there_blk (show W.heap[w.heap.size + 1]? = some (.cells z15.toArray 30) from Bk.up Q1.out h) rfl)
      have a0 := Bk.cell Q0.out 0
      have a1 := Bk.cell Q0.out 1
      have a2 := Bk.cell Q0.out 2
      have a3 := Bk.cell Q0.out 3
      simp at a0 a1 a2 a3
      clear Q0 Q1 CK CI CN CR HV KD
      rcases HKK.out with k1 | ⟨hkk, hL⟩
      · subst k1
        have EF : FX = .mk (oneU q (n, d)) [] := HE.out
        have XO1 : i64 n := HXO.out.2.1
        have XO2 : i64 d := HXO.out.2.2.1
        have XO3 : i64 q := HXO.out.2.2.2
        have OU := one_us q n d XO1 XO2
        have CO := hide (fun (W : World) => show Calls Tryz.prog 32 #[.int .i64 q, .agg #[.int .i64 n, .int .i64 d]] W fun e w' => e = .returned (.agg (usL (oneU q (n, d)) ++ [nilS]).toArray) ∧ Below W.heap.size W w' from oneR_any q n d W XO3 XO1 XO2)
        have FIN := hide (fun (w5 : World) (h5 : Below wr.heap.size wr w5) => FIN0.out (oneU q (n, d)) [] 0 (by omega) EF w5 nilS OU (.inl ⟨_, _, rfl, rfl⟩) h5)
        have LZ := hide (fo_len OU nilS)
        have OZ := hide (us_one (us := oneU q (n, d)) (u := nilS) rfl)
        obtain ⟨A, hA⟩ : ∃ A, usL (oneU q (n, d)) ++ [nilS] = A := ⟨_, rfl⟩
        rw [hA] at CO FIN LZ OZ
        clear hA EF OU HKK HXO XO1 XO2 XO3 FIN0 Q3 QF HE
        go_wp2_with (first
          | (go_at_call 32; refine (CO.out _).mono ?_; rintro e w5 ⟨rfl, B5⟩; replace B5 := hide B5)
          | (refine wpList_store_mid rfl 30 (.tmp 2) (.tmp 41) rfl (w.heap.size + 1) 0 A.toArray rfl rfl (by rw [show A.toArray.size = 15 from LZ.out]; exact TH.out _ B5.out) (by rw [show A.toArray.size = 15 from LZ.out]; kernel_rfl) (all_oneCell_toArray OZ.out) ?_))
        (try rw [show A.toArray.toList = A from rfl])
        refine ret_cell (b := w.heap.size + 1) (cs := A) Tryz.results12 rfl (World.rangeAt_setCells_same _ _ _ _ (by rw [LZ.out]; exact TH.out _ B5.out)) Tryz.underlying30 rfl (by rw [LZ.out]; kernel_rfl) rfl ?_
        exact FIN.out w5 B5.out
      have hlf := fmEs_le ks p
      have QFM := FH.fm QF.out (by omega)
      obtain ⟨g, rfl, hg, hq3⟩ : ∃ g, la = some ⟨g, 0, none⟩ ∧ w.heap.size + 4 ≤ g ∧ g < wr.heap.size := by
        obtain ⟨xs, ho, -⟩ := QF.out
        obtain ⟨_, ⟨hv, h0⟩ | ⟨g, cap, cur, hv, hb, hgg, _⟩⟩ := ho
        · omega
        · cases hv
          exact ⟨g, rfl, hb, (Array.getElem?_eq_some_iff.1 hgg).1⟩
      have hk1 : ¬ k = 1 := by omega
      have k1' : (k == 1) = false := by simpa using hk1
      rw [if_neg hk1] at HE
      have hll0 : (0 : Int) < ((fmEs ks p).length : Int) := by omega
      have hl0 := hll0
      have FS := hide (show FrS w wr (w.heap.size + 4) g (fmEs ks p).length lc p (fmEs ks p) from { hB := by omega, sl := QFM, gl := rfl, bw := BW.out, hg := hg, hq := hq3 })
      have Q33 := hide (fun (W : World) (h : Below wr.heap.size wr W) => And.intro (Bk.cell (Bk.up Q3.out h) 0) (Bk.cell (Bk.up Q3.out h) 1))
      have MM64 : R64 (wk.mulAll (nmE ks)) := wk.mulAll_I64 _
      have MMmay := mulAll_mayA (nmE ks)
      clear QFM QF Q3 HKK HXO a1 a2 a3
      rcases hkk with rfl | rfl | rfl | rfl | rfl | ⟨rfl, h3⟩
      · have EF : FX = Fo.mk (ssU (fmEs ks p)) (ssP (fmEs ks p)) := HE.out
        have CC := hide (FS.out.sum (by have := HPL.out; rw [HE.out] at this; exact this) hL HGM.out)
        have UF := hide (show Us (Fo.mk (ssU (fmEs ks p)) (ssP (fmEs ks p))).us from ssU_us FS.out.us)
        obtain ⟨G, hG⟩ : ∃ G, Fo.mk (ssU (fmEs ks p)) (ssP (fmEs ks p)) = G := ⟨_, rfl⟩
        rw [hG] at EF UF
        obtain ⟨SU, SP⟩ := G
        have CD := hide (CC.out.mono (R' := fun e w' => ∃ v, e = .returned (.agg (usL SU ++ [v]).toArray) ∧ PM (cutW (w.heap.size + 4) w') (2 * p) v SP ∧ Below wr.heap.size wr w') (by
          rintro e w1 ⟨v, he, h1, h2, h3⟩
          rw [show ssU (fmEs ks p) = SU by have := congrArg Fo.us hG; exact this] at he; rw [show ssP (fmEs ks p) = SP by have := congrArg Fo.ps hG; exact this] at h2
          exact ⟨v, he, h2, h3⟩))
        have LC := hide (fun (v : Value) => show (usL SU ++ [v]).length = 15 from fo_len UF.out v)
        have OC := hide (fun (v : Value) (h : v.oneCell' = true) => us_one (us := SU) h)
        have FIN := hide (fun (w5 : World) (v : Value) => FIN0.out SU SP (2 * p) (by omega) EF w5 v UF.out)
        obtain ⟨SL, hSL⟩ : ∃ SL, usL SU = SL := ⟨_, rfl⟩
        rw [hSL] at CD LC OC FIN
        clear EF hG CC UF hSL FIN0 HGZ HPL FS HE
        go_wp2_with (first
          | (go_at_call 22; refine CD.out.mono ?_; rintro e w5 ⟨v, rfl, PV, B5⟩; replace PV := hide PV; replace B5 := hide B5)
          | (refine wpList_store_mid rfl 30 (.tmp 2) (.tmp 45) rfl (w.heap.size + 1) 0 (SL ++ [v]).toArray rfl rfl (by rw [show (SL ++ [v]).toArray.size = 15 from LC.out v]; exact TH.out _ B5.out) (by rw [show (SL ++ [v]).toArray.size = 15 from LC.out v]; kernel_rfl) (all_oneCell_toArray (OC.out v (pm_one PV.out))) ?_))
        (try rw [show (SL ++ [v]).toArray.toList = SL ++ [v] from rfl])
        refine ret_cell (b := w.heap.size + 1) (cs := SL ++ [v]) Tryz.results12 rfl (World.rangeAt_setCells_same _ _ _ _ (by rw [show (SL ++ [v]).length = 15 from LC.out v]; exact TH.out _ B5.out)) Tryz.underlying30 rfl (by rw [show (SL ++ [v]).length = 15 from LC.out v]; kernel_rfl) rfl ?_
        exact FIN.out w5 v PV.out B5.out
      · have EF : FX = scF ((-1, 1) : Int × Int) (2 * p) (foAt (fmEs ks p) 0) := HE.out
        obtain ⟨u0, U0, R0, M0⟩ := FS.out.first 0 (by omega)
        have HK : R64 ((-1, 1) : Int × Int) := ⟨⟨by decide, by decide⟩, ⟨by decide, by decide⟩⟩
        have HKM : mayB ((-1, 1) : Int × Int).1 ((-1, 1) : Int × Int).2 = true := by decide
        have CS := hide (fun (W : World) (h : Below wr.heap.size wr W) => FS.out.scale ((-1, 1) : Int × Int) HK HKM (by omega) (HGZ.out 0 (by omega)) W h u0 M0)
        have L0 := fo_len U0 u0
        obtain ⟨G, hG⟩ : ∃ G, scF ((-1, 1) : Int × Int) (2 * p) (foAt (fmEs ks p) 0) = G := ⟨_, rfl⟩
        rw [hG] at EF CS
        obtain ⟨SU, SP⟩ := G
        obtain ⟨A, hA⟩ : ∃ A, usL (foAt (fmEs ks p) 0).us ++ [u0] = A := ⟨_, rfl⟩
        rw [hA] at CS R0 L0
        replace CS := hide (fun (W : World) (h : Below wr.heap.size wr W) => show Calls Tryz.prog 15 #[.agg A.toArray, .agg #[.int .i64 ((-1, 1) : Int × Int).1, .int .i64 ((-1, 1) : Int × Int).2]] W fun e w' => ∃ v, e = .returned (.agg (usL SU ++ [v]).toArray) ∧ Us SU ∧ PM (cutW (w.heap.size + 4) w') (2 * p) v SP ∧ Below W.heap.size W w' from CS.out W h)
        have RF := hide (fun (W : World) (h : Below wr.heap.size wr W) => show W.rangeAt g (0 * 15) A from fun q v hq => (h.cell (p := ⟨g, 0 * 15 + q, none⟩) hq3).trans (R0 q v hq))
        have FL := hide (show (Tryz.prog.info? 30).map (·.size) = some A.length by rw [L0]; kernel_rfl)
        have FIN := hide (fun (w5 : World) (v : Value) (hU : Us SU) => FIN0.out SU SP (2 * p) (by omega) EF w5 v hU)
        have HI := hide (fun (A : List Value) (hA : A.length = 15) => show (Tryz.prog.info? 30).map (·.size) = some A.toArray.size by rw [List.size_toArray, hA]; kernel_rfl)
        have HLL := hide hll0
        clear EF hG U0 R0 M0 L0 hA FIN0 HGZ HPL HE FS
        go_upto_region 20 with fail
        refine wp_region_tl2 (by kernel_rfl) (kdR20 g (fmEs ks p).length lc A ((-1, 1) : Int × Int)) 4 rfl (Stat.of (by kernel_rfl)) (acy_of (by kernel_rfl)) (by kernel_rfl) ?_ ?_
        · as_aux_lemma =>
            intro Q' i o hi ho blk listed a wx I hd
            rcases (show i = 0 ∨ i = 1 ∨ i = 2 ∨ i = 3 by omega) with rfl | rfl | rfl | rfl
            · obtain rfl := Option.some.inj ho
              exact wpOp_valW rfl (wn rfl) (run_mv rfl (show a.tmps.getD 3 undef = _ from (I.oth_at (by kernel_rfl)).trans rfl)) (show _ ∧ _ from ⟨rfl, be.Up.refl _⟩)
            · obtain rfl := Option.some.inj ho
              have v0 := (I.val_at (i := 0) (by decide) (hd ⟨0, .data⟩ (by simp) rfl) (.inl rfl) rfl)
              exact wpOp_valW rfl (wn rfl) (run_ixF (k := 0) rfl v0 rfl HLL.out) (show _ ∧ _ from ⟨rfl, be.Up.refl _⟩)
            · obtain rfl := Option.some.inj ho
              have v0 := (I.val_at (i := 1) (by decide) (hd ⟨1, .data⟩ (by simp) rfl) (.inl rfl) rfl)
              exact wpOp_valW rfl (wn rfl) (run_ldO rfl v0 (RF.out wx I.up) Tryz.underlying30 rfl FL.out) (show _ ∧ _ from ⟨rfl, be.Up.refl _⟩)
            · obtain rfl := Option.some.inj ho
              refine wpOp_callW rfl (wn rfl) (run_cl1 rfl rfl (fun v => enters_of Tryz.func30 (by kernel_rfl) rfl #[v] wx)) ?_
              refine (show Calls Tryz.prog 30 #[.int .i64 (-1)] wx _ from ?_)
              exact (wk.int_any (-1) wx).mono (by rintro e w' ⟨rfl, cc, rfl⟩; exact ⟨_, rfl, (show _ ∧ _ from ⟨rfl, bplus (Below.refl _ _) _⟩)⟩)
        · intro blk listed a' wx I hall LATE
          have fr := I.frameL [(48, (.slice (some ⟨g, 0, none⟩) (fmEs ks p).length lc)), (49, (.pointer (some ⟨g, 0 * 15, none⟩))), (50, (.agg A.toArray)), (51, (.agg #[.int .i64 ((-1, 1) : Int × Int).1, .int .i64 ((-1, 1) : Int × Int).2])), (52, undef)] (by
            intro p hp
            simp only [List.mem_cons, List.not_mem_nil, or_false] at hp
            rcases hp with rfl | rfl | rfl | rfl | rfl
            · exact ⟨by simp, I.val_at (i := 0) (by decide) (hall _ (by decide)) (.inl rfl) rfl⟩
            · exact ⟨by simp, I.val_at (i := 1) (by decide) (hall _ (by decide)) (.inl rfl) rfl⟩
            · exact ⟨by simp, I.val_at (i := 2) (by decide) (hall _ (by decide)) (.inl rfl) rfl⟩
            · exact ⟨by simp, I.val_at (i := 3) (by decide) (hall _ (by decide)) (.inl rfl) rfl⟩
            · exact ⟨by simp, (LATE 4 52 (by decide) (by decide) rfl).trans rfl⟩) (by kernel_rfl)
          have BY := hide (show Below wr.heap.size wr wx from I.up)
          clear I hall LATE
          subst fr
          dsimp only [setsL, List.set_cons_zero, List.set_cons_succ]
          refine wpOp_callW rfl (wn rfl) (run_cl2 rfl rfl (fun v u => enters_of Tryz.func15 (by kernel_rfl) rfl #[v, u] wx)) ?_
          refine (show Calls Tryz.prog 15 #[.agg A.toArray, .agg #[.int .i64 ((-1, 1) : Int × Int).1, .int .i64 ((-1, 1) : Int × Int).2]] wx _ from ?_)
          refine (CS.out wx BY.out).mono ?_
          rintro e w5 ⟨v, rfl, hSL, PV, B5⟩
          refine ⟨_, rfl, ?_⟩
          have LS := fo_len hSL v
          have TT : w5.there (w.heap.size + 1) 0 (usL SU ++ [v]).toArray.size := by rw [show (usL SU ++ [v]).toArray.size = 15 from LS]; exact TH.out _ (bto BY.out B5)
          refine wpOp_stM (b := w.heap.size + 1) (off := 0) (cells := (usL SU ++ [v]).toArray) rfl rfl rfl rfl rfl TT (HI.out _ LS) (all_oneCell_toArray (us_one (pm_one PV))) ?_
          rw [show (usL SU ++ [v]).toArray.toList = usL SU ++ [v] from rfl]
          have RA := World.rangeAt_setCells_same w5 (w.heap.size + 1) 0 (usL SU ++ [v]) (by rwa [List.size_toArray] at TT)
          have FN := hide (FIN.out w5 v hSL PV (bto BY.out B5))
          generalize usL SU ++ [v] = Z at *
          go_wp2_with fail
          refine ret_cell (b := w.heap.size + 1) (cs := Z) Tryz.results12 rfl RA Tryz.underlying30 rfl (by rw [LS]; kernel_rfl) rfl ?_
          exact FN.out
      · have EF : FX = scF (wk.mulAll (nmE ks)) (2 * p) (foAt (fmEs ks p) 0) := HE.out
        obtain ⟨u0, U0, R0, M0⟩ := FS.out.first 0 (by omega)
        have HK := MM64
        have HKM := MMmay
        have CS := hide (fun (W : World) (h : Below wr.heap.size wr W) => FS.out.scale (wk.mulAll (nmE ks)) HK HKM (by omega) (HGZ.out 0 (by omega)) W h u0 M0)
        have L0 := fo_len U0 u0
        obtain ⟨G, hG⟩ : ∃ G, scF (wk.mulAll (nmE ks)) (2 * p) (foAt (fmEs ks p) 0) = G := ⟨_, rfl⟩
        rw [hG] at EF CS
        obtain ⟨SU, SP⟩ := G
        obtain ⟨A, hA⟩ : ∃ A, usL (foAt (fmEs ks p) 0).us ++ [u0] = A := ⟨_, rfl⟩
        rw [hA] at CS R0 L0
        replace CS := hide (fun (W : World) (h : Below wr.heap.size wr W) => show Calls Tryz.prog 15 #[.agg A.toArray, .agg #[.int .i64 (wk.mulAll (nmE ks)).1, .int .i64 (wk.mulAll (nmE ks)).2]] W fun e w' => ∃ v, e = .returned (.agg (usL SU ++ [v]).toArray) ∧ Us SU ∧ PM (cutW (w.heap.size + 4) w') (2 * p) v SP ∧ Below W.heap.size W w' from CS.out W h)
        have RF := hide (fun (W : World) (h : Below wr.heap.size wr W) => show W.rangeAt g (0 * 15) A from fun q v hq => (h.cell (p := ⟨g, 0 * 15 + q, none⟩) hq3).trans (R0 q v hq))
        have FL := hide (show (Tryz.prog.info? 30).map (·.size) = some A.length by rw [L0]; kernel_rfl)
        have FIN := hide (fun (w5 : World) (v : Value) (hU : Us SU) => FIN0.out SU SP (2 * p) (by omega) EF w5 v hU)
        have HI := hide (fun (A : List Value) (hA : A.length = 15) => show (Tryz.prog.info? 30).map (·.size) = some A.toArray.size by rw [List.size_toArray, hA]; kernel_rfl)
        have HLL := hide hll0
        clear EF hG U0 R0 M0 L0 hA FIN0 HGZ HPL HE FS HK HKM MM64 MMmay
        generalize wk.mulAll (nmE ks) = mm at *
        go_upto_region 22 with fail
        refine wp_region_tl2 (by kernel_rfl) (kdR20 g (fmEs ks p).length lc A mm) 4 rfl (Stat.of (by kernel_rfl)) (acy_of (by kernel_rfl)) (by kernel_rfl) ?_ ?_
        · as_aux_lemma =>
            intro Q' i o hi ho blk listed a wx I hd
            rcases (show i = 0 ∨ i = 1 ∨ i = 2 ∨ i = 3 by omega) with rfl | rfl | rfl | rfl
            · obtain rfl := Option.some.inj ho
              exact wpOp_valW rfl (wn rfl) (run_mv rfl (show a.tmps.getD 3 undef = _ from (I.oth_at (by kernel_rfl)).trans rfl)) (show _ ∧ _ from ⟨rfl, be.Up.refl _⟩)
            · obtain rfl := Option.some.inj ho
              have v0 := (I.val_at (i := 0) (by decide) (hd ⟨0, .data⟩ (by simp) rfl) (.inl rfl) rfl)
              exact wpOp_valW rfl (wn rfl) (run_ixF (k := 0) rfl v0 rfl HLL.out) (show _ ∧ _ from ⟨rfl, be.Up.refl _⟩)
            · obtain rfl := Option.some.inj ho
              have v0 := (I.val_at (i := 1) (by decide) (hd ⟨1, .data⟩ (by simp) rfl) (.inl rfl) rfl)
              exact wpOp_valW rfl (wn rfl) (run_ldO rfl v0 (RF.out wx I.up) Tryz.underlying30 rfl FL.out) (show _ ∧ _ from ⟨rfl, be.Up.refl _⟩)
            · obtain rfl := Option.some.inj ho
              exact wpOp_valW rfl (wn rfl) (run_ldA rfl (show a.tmps.getD 4 undef = _ from (I.oth_at (by kernel_rfl)).trans rfl) (Q33.out wx I.up).1 (Q33.out wx I.up).2) (show _ ∧ _ from ⟨rfl, be.Up.refl _⟩)
        · intro blk listed a' wx I hall LATE
          have fr := I.frameL [(55, (.slice (some ⟨g, 0, none⟩) (fmEs ks p).length lc)), (56, (.pointer (some ⟨g, 0 * 15, none⟩))), (57, (.agg A.toArray)), (58, (.agg #[.int .i64 mm.1, .int .i64 mm.2])), (59, undef)] (by
            intro p hp
            simp only [List.mem_cons, List.not_mem_nil, or_false] at hp
            rcases hp with rfl | rfl | rfl | rfl | rfl
            · exact ⟨by simp, I.val_at (i := 0) (by decide) (hall _ (by decide)) (.inl rfl) rfl⟩
            · exact ⟨by simp, I.val_at (i := 1) (by decide) (hall _ (by decide)) (.inl rfl) rfl⟩
            · exact ⟨by simp, I.val_at (i := 2) (by decide) (hall _ (by decide)) (.inl rfl) rfl⟩
            · exact ⟨by simp, I.val_at (i := 3) (by decide) (hall _ (by decide)) (.inl rfl) rfl⟩
            · exact ⟨by simp, (LATE 4 59 (by decide) (by decide) rfl).trans rfl⟩) (by kernel_rfl)
          have BY := hide (show Below wr.heap.size wr wx from I.up)
          clear I hall LATE
          subst fr
          dsimp only [setsL, List.set_cons_zero, List.set_cons_succ]
          refine wpOp_callW rfl (wn rfl) (run_cl2 rfl rfl (fun v u => enters_of Tryz.func15 (by kernel_rfl) rfl #[v, u] wx)) ?_
          refine (show Calls Tryz.prog 15 #[.agg A.toArray, .agg #[.int .i64 mm.1, .int .i64 mm.2]] wx _ from ?_)
          refine (CS.out wx BY.out).mono ?_
          rintro e w5 ⟨v, rfl, hSL, PV, B5⟩
          refine ⟨_, rfl, ?_⟩
          have LS := fo_len hSL v
          have TT : w5.there (w.heap.size + 1) 0 (usL SU ++ [v]).toArray.size := by rw [show (usL SU ++ [v]).toArray.size = 15 from LS]; exact TH.out _ (bto BY.out B5)
          refine wpOp_stM (b := w.heap.size + 1) (off := 0) (cells := (usL SU ++ [v]).toArray) rfl rfl rfl rfl rfl TT (HI.out _ LS) (all_oneCell_toArray (us_one (pm_one PV))) ?_
          rw [show (usL SU ++ [v]).toArray.toList = usL SU ++ [v] from rfl]
          have RA := World.rangeAt_setCells_same w5 (w.heap.size + 1) 0 (usL SU ++ [v]) (by rwa [List.size_toArray] at TT)
          have FN := hide (FIN.out w5 v hSL PV (bto BY.out B5))
          generalize usL SU ++ [v] = Z at *
          go_wp2_with fail
          refine ret_cell (b := w.heap.size + 1) (cs := Z) Tryz.results12 rfl RA Tryz.underlying30 rfl (by rw [LS]; kernel_rfl) rfl ?_
          exact FN.out
      · have EF : FX = pkF false (fmEs ks p) := HE.out
        have CC := hide (FS.out.pick false)
        have UF := hide (show Us (pkF false (fmEs ks p)).us from pkF_us FS.out.us)
        obtain ⟨G, hG⟩ : ∃ G, pkF false (fmEs ks p) = G := ⟨_, rfl⟩
        rw [hG] at EF UF
        obtain ⟨SU, SP⟩ := G
        have CD := hide (CC.out.mono (R' := fun e w' => ∃ v, e = .returned (.agg (usL SU ++ [v]).toArray) ∧ PM (cutW (w.heap.size + 4) w') (2 * p + 1) v SP ∧ Below wr.heap.size wr w') (by
          rintro e w1 ⟨v, he, h1, h2, h3⟩
          rw [hG] at he h2
          exact ⟨v, he, h2, h3⟩))
        have LC := hide (fun (v : Value) => show (usL SU ++ [v]).length = 15 from fo_len UF.out v)
        have OC := hide (fun (v : Value) (h : v.oneCell' = true) => us_one (us := SU) h)
        have FIN := hide (fun (w5 : World) (v : Value) => FIN0.out SU SP (2 * p + 1) (by omega) EF w5 v UF.out)
        obtain ⟨SL, hSL⟩ : ∃ SL, usL SU = SL := ⟨_, rfl⟩
        rw [hSL] at CD LC OC FIN
        clear EF hG CC UF hSL FIN0 HGZ HPL FS HE
        go_wp2_with (first
          | (go_at_call 33; refine CD.out.mono ?_; rintro e w5 ⟨v, rfl, PV, B5⟩; replace PV := hide PV; replace B5 := hide B5)
          | (refine wpList_store_mid rfl 30 (.tmp 2) (.tmp 63) rfl (w.heap.size + 1) 0 (SL ++ [v]).toArray rfl rfl (by rw [show (SL ++ [v]).toArray.size = 15 from LC.out v]; exact TH.out _ B5.out) (by rw [show (SL ++ [v]).toArray.size = 15 from LC.out v]; kernel_rfl) (all_oneCell_toArray (OC.out v (pm_one PV.out))) ?_))
        (try rw [show (SL ++ [v]).toArray.toList = SL ++ [v] from rfl])
        refine ret_cell (b := w.heap.size + 1) (cs := SL ++ [v]) Tryz.results12 rfl (World.rangeAt_setCells_same _ _ _ _ (by rw [show (SL ++ [v]).length = 15 from LC.out v]; exact TH.out _ B5.out)) Tryz.underlying30 rfl (by rw [show (SL ++ [v]).length = 15 from LC.out v]; kernel_rfl) rfl ?_
        exact FIN.out w5 v PV.out B5.out
      · have EF : FX = pkF true (fmEs ks p) := HE.out
        have CC := hide (FS.out.pick true)
        have UF := hide (show Us (pkF true (fmEs ks p)).us from pkF_us FS.out.us)
        obtain ⟨G, hG⟩ : ∃ G, pkF true (fmEs ks p) = G := ⟨_, rfl⟩
        rw [hG] at EF UF
        obtain ⟨SU, SP⟩ := G
        have CD := hide (CC.out.mono (R' := fun e w' => ∃ v, e = .returned (.agg (usL SU ++ [v]).toArray) ∧ PM (cutW (w.heap.size + 4) w') (2 * p + 1) v SP ∧ Below wr.heap.size wr w') (by
          rintro e w1 ⟨v, he, h1, h2, h3⟩
          rw [hG] at he h2
          exact ⟨v, he, h2, h3⟩))
        have LC := hide (fun (v : Value) => show (usL SU ++ [v]).length = 15 from fo_len UF.out v)
        have OC := hide (fun (v : Value) (h : v.oneCell' = true) => us_one (us := SU) h)
        have FIN := hide (fun (w5 : World) (v : Value) => FIN0.out SU SP (2 * p + 1) (by omega) EF w5 v UF.out)
        obtain ⟨SL, hSL⟩ : ∃ SL, usL SU = SL := ⟨_, rfl⟩
        rw [hSL] at CD LC OC FIN
        clear EF hG CC UF hSL FIN0 HGZ HPL FS HE
        go_wp2_with (first
          | (go_at_call 33; refine CD.out.mono ?_; rintro e w5 ⟨v, rfl, PV, B5⟩; replace PV := hide PV; replace B5 := hide B5)
          | (refine wpList_store_mid rfl 30 (.tmp 2) (.tmp 67) rfl (w.heap.size + 1) 0 (SL ++ [v]).toArray rfl rfl (by rw [show (SL ++ [v]).toArray.size = 15 from LC.out v]; exact TH.out _ B5.out) (by rw [show (SL ++ [v]).toArray.size = 15 from LC.out v]; kernel_rfl) (all_oneCell_toArray (OC.out v (pm_one PV.out))) ?_))
        (try rw [show (SL ++ [v]).toArray.toList = SL ++ [v] from rfl])
        refine ret_cell (b := w.heap.size + 1) (cs := SL ++ [v]) Tryz.results12 rfl (World.rangeAt_setCells_same _ _ _ _ (by rw [show (SL ++ [v]).length = 15 from LC.out v]; exact TH.out _ B5.out)) Tryz.underlying30 rfl (by rw [show (SL ++ [v]).length = 15 from LC.out v]; kernel_rfl) rfl ?_
        exact FIN.out w5 v PV.out B5.out
      · skip
        obtain ⟨u0, U0, R0, M0⟩ := FS.out.first 0 (by omega)
        obtain ⟨u1, U1, R1, M1⟩ := FS.out.first 1 (by omega)
        obtain ⟨u2, U2, R2, M2⟩ := FS.out.first 2 (by omega)
        have EF : FX = pkF true [foAt (fmEs ks p) 0, pkF false [foAt (fmEs ks p) 1, foAt (fmEs ks p) 2]] := HE.out
        generalize foAt (fmEs ks p) 0 = f0 at *
        generalize foAt (fmEs ks p) 1 = f1 at *
        generalize foAt (fmEs ks p) 2 = f2 at *
        have UI := pk2_us (mx := false) U1 U2
        have UO := pk2_us (mx := true) U0 UI
        obtain ⟨I, hI⟩ : ∃ I, pkF false [f1, f2] = I := ⟨_, rfl⟩
        obtain ⟨O, hO⟩ : ∃ O, pkF true [f0, I] = O := ⟨_, rfl⟩
        rw [hI] at EF UI UO
        rw [hO] at EF UO
        have l0 := fo_len U0 u0
        have l1 := fo_len U1 u1
        have l2 := fo_len U2 u2
        have PI := hide (fun (W : World) (g : Nat) (h : Below wr.heap.size wr W) (hg : wr.heap.size ≤ g) (hb : W.heap[g]? = some (.cells ((usL f1.us ++ [u1]) ++ (usL f2.us ++ [u2])).toArray 30)) => pick2R_any (B := w.heap.size + 4) false U1 U2 (pm_sees (cut_keep (Nat.le_refl _) h.size (fun b _ hl => h.block b hl)) M1) (pm_sees (cut_keep (Nat.le_refl _) h.size (fun b _ hl => h.block b hl)) M2) (by omega) hb)
        have PJ := hide (fun (W : World) (g : Nat) (fu : Value) (h : Below wr.heap.size wr W) (hg : wr.heap.size ≤ g) (hp : PM (cutW (w.heap.size + 4) W) (2 * p + 1) fu I.ps) (hb : W.heap[g]? = some (.cells ((usL f0.us ++ [u0]) ++ (usL I.us ++ [fu])).toArray 30)) => pick2R_any (B := w.heap.size + 4) true U0 UI (pm_le (Nat.le_succ _) (pm_sees (cut_keep (Nat.le_refl _) h.size (fun b _ hl => h.block b hl)) M0)) hp (by omega) hb)
        rw [hI] at PI
        rw [hO] at PJ
        obtain ⟨A0, hA0⟩ : ∃ A, usL f0.us ++ [u0] = A := ⟨_, rfl⟩
        obtain ⟨A1, hA1⟩ : ∃ A, usL f1.us ++ [u1] = A := ⟨_, rfl⟩
        obtain ⟨A2, hA2⟩ : ∃ A, usL f2.us ++ [u2] = A := ⟨_, rfl⟩
        rw [hA0] at R0 l0 PJ
        rw [hA1] at R1 l1 PI
        rw [hA2] at R2 l2 PI
        have FI := hide (show Us I.us from UI)
        have FO' := hide (show Us O.us from UO)
        have FIN := hide (fun (w5 : World) (v : Value) => FIN0.out O.us O.ps (2 * p + 2) (by omega) (by rw [EF]; cases O; rfl) w5 v UO)
        have H3 := hide h3
        have RR0 := hide R0
        have RR1 := hide R1
        have RR2 := hide R2
        have fl : ∀ A : List Value, A.length = 15 → (Tryz.prog.info? 30).map (·.size) = some A.length := fun A h => by rw [h]; kernel_rfl
        have FL0 := hide (fl A0 l0)
        have FL1 := hide (fl A1 l1)
        have FL2 := hide (fl A2 l2)
        clear fl EF hI hO U0 U1 U2 UI UO M0 M1 M2 hA0 hA1 hA2 FIN0 HGZ HPL HE FS R0 R1 R2
        go_upto_region 27 with fail
        refine wp_region_ch (by kernel_rfl) (enC (g) ((fmEs ks p).length) (lc) A0 A1 A2) tlC 5 (Stat.of (by kernel_rfl)) (acy_of (by kernel_rfl)) (by kernel_rfl) (by kernel_rfl) (by decide) rfl (ClT w wr (w.heap.size + 4) (2 * p) A0 A1 A2 I O) (Below.refl _ _).drew ?_ ?_ ?_
        · as_aux_lemma =>
            intro i o v hi ho hv listed a wx q u hqk hT I hd
            rcases (show i = 0 ∨ i = 1 ∨ i = 2 ∨ i = 3 ∨ i = 4 ∨ i = 5 ∨ i = 6 ∨ i = 7 ∨ i = 8 ∨ i ≥ 9 by omega) with rfl | rfl | rfl | rfl | rfl | rfl | rfl | rfl | rfl | h9
            · obtain rfl := Option.some.inj ho
              obtain rfl := Option.some.inj hv
              exact ⟨rfl, run_mv rfl (show a.tmps.getD 3 undef = _ from (I.oth_at (by kernel_rfl)).trans rfl)⟩
            · obtain rfl := Option.some.inj ho
              obtain rfl := Option.some.inj hv
              exact ⟨rfl, run_ixF (k := 0) rfl (I.val 0 _ 68 (by decide) (hd ⟨0, .data⟩ (by simp) rfl) rfl rfl) rfl (by have := H3.out; omega)⟩
            · obtain rfl := Option.some.inj ho
              obtain rfl := Option.some.inj hv
              exact ⟨rfl, run_ldO rfl (I.val 1 _ 69 (by decide) (hd ⟨1, .data⟩ (by simp) rfl) rfl rfl) (hT.rg hq3 (by omega) RR0.out) Tryz.underlying30 rfl FL0.out⟩
            · obtain rfl := Option.some.inj ho
              obtain rfl := Option.some.inj hv
              exact ⟨rfl, run_mv rfl (show a.tmps.getD 3 undef = _ from (I.oth_at (by kernel_rfl)).trans rfl)⟩
            · obtain rfl := Option.some.inj ho
              obtain rfl := Option.some.inj hv
              exact ⟨rfl, run_ixF (k := 1) rfl (I.val 3 _ 71 (by decide) (hd ⟨3, .data⟩ (by simp) rfl) rfl rfl) rfl (by have := H3.out; omega)⟩
            · obtain rfl := Option.some.inj ho
              obtain rfl := Option.some.inj hv
              exact ⟨rfl, run_ldO rfl (I.val 4 _ 72 (by decide) (hd ⟨4, .data⟩ (by simp) rfl) rfl rfl) (hT.rg hq3 (by omega) RR1.out) Tryz.underlying30 rfl FL1.out⟩
            · obtain rfl := Option.some.inj ho
              obtain rfl := Option.some.inj hv
              exact ⟨rfl, run_mv rfl (show a.tmps.getD 3 undef = _ from (I.oth_at (by kernel_rfl)).trans rfl)⟩
            · obtain rfl := Option.some.inj ho
              obtain rfl := Option.some.inj hv
              exact ⟨rfl, run_ixF (k := 2) rfl (I.val 6 _ 74 (by decide) (hd ⟨6, .data⟩ (by simp) rfl) rfl rfl) rfl (by have := H3.out; omega)⟩
            · obtain rfl := Option.some.inj ho
              obtain rfl := Option.some.inj hv
              exact ⟨rfl, run_ldO rfl (I.val 7 _ 75 (by decide) (hd ⟨7, .data⟩ (by simp) rfl) rfl rfl) (hT.rg hq3 (by omega) RR2.out) Tryz.underlying30 rfl FL2.out⟩
            · exfalso
              match i, h9 with
              | i + 9, _ => cases hv
        · as_aux_lemma =>
            intro Q' q o hq ho listed a wx I hd hT
            rcases (show q = 0 ∨ q = 1 ∨ q = 2 ∨ q = 3 ∨ q = 4 by omega) with rfl | rfl | rfl | rfl | rfl
            · obtain rfl := Option.some.inj (show (_ : Array Oper)[9]? = some o from ho)
              have hB : Below wr.heap.size wr wx := hT
              exact wpOp_valW rfl (wn rfl) (run_bs2F rfl (I.val 5 _ 73 (by decide) (hd ⟨5, .data⟩ (by simp) rfl) rfl rfl) (I.val 8 _ 76 (by decide) (hd ⟨8, .data⟩ (by simp) rfl) rfl rfl) l1 l2) ⟨_, rfl, (fun h => by cases h), bplus hB _, wx.heap.size, rfl, hB.size, heap_alloc_new wx _⟩
            · obtain rfl := Option.some.inj (show (_ : Array Oper)[10]? = some o from ho)
              obtain ⟨hB, g, hv, hg, hb⟩ := hT
              replace hv : a.tmps.getD 77 undef = _ := hv
              refine wpOp_callW rfl (wn rfl) (run_cl2 rfl rfl (fun v u => enters_of Tryz.func33 (by kernel_rfl) rfl #[v, u] wx)) ?_
              refine (show Calls Tryz.prog 33 #[.bool false, a.tmps.getD 77 undef] wx _ from ?_)
              rw [hv]
              refine (PI.out wx g hB hg hb).mono ?_
              rintro e w' ⟨x, rfl, hp, hb2⟩
              exact ⟨_, rfl, _, rfl, (fun h => by cases h), bto hB hb2, x, rfl, hp⟩
            · obtain rfl := Option.some.inj (show (_ : Array Oper)[11]? = some o from ho)
              obtain ⟨hB, fu, hv, hp⟩ := hT
              replace hv : a.tmps.getD 78 undef = _ := hv
              exact wpOp_valW rfl (wn rfl) (run_bs2F rfl (I.val 2 _ 70 (by decide) (hd ⟨2, .data⟩ (by simp) rfl) rfl rfl) hv l0 (fo_len FI.out fu)) ⟨_, rfl, (fun h => by cases h), bplus hB _, wx.heap.size, fu, rfl, hB.size, heap_alloc_new wx _, pm_sees (cut_keep (Nat.le_refl _) (by simp) (fun b _ hl => (bplus (Below.refl wx.heap.size wx) _).block b hl)) hp⟩
            · obtain rfl := Option.some.inj (show (_ : Array Oper)[12]? = some o from ho)
              obtain ⟨hB, g, fu, hv, hg, hb, hp⟩ := hT
              replace hv : a.tmps.getD 79 undef = _ := hv
              refine wpOp_callW rfl (wn rfl) (run_cl2 rfl rfl (fun v u => enters_of Tryz.func33 (by kernel_rfl) rfl #[v, u] wx)) ?_
              refine (show Calls Tryz.prog 33 #[.bool true, a.tmps.getD 79 undef] wx _ from ?_)
              rw [hv]
              refine (PJ.out wx g fu hB hg hp hb).mono ?_
              rintro e w' ⟨x, rfl, hp, hb2⟩
              exact ⟨_, rfl, _, rfl, (fun h => by cases h), bto hB hb2, x, rfl, hp⟩
            · obtain rfl := Option.some.inj (show (_ : Array Oper)[13]? = some o from ho)
              obtain ⟨hB, fu, hv, hp⟩ := hT
              replace hv : a.tmps.getD 80 undef = _ := hv
              have LS := fo_len FO'.out fu
              exact wpOp_stM (b := w.heap.size + 1) (off := 0) (cells := (usL O.us ++ [fu]).toArray) rfl rfl rfl ((I.oth_at (by kernel_rfl)).trans rfl) hv (by rw [show (usL O.us ++ [fu]).toArray.size = 15 from LS]; exact TH.out _ hB) (by rw [show (usL O.us ++ [fu]).toArray.size = 15 from LS]; kernel_rfl) (all_oneCell_toArray (us_one (pm_one hp))) ⟨undef, rfl, (fun _ => rfl), wx, fu, rfl, hB, hp⟩
        · intro a' wx OTH DF hT
          obtain ⟨w5, fu, rfl, hB, hp⟩ := hT
          have LS := fo_len FO'.out fu
          have OT := hide (show a'.tmps.getD 2 undef = _ from (OTH.2 2 (by kernel_rfl)).trans rfl)
          have DE := hide (show a'.defers = [] from DF)
          have RA := World.rangeAt_setCells_same w5 (w.heap.size + 1) 0 (usL O.us ++ [fu]) (by rw [LS]; exact TH.out _ hB)
          have FN := hide (FIN.out w5 fu hp hB)
          generalize usL O.us ++ [fu] = Z at *
          clear OTH DF hp hB FIN
          go_wp2_with fail
          refine ret_cell (b := w.heap.size + 1) (cs := Z) Tryz.results12 OT.out RA Tryz.underlying30 rfl (by rw [LS]; kernel_rfl) DE.out ?_
          exact FN.out
theorem formR_all (N : Nat) : FrC N := by
  induction N with
  | zero => intro x j u w hN; rw [szE_ks] at hN; omega
  | succ N ih => exact formR_step N ih
end Go.Proofs.YtlhmecagijdinaaGreatDoor.nm
set_option linter.unusedVariables false
set_option linter.unusedSimpArgs false
namespace Go.Proofs.YtlhmecagijdinaaGreatDoor.nm
open Go.RowKit cc be

end Go.Proofs.YtlhmecagijdinaaGreatDoor.nm

