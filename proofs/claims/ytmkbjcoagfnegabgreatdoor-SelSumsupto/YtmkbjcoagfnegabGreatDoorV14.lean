/-
  A selector of a token's text: by the program.
  A class: by the program.
  A compound: a tag alone, a class alone: by the program.
  A selector of two compounds, read: by the program.
-/
import Derived.Test.YtmkbjcoagfnegabGreatDoorV13
import Derived.StillTailTactics
import Derived.Deep.AppendLies
set_option linter.unusedVariables false
set_option linter.unusedSimpArgs false
namespace Go.Proofs.YtmkbjcoagfnegabGreatDoor
open Go.RowKit

theorem set_far9 {w : World} {a b i j : Nat} {v : Value} (h : b ≠ a) : (w.setCell ⟨a, i, none⟩ v).cell? ⟨b, j, none⟩ = w.cell? ⟨b, j, none⟩ := World.cell?_of_block (w := w) (Below.heap_setCell w ⟨a, i, none⟩ v b h)
theorem bxk_8' {w : World} {b : Nat} {u0 u1 u2 u3 u4 u5 u6 u7 : Value} {T : TypeId} (h : w.heap[b]? = some (.cells #[u0, u1, u2, u3, u4, u5, u6, u7] T)) : w.cell? ⟨b, 0, none⟩ = some u0 ∧ w.cell? ⟨b, 1, none⟩ = some u1 ∧ w.cell? ⟨b, 2, none⟩ = some u2 ∧ w.cell? ⟨b, 3, none⟩ = some u3 ∧ w.cell? ⟨b, 4, none⟩ = some u4 ∧ w.cell? ⟨b, 5, none⟩ = some u5 ∧ w.cell? ⟨b, 6, none⟩ = some u6 ∧ w.cell? ⟨b, 7, none⟩ = some u7 :=
  ⟨by rw [row_blk h]; rfl, by rw [row_blk h]; rfl, by rw [row_blk h]; rfl, by rw [row_blk h]; rfl, by rw [row_blk h]; rfl, by rw [row_blk h]; rfl, by rw [row_blk h]; rfl, by rw [row_blk h]; rfl⟩
set_option maxRecDepth 100000 in
set_option maxHeartbeats 20000000 in
theorem named9_any (kd k : Int) (s : ByteArray) (n d : Int) (i h' : Bool) (w : World) (hs : s.size ≤ 140737488355328) (hK : KT w) (hT : Tabs w) : Calls Tryz.prog 51 #[.int .i64 kd, .agg #[.int .i64 k, .string s, .int .i64 n, .int .i64 d, .bool i, .bool h']] w fun e w' => e = .returned (.tuple #[.agg #[.int .i64 kd, .string s, .int .i64 0, .string ⟨#[]⟩, .bool false, .slice none 0 0, .int .i64 0, .int .i64 0], .bool (nmS9 s)]) ∧ Below w.heap.size w w' := by
  have C := hide (fun (W : World) (h : Below w.heap.size w W) => isName9_any s W hs (hK.below h) (hT.below h))
  clear hK hT
  obtain ⟨W1, hW1⟩ : ∃ W1, (w.alloc (.cells #[.int .i64 k, .string s, .int .i64 n, .int .i64 d, .bool i, .bool h'] 62)).alloc S0 = W1 := ⟨_, rfl⟩
  have HW1 := hide hW1
  have B0 := hide (show Below w.heap.size w W1 by rw [← hW1]; exact bplus (bplus (Below.refl _ _) _) _)
  have sz : W1.heap.size = w.heap.size + 2 := by rw [← hW1]; simp
  have P0 := hide (show W1.heap[w.heap.size]? = some (.cells #[.int .i64 k, .string s, .int .i64 n, .int .i64 d, .bool i, .bool h'] 62) by rw [← hW1]; exact (Below.heap_alloc _ _ _ (by simp)).trans (heap_alloc_new w _))
  have P1 := hide (show W1.heap[w.heap.size + 1]? = some S0 by rw [← hW1]; have := heap_alloc_new (w.alloc (.cells #[.int .i64 k, .string s, .int .i64 n, .int .i64 d, .bool i, .bool h'] 62)) S0; simpa using this)
  clear hW1
  unfold S0 at HW1
  have KP := hide (fun (W : World) (h : Below W1.heap.size W1 W) => show W.cell? ⟨w.heap.size, 1, none⟩ = some (.string s) by rw [row_blk ((h.block _ (by omega)).trans P0.out)]; rfl)
  have KS := hide (fun (W : World) (hc : W.cell? ⟨w.heap.size, 1, none⟩ = some (.string s)) (v0 v1 v2 v3 v4 v5 v6 v7 : Value) => show ((((((((W.setCell ⟨w.heap.size + 1, 0, none⟩ v0).setCell ⟨w.heap.size + 1, 1, none⟩ v1).setCell ⟨w.heap.size + 1, 2, none⟩ v2).setCell ⟨w.heap.size + 1, 3, none⟩ v3).setCell ⟨w.heap.size + 1, 4, none⟩ v4).setCell ⟨w.heap.size + 1, 5, none⟩ v5).setCell ⟨w.heap.size + 1, 6, none⟩ v6).setCell ⟨w.heap.size + 1, 7, none⟩ v7).cell? ⟨w.heap.size, 1, none⟩ = some (.string s) by rw [set_far9 (by omega), set_far9 (by omega), set_far9 (by omega), set_far9 (by omega), set_far9 (by omega), set_far9 (by omega), set_far9 (by omega), set_far9 (by omega)]; exact hc)
  have RG := hide (fun (W : World) (h : Below W1.heap.size W1 W) (vs : List Value) (hl : vs.length = 8) => show (W.setCells (w.heap.size + 1) 0 vs).rangeAt (w.heap.size + 1) 0 vs ∧ Below w.heap.size w (W.setCells (w.heap.size + 1) 0 vs) from
    ⟨World.rangeAt_setCells_same _ _ _ _ (by rw [hl]; exact there_blk ((h.block _ (by omega)).trans P1.out) rfl), (B0.out.trans (h.mono (by omega))).grown (setCells_grown _ _ _ _) (by have := h.size; omega) (fun k hk => by cases hk; omega)⟩)
  have RG8 := hide (fun (W : World) (h : Below W1.heap.size W1 W) => show ((((((((W.setCell ⟨w.heap.size + 1, 0, none⟩ (.int .i64 kd)).setCell ⟨w.heap.size + 1, 1, none⟩ (.string s)).setCell ⟨w.heap.size + 1, 2, none⟩ (.int .i64 0)).setCell ⟨w.heap.size + 1, 3, none⟩ (.string ⟨#[]⟩)).setCell ⟨w.heap.size + 1, 4, none⟩ (.bool false)).setCell ⟨w.heap.size + 1, 5, none⟩ (.slice none 0 0)).setCell ⟨w.heap.size + 1, 6, none⟩ (.int .i64 0)).setCell ⟨w.heap.size + 1, 7, none⟩ (.int .i64 0)).rangeAt (w.heap.size + 1) 0 [.int .i64 kd, .string s, .int .i64 0, .string ⟨#[]⟩, .bool false, .slice none 0 0, .int .i64 0, .int .i64 0] ∧ Below w.heap.size w ((((((((W.setCell ⟨w.heap.size + 1, 0, none⟩ (.int .i64 kd)).setCell ⟨w.heap.size + 1, 1, none⟩ (.string s)).setCell ⟨w.heap.size + 1, 2, none⟩ (.int .i64 0)).setCell ⟨w.heap.size + 1, 3, none⟩ (.string ⟨#[]⟩)).setCell ⟨w.heap.size + 1, 4, none⟩ (.bool false)).setCell ⟨w.heap.size + 1, 5, none⟩ (.slice none 0 0)).setCell ⟨w.heap.size + 1, 6, none⟩ (.int .i64 0)).setCell ⟨w.heap.size + 1, 7, none⟩ (.int .i64 0)) from RG.out W h [.int .i64 kd, .string s, .int .i64 0, .string ⟨#[]⟩, .bool false, .slice none 0 0, .int .i64 0, .int .i64 0] rfl)
  clear RG
  go_enter Tryz.func51, Tryz.ntmps51
  go_upto_region 1 with fail
  rw [HW1.out]
  clear HW1
  have k0 : W1.drew.cell? ⟨w.heap.size, 1, none⟩ = some (.string s) := KP.out W1 (Below.refl _ _)
  go_region_held3 (fun w' => w'.cell? ⟨w.heap.size, 1, none⟩ = some (.string s))
    (first | (with_reducible refine KS.out _ ?_ _ _ _ _ _ _ _ _; with_reducible exact KK) | (with_reducible exact KK) | (exact k0))
    (first | (go_at_call 70; refine (C.out W1.drew B0.out.drew).mono ?_; rintro e w1 ⟨rfl, B1⟩; have BB : Below W1.heap.size W1 w1 := (Below.refl W1.heap.size W1).drew.trans B1; have KK := KP.out w1 BB; have P2 := (BB.block _ (by omega)).trans P1.out; unfold S0 at P2; obtain ⟨a0, a1, a2, a3, a4, a5, a6, a7⟩ := bxk_8' P2; have z0 := fz_of P2 0; have z1 := fz_of P2 1; have z2 := fz_of P2 2; have z3 := fz_of P2 3; have z4 := fz_of P2 4; have z5 := fz_of P2 5; have z6 := fz_of P2 6; have z7 := fz_of P2 7; have RR := hide (RG8.out w1 BB); clear B1 BB P2))
  all_goals
    go_wp2_with fail
    refine ret_cell2 (b := w.heap.size + 1) (cs := [.int .i64 kd, .string s, .int .i64 0, .string ⟨#[]⟩, .bool false, .slice none 0 0, .int .i64 0, .int .i64 0]) (v := .bool (nmS9 s)) Tryz.results51 rfl rfl RR.out.1 Tryz.underlying37 rfl (by kernel_rfl) rfl ?_
    exact ⟨rfl, RR.out.2⟩
end Go.Proofs.YtmkbjcoagfnegabGreatDoor
set_option linter.unusedVariables false
set_option linter.unusedSimpArgs false
namespace Go.Proofs.YtmkbjcoagfnegabGreatDoor
open Go.RowKit

theorem cell_drew9 (w : World) (a : Addr) : w.drew.cell? a = w.cell? a := rfl
theorem range_drew9 {w : World} {b o : Nat} {cs : List Value} (h : w.rangeAt b o cs) : w.drew.rangeAt b o cs := fun j v hv => h j v hv
theorem gb_drew9 {w0 w : World} {r : Option Nat} (h : w0.grownBy w r) : w0.grownBy w.drew r := ⟨h.os, h.tape, h.output, h.size, h.block⟩
theorem keepM {w w1 : World} {b r : Nat} {o : Obj} (h : w.heap[r]? = some o) (hr : r ≠ b) (m : w.grownBy w1 (some b)) : w1.heap[r]? = some o :=
  (m.block r (Array.getElem?_eq_some_iff.1 h).1 (by intro e; cases e; exact hr rfl)).trans h
set_option maxRecDepth 100000 in
set_option maxHeartbeats 8000000 in
theorem simple9_class (W w0 : World) (g : Nat) (n1 d1 : Int) (i1 e1 : Bool) (k1 : List VT) (s : ByteArray) (n2 d2 : Int) (i2 e2 : Bool) (k2 r : List VT) (ma mb : Value) (hm1 : ma.oneCell' = true) (hm2 : mb.oneCell' = true)
    (h : Cu W w0 g (.mk ⟨9, ⟨#[46]⟩, n1, d1, i1, e1⟩ k1 :: .mk ⟨1, s, n2, d2, i2, e2⟩ k2 :: r)) (hs : s.size ≤ 1048576) (hn : nmS9 s = true) (hK : KT w0) (hT : Tabs w0)
    (hKT : ∀ w', w0.grownBy w' (some g) → KT w' ∧ Tabs w') :
    Calls Tryz.prog 54 #[.agg #[ma, mb], .pointer (some ⟨g, 0, none⟩)] w0 fun e w' => e = .returned (.tuple #[.agg #[.int .i64 3, .string s, .int .i64 0, .string ⟨#[]⟩, .bool false, .slice none 0 0, .int .i64 0, .int .i64 0], .bool true]) ∧ Cu W w' g r ∧ w0.grownBy w' (some g) := by
  have hg := h.lt
  have gw : W.heap.size ≤ w0.heap.size := by obtain ⟨_, _, _, _, B⟩ := h; exact B.size
  have q1 := fun (u0 u1 u2 u3 u4 u5 u6 : Value) (w : World) => fldV u0 u1 u2 u3 u4 u5 u6 w
  obtain ⟨Wa, hWa⟩ : ∃ Wa, (w0.alloc (.cells #[ma, mb] 53)).alloc S0 = Wa := ⟨_, rfl⟩
  have HWa := hide hWa
  have Ba := (show Below w0.heap.size w0 Wa by rw [← hWa]; exact bplus (bplus (Below.refl _ _) _) _)
  have sz : Wa.heap.size = w0.heap.size + 2 := by rw [← hWa]; simp
  have PR := hide (show Wa.heap[w0.heap.size + 1]? = some S0 by rw [← hWa]; have := heap_alloc_new (w0.alloc (.cells #[ma, mb] 53)) S0; simpa using this)
  clear hWa
  unfold S0 at HWa
  have HC := hide (h.low Ba)
  have HM := hide (Mod.of g Ba)
  clear h Ba
  have C1 := hide (fun (w1 : World) (h : Cu W w1 g (.mk ⟨9, ⟨#[46]⟩, n1, d1, i1, e1⟩ k1 :: .mk ⟨1, s, n2, d2, i2, e2⟩ k2 :: r)) => take9_cons W w1 g _ k1 _ h)
  have C2 := hide (fun (w1 : World) (h : Cu W w1 g (.mk ⟨1, s, n2, d2, i2, e2⟩ k2 :: r)) => take9_cons W w1 g _ k2 r h)
  have C3 := hide (fun (w1 : World) (h : w0.grownBy w1 (some g)) => named9_any 3 1 s n2 d2 i2 e2 w1 (by omega) (hKT w1 h).1 (hKT w1 h).2)
  rw [hn] at C3
  simp only at C1 C2
  clear hK hT hKT hn
  go_enter Tryz.func54, Tryz.ntmps54
  go_upto_region 1 with fail
  rw [HWa.out]
  clear HWa
  have nRg : w0.heap.size + 1 ≠ g := by omega
  go_upto_region 12 with (first
    | (go_at_call 33; refine (C1.out _ HC.out).mono ?_; rintro e w1 ⟨ka, kn, kc, rfl, -, D1, M1⟩; replace PR := hide (keepM PR.out nRg M1); replace HC := hide (D1.low (bplus (Below.refl _ _) (.cells #[.int .i64 9, .string ⟨#[46]⟩, .int .i64 n1, .int .i64 d1, .bool i1, .bool e1, .slice ka kn kc] 64))); replace HM := hide (Mod.trans (Mod.trans HM.out M1) (Mod.of g (bplus (Below.refl _ _) (.cells #[.int .i64 9, .string ⟨#[46]⟩, .int .i64 n1, .int .i64 d1, .bool i1, .bool e1, .slice ka kn kc] 64)))); replace PR := hide ((Below.heap_alloc w1 (.cells #[.int .i64 9, .string ⟨#[46]⟩, .int .i64 n1, .int .i64 d1, .bool i1, .bool e1, .slice ka kn kc] 64) _ (Array.getElem?_eq_some_iff.1 PR.out).1).trans PR.out); clear D1 M1 C1)
    | (go_at_call 33; refine (C2.out _ HC.out).mono ?_; rintro e w2 ⟨kb, kl, kd, rfl, -, D2, M2⟩; replace PR := hide (keepM PR.out nRg M2); have P9 := hide (heap_alloc_new w2 (.cells #[.int .i64 1, .string s, .int .i64 n2, .int .i64 d2, .bool i2, .bool e2] 62)); replace HC := hide (D2.low (bplus (Below.refl _ _) (.cells #[.int .i64 1, .string s, .int .i64 n2, .int .i64 d2, .bool i2, .bool e2] 62))); replace HM := hide (Mod.trans (Mod.trans HM.out M2) (Mod.of g (bplus (Below.refl _ _) (.cells #[.int .i64 1, .string s, .int .i64 n2, .int .i64 d2, .bool i2, .bool e2] 62)))); replace PR := hide ((Below.heap_alloc w2 (.cells #[.int .i64 1, .string s, .int .i64 n2, .int .i64 d2, .bool i2, .bool e2] 62) _ (Array.getElem?_eq_some_iff.1 PR.out).1).trans PR.out); clear D2 M2 C2)
    | (go_at_call 51; refine (C3.out _ HM.out).mono ?_; rintro e w3 ⟨rfl, B3⟩; replace PR := hide ((B3.block _ (Array.getElem?_eq_some_iff.1 PR.out).1).trans PR.out); replace P9 := hide ((B3.block _ (Array.getElem?_eq_some_iff.1 P9.out).1).trans P9.out); replace HC := hide (HC.out.low B3); replace HM := hide (Mod.trans HM.out (Mod.of g B3)); clear B3 C3))
  have PB := hide (heap_alloc_new w3 (.cells #[.int .i64 3, .string s, .int .i64 0, .string ⟨#[]⟩, .bool false, .slice none 0 0, .int .i64 0, .int .i64 0] 37))
  replace PR := hide ((Below.heap_alloc w3 (.cells #[.int .i64 3, .string s, .int .i64 0, .string ⟨#[]⟩, .bool false, .slice none 0 0, .int .i64 0, .int .i64 0] 37) _ (Array.getElem?_eq_some_iff.1 PR.out).1).trans PR.out)
  have l9 := (Array.getElem?_eq_some_iff.1 P9.out).1
  replace P9 := hide ((Below.heap_alloc w3 (.cells #[.int .i64 3, .string s, .int .i64 0, .string ⟨#[]⟩, .bool false, .slice none 0 0, .int .i64 0, .int .i64 0] 37) _ l9).trans P9.out)
  replace HC := hide (HC.out.low (bplus (Below.refl _ _) (.cells #[.int .i64 3, .string s, .int .i64 0, .string ⟨#[]⟩, .bool false, .slice none 0 0, .int .i64 0, .int .i64 0] 37)))
  replace HM := hide (Mod.trans HM.out (Mod.of g (bplus (Below.refl _ _) (.cells #[.int .i64 3, .string s, .int .i64 0, .string ⟨#[]⟩, .bool false, .slice none 0 0, .int .i64 0, .int .i64 0] 37))))
  have lR := (Array.getElem?_eq_some_iff.1 PR.out).1
  have n2' : w2.heap.size ≠ w0.heap.size + 1 := fun e => by
    have h1 := P9.out
    rw [e] at h1
    have h2 := h1.symm.trans PR.out
    unfold S0 at h2
    simp at h2
  have n3' : w3.heap.size ≠ w0.heap.size + 1 := fun e => by
    have h1 := PB.out
    rw [e] at h1
    have h2 := h1.symm.trans PR.out
    unfold S0 at h2
    simp at h2
  generalize w3.alloc (.cells #[.int .i64 3, .string s, .int .i64 0, .string ⟨#[]⟩, .bool false, .slice none 0 0, .int .i64 0, .int .i64 0] 37) = Wb at PB PR P9 HC HM lR ⊢
  generalize w3.heap.size = bb at PB n3' ⊢
  have P2 := PR.out
  unfold S0 at P2
  obtain ⟨a0, a1, a2, a3, a4, a5, a6, a7⟩ := bxk_8' P2
  have z0 := fz_of P2 0
  have z1 := fz_of P2 1
  have z2 := fz_of P2 2
  have z3 := fz_of P2 3
  have z4 := fz_of P2 4
  have z5 := fz_of P2 5
  have z6 := fz_of P2 6
  have z7 := fz_of P2 7
  have KK : Wb.cell? ⟨w2.heap.size, 0, none⟩ = some (.int .i64 1) ∧ Wb.cell? ⟨bb, 0, none⟩ = some (.int .i64 3) ∧ Wb.cell? ⟨bb, 1, none⟩ = some (.string s) ∧ Wb.cell? ⟨bb, 2, none⟩ = some (.int .i64 0) ∧ Wb.cell? ⟨bb, 3, none⟩ = some (.string ⟨#[]⟩) ∧ Wb.cell? ⟨bb, 4, none⟩ = some (.bool false) ∧ Wb.cell? ⟨bb, 5, none⟩ = some (.slice none 0 0) ∧ Wb.cell? ⟨bb, 6, none⟩ = some (.int .i64 0) ∧ Wb.cell? ⟨bb, 7, none⟩ = some (.int .i64 0) := by
    obtain ⟨b0, b1, b2, b3, b4, b5, b6, b7⟩ := bxk_8' PB.out
    exact ⟨by rw [row_blk P9.out]; rfl, b0, b1, b2, b3, b4, b5, b6, b7⟩
  have KD : Wb.drew.cell? ⟨w2.heap.size, 0, none⟩ = some (.int .i64 1) ∧ Wb.drew.cell? ⟨bb, 0, none⟩ = some (.int .i64 3) ∧ Wb.drew.cell? ⟨bb, 1, none⟩ = some (.string s) ∧ Wb.drew.cell? ⟨bb, 2, none⟩ = some (.int .i64 0) ∧ Wb.drew.cell? ⟨bb, 3, none⟩ = some (.string ⟨#[]⟩) ∧ Wb.drew.cell? ⟨bb, 4, none⟩ = some (.bool false) ∧ Wb.drew.cell? ⟨bb, 5, none⟩ = some (.slice none 0 0) ∧ Wb.drew.cell? ⟨bb, 6, none⟩ = some (.int .i64 0) ∧ Wb.drew.cell? ⟨bb, 7, none⟩ = some (.int .i64 0) := KK
  have KS := hide (fun (W : World) (h : W.cell? ⟨w2.heap.size, 0, none⟩ = some (.int .i64 1) ∧ W.cell? ⟨bb, 0, none⟩ = some (.int .i64 3) ∧ W.cell? ⟨bb, 1, none⟩ = some (.string s) ∧ W.cell? ⟨bb, 2, none⟩ = some (.int .i64 0) ∧ W.cell? ⟨bb, 3, none⟩ = some (.string ⟨#[]⟩) ∧ W.cell? ⟨bb, 4, none⟩ = some (.bool false) ∧ W.cell? ⟨bb, 5, none⟩ = some (.slice none 0 0) ∧ W.cell? ⟨bb, 6, none⟩ = some (.int .i64 0) ∧ W.cell? ⟨bb, 7, none⟩ = some (.int .i64 0)) (v0 v1 v2 v3 v4 v5 v6 v7 : Value) => show ((((((((W.setCell ⟨w0.heap.size + 1, 0, none⟩ v0).setCell ⟨w0.heap.size + 1, 1, none⟩ v1).setCell ⟨w0.heap.size + 1, 2, none⟩ v2).setCell ⟨w0.heap.size + 1, 3, none⟩ v3).setCell ⟨w0.heap.size + 1, 4, none⟩ v4).setCell ⟨w0.heap.size + 1, 5, none⟩ v5).setCell ⟨w0.heap.size + 1, 6, none⟩ v6).setCell ⟨w0.heap.size + 1, 7, none⟩ v7).drew.cell? ⟨w2.heap.size, 0, none⟩ = some (.int .i64 1) ∧ ((((((((W.setCell ⟨w0.heap.size + 1, 0, none⟩ v0).setCell ⟨w0.heap.size + 1, 1, none⟩ v1).setCell ⟨w0.heap.size + 1, 2, none⟩ v2).setCell ⟨w0.heap.size + 1, 3, none⟩ v3).setCell ⟨w0.heap.size + 1, 4, none⟩ v4).setCell ⟨w0.heap.size + 1, 5, none⟩ v5).setCell ⟨w0.heap.size + 1, 6, none⟩ v6).setCell ⟨w0.heap.size + 1, 7, none⟩ v7).drew.cell? ⟨bb, 0, none⟩ = some (.int .i64 3) ∧ ((((((((W.setCell ⟨w0.heap.size + 1, 0, none⟩ v0).setCell ⟨w0.heap.size + 1, 1, none⟩ v1).setCell ⟨w0.heap.size + 1, 2, none⟩ v2).setCell ⟨w0.heap.size + 1, 3, none⟩ v3).setCell ⟨w0.heap.size + 1, 4, none⟩ v4).setCell ⟨w0.heap.size + 1, 5, none⟩ v5).setCell ⟨w0.heap.size + 1, 6, none⟩ v6).setCell ⟨w0.heap.size + 1, 7, none⟩ v7).drew.cell? ⟨bb, 1, none⟩ = some (.string s) ∧ ((((((((W.setCell ⟨w0.heap.size + 1, 0, none⟩ v0).setCell ⟨w0.heap.size + 1, 1, none⟩ v1).setCell ⟨w0.heap.size + 1, 2, none⟩ v2).setCell ⟨w0.heap.size + 1, 3, none⟩ v3).setCell ⟨w0.heap.size + 1, 4, none⟩ v4).setCell ⟨w0.heap.size + 1, 5, none⟩ v5).setCell ⟨w0.heap.size + 1, 6, none⟩ v6).setCell ⟨w0.heap.size + 1, 7, none⟩ v7).drew.cell? ⟨bb, 2, none⟩ = some (.int .i64 0) ∧ ((((((((W.setCell ⟨w0.heap.size + 1, 0, none⟩ v0).setCell ⟨w0.heap.size + 1, 1, none⟩ v1).setCell ⟨w0.heap.size + 1, 2, none⟩ v2).setCell ⟨w0.heap.size + 1, 3, none⟩ v3).setCell ⟨w0.heap.size + 1, 4, none⟩ v4).setCell ⟨w0.heap.size + 1, 5, none⟩ v5).setCell ⟨w0.heap.size + 1, 6, none⟩ v6).setCell ⟨w0.heap.size + 1, 7, none⟩ v7).drew.cell? ⟨bb, 3, none⟩ = some (.string ⟨#[]⟩) ∧ ((((((((W.setCell ⟨w0.heap.size + 1, 0, none⟩ v0).setCell ⟨w0.heap.size + 1, 1, none⟩ v1).setCell ⟨w0.heap.size + 1, 2, none⟩ v2).setCell ⟨w0.heap.size + 1, 3, none⟩ v3).setCell ⟨w0.heap.size + 1, 4, none⟩ v4).setCell ⟨w0.heap.size + 1, 5, none⟩ v5).setCell ⟨w0.heap.size + 1, 6, none⟩ v6).setCell ⟨w0.heap.size + 1, 7, none⟩ v7).drew.cell? ⟨bb, 4, none⟩ = some (.bool false) ∧ ((((((((W.setCell ⟨w0.heap.size + 1, 0, none⟩ v0).setCell ⟨w0.heap.size + 1, 1, none⟩ v1).setCell ⟨w0.heap.size + 1, 2, none⟩ v2).setCell ⟨w0.heap.size + 1, 3, none⟩ v3).setCell ⟨w0.heap.size + 1, 4, none⟩ v4).setCell ⟨w0.heap.size + 1, 5, none⟩ v5).setCell ⟨w0.heap.size + 1, 6, none⟩ v6).setCell ⟨w0.heap.size + 1, 7, none⟩ v7).drew.cell? ⟨bb, 5, none⟩ = some (.slice none 0 0) ∧ ((((((((W.setCell ⟨w0.heap.size + 1, 0, none⟩ v0).setCell ⟨w0.heap.size + 1, 1, none⟩ v1).setCell ⟨w0.heap.size + 1, 2, none⟩ v2).setCell ⟨w0.heap.size + 1, 3, none⟩ v3).setCell ⟨w0.heap.size + 1, 4, none⟩ v4).setCell ⟨w0.heap.size + 1, 5, none⟩ v5).setCell ⟨w0.heap.size + 1, 6, none⟩ v6).setCell ⟨w0.heap.size + 1, 7, none⟩ v7).drew.cell? ⟨bb, 6, none⟩ = some (.int .i64 0) ∧ ((((((((W.setCell ⟨w0.heap.size + 1, 0, none⟩ v0).setCell ⟨w0.heap.size + 1, 1, none⟩ v1).setCell ⟨w0.heap.size + 1, 2, none⟩ v2).setCell ⟨w0.heap.size + 1, 3, none⟩ v3).setCell ⟨w0.heap.size + 1, 4, none⟩ v4).setCell ⟨w0.heap.size + 1, 5, none⟩ v5).setCell ⟨w0.heap.size + 1, 6, none⟩ v6).setCell ⟨w0.heap.size + 1, 7, none⟩ v7).drew.cell? ⟨bb, 7, none⟩ = some (.int .i64 0) by
    obtain ⟨h0, h1, h2, h3, h4, h5, h6, h7, h8⟩ := h
    refine ⟨?_, ?_, ?_, ?_, ?_, ?_, ?_, ?_, ?_⟩
    all_goals
      rw [cell_drew9, set_far9 (by first | exact n2' | exact n3'), set_far9 (by first | exact n2' | exact n3'), set_far9 (by first | exact n2' | exact n3'), set_far9 (by first | exact n2' | exact n3'), set_far9 (by first | exact n2' | exact n3'), set_far9 (by first | exact n2' | exact n3'), set_far9 (by first | exact n2' | exact n3'), set_far9 (by first | exact n2' | exact n3')]
      with_reducible assumption)
  have RG := hide (show (Wb.setCells (w0.heap.size + 1) 0 [.int .i64 3, .string s, .int .i64 0, .string ⟨#[]⟩, .bool false, .slice none 0 0, .int .i64 0, .int .i64 0]).rangeAt (w0.heap.size + 1) 0 [.int .i64 3, .string s, .int .i64 0, .string ⟨#[]⟩, .bool false, .slice none 0 0, .int .i64 0, .int .i64 0] ∧ Cu W (Wb.setCells (w0.heap.size + 1) 0 [.int .i64 3, .string s, .int .i64 0, .string ⟨#[]⟩, .bool false, .slice none 0 0, .int .i64 0, .int .i64 0]) g r ∧ w0.grownBy (Wb.setCells (w0.heap.size + 1) 0 [.int .i64 3, .string s, .int .i64 0, .string ⟨#[]⟩, .bool false, .slice none 0 0, .int .i64 0, .int .i64 0]) (some g) by
    have G := setCells_grown (w0.heap.size + 1) [.int .i64 3, .string s, .int .i64 0, .string ⟨#[]⟩, .bool false, .slice none 0 0, .int .i64 0, .int .i64 0] 0 Wb
    refine ⟨World.rangeAt_setCells_same Wb (w0.heap.size + 1) 0 _ (there_blk PR.out rfl), ?_, ?_⟩
    · obtain ⟨v, c1, c2, c3, c4⟩ := HC.out
      exact ⟨v, (G.block g (Array.getElem?_eq_some_iff.1 c1).1 (by intro e; cases e; exact nRg rfl)).trans c1, c2, c3, c4.grown G c4.size (fun k hk => by cases hk; omega)⟩
    · have m := HM.out
      exact ⟨G.os.trans m.os, G.tape.trans m.tape, G.output.trans m.output, Nat.le_trans m.size G.size, fun k hk hne => (G.block k (Nat.lt_of_lt_of_le hk m.size) (by intro e; cases e; omega)).trans (m.block k hk hne)⟩)
  have R8 := hide (show ((((((((Wb.setCell ⟨w0.heap.size + 1, 0, none⟩ (.int .i64 3)).setCell ⟨w0.heap.size + 1, 1, none⟩ (.string s)).setCell ⟨w0.heap.size + 1, 2, none⟩ (.int .i64 0)).setCell ⟨w0.heap.size + 1, 3, none⟩ (.string ⟨#[]⟩)).setCell ⟨w0.heap.size + 1, 4, none⟩ (.bool false)).setCell ⟨w0.heap.size + 1, 5, none⟩ (.slice none 0 0)).setCell ⟨w0.heap.size + 1, 6, none⟩ (.int .i64 0)).setCell ⟨w0.heap.size + 1, 7, none⟩ (.int .i64 0)).rangeAt (w0.heap.size + 1) 0 [.int .i64 3, .string s, .int .i64 0, .string ⟨#[]⟩, .bool false, .slice none 0 0, .int .i64 0, .int .i64 0] ∧ Cu W ((((((((Wb.setCell ⟨w0.heap.size + 1, 0, none⟩ (.int .i64 3)).setCell ⟨w0.heap.size + 1, 1, none⟩ (.string s)).setCell ⟨w0.heap.size + 1, 2, none⟩ (.int .i64 0)).setCell ⟨w0.heap.size + 1, 3, none⟩ (.string ⟨#[]⟩)).setCell ⟨w0.heap.size + 1, 4, none⟩ (.bool false)).setCell ⟨w0.heap.size + 1, 5, none⟩ (.slice none 0 0)).setCell ⟨w0.heap.size + 1, 6, none⟩ (.int .i64 0)).setCell ⟨w0.heap.size + 1, 7, none⟩ (.int .i64 0)) g r ∧ w0.grownBy ((((((((Wb.setCell ⟨w0.heap.size + 1, 0, none⟩ (.int .i64 3)).setCell ⟨w0.heap.size + 1, 1, none⟩ (.string s)).setCell ⟨w0.heap.size + 1, 2, none⟩ (.int .i64 0)).setCell ⟨w0.heap.size + 1, 3, none⟩ (.string ⟨#[]⟩)).setCell ⟨w0.heap.size + 1, 4, none⟩ (.bool false)).setCell ⟨w0.heap.size + 1, 5, none⟩ (.slice none 0 0)).setCell ⟨w0.heap.size + 1, 6, none⟩ (.int .i64 0)).setCell ⟨w0.heap.size + 1, 7, none⟩ (.int .i64 0)) (some g) from RG.out)
  clear RG
  clear HC HM P2 PR P9 PB l9 lR q1
  go_region_held3 (fun w' => w'.cell? ⟨w2.heap.size, 0, none⟩ = some (.int .i64 1) ∧ w'.cell? ⟨bb, 0, none⟩ = some (.int .i64 3) ∧ w'.cell? ⟨bb, 1, none⟩ = some (.string s) ∧ w'.cell? ⟨bb, 2, none⟩ = some (.int .i64 0) ∧ w'.cell? ⟨bb, 3, none⟩ = some (.string ⟨#[]⟩) ∧ w'.cell? ⟨bb, 4, none⟩ = some (.bool false) ∧ w'.cell? ⟨bb, 5, none⟩ = some (.slice none 0 0) ∧ w'.cell? ⟨bb, 6, none⟩ = some (.int .i64 0) ∧ w'.cell? ⟨bb, 7, none⟩ = some (.int .i64 0))
    (first | (with_reducible refine KS.out _ ?_ _ _ _ _ _ _ _ _; with_reducible exact KK) | (with_reducible exact KD))
    (fail)
  go_wp2_with fail
  refine ret_cell2 (b := w0.heap.size + 1) (cs := [.int .i64 3, .string s, .int .i64 0, .string ⟨#[]⟩, .bool false, .slice none 0 0, .int .i64 0, .int .i64 0]) (v := .bool true) Tryz.results54 rfl rfl (range_drew9 R8.out.1) Tryz.underlying37 rfl (by kernel_rfl) rfl ?_
  exact ⟨rfl, R8.out.2.1.low (Below.refl _ _).drew, gb_drew9 R8.out.2.2⟩
end Go.Proofs.YtmkbjcoagfnegabGreatDoor
set_option linter.unusedVariables false
set_option linter.unusedSimpArgs false
namespace Go.Proofs.YtmkbjcoagfnegabGreatDoor
open Go.RowKit

theorem kt_mod {W w0 : World} {g : Nat} {l : List VT} (hK : KT W) (hT : Tabs W) (h : Cu W w0 g l) : ∀ w', w0.grownBy w' (some g) → KT w' ∧ Tabs w' := fun w' m => by
  obtain ⟨v, _, _, h3, h4⟩ := h
  have B := Mod.below m h3 h4
  exact ⟨hK.below B, hT.below B⟩
theorem infoS9 : (Tryz.prog.info? 37).map (fun i => (i.zero, i.size, i.bytes)) = some (some (.agg #[.int .i64 0, .string ⟨#[]⟩, .int .i64 0, .string ⟨#[]⟩, .bool false, .slice none 0 0, .int .i64 0, .int .i64 0]), 8, 96) := by kernel_rfl
theorem new8 (w : World) (g : Nat) (u0 u1 u2 u3 u4 u5 u6 u7 : Value) (t : TypeId) (hg : g = w.heap.size) : ∀ j x, [u0, u1, u2, u3, u4, u5, u6, u7][j]? = some x → (w.alloc (.cells #[u0, u1, u2, u3, u4, u5, u6, u7] t)).cell? ((⟨g, 0, none⟩ : Addr).add j) = some x := fun j x hx => by
  subst hg
  match j, hx with
  | 0, hx => simp at hx; subst hx; simp [Addr.add]
  | 1, hx => simp at hx; subst hx; simp [Addr.add]
  | 2, hx => simp at hx; subst hx; simp [Addr.add]
  | 3, hx => simp at hx; subst hx; simp [Addr.add]
  | 4, hx => simp at hx; subst hx; simp [Addr.add]
  | 5, hx => simp at hx; subst hx; simp [Addr.add]
  | 6, hx => simp at hx; subst hx; simp [Addr.add]
  | 7, hx => simp at hx; subst hx; simp [Addr.add]
theorem bxk_2' {w : World} {b : Nat} {u0 u1 : Value} {T : TypeId} (h : w.heap[b]? = some (.cells #[u0, u1] T)) : w.cell? ⟨b, 0, none⟩ = some u0 ∧ w.cell? ⟨b, 1, none⟩ = some u1 :=
  ⟨by rw [row_blk h]; rfl, by rw [row_blk h]; rfl⟩
theorem gr_none {w w' : World} (h : w.grownBy w' none) : Below w.heap.size w w' := ⟨h.os, h.tape, h.output, h.size, fun k hk => h.block k hk (by simp)⟩
set_option maxRecDepth 100000 in
set_option maxHeartbeats 8000000 in
theorem compound9_tag (W w0 : World) (g : Nat) (s : ByteArray) (n1 d1 : Int) (i1 e1 : Bool) (k1 : List VT) (s2 : ByteArray) (n2 d2 : Int) (i2 e2 : Bool) (k2 r : List VT) (ma mb : Value) (hm1 : ma.oneCell' = true) (hm2 : mb.oneCell' = true)
    (h : Cu W w0 g (.mk ⟨1, s, n1, d1, i1, e1⟩ k1 :: .mk ⟨13, s2, n2, d2, i2, e2⟩ k2 :: r)) (hs : s.size ≤ 1048576) (hn : nmS9 s = true) (hK : KT W) (hT : Tabs W) :
    Calls Tryz.prog 42 #[.agg #[ma, mb], .pointer (some ⟨g, 0, none⟩)] w0 fun e w' => ∃ b cp, e = .returned (.tuple #[.slice (some ⟨b, 0, none⟩) 1 cp, .bool true]) ∧ Cu W w' g (.mk ⟨13, s2, n2, d2, i2, e2⟩ k2 :: r) ∧ w0.grownBy w' (some g) := by
  obtain ⟨i0, hi, hz0, hz1, hz2⟩ := info_parts infoS9
  have hg := h.lt
  have q1 := fun (u0 u1 u2 u3 u4 u5 u6 : Value) (w : World) => fldV u0 u1 u2 u3 u4 u5 u6 w
  have q2 := fun (u0 u1 u2 u3 u4 u5 : Value) (w : World) => fldT u0 u1 u2 u3 u4 u5 w
  have KM := hide (kt_mod hK hT h)
  have Ba := bplus (Below.refl w0.heap.size w0) (.cells #[ma, mb] 53)
  have HC := hide (h.low Ba)
  have HM := hide (Mod.of g Ba)
  have C1 := hide (fun (w1 : World) (h : Cu W w1 g (.mk ⟨1, s, n1, d1, i1, e1⟩ k1 :: .mk ⟨13, s2, n2, d2, i2, e2⟩ k2 :: r)) => next9_cons W w1 g _ k1 _ h)
  have C2 := hide (fun (w1 : World) (h : Cu W w1 g (.mk ⟨1, s, n1, d1, i1, e1⟩ k1 :: .mk ⟨13, s2, n2, d2, i2, e2⟩ k2 :: r)) => take9_cons W w1 g _ k1 _ h)
  have C3 := hide (fun (w1 : World) (h : w0.grownBy w1 (some g)) => named9_any 2 1 s n1 d1 i1 e1 w1 (by omega) (KM.out w1 h).1 (KM.out w1 h).2)
  have C4 := hide (fun (w1 : World) (h : Cu W w1 g (.mk ⟨13, s2, n2, d2, i2, e2⟩ k2 :: r)) => next9_cons W w1 g _ k2 _ h)
  rw [hn] at C3
  simp only at C1 C2 C4
  clear hK hT hn h Ba
  go_enter Tryz.func42, Tryz.ntmps42
  go_wp2_with (first
    | (go_at_call 41; refine (C1.out _ HC.out).mono ?_; rintro e w1 ⟨ka, kn, kc, rfl, -, B1⟩; replace HC := hide (HC.out.low B1); replace HM := hide (Mod.trans HM.out (Mod.of g B1)); clear B1 C1)
    | (go_at_call 33; refine (C2.out _ HC.out).mono ?_; rintro e w2 ⟨kb, kl, kd, rfl, -, D2, M2⟩; replace HC := hide D2; replace HM := hide (Mod.trans HM.out M2); clear D2 M2 C2)
    | (go_at_call 51; refine (C3.out _ HM.out).mono ?_; rintro e w3 ⟨rfl, B3⟩; replace HC := hide (HC.out.low B3); replace HM := hide (Mod.trans HM.out (Mod.of g B3)); clear B3 C3)
    | (at_builtin; refine wpList_append_lies _ rfl _ _ 31 rfl 0 37 i0 _ 8 96 Tryz.underlying31 hi hz0 hz1 hz2 rfl (by decide) (.slice none 0 0) 0 [] rfl (World.ownsRow_nil _ _ _ _) ⟨_, 0, none⟩ 1 1 [.int .i64 2, .string s, .int .i64 0, .string ⟨#[]⟩, .bool false, .slice none 0 0, .int .i64 0, .int .i64 0] rfl rfl (new8 _ _ _ _ _ _ _ _ _ _ _ (by simp)) (by intro u hu; simp at hu; rcases hu with rfl | rfl | rfl | rfl | rfl | rfl | rfl | rfl <;> rfl) (by decide) (by decide) (by decide) (Nat.zero_le _) _ rfl ?_; intro gb cp w5 _ hg5 _ _; have B5 := bto (bplus (bplus (Below.refl w3.heap.size w3) _) _) (gr_none hg5); replace HC := hide (HC.out.low B5); replace HM := hide (Mod.trans HM.out (Mod.of g B5)); clear B5 hg5))
  refine wp_loop_rounds 1 ?_
  rw [rounds_succ]
  go_wp2_with (first
    | (go_at_call 41; refine (C4.out _ HC.out).mono ?_; rintro e w6 ⟨kx, ky, kz, rfl, -, B6⟩; replace HC := hide (HC.out.low B6); replace HM := hide (Mod.trans HM.out (Mod.of g B6)); clear B6)
    | (go_at_call 53; refine (begins9_no _ _ _ _ _ _ _ (.inr rfl)).mono ?_; rintro e w7 ⟨rfl, B7⟩; replace HC := hide (HC.out.low B7); replace HM := hide (Mod.trans HM.out (Mod.of g B7)); clear B7))
  go_ret2
  exact ⟨gb, cp, rfl, HC.out, HM.out⟩
set_option maxRecDepth 100000 in
set_option maxHeartbeats 8000000 in
theorem compound9_class (W w0 : World) (g : Nat) (n1 d1 : Int) (i1 e1 : Bool) (k1 : List VT) (s : ByteArray) (n2 d2 : Int) (i2 e2 : Bool) (k2 : List VT) (ma mb : Value) (hm1 : ma.oneCell' = true) (hm2 : mb.oneCell' = true)
    (h : Cu W w0 g [.mk ⟨9, ⟨#[46]⟩, n1, d1, i1, e1⟩ k1, .mk ⟨1, s, n2, d2, i2, e2⟩ k2]) (hs : s.size ≤ 1048576) (hn : nmS9 s = true) (hK : KT W) (hT : Tabs W) :
    Calls Tryz.prog 42 #[.agg #[ma, mb], .pointer (some ⟨g, 0, none⟩)] w0 fun e w' => ∃ b cp, e = .returned (.tuple #[.slice (some ⟨b, 0, none⟩) 1 cp, .bool true]) ∧ Cu W w' g [] ∧ w0.grownBy w' (some g) := by
  obtain ⟨i0, hi, hz0, hz1, hz2⟩ := info_parts infoS9
  have hg := h.lt
  have q1 := fun (u0 u1 u2 u3 u4 u5 u6 : Value) (w : World) => fldV u0 u1 u2 u3 u4 u5 u6 w
  have q2 := fun (u0 u1 u2 u3 u4 u5 : Value) (w : World) => fldT u0 u1 u2 u3 u4 u5 w
  have Ba := bplus (Below.refl w0.heap.size w0) (.cells #[ma, mb] 53)
  have PR := hide (heap_alloc_new w0 (.cells #[ma, mb] 53))
  have HC := hide (h.low Ba)
  have HM := hide (Mod.of g Ba)
  have nRg : w0.heap.size ≠ g := by omega
  have C1 := hide (fun (w1 : World) (h : Cu W w1 g [.mk ⟨9, ⟨#[46]⟩, n1, d1, i1, e1⟩ k1, .mk ⟨1, s, n2, d2, i2, e2⟩ k2]) => next9_cons W w1 g _ k1 _ h)
  have C2 := hide (fun (w1 : World) (h : Cu W w1 g [.mk ⟨9, ⟨#[46]⟩, n1, d1, i1, e1⟩ k1, .mk ⟨1, s, n2, d2, i2, e2⟩ k2]) => delim9_star W w1 g n1 d1 i1 e1 k1 _ h)
  have C3 := hide (fun (w1 : World) (h : Cu W w1 g [.mk ⟨9, ⟨#[46]⟩, n1, d1, i1, e1⟩ k1, .mk ⟨1, s, n2, d2, i2, e2⟩ k2]) => simple9_class W w1 g n1 d1 i1 e1 k1 s n2 d2 i2 e2 k2 [] ma mb hm1 hm2 h hs hn (kt_mod hK hT h w1 (Mod.refl _ _)).1 (kt_mod hK hT h w1 (Mod.refl _ _)).2 (kt_mod hK hT h))
  have C4 := hide (fun (w1 : World) (h : Cu W w1 g []) => next9_nil W w1 g h)
  simp only at C1
  clear hK hT hn h Ba
  go_enter Tryz.func42, Tryz.ntmps42
  go_wp2_with (first
    | (go_at_call 41; refine (C1.out _ HC.out).mono ?_; rintro e w1 ⟨ka, kn, kc, rfl, -, B1⟩; replace HC := hide (HC.out.low B1); replace HM := hide (Mod.trans HM.out (Mod.of g B1)); replace PR := hide ((B1.block _ (Array.getElem?_eq_some_iff.1 PR.out).1).trans PR.out); clear B1)
    | (go_at_call 52; refine (C2.out _ HC.out).mono ?_; rintro e w2 ⟨rfl, B1⟩; replace HC := hide (HC.out.low B1); replace HM := hide (Mod.trans HM.out (Mod.of g B1)); replace PR := hide ((B1.block _ (Array.getElem?_eq_some_iff.1 PR.out).1).trans PR.out); clear B1 C2))
  refine wp_loop_rounds 2 ?_
  rw [rounds_succ]
  go_wp2_with (first
    | (go_at_call 41; refine (C1.out _ HC.out).mono ?_; rintro e w3 ⟨kx, ky, kz, rfl, -, B6⟩; replace HC := hide (HC.out.low B6); replace HM := hide (Mod.trans HM.out (Mod.of g B6)); replace PR := hide ((B6.block _ (Array.getElem?_eq_some_iff.1 PR.out).1).trans PR.out); clear B6 C1)
    | (go_at_call 53; refine (begins9_dot _ _ _ _ _).mono ?_; rintro e w4 ⟨rfl, B7⟩; replace HC := hide (HC.out.low B7); replace HM := hide (Mod.trans HM.out (Mod.of g B7)); replace PR := hide ((B7.block _ (Array.getElem?_eq_some_iff.1 PR.out).1).trans PR.out); obtain ⟨r0, r1⟩ := bxk_2' PR.out; clear B7)
    | (go_at_call 54; refine (C3.out _ HC.out).mono ?_; rintro e w5 ⟨rfl, D5, M5⟩; replace HC := hide D5; replace HM := hide (Mod.trans HM.out M5); replace PR := hide (keepM PR.out nRg M5); clear D5 M5 C3 r0 r1)
    | (at_builtin; refine wpList_append_lies _ rfl _ _ 31 rfl 0 37 i0 _ 8 96 Tryz.underlying31 hi hz0 hz1 hz2 rfl (by decide) (.slice none 0 0) 0 [] rfl (World.ownsRow_nil _ _ _ _) ⟨_, 0, none⟩ 1 1 [.int .i64 3, .string s, .int .i64 0, .string ⟨#[]⟩, .bool false, .slice none 0 0, .int .i64 0, .int .i64 0] rfl rfl (new8 _ _ _ _ _ _ _ _ _ _ _ (by simp)) (by intro u hu; simp at hu; rcases hu with rfl | rfl | rfl | rfl | rfl | rfl | rfl | rfl <;> rfl) (by decide) (by decide) (by decide) (Nat.zero_le _) _ rfl ?_; intro gb cp w6 _ hg5 _ _; have B5 := bto (bplus (bplus (Below.refl w5.heap.size w5) _) _) (gr_none hg5); replace HC := hide (HC.out.low B5); replace HM := hide (Mod.trans HM.out (Mod.of g B5)); clear B5 hg5))
  rw [rounds_succ]
  go_wp2_with (first
    | (go_at_call 41; refine (C4.out _ HC.out).mono ?_; rintro e w7 ⟨rfl, B6⟩; replace HC := hide (HC.out.low B6); replace HM := hide (Mod.trans HM.out (Mod.of g B6)); clear B6)
    | (go_at_call 53; refine (begins9_no _ _ _ _ _ _ _ (.inl rfl)).mono ?_; rintro e w8 ⟨rfl, B7⟩; replace HC := hide (HC.out.low B7); replace HM := hide (Mod.trans HM.out (Mod.of g B7)); clear B7))
  go_ret2
  exact ⟨gb, cp, rfl, HC.out, HM.out⟩
end Go.Proofs.YtmkbjcoagfnegabGreatDoor
set_option linter.unusedVariables false
set_option linter.unusedSimpArgs false
namespace Go.Proofs.YtmkbjcoagfnegabGreatDoor
open Go.RowKit

theorem nm_a : nmS9 ⟨#[97]⟩ = true := by
  unfold nmS9 chB
  rw [show bl ⟨#[97]⟩ = [97] from rfl, whole_cut (by simp), show stp [97] = (97, 1, true) by rfl]
  simp [whole_nil]
theorem nm_b : nmS9 ⟨#[98]⟩ = true := by
  unfold nmS9 chB
  rw [show bl ⟨#[98]⟩ = [98] from rfl, whole_cut (by simp), show stp [98] = (98, 1, true) by rfl]
  simp [whole_nil]
def tA : VT := .mk ⟨1, ⟨#[97]⟩, 0, 0, false, false⟩ []
def tS : VT := .mk ⟨13, ⟨#[]⟩, 0, 0, false, false⟩ []
def tG : VT := .mk ⟨9, ⟨#[62]⟩, 0, 0, false, false⟩ []
def tP : VT := .mk ⟨9, ⟨#[46]⟩, 0, 0, false, false⟩ []
def tB : VT := .mk ⟨1, ⟨#[98]⟩, 0, 0, false, false⟩ []
set_option maxRecDepth 100000 in
set_option maxHeartbeats 4000000 in
theorem combinator9_child (W w0 : World) (g : Nat) (h : Cu W w0 g [tG, tS, tP, tB]) : Calls Tryz.prog 43 #[.pointer (some ⟨g, 0, none⟩), .bool true] w0 fun e w' => e = .returned (.int .i64 2) ∧ Cu W w' g [tP, tB] ∧ w0.grownBy w' (some g) := by
  have C1 := hide (delim9_yes W w0 g ⟨#[62]⟩ 0 0 false false [] [tS, tP, tB] h)
  have C2 := hide (fun (w1 : World) (h : Cu W w1 g [tS, tP, tB]) => spaces9_any W w1 g [tS, tP, tB] h)
  have E := hide (show spL [tS, tP, tB] = [tP, tB] by unfold tS tP; rw [spL_yes rfl, spL_no (by decide)])
  clear h
  go_enter Tryz.func43, Tryz.ntmps43
  go_wp2_with (first
    | (go_at_call 52; refine C1.out.mono ?_; rintro e w1 ⟨rfl, D1, M1⟩; replace D1 := hide D1; replace M1 := hide M1; clear C1)
    | (go_at_call 30; refine (C2.out _ D1.out).mono ?_; rintro e w2 ⟨rfl, D2, M2⟩; rw [E.out] at D2; replace D1 := hide D2; replace M1 := hide (Mod.trans M1.out M2); clear D2 M2))
  go_ret
  exact ⟨rfl, D1.out, M1.out⟩
theorem infoC9 : (Tryz.prog.info? 33).map (fun i => (i.zero, i.size, i.bytes)) = some (some (.agg #[.int .i64 0, .slice none 0 0]), 2, 32) := by kernel_rfl
theorem new2 (w : World) (g : Nat) (u0 u1 : Value) (t : TypeId) (hg : g = w.heap.size) : ∀ j x, [u0, u1][j]? = some x → (w.alloc (.cells #[u0, u1] t)).cell? ((⟨g, 0, none⟩ : Addr).add j) = some x := fun j x hx => by
  subst hg
  match j, hx with
  | 0, hx => simp at hx; subst hx; simp [Addr.add]
  | 1, hx => simp at hx; subst hx; simp [Addr.add]
theorem ne_blk9 {w : World} {base : Nat} {e T : TypeId} {sz b : Nat} {v : Value} {n : Nat} {xs : List Value} {cs : Array Value} {q : Nat × Nat} (h : w.ownsRow base e sz v n xs) (hb : w.heap[b]? = some (.cells cs T q)) (hT : T ≠ e) : some b ≠ v.ownBlock := by
  rcases h.2 with ⟨rfl, _⟩ | ⟨g, cap, cur, rfl, _, hg, _⟩
  · intro e; cases e
  · intro e
    have : b = g := by simpa [Value.ownBlock] using e
    subst this
    rw [hb] at hg
    cases hg
    exact hT rfl
/-- An own row of compounds stays while the cursor goes on. -/
theorem own_mod {W w w1 : World} {base g : Nat} {l : List VT} {v : Value} {n : Nat} {xs : List Value} (h : w.ownsRow base 33 2 v n xs) (hc : Cu W w g l) (m : w.grownBy w1 (some g)) : w1.ownsRow base 33 2 v n xs := by
  obtain ⟨u, h1, _⟩ := hc
  exact h.kept m (.inr (Ne.symm (ne_blk9 h h1 (by decide))))
theorem own_low {w w1 : World} {base : Nat} {v : Value} {n : Nat} {xs : List Value} (h : w.ownsRow base 33 2 v n xs) (b : Below w.heap.size w w1) : w1.ownsRow base 33 2 v n xs :=
  h.kept (Mod.of w.heap.size b) (by cases hv : v.ownBlock with | none => exact .inl rfl | some k => exact .inr (fun e => by have := (h.lt k hv).2; cases e; omega))
theorem bxk_1' {w : World} {b : Nat} {u0 : Value} {T : TypeId} (h : w.heap[b]? = some (.cells #[u0] T)) : w.cell? ⟨b, 0, none⟩ = some u0 := by rw [row_blk h]; rfl
/-- Behind an append to the row of compounds. -/
theorem app_far {W w0 w w8 : World} {g R : Nat} {l : List VT} {v : Value} {n : Nat} {xs : List Value} {o : Obj} {cs : Array Value} (h : w.ownsRow w0.heap.size 33 2 v n xs) (PR : w.heap[R]? = some (.cells cs 24)) (HC : Cu W w g l) (HM : w0.grownBy w (some g)) (hg : (w.alloc o).grownBy w8 v.ownBlock) (gw : W.heap.size ≤ w0.heap.size) :
    w8.heap[R]? = some (.cells cs 24) ∧ Cu W w8 g l ∧ w0.grownBy w8 (some g) := by
  have lR := (Array.getElem?_eq_some_iff.1 PR).1
  obtain ⟨u, c1, c2, c3, c4⟩ := HC
  have lg := (Array.getElem?_eq_some_iff.1 c1).1
  have A : ∀ k, k < w.heap.size → some k ≠ v.ownBlock → w8.heap[k]? = w.heap[k]? := fun k hk hne => (hg.block k (by simp; omega) hne).trans (Below.heap_alloc w o k hk)
  have N : ∀ k, k < w0.heap.size → some k ≠ v.ownBlock := fun k hk e => by have := (h.lt k e.symm).1; omega
  have sW : w.heap.size ≤ w8.heap.size := by have := hg.size; simp at this; omega
  refine ⟨(A R lR (ne_blk9 h PR (by decide))).trans PR, ⟨u, (A g lg (ne_blk9 h c1 (by decide))).trans c1, c2, c3, ⟨hg.os.trans c4.os, hg.tape.trans c4.tape, hg.output.trans c4.output, Nat.le_trans c4.size sW, fun k hk => ?_⟩⟩, ⟨hg.os.trans HM.os, hg.tape.trans HM.tape, hg.output.trans HM.output, Nat.le_trans HM.size sW, fun k hk hne => (A k (Nat.lt_of_lt_of_le hk HM.size) (N k hk)).trans (HM.block k hk hne)⟩⟩
  exact (A k (Nat.lt_of_lt_of_le hk c4.size) (N k (by omega))).trans (c4.block k hk)
set_option maxRecDepth 100000 in
set_option maxHeartbeats 8000000 in
theorem complex9_two (W w0 : World) (g : Nat) (ma mb : Value) (hm1 : ma.oneCell' = true) (hm2 : mb.oneCell' = true) (h : Cu W w0 g [tA, tS, tG, tS, tP, tB]) (hK : KT W) (hT : Tabs W) :
    Calls Tryz.prog 31 #[.agg #[ma, mb], .pointer (some ⟨g, 0, none⟩)] w0 fun e w' => ∃ b cp, e = .returned (.tuple #[.agg #[.slice (some ⟨b, 0, none⟩) 2 cp], .bool true]) ∧ w'.cell? ⟨b, 2, none⟩ = some (.int .i64 2) ∧ b < w'.heap.size ∧ Cu W w' g [] ∧ w0.grownBy w' (some g) := by
  obtain ⟨i0, hi, hz0, hz1, hz2⟩ := info_parts infoC9
  have hg := h.lt
  have gw : W.heap.size ≤ w0.heap.size := by obtain ⟨_, _, _, _, B⟩ := h; exact B.size
  have q1 := fun (u0 u1 u2 u3 u4 u5 u6 : Value) (w : World) => fldV u0 u1 u2 u3 u4 u5 u6 w
  have q2 := fun (u0 u1 u2 u3 u4 u5 : Value) (w : World) => fldT u0 u1 u2 u3 u4 u5 w
  obtain ⟨Wa, hWa⟩ : ∃ Wa, (w0.alloc (.cells #[ma, mb] 53)).alloc (.cells #[.slice none 0 0] 24) = Wa := ⟨_, rfl⟩
  have HWa := hide hWa
  have Ba := (show Below w0.heap.size w0 Wa by rw [← hWa]; exact bplus (bplus (Below.refl _ _) _) _)
  have sz : Wa.heap.size = w0.heap.size + 2 := by rw [← hWa]; simp
  have PQ := hide (show Wa.heap[w0.heap.size]? = some (.cells #[ma, mb] 53) by rw [← hWa]; exact (Below.heap_alloc _ _ _ (by simp)).trans (heap_alloc_new w0 _))
  have PR := hide (show Wa.heap[w0.heap.size + 1]? = some (.cells #[.slice none 0 0] 24) by rw [← hWa]; have := heap_alloc_new (w0.alloc (.cells #[ma, mb] 53)) (.cells #[.slice none 0 0] 24); simpa using this)
  clear hWa
  have HC := hide (h.low Ba)
  have HM := hide (Mod.of g Ba)
  have nQ : w0.heap.size ≠ g := by omega
  have nR : w0.heap.size + 1 ≠ g := by omega
  have C1 := hide (fun (w1 : World) (h : Cu W w1 g [tA, tS, tG, tS, tP, tB]) => compound9_tag W w1 g ⟨#[97]⟩ 0 0 false false [] ⟨#[]⟩ 0 0 false false [] [tG, tS, tP, tB] ma mb hm1 hm2 h (by decide) nm_a hK hT)
  have C2 := hide (fun (w1 : World) (h : Cu W w1 g [tS, tG, tS, tP, tB]) => spaces9_any W w1 g _ h)
  have C3 := hide (fun (w1 : World) (h : Cu W w1 g [tG, tS, tP, tB]) => done9_any W w1 g _ h)
  have C4 := hide (fun (w1 : World) (h : Cu W w1 g [tG, tS, tP, tB]) => next9_cons W w1 g _ _ _ h)
  have C5 := hide (fun (w1 : World) (h : Cu W w1 g [tG, tS, tP, tB]) => combinator9_child W w1 g h)
  have C6 := hide (fun (w1 : World) (h : Cu W w1 g [tP, tB]) => compound9_class W w1 g 0 0 false false [] ⟨#[98]⟩ 0 0 false false [] ma mb hm1 hm2 h (by decide) nm_b hK hT)
  have C7 := hide (fun (w1 : World) (h : Cu W w1 g []) => spaces9_any W w1 g _ h)
  have C8 := hide (fun (w1 : World) (h : Cu W w1 g []) => done9_any W w1 g _ h)
  have E1 := hide (show spL [tS, tG, tS, tP, tB] = [tG, tS, tP, tB] by unfold tS tG; rw [spL_yes rfl, spL_no (by decide)])
  simp only at C4
  clear h Ba hK hT
  have r0 := (bxk_2' PQ.out).1
  have r1 := (bxk_2' PQ.out).2
  go_enter Tryz.func31, Tryz.ntmps31
  go_wp2_with fail
  rw [HWa.out]
  clear HWa
  refine wp_loop_rounds 2 ?_
  rw [rounds_succ]
  go_wp2_with (first
    | (go_at_call 42; refine (C1.out _ HC.out).mono ?_; rintro e w1 ⟨b1, cp1, rfl, D1, M1⟩; replace PQ := hide (keepM PQ.out nQ M1); replace PR := hide (keepM PR.out nR M1); replace HC := hide D1; replace HM := hide (Mod.trans HM.out M1); clear D1 M1 C1 r0 r1)
    | (at_builtin; refine wpList_append_lies _ rfl _ _ 22 rfl w0.heap.size 33 i0 _ 2 32 Tryz.underlying22 hi hz0 hz1 hz2 rfl (by decide) (.slice none 0 0) 0 [] rfl (World.ownsRow_nil _ _ _ _) ⟨_, 0, none⟩ 1 1 [.int .i64 0, .slice (some ⟨b1, 0, none⟩) 1 cp1] rfl rfl (new2 _ _ _ _ _ (by simp)) (by intro u hu; simp at hu; rcases hu with rfl | rfl <;> rfl) (by decide) (by decide) (by decide) (by have := HM.out.size; simp; omega) _ rfl ?_; intro gp cpp w2 hown hg2 _ hlt2; have B2 := bto (bplus (Below.refl w1.heap.size w1) _) (gr_none hg2); replace PQ := hide ((B2.block _ (Array.getElem?_eq_some_iff.1 PQ.out).1).trans PQ.out); replace PR := hide ((B2.block _ (Array.getElem?_eq_some_iff.1 PR.out).1).trans PR.out); replace HC := hide (HC.out.low B2); replace HM := hide (Mod.trans HM.out (Mod.of g B2)); have OW := hide hown; clear B2 hg2 hown)
    | (go_at_call 30; refine (C2.out _ HC.out).mono ?_; rintro e w3 ⟨rfl, D3, M3⟩; rw [E1.out] at D3; replace PQ := hide (keepM PQ.out nQ M3); replace PR := hide (keepM PR.out nR M3); replace OW := hide (own_mod OW.out HC.out M3); replace HC := hide D3; replace HM := hide (Mod.trans HM.out M3); clear D3 M3 C2)
    | (go_at_call 32; refine (C3.out _ HC.out).mono ?_; rintro e w4 ⟨rfl, rfl⟩; clear C3)
    | (go_at_call 41; refine (C4.out _ HC.out).mono ?_; rintro e w5 ⟨ka, kn, kc, rfl, -, B5⟩; replace PQ := hide ((B5.block _ (Array.getElem?_eq_some_iff.1 PQ.out).1).trans PQ.out); replace PR := hide ((B5.block _ (Array.getElem?_eq_some_iff.1 PR.out).1).trans PR.out); replace OW := hide (own_low OW.out B5); replace HC := hide (HC.out.low B5); replace HM := hide (Mod.trans HM.out (Mod.of g B5)); clear B5 C4)
    | (go_at_call 43; refine (C5.out _ HC.out).mono ?_; rintro e w6 ⟨rfl, D6, M6⟩; replace PQ := hide (keepM PQ.out nQ M6); replace PR := hide (keepM PR.out nR M6); replace OW := hide (own_mod OW.out HC.out M6); replace HC := hide D6; replace HM := hide (Mod.trans HM.out M6); clear D6 M6 C5))
  rw [rounds_succ]
  have s0 := (bxk_2' PQ.out).1
  have s1 := (bxk_2' PQ.out).2
  go_wp2_with (first
    | (go_at_call 42; refine (C6.out _ HC.out).mono ?_; rintro e w7 ⟨b2, cp2, rfl, D1, M1⟩; replace PQ := hide (keepM PQ.out nQ M1); replace PR := hide (keepM PR.out nR M1); replace OW := hide (own_mod OW.out HC.out M1); replace HC := hide D1; replace HM := hide (Mod.trans HM.out M1); clear D1 M1 C6 s0 s1)
    | (at_builtin; refine wpList_append_lies _ rfl _ _ 22 rfl w0.heap.size 33 i0 _ 2 32 Tryz.underlying22 hi hz0 hz1 hz2 rfl (by decide) (.slice (some ⟨gp, 0, none⟩) 1 cpp) 1 [.int .i64 0, .slice (some ⟨b1, 0, none⟩) 1 cp1] rfl (OW.out.alloc _) ⟨_, 0, none⟩ 1 1 [.int .i64 2, .slice (some ⟨b2, 0, none⟩) 1 cp2] rfl rfl (new2 _ _ _ _ _ (by simp)) (by intro u hu; simp at hu; rcases hu with rfl | rfl <;> rfl) (by decide) (by decide) (by decide) (by have := HM.out.size; simp; omega) _ rfl ?_; intro gp2 cpp2 w8 hown8 hg8 _ hlt8; obtain ⟨PR8, HC8, HM8⟩ := app_far OW.out PR.out HC.out HM.out hg8 gw; replace PR := hide PR8; replace HC := hide HC8; replace HM := hide HM8; replace OW := hide hown8; clear hg8 PR8 HC8 HM8 hown8)
    | (go_at_call 30; refine (C7.out _ HC.out).mono ?_; rintro e w9 ⟨rfl, D3, M3⟩; replace PR := hide (keepM PR.out nR M3); replace OW := hide (own_mod OW.out HC.out M3); replace HC := hide D3; replace HM := hide (Mod.trans HM.out M3); clear D3 M3 C7)
    | (go_at_call 32; refine (C8.out _ HC.out).mono ?_; rintro e w10 ⟨rfl, rfl⟩; have y0 := bxk_1' PR.out; have y1 := fz_of PR.out 0; clear C8))
  have OC := OW.out.cells (g := gp2) rfl 2 (.int .i64 2) rfl
  rw [Addr.add_lit, Nat.zero_add] at OC
  have OL := (OW.out.lt gp2 rfl).2
  have NE : w0.heap.size + 1 ≠ gp2 := fun e => by
    have := ne_blk9 OW.out PR.out (by decide)
    exact this (by rw [e]; rfl)
  refine ret_cell2 (b := w0.heap.size + 1) (cs := [.slice (some ⟨gp2, 0, none⟩) 2 cpp2]) (v := .bool true) Tryz.results31 rfl rfl (fun j v hv => ?_) Tryz.underlying24 rfl (by kernel_rfl) rfl ?_
  · match j, hv with
    | 0, hv => simp at hv; subst hv; exact World.cell?_setCell_same' _ _ _ (by show (World.cell? _ _).isSome = true; rw [y0]; rfl)
  · exact ⟨gp2, cpp2, rfl, (set_far9 (Ne.symm NE)).trans OC, by simpa [World.setCell] using OL, HC.out.far nR (by omega) 0 _, mod_far HM.out (by omega) 0 _⟩
end Go.Proofs.YtmkbjcoagfnegabGreatDoor
