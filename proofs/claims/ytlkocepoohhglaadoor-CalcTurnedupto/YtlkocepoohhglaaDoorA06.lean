/-
  The innermost frame is shut: by the reference: the walk.
-/
import Derived.Test.YtlkocepoohhglaaDoorA05
import Derived.Deep.DeepCutAuto
import Derived.Deep.RegionLaw
set_option linter.unusedVariables false
set_option linter.unusedSimpArgs false
namespace Go.Proofs.YtlkocepoohhglaaDoor
open Go.RowKit

set_option maxRecDepth 100000 in
set_option maxHeartbeats 2000000 in
theorem shut5_any (qs : List Fm) (f1 f2 : Fm) (sv : Value) (w wr : World) (h : SM 77 7 w wr sv (qs ++ [f1, f2])) (hq : qs.length ≤ 1000000000) (h1 : f1.its.length ≤ 500000000) (h2 : f2.its.length ≤ 500000000) :
    Calls Tryd.prog 48 #[sv] wr fun e w' => ∃ u sv', e = .returned sv' ∧ SM 77 7 w w' sv' (qs ++ [⟨f1.t, u, f1.its ++ [⟨f2.t, f2.u, vtL f2.its⟩], f1.x⟩]) := by
  obtain ⟨i1, hj, hy0, hy1, hy2⟩ := info_parts infoV5
  have TP := h
  rw [show qs ++ [f1, f2] = (qs ++ [f1]) ++ [f2] by simp] at TP
  obtain ⟨G, cap, hv, hG1, hG2, hc1, hc2, hfz, ⟨t0, t1, t2, t3, t4, t5⟩, t6, -⟩ := TP.top
  subst hv
  obtain ⟨SP, HV⟩ := TP.pop (by decide) (by omega)
  rw [List.length_append, List.length_singleton] at SP HV hc1 t0 t1 t2 t3 t4 t5 t6 ⊢
  obtain ⟨G', cap', hv', -, -, -, -, -, -, hd6, -⟩ := SP.top
  obtain ⟨rfl, rfl⟩ : G = G' ∧ cap = cap' := by cases hv'; exact ⟨rfl, rfl⟩
  obtain ⟨ua, uc, hus, hua9⟩ := HV.vm.shape
  rw [vtL_len] at hus hua9
  obtain ⟨a1, c1, hu1⟩ := (SP.kid f1 (by simp)).slice
  rw [hu1] at hd6
  rw [hus] at t6
  obtain ⟨⟨k2, x2, n2, d2, i2, e2⟩, uu2, its2, xx2⟩ := f2
  obtain ⟨⟨k1, x1, nn1, d1, ii1, e1⟩, uu1, its1, xx1⟩ := f1
  simp only at t0 t1 t2 t3 t4 t5 t6 hd6 h1 h2 hu1 hus hua9 SP HV ⊢
  subst hu1 hus
  have SPh := hide SP
  have HVh := hide HV
  have hfG : wr.frozen? ⟨G, qs.length * 7 + 6, none⟩ = false := hfz _
  clear hfz TP SP HV h hv'
  obtain ⟨m, hm⟩ : ∃ m, qs.length = m := ⟨_, rfl⟩
  rw [hm] at t0 t1 t2 t3 t4 t5 t6 hd6 hc1 hq hfG ⊢
  have HM := hide hm
  clear hm
  obtain ⟨W1, hW1⟩ : ∃ W1, wr.alloc (.cells #[.int .i64 k2, .string x2, .int .i64 n2, .int .i64 d2, .bool i2, .bool e2, .slice ua its2.length uc] 77) = W1 := ⟨_, rfl⟩
  have HW1 := hide hW1
  have hs1 : W1.heap.size = wr.heap.size + 1 := by rw [← hW1]; simp
  have BX := hide (show W1.heap[wr.heap.size]? = some (.cells #[.int .i64 k2, .string x2, .int .i64 n2, .int .i64 d2, .bool i2, .bool e2, .slice ua its2.length uc] 77) by rw [← hW1]; exact heap_alloc_new wr _)
  have B1 := hide (show Below wr.heap.size wr W1 by rw [← hW1]; exact bplus (Below.refl _ _) _)
  clear hW1
  obtain ⟨n, hn⟩ : ∃ n : Nat, m + 1 = n := ⟨_, rfl⟩
  have HN := hide hn
  clear hn
  go_enter Tryd.func48, Tryd.ntmps48
  go_upto_region 4 with fail
  rw [HW1.out]
  go_cut [3, 16] (fun s3 x wx => ∃ b, s3 = .int .i64 n ∧ x = .bool b ∧ Below W1.heap.size W1 wx)
  case first =>
    clear t0 t1 t2 t3 t4 t5 t6 hd6 hfG
    go_wp2_with fail
    go_region
    all_goals
      go_wp2
      go_meet
      case rel => exact ⟨_, by rw [← HN.out]; rfl, rfl, by repeat (first | exact Below.refl _ _ | (with_reducible refine Below.drew ?_) | (with_reducible refine Below.setCell ?_ (by simp) _) | (with_reducible refine bplus ?_ _))⟩
  case rest =>
    obtain ⟨b, rfl, rfl, BL⟩ := hcut
    have hsx := BL.size
    have BXc := (BL.block _ (by omega)).trans BX.out
    have c0 := bxk_at (j := 0) ((BL.block _ (by omega)).trans BX.out) (by simp)
    have c1' := bxk_at (j := 1) ((BL.block _ (by omega)).trans BX.out) (by simp)
    have c2 := bxk_at (j := 2) ((BL.block _ (by omega)).trans BX.out) (by simp)
    have c3 := bxk_at (j := 3) ((BL.block _ (by omega)).trans BX.out) (by simp)
    have c4 := bxk_at (j := 4) ((BL.block _ (by omega)).trans BX.out) (by simp)
    have c5 := bxk_at (j := 5) ((BL.block _ (by omega)).trans BX.out) (by simp)
    have c6 := bxk_at (j := 6) ((BL.block _ (by omega)).trans BX.out) (by simp)
    simp at c0 c1' c2 c3 c4 c5 c6
    have B2 := hide (bto B1.out BL)
    have v6 := (B2.out.cell (p := ⟨G, m * 7 + 6, none⟩) hG2).trans hd6
    have fG := (B2.out.frozen (p := ⟨G, m * 7 + 6, none⟩) hG2).trans hfG
    have SX := hide (SPh.out.low B2.out)
    have VX := hide (HVh.out.kept (G := Fre (.slice (some ⟨G, 0, none⟩) (qs.length + 1) cap) (qs ++ [⟨⟨k1, x1, nn1, d1, ii1, e1⟩, .slice a1 its1.length c1, its1, xx1⟩])) B2.out.size (fun b g hlt => ⟨g, B2.out.block b hlt⟩))
    have hGx : G < wc.heap.size := by have := B2.out.size; omega
    have hBx : wr.heap.size < wc.heap.size := by omega
    have hnG : wr.heap.size ≠ G := by omega
    have OX := hide (fun (o : Obj) => World.ownsRow.alloc (show wc.drew.ownsRow w.heap.size 68 7 (.slice a1 its1.length c1) its1.length (itCs its1) from SX.out.drew.kid _ (List.mem_append_right _ (List.mem_singleton.2 rfl))) o)
    have OK := SX.out.kid _ (List.mem_append_right _ (List.mem_singleton.2 rfl))
    have NB := hide (ne_blk OK BXc (by decide))
    have NG := hide (show some G ≠ (Value.slice a1 its1.length c1).ownBlock by obtain ⟨cs, e⟩ := SX.out.blk; exact ne_blk OK e (by decide))
    have FNX := hide (fun (o : Obj) (g cp : Nat) (w5 : World) (hown : w5.ownsRow w.heap.size 68 7 (.slice (some ⟨g, 0, none⟩) (its1.length + 1) cp) (its1.length + 1) (itCs its1 ++ itC ⟨⟨k2, x2, n2, d2, i2, e2⟩, .slice ua its2.length uc, vtL its2⟩)) (hg : (wc.drew.alloc o).grownBy w5 (Value.slice a1 its1.length c1).ownBlock) (hl : (Value.slice a1 its1.length c1).ownBlock = some g ∨ g = wc.heap.size + 1) =>
      show SM 77 7 w (w5.setCell ⟨G, m * 7 + 6, none⟩ (.slice (some ⟨g, 0, none⟩) (its1.length + 1) cp)) (.slice (some ⟨G, 0, none⟩) (m + 1) cap) (qs ++ [⟨⟨k1, x1, nn1, d1, ii1, e1⟩, .slice (some ⟨g, 0, none⟩) (its1.length + 1) cp, its1 ++ [⟨⟨k2, x2, n2, d2, i2, e2⟩, .slice ua its2.length uc, vtL its2⟩], xx1⟩]) by
        have r := (SX.out.drew.alloc o).add (x := ⟨⟨k2, x2, n2, d2, i2, e2⟩, .slice ua its2.length uc, vtL its2⟩) (by decide) (VX.out.kept (by simp) (fun b hb hlt => ⟨hb, Below.heap_alloc wc.drew o b hlt⟩)) hown hg (by simpa using hl)
        rw [HM.out] at r
        exact r)
    have FNZ := hide (fun (o : Obj) (g cp : Nat) (w5 : World) (hown : w5.ownsRow w.heap.size 68 7 (.slice (some ⟨g, 0, none⟩) (its1.length + 1) cp) (its1.length + 1) (itCs its1 ++ itC zIt)) (hg : (wc.drew.alloc o).grownBy w5 (Value.slice a1 its1.length c1).ownBlock) (hl : (Value.slice a1 its1.length c1).ownBlock = some g ∨ g = wc.heap.size + 1) =>
      show SM 77 7 w (w5.setCell ⟨G, m * 7 + 6, none⟩ (.slice (some ⟨g, 0, none⟩) (its1.length + 1) cp)) (.slice (some ⟨G, 0, none⟩) (m + 1) cap) (qs ++ [⟨⟨k1, x1, nn1, d1, ii1, e1⟩, .slice (some ⟨g, 0, none⟩) (its1.length + 1) cp, its1 ++ [zIt], xx1⟩]) by
        have r := (SX.out.drew.alloc o).add (x := zIt) (by decide) (.nil _ _) hown hg (by simpa using hl)
        rw [HM.out] at r
        exact r)
    have KG := hide (fun (o : Obj) (w5 : World) (hg : (wc.drew.alloc o).grownBy w5 (Value.slice a1 its1.length c1).ownBlock) => show w5.cell? ⟨G, m * 7 + 6, none⟩ = some (.slice a1 its1.length c1) from (World.cell?_of_block (w := wc) (far2 hGx NG.out hg)).trans v6)
    have FG := hide (fun (o : Obj) (w5 : World) (hg : (wc.drew.alloc o).grownBy w5 (Value.slice a1 its1.length c1).ownBlock) => show w5.frozen? ⟨G, m * 7 + 6, none⟩ = false from (World.frozen?_of_block (w := wc) (far2 hGx NG.out hg)).trans fG)
    have n1 : wr.heap.size ≠ wc.heap.size := by omega
    have n2' : G ≠ wc.heap.size := by omega
    clear t0 t1 t2 t3 t4 t5 t6 hd6 hfG BL BX HW1 B1 hsx hs1 SPh HVh OK BXc
    have hwr : IntKind.i64.wrap ((n : Int) - 1) = (m : Int) := by rw [show (n : Int) - 1 = m by have := HN.out; omega]; simp [IntKind.wrap, go_sem]; omega
    have hlt1 : (m : Int) < (m : Int) + 1 := by omega
    have hge1 : (0 : Int) ≤ (m : Int) := by omega
    cases b
    · clear FNZ
      go_wp2_with fail
      go_region_law (refine step_append_lies _ rfl (.tmp 45) (.tmp 51) 42 rfl w.heap.size 68 i1 _ 7 72 Tryd.underlying42 hj hy0 hy1 hy2 rfl (by decide) (.slice a1 its1.length c1) _ _ rfl (OX.out _) ⟨wc.heap.size, 0, none⟩ 1 1 (itC ⟨⟨k2, x2, n2, d2, i2, e2⟩, .slice ua its2.length uc, vtL its2⟩) rfl rfl (newV _ _ _ _ _ _ _ _ _ _ (by simp)) (one7 _ rfl) (by decide) (by unfold maxLen; omega) (by omega) (by have := SX.out.bel.size; simp; omega) (wc.heap.size + 1) (by simp) ?_; intro g cp w5 hown5 hg5 hl5 hlt5; have FF := hide (FNX.out _ g cp w5 hown5 hg5 hl5); have k5 := KG.out _ w5 hg5; have f5 := FG.out _ w5 hg5; clear hown5 hg5 hl5)
      all_goals
        go_wp2
        go_ret
        exact ⟨_, _, rfl, FF.out⟩
    · clear FNX
      have VN := hide (fun (o : Obj) (g cp : Nat) (w5 : World) (hg : (wc.drew.alloc o).grownBy w5 (Value.slice a1 its1.length c1).ownBlock) (hl : (Value.slice a1 its1.length c1).ownBlock = some g ∨ g = wc.heap.size + 1) =>
        show VMA (Fre (.slice (some ⟨G, 0, none⟩) (m + 1) cap) (qs ++ [⟨⟨k1, x1, nn1, d1, ii1, e1⟩, .slice (some ⟨g, 0, none⟩) (its1.length + 1) cp, its1 ++ [zIt], xx1⟩])) (w5.setCell ⟨G, m * 7 + 6, none⟩ (.slice (some ⟨g, 0, none⟩) (its1.length + 1) cp)) (.slice ua its2.length uc) (vtL its2) from
        VX.out.kept (by have := hg.size; simp at this; simp [World.setCell]; omega) (fun b hb hlt => ⟨⟨hb.1, fun y hy => by
          rcases List.mem_append.1 hy with hy | hy
          · exact hb.2 y (List.mem_append_left _ hy)
          · rw [List.mem_singleton] at hy
            subst hy
            intro e
            have e' : g = b := by simpa [Value.ownBlock] using e
            rcases hl with hl | hl
            · exact hb.2 _ (List.mem_append_right _ (List.mem_singleton.2 rfl)) (by rw [← e']; exact hl)
            · omega⟩, (Below.heap_setCell w5 ⟨G, m * 7 + 6, none⟩ _ b (fun e => hb.1 (by rw [e]; rfl))).trans (far2 hlt (fun e => hb.2 _ (List.mem_append_right _ (List.mem_singleton.2 rfl)) e.symm) hg)⟩))
      go_upto_region 5 with fail
      go_cut [30, 31, 33] (fun v30 v31 v33 wx => ∃ g cp, v30 = vtV ⟨k2, x2, n2, d2, i2, e2⟩ (.slice ua its2.length uc) ∧ v31 = .int .i64 its1.length ∧ v33 = .slice (some ⟨g, 0, none⟩) (its1.length + 1) cp ∧ SM 77 7 w wx (.slice (some ⟨G, 0, none⟩) (m + 1) cap) (qs ++ [⟨⟨k1, x1, nn1, d1, ii1, e1⟩, .slice (some ⟨g, 0, none⟩) (its1.length + 1) cp, its1 ++ [zIt], xx1⟩]) ∧ VMA (Fre (.slice (some ⟨G, 0, none⟩) (m + 1) cap) (qs ++ [⟨⟨k1, x1, nn1, d1, ii1, e1⟩, .slice (some ⟨g, 0, none⟩) (its1.length + 1) cp, its1 ++ [zIt], xx1⟩])) wx (.slice ua its2.length uc) (vtL its2))
      case first =>
        go_wp2_with fail
        go_region_law (refine step_append_lies _ rfl (.tmp 25) (.tmp 32) 42 rfl w.heap.size 68 i1 _ 7 72 Tryd.underlying42 hj hy0 hy1 hy2 rfl (by decide) (.slice a1 its1.length c1) _ _ rfl (OX.out _) ⟨wc.heap.size, 0, none⟩ 1 1 (itC zIt) rfl rfl (newV _ _ _ _ _ _ _ _ _ _ (by simp)) (one7 _ rfl) (by decide) (by unfold maxLen; omega) (by omega) (by have := SX.out.bel.size; simp; omega) (wc.heap.size + 1) (by simp) ?_; intro g cp w5 hown5 hg5 hl5 hlt5; have FF := hide (FNZ.out _ g cp w5 hown5 hg5 hl5); have VV := hide (VN.out _ g cp w5 hg5 hl5); have k5 := KG.out _ w5 hg5; have f5 := FG.out _ w5 hg5; clear hown5 hg5 hl5)
        all_goals
          go_wp2
          go_meet
          case rel => exact ⟨_, _, rfl, rfl, rfl, FF.out, VV.out⟩
      case rest =>
        clear KG FG FNZ VN OX NB NG SX VX c0 c1' c2 c3 c4 c5 c6 v6 fG B2
        obtain ⟨g, cp, rfl, rfl, rfl, SZ, VZ⟩ := hcut
        have KL := OwnV.last (SZ.kid _ (List.mem_append_right _ (List.mem_singleton.2 rfl)))
        have PU := hide (SZ.put7 (by decide) ⟨⟨k2, x2, n2, d2, i2, e2⟩, .slice ua its2.length uc, vtL its2⟩ VZ)
        obtain ⟨q0, r0⟩ := KL 0 (by omega)
        obtain ⟨q1, r1⟩ := KL 1 (by omega)
        obtain ⟨q2, r2⟩ := KL 2 (by omega)
        obtain ⟨q3, r3⟩ := KL 3 (by omega)
        obtain ⟨q4, r4⟩ := KL 4 (by omega)
        obtain ⟨q5, r5⟩ := KL 5 (by omega)
        obtain ⟨q6, r6⟩ := KL 6 (by omega)
        simp only [Nat.add_zero] at q0 r0
        simp only [itC, zIt, zT, List.getElem?_cons_zero, List.getElem?_cons_succ] at q0 q1 q2 q3 q4 q5 q6
        clear KL SZ VZ
        have hl1 : (its1.length : Int) < (its1.length : Int) + 1 := by omega
        generalize its1.length = n1 at q0 q1 q2 q3 q4 q5 q6 r0 r1 r2 r3 r4 r5 r6 PU hl1 h1 ⊢
        simp only [vtV]
        go_wp2
        go_ret
        exact ⟨_, _, rfl, PU.out⟩
end Go.Proofs.YtlkocepoohhglaaDoor
