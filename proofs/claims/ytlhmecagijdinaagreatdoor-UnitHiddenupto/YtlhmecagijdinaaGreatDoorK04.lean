/-
  A form in px: by the program, given its parts.
  A part in px: by the program, given its forms.
-/
import Derived.Test.YtlhmecagijdinaaGreatDoorK01
import Derived.Test.YtlhmecagijdinaaGreatDoorH08
import Derived.Shelf.Abstract
import Derived.Test.YtlhmecagijdinaaGreatDoorH09
set_option linter.unusedVariables false
set_option linter.unusedSimpArgs false
namespace Go.Proofs.YtlhmecagijdinaaGreatDoor.nm
open Go.RowKit cc be

theorem row_blk2 {W : World} {b : Nat} {r s : Int × Int} {T : TypeId} (h : W.heap[b]? = some (.cells #[.int .i64 r.1, .int .i64 r.2, .int .i64 s.1, .int .i64 s.2] T)) : wk.Row W (.slice (some ⟨b, 0, none⟩) 2 2) [r, s] := by
  refine .inr ⟨b, 0, 2, rfl, (Array.getElem?_eq_some_iff.1 h).1, by show 2 ≤ 9223372036854775807; decide, fun i hi => ?_⟩
  have hi2 : i < 2 := hi
  rcases (show i = 0 ∨ i = 1 by omega) with rfl | rfl
  · exact ⟨by rw [row_blk h]; rfl, by rw [row_blk h]; rfl⟩
  · exact ⟨by rw [row_blk h]; rfl, by rw [row_blk h]; rfl⟩
theorem ix7L {us : List (Int × Int)} (h : Us us) {k : Nat} (hk : k < 7) {r : Int × Int} (hr : us[k]? = some r) (W : World) : (Instr.index 27 (.agg (usL us).toArray) (.int .i64 k)).run Tryz.prog W = .ok (.agg #[.int .i64 r.1, .int .i64 r.2]) W := by
  obtain ⟨n0, d0, n1, d1, n2, d2, n3, d3, n4, d4, n5, d5, n6, d6, rfl⟩ := us7 h
  exact ix7 hk 27 (.inl rfl) (n := r.1) (d := r.2) hr W
def kdP5 (r : Int × Int) : Nat → Kd
  | 0 => .val (.agg #[.int .i64 r.1, .int .i64 r.2])
  | 1 => .val (.agg #[.int .i64 0, .int .i64 1])
  | 2 => .val (.bool true)
  | _ => .val undef
def kdP6 (B : Nat) (lv : Value) (k : Nat) (r s t : Int × Int) : Nat → Kd
  | 0 => .val lv
  | 1 => .val (.agg #[.int .i64 r.1, .int .i64 r.2])
  | 2 => .val (.int .i64 k)
  | 3 => .val (.int .i64 (k + 1 : Nat))
  | 4 => .val (.pointer (some ⟨B, (k + 1) * 2, none⟩))
  | 5 => .val (.agg #[.int .i64 s.1, .int .i64 s.2])
  | 6 => .row #[.int .i64 r.1, .int .i64 r.2, .int .i64 s.1, .int .i64 s.2] 23 2
  | 7 => .val (.agg #[.int .i64 t.1, .int .i64 t.2])
  | 8 => .row #[.int .i64 t.1, .int .i64 t.2] 23 1
  | _ => .val undef
set_option maxRecDepth 100000 in
set_option maxHeartbeats 16000000 in
theorem px_of (sz : Int → Int × Int) (sl : List (Int × Int)) (hs : SzA sz sl) (n : Nat) (IH : PtC sz sl n) : PxC sz sl n := by
  intro us ps u w hN hus hv
  obtain ⟨a, c, rfl, hl9⟩ := hv.shape
  have HUS := hide hus
  have HS := hide hs
  have SL := hide (show (usL sl).length = 16 by rw [usL_len, hs.1])
  have FL := hide (fo_len hus (.slice a ps.length c))
  have UL := hide (show (usL us).length = 14 by rw [usL_len, hus.1])
  have T64 := hide (terms_64 sz n us ps)
  have F14 := hide (show (usL us ++ [Value.slice a ps.length c])[14]? = some (.slice a ps.length c) by rw [List.getElem?_append_right (by rw [UL.out]; decide), UL.out]; rfl)
  have E := hide (pxN_succ sz n (.mk us ps))
  obtain ⟨X, hX⟩ : ∃ X, pxN sz (n + 1) (.mk us ps) = X := ⟨_, rfl⟩
  rw [hX] at E ⊢
  replace E := hide (show X = wk.addAll (unT sz 1 us ++ ps.map (ptP (pxN sz n))) from E.out)
  obtain ⟨sa, hsa⟩ : ∃ sa : Array Value, (usL sl).toArray = sa := ⟨_, rfl⟩
  obtain ⟨fa, hfa⟩ : ∃ fa : Array Value, (usL us ++ [Value.slice a ps.length c]).toArray = fa := ⟨_, rfl⟩
  have sa16 : sa.size = 16 := by rw [← hsa, List.size_toArray, SL.out]
  have fa15 : fa.size = 15 := by rw [← hfa, List.size_toArray, FL.out]
  have HSA := hide hsa
  have HV := hide hv
  have HN := hide hN
  have HI := hide IH
  show Calls Tryz.prog 43 #[.agg (usL sl).toArray, .agg (usL us ++ [Value.slice a ps.length c]).toArray] w _
  rw [hsa, hfa]
  obtain ⟨W1, hW1⟩ : ∃ W1, ((w.alloc (.cells sa 69)).alloc (.cells fa 30)).alloc (.cells #[.int .i64 0, .int .i64 0] 23) = W1 := ⟨_, rfl⟩
  have B0 := hide (show Below w.heap.size w W1 by rw [← hW1]; exact bplus (bplus (bplus (Below.refl _ _) _) _) _)
  have P2 := hide (show Bk W1 w.heap.size 69 (usL sl) by rw [← hW1, ← hsa]; exact (three_blk w _ _ _).1)
  have P0 := hide (show Bk W1 (w.heap.size + 1) 30 (usL us ++ [Value.slice a ps.length c]) by rw [← hW1, ← hfa]; exact (three_blk w _ _ _).2.1)
  have P1 := hide (show Bk W1 (w.heap.size + 2) 23 [.int .i64 0, .int .i64 0] by rw [← hW1]; exact (three_blk w _ _ _).2.2)
  have HW1 := hide hW1
  have K3 := hide (show W1.ownsRow (w.heap.size + 3) 23 2 (.slice none 0 0) (unT sz 1 (us.take 0)).length (usL (unT sz 1 (us.take 0))) from World.ownsRow_nil _ _ _ _)
  have RG := hide (show W1.rangeAt (w.heap.size + 1) 0 (usL us) from fun j v hj => by
    have hj14 := (List.getElem?_eq_some_iff.1 hj).1
    rw [Nat.zero_add, Bk.cell P0.out, List.getElem?_append_left hj14]; exact hj)
  have UL7 := hide (show (Tryz.prog.info? 27).map (·.size) = some (usL us).length by rw [UL.out]; kernel_rfl)
  have IXL := hide (fun (k : Nat) (hk : k < 7) (r : Int × Int) (hr : us[k]? = some r) (W : World) => ix7L HUS.out hk hr W)
  generalize usL us ++ [Value.slice a ps.length c] = fl at *
  clear hW1 hsa hfa hX hv hN IH hs hus
  go_enter Tryz.func43, Tryz.ntmps43
  go_upto_region 1 with fail
  rw [HW1.out]
  clear HW1
  go_wp2_with (refine wpList_load_mid rfl 27 (.tmp 10) rfl (w.heap.size + 1) 0 rfl (usL us) _ RG.out Tryz.underlying27 rfl UL7.out ?_)
  obtain ⟨ua, hua⟩ : ∃ q, (usL us).toArray = q := ⟨_, rfl⟩
  rw [hua] at IXL
  (try rw [hua])
  clear hua RG UL7
  go_loopw [5, 12] (fun lv i wr => RelPx w (usL sl) fl (fun k => unT sz 1 (us.take k)) 7 lv i wr) (fun _ i _ => 7 - (intOf i).toNat)
  case atStart => exact .mk 0 rfl (by omega) K3.out P1.out P0.out P2.out B0.out
  case round =>
    obtain ⟨k, lv, rfl, rfl, hk, R⟩ := hrel
    have Q0 := hide (show wr.ownsRow (w.heap.size + 3) 23 2 lv (unT sz 1 (us.take k)).length (usL (unT sz 1 (us.take k))) from R.out.1)
    have Q1 := hide R.out.2.1
    have Q3 := hide R.out.2.2.1
    have Q4 := hide R.out.2.2.2.1
    have BW := hide R.out.2.2.2.2
    clear R P0 P1 P2 K3 B0
    by_cases hlt : k < 7
    · have hlt' : (k : Int) < 7 := by omega
      obtain ⟨r, hr⟩ : ∃ r, us[k]? = some r := ⟨_, List.getElem?_eq_getElem (by rw [HUS.out.1]; exact hlt)⟩
      have r64 : R64 r := HUS.out.2 r (List.mem_of_getElem? hr)
      have IX := fun W => IXL.out k hlt r hr W
      have ST := hide (unT_step (sz := sz) hr)
      have LE := hide (show (unT sz 1 (us.take k)).length ≤ 7 from Nat.le_trans (unT_len sz _ 1) (by rw [List.length_take, HUS.out.1]; omega))
      clear hr
      by_cases hz : r = (0, 1)
      · subst hz
        rw [if_pos rfl, List.append_nil] at ST
        replace Q0 := hide (show wr.ownsRow (w.heap.size + 3) 23 2 lv (unT sz 1 (us.take (k + 1))).length (usL (unT sz 1 (us.take (k + 1)))) by rw [ST.out]; exact Q0.out)
        obtain ⟨g0, g1, g2⟩ := HN.out.low BW.out
        have g3 : 1 ≠ wr.heap.size := by omega
        clear ST
        go_wp2
        go_roundw
        case rel => exact .mk (k + 1) (by go_num) (by omega) (Q0.out.alloc _) (Bk.more Q1.out _) (Bk.more Q3.out _) (Bk.more Q4.out _) (bplus BW.out _)
        case measure => simp [intOf]; omega
      · rw [if_neg hz] at ST
        have HZ := hide (show decide (r = (0, 1)) = !true by simpa using hz)
        obtain ⟨s, hs⟩ : ∃ s, sz ((k + 1 : Nat) : Int) = s := ⟨_, rfl⟩
        have SA := HS.out.2.2 (k + 1) (by omega)
        have s64 : R64 s := by rw [← hs]; exact HS.out.2.1 _ (List.mem_of_getElem? SA)
        rw [hs] at ST SA
        have CM0 := hide (fun (b : Nat) (W : World) (h : W.heap[b]? = some (.cells #[.int .i64 r.1, .int .i64 r.2, .int .i64 s.1, .int .i64 s.2] 23)) => (wk.mulP_any (.slice (some ⟨b, 0, none⟩) 2 2) [r, s] W (row_blk2 h) (in_two r64 s64)).mono (R' := fun e w' => e = .returned (ratV (wk.mulAll [r, s])) ∧ Below W.heap.size W w') (by rintro e w1 ⟨rfl, U⟩; exact ⟨rfl, U.1⟩))
        obtain ⟨t, ht⟩ : ∃ t, wk.mulAll [r, s] = t := ⟨_, rfl⟩
        rw [ht] at CM0 ST
        unfold ratV at CM0
        obtain ⟨wq, hwq⟩ : ∃ wq, wr.alloc (.cells #[.int .i64 r.1, .int .i64 r.2] 23) = wq := ⟨_, rfl⟩
        have BQ := hide (show Below wr.heap.size wr wq by rw [← hwq]; exact bplus (Below.refl _ _) _)
        have RR := hide (fun (W : World) (h : Below wq.heap.size wq W) => bxk_2g (show W.heap[wr.heap.size]? = some (.cells #[.int .i64 r.1, .int .i64 r.2] 23) from Bk.up (show Bk wq wr.heap.size 23 [.int .i64 r.1, .int .i64 r.2] by rw [← hwq]; exact Bk.new wr _ _) h))
        have GN := hide (fun (W : World) (h : Below wq.heap.size wq W) => ((HN.out.low BW.out).low (bto BQ.out h)).2)
        have RS := hide (fun (W : World) (h : Below wq.heap.size wq W) => BU.at (show BU W w.heap.size 69 sl from Bk.up Q4.out (bto BQ.out h)) SA)
        have HK := hide (show IntKind.i64.wrap ((k : Int) + 1) = ((k + 1 : Nat) : Int) by simp [IntKind.wrap, go_sem]; omega)
        have HK8 := hide (show ((k + 1 : Nat) : Int) < 8 by omega)
        have CM := hide (fun (b : Nat) (W : World) (h : Below wq.heap.size wq W) (hb : W.heap[b]? = some (.cells #[.int .i64 r.1, .int .i64 r.2, .int .i64 s.1, .int .i64 s.2] 23)) => CM0.out b W hb)
        have HWQ := hide hwq
        have BW3 := hide (show w.heap.size + 3 ≤ wr.heap.size from Bk.lt Q1.out)
        clear hwq hs ht CM0 SA r64 s64 hz
        go_upto_region 5 with fail
        rw [HWQ.out]
        clear HWQ IX
        refine wp_region_sqQ (kdP5 r) (Stat.of (by kernel_rfl)) ?_ ?_
        · as_aux_lemma =>
            intro Q' i o ho blk listed a wx I hd
            have hi : i < 3 := (Array.getElem?_eq_some_iff.1 ho).1
            rcases (show i = 0 ∨ i = 1 ∨ i = 2 by omega) with rfl | rfl | rfl
            · obtain rfl := Option.some.inj ho
              exact wpOp_valW rfl (wn rfl) (run_ldA rfl (show a.tmps.getD 7 undef = _ from (I.oth_at (by kernel_rfl)).trans rfl) (RR.out wx I.up).1 (RR.out wx I.up).2) (show _ ∧ _ from ⟨rfl, be.Up.refl _⟩)
            · obtain rfl := Option.some.inj ho
              exact wpOp_valW rfl (wn rfl) (run_ldA rfl rfl (GN.out wx I.up).1 (GN.out wx I.up).2) (show _ ∧ _ from ⟨rfl, be.Up.refl _⟩)
            · obtain rfl := Option.some.inj ho
              exact wpOp_valW rfl (wn rfl) (run_neR (p := r) (q := (0, 1)) rfl (I.val_at (i := 0) (by decide) (hd 0 (by decide)) (.inl rfl) rfl) (I.val_at (i := 1) (by decide) (hd 1 (by decide)) (.inl rfl) rfl) HZ.out) (show _ ∧ _ from ⟨rfl, be.Up.refl _⟩)
        · intro blk listed a' wx I hall
          have fr := I.frameL [(16, (.agg #[.int .i64 r.1, .int .i64 r.2])), (17, (.agg #[.int .i64 0, .int .i64 1])), (18, (.bool true))] (by
            intro p hp
            simp only [List.mem_cons, List.not_mem_nil, or_false] at hp
            rcases hp with rfl | rfl | rfl
            · exact ⟨by simp, I.val_at (i := 0) (by decide) (hall _ (by decide)) (.inl rfl) rfl⟩
            · exact ⟨by simp, I.val_at (i := 1) (by decide) (hall _ (by decide)) (.inl rfl) rfl⟩
            · exact ⟨by simp, I.val_at (i := 2) (by decide) (hall _ (by decide)) (.inl rfl) rfl⟩) (by kernel_rfl)
          have B5 := hide (show Below wq.heap.size wq wx from I.up)
          clear I hall
          subst fr
          dsimp only [setsL, List.set_cons_zero, List.set_cons_succ]
          go_upto_region 6 with fail
          replace RR := hide (fun (W : World) (h : Below wx.heap.size wx W) => RR.out W (bto B5.out h))
          replace RS := hide (fun (W : World) (h : Below wx.heap.size wx W) => RS.out W (bto B5.out h))
          replace CM := hide (fun (b : Nat) (W : World) (h : Below wx.heap.size wx W) => CM.out b W (bto B5.out h))
          replace BQ := hide (bto BQ.out B5.out)
          clear B5 GN HZ
          refine wp_region_tm2 (by kernel_rfl) (kdP6 w.heap.size lv k r s t) 9 rfl (Stat.of (by kernel_rfl)) (acy_of (by kernel_rfl)) (by kernel_rfl) ?_ ?_
          · as_aux_lemma =>
              intro Q' i o hi ho blk listed a wx I hd LATE
              rcases (show i = 0 ∨ i = 1 ∨ i = 2 ∨ i = 3 ∨ i = 4 ∨ i = 5 ∨ i = 6 ∨ i = 7 ∨ i = 8 by omega) with rfl | rfl | rfl | rfl | rfl | rfl | rfl | rfl | rfl
              · obtain rfl := Option.some.inj ho
                exact wpOp_valW rfl (wn rfl) (run_mv rfl (show a.tmps.getD 5 undef = _ from (LATE 10 5 (by decide) (by decide) rfl).trans rfl)) (show _ ∧ _ from ⟨rfl, be.Up.refl _⟩)
              · obtain rfl := Option.some.inj ho
                exact wpOp_valW rfl (wn rfl) (run_ldA rfl (show a.tmps.getD 7 undef = _ from (I.oth_at (by kernel_rfl)).trans rfl) (RR.out wx I.up).1 (RR.out wx I.up).2) (show _ ∧ _ from ⟨rfl, be.Up.refl _⟩)
              · obtain rfl := Option.some.inj ho
                exact wpOp_valW rfl (wn rfl) (run_mv rfl (show a.tmps.getD 6 undef = _ from (I.oth_at (by kernel_rfl)).trans rfl)) (show _ ∧ _ from ⟨rfl, be.Up.refl _⟩)
              · obtain rfl := Option.some.inj ho
                exact wpOp_valW rfl (wn rfl) (run_inc rfl rfl (I.val_at (i := 2) (by decide) (hd ⟨2, .data⟩ (by simp) rfl) (.inl rfl) rfl) HK.out) (show _ ∧ _ from ⟨rfl, be.Up.refl _⟩)
              · obtain rfl := Option.some.inj ho
                exact wpOp_valW rfl (wn rfl) (run_ix8 rfl (show a.tmps.getD 2 undef = _ from (I.oth_at (by kernel_rfl)).trans rfl) (I.val_at (i := 3) (by decide) (hd ⟨3, .data⟩ (by simp) rfl) (.inl rfl) rfl) HK8.out) (show _ ∧ _ from ⟨rfl, be.Up.refl _⟩)
              · obtain rfl := Option.some.inj ho
                exact wpOp_valW rfl (wn rfl) (run_ldA rfl (I.val_at (i := 4) (by decide) (hd ⟨4, .data⟩ (by simp) rfl) (.inl rfl) rfl) (RS.out wx I.up).1 (RS.out wx I.up).2) (show _ ∧ _ from ⟨rfl, be.Up.refl _⟩)
              · obtain rfl := Option.some.inj ho
                exact wpOp_valW rfl (wn rfl) (run_bs2 rfl (I.val_at (i := 1) (by decide) (hd ⟨1, .data⟩ (by simp) rfl) (.inl rfl) rfl) (I.val_at (i := 5) (by decide) (hd ⟨5, .data⟩ (by simp) rfl) (.inl rfl) rfl)) (show _ ∧ _ from ⟨rfl, rfl⟩)
              · obtain rfl := Option.some.inj ho
                have r0 := (I.row_at (i := 6) (by decide) (hd ⟨6, .data⟩ (by simp) rfl) rfl rfl)
                have v0 := r0.1
                refine wpOp_callW rfl (wn rfl) (run_cl1 rfl rfl (fun v => enters_of Tryz.func64 (by kernel_rfl) rfl #[v] wx)) ?_
                refine (show Calls Tryz.prog 64 #[a.tmps.getD _ undef] wx _ from ?_)
                rw [v0]
                exact (CM.out _ wx I.up r0.2).mono (by rintro e w' ⟨rfl, hu⟩; exact ⟨_, rfl, (show _ ∧ _ from ⟨rfl, hu⟩)⟩)
              · obtain rfl := Option.some.inj ho
                exact wpOp_valW rfl (wn rfl) (run_bs1R rfl (I.val_at (i := 7) (by decide) (hd ⟨7, .data⟩ (by simp) rfl) (.inl rfl) rfl)) (show _ ∧ _ from ⟨rfl, rfl⟩)
          · intro blk listed a' wy I hall LATE
            have fr := I.frameL [(19, lv), (20, (.agg #[.int .i64 r.1, .int .i64 r.2])), (21, (.int .i64 k)), (22, (.int .i64 (k + 1 : Nat))), (23, (.pointer (some ⟨w.heap.size, (k + 1) * 2, none⟩))), (24, (.agg #[.int .i64 s.1, .int .i64 s.2])), (25, (.slice (some ⟨blk 6, 0, none⟩) 2 2)), (26, (.agg #[.int .i64 t.1, .int .i64 t.2])), (27, (.slice (some ⟨blk 8, 0, none⟩) 1 1)), (28, u28), (5, lv)] (by
              intro p hp
              simp only [List.mem_cons, List.not_mem_nil, or_false] at hp
              rcases hp with rfl | rfl | rfl | rfl | rfl | rfl | rfl | rfl | rfl | rfl | rfl
              · exact ⟨by simp, I.val_at (i := 0) (by decide) (hall _ (by decide)) (.inl rfl) rfl⟩
              · exact ⟨by simp, I.val_at (i := 1) (by decide) (hall _ (by decide)) (.inl rfl) rfl⟩
              · exact ⟨by simp, I.val_at (i := 2) (by decide) (hall _ (by decide)) (.inl rfl) rfl⟩
              · exact ⟨by simp, I.val_at (i := 3) (by decide) (hall _ (by decide)) (.inl rfl) rfl⟩
              · exact ⟨by simp, I.val_at (i := 4) (by decide) (hall _ (by decide)) (.inl rfl) rfl⟩
              · exact ⟨by simp, I.val_at (i := 5) (by decide) (hall _ (by decide)) (.inl rfl) rfl⟩
              · exact ⟨by simp, (I.row_at (i := 6) (by decide) (hall _ (by decide)) rfl rfl).1⟩
              · exact ⟨by simp, I.val_at (i := 7) (by decide) (hall _ (by decide)) (.inl rfl) rfl⟩
              · exact ⟨by simp, (I.row_at (i := 8) (by decide) (hall _ (by decide)) rfl rfl).1⟩
              · exact ⟨by simp, (LATE 9 28 (by decide) (by decide) rfl).trans rfl⟩
              · exact ⟨by simp, (LATE 10 5 (by decide) (by decide) rfl).trans rfl⟩) (by kernel_rfl)
            have BY := hide (show Below wr.heap.size wr wy from bto BQ.out I.up)
            have HB := hide (I.row_at (i := 8) (by decide) (hall _ (by decide)) rfl rfl).2
            have OW := hide (own_up Q0.out BY.out)
            clear I hall LATE
            subst fr
            dsimp only [setsL, List.set_cons_zero, List.set_cons_succ]
            refine wpOp_apR rfl rfl rfl (w.heap.size + 3) lv (unT sz 1 (us.take k)) t rfl OW.out (blk 8) rfl HB.out (by have := LE.out; omega) (Nat.le_trans BW3.out BY.out.size) ?_
            intro lv' wz hown hgrow
            refine wpOp_valW rfl (wn rfl) (run_as rfl rfl) ?_
            have HN2 := hide (show wz.ownsRow (w.heap.size + 3) 23 2 lv' (unT sz 1 (us.take (k + 1))).length (usL (unT sz 1 (us.take (k + 1)))) by rw [ST.out]; exact hown)
            have BN := hide (show Below (w.heap.size + 3) wr wz from (BY.out.mono BW3.out).grown hgrow (Nat.le_trans BW3.out BY.out.size) (fun k hk => (OW.out.lt k hk).1))
            have NX := hide (Bk.low Q1.out BN.out (by omega))
            have NY := hide (Bk.low Q3.out BN.out (by omega))
            have NZ := hide (Bk.low Q4.out BN.out (by omega))
            have NB := hide (show Below w.heap.size w wz from BW.out.trans (BN.out.mono (by omega)))
            clear hown hgrow OW HB BY Q0 Q1 Q3 Q4 BW BQ RR RS CM ST
            go_wp2
            go_roundw
            case rel => exact .mk (k + 1) (by go_num) (by omega) HN2.out NX.out NY.out NZ.out NB.out
            case measure => simp [intOf]; omega
    · obtain rfl : k = 7 := by omega
      have hlt' : ¬ ((7 : Nat) : Int) < 7 := by omega
      have TK : us.take 7 = us := List.take_of_length_le (by rw [HUS.out.1]; omega)
      rw [TK] at Q0
      have f14 := (Bk.cell Q3.out 14).trans F14.out
      have LE := hide (show (unT sz 1 us).length ≤ 7 from Nat.le_trans (unT_len sz _ 1) (by rw [HUS.out.1]; omega))
      replace Q0 := hide (show wr.ownsRow (w.heap.size + 3) 23 2 lv (unT sz 1 us ++ (ps.take 0).map (ptP (pxN sz n))).length (usL (unT sz 1 us ++ (ps.take 0).map (ptP (pxN sz n)))) by rw [List.take_zero, List.map_nil, List.append_nil]; exact Q0.out)
      clear TK IXL F14 HUS
      go_wp2
      go_loopw [5, 33] (fun lv i wr => RelPx w (usL sl) fl (fun k => unT sz 1 us ++ (ps.take k).map (ptP (pxN sz n))) ps.length lv i wr) (fun _ i _ => ps.length - (intOf i).toNat)
      case atStart => exact .mk 0 rfl (by omega) Q0.out Q1.out Q3.out Q4.out BW.out
      case round =>
        obtain ⟨k, lv, rfl, rfl, hk, R⟩ := hrel
        have O0 := hide (show wr.ownsRow (w.heap.size + 3) 23 2 lv (unT sz 1 us ++ (ps.take k).map (ptP (pxN sz n))).length (usL (unT sz 1 us ++ (ps.take k).map (ptP (pxN sz n)))) from R.out.1)
        have O1 := hide R.out.2.1
        have O3 := hide R.out.2.2.1
        have O4 := hide R.out.2.2.2.1
        have OB := hide R.out.2.2.2.2
        clear R Q0 Q1 Q3 Q4 BW f14
        have BW3 := hide (show w.heap.size + 3 ≤ wr.heap.size from Bk.lt O1.out)
        by_cases hlt2 : k < ps.length
        · have hlt2' : (k : Int) < ps.length := by omega
          obtain ⟨p, hp⟩ : ∃ p, ps[k]? = some p := ⟨_, List.getElem?_eq_getElem hlt2⟩
          obtain ⟨b, o, c', u5, hv', hb, -, -, p0, p1, hfm⟩ := HV.out.at hp
          obtain ⟨rfl, rfl⟩ : a = some ⟨b, o, none⟩ ∧ c = c' := by cases hv'; exact ⟨rfl, rfl⟩
          obtain ⟨a5, c5, rfl, -⟩ := FM.shape hfm
          have ST := hide (show unT sz 1 us ++ (ps.take (k + 1)).map (ptP (pxN sz n)) = (unT sz 1 us ++ (ps.take k).map (ptP (pxN sz n))) ++ [ptP (pxN sz n) p] by rw [List.take_add_one, hp]; simp)
          have CI := hide (fun (W : World) (h : Below w.heap.size w W) => HI.out p (.slice a5 p.2.length c5) W (HN.out.low h) (FM.low h hfm))
          rw [HSA.out] at CI
          have c0 := (OB.out.cell (p := ⟨b, o + k * 2, none⟩) hb).trans p0
          have c1 := (OB.out.cell (p := ⟨b, o + k * 2 + 1, none⟩) hb).trans p1
          have hbw : b < wr.heap.size := by have := OB.out.size; omega
          have nb : b ≠ wr.heap.size := by omega
          have LN := hide (show (unT sz 1 us ++ (ps.take k).map (ptP (pxN sz n))).length ≤ 1000000007 by rw [List.length_append, List.length_map, List.length_take]; have := LE.out; omega)
          obtain ⟨t, ht⟩ : ∃ t, ptP (pxN sz n) p = t := ⟨_, rfl⟩
          rw [ht] at CI ST
          obtain ⟨rk, hrk⟩ : ∃ q, unT sz 1 us ++ (ps.take k).map (ptP (pxN sz n)) = q := ⟨_, rfl⟩
          rw [hrk] at O0 LN ST
          clear hp p0 p1 hfm hrk ht
          (try clear hv')
          generalize p.1 = pb at *
          generalize p.2.length = pl at *
          have BB := hide (bplus OB.out (.cells #[.bool pb, .slice a5 pl c5] 60))
          have BX := hide (bplus (Below.refl wr.heap.size wr) (.cells #[.bool pb, .slice a5 pl c5] 60))
          have RG := hide (show (wr.alloc (.cells #[.bool pb, .slice a5 pl c5] 60)).rangeAt w.heap.size 0 (usL sl) from range_blk (Bk.more O4.out _))
          have OO := hide (fun (W : World) (h : Below wr.heap.size wr W) => own_up O0.out h)
          have TS := hide (show (rk ++ [t]).length = rk.length + 1 ∧ usL (rk ++ [t]) = usL rk ++ [.int .i64 t.1, .int .i64 t.2] from ⟨by simp, usL_snoc rk t⟩)
          have NX := hide (fun (W : World) (h : Below (w.heap.size + 3) wr W) => Bk.low O1.out h (by omega))
          have NY := hide (fun (W : World) (h : Below (w.heap.size + 3) wr W) => Bk.low O3.out h (by omega))
          have NZ := hide (fun (W : World) (h : Below (w.heap.size + 3) wr W) => Bk.low O4.out h (by omega))
          have NB := hide (fun (W : World) (h : Below (w.heap.size + 3) wr W) => show Below w.heap.size w W from OB.out.trans (h.mono (by omega)))
          obtain ⟨i0, hj, hy0, hy1, hy2⟩ := info_parts infoRat
          have hl3 := BW3.out
          have hl7 := LN.out
          obtain ⟨q, hq⟩ : ∃ q, rk.length = q := ⟨_, rfl⟩
          rw [hq] at OO TS hl7
          unfold ratV at CI
          clear O0 O1 O3 O4 hq LN HV HI HN
          go_wp2_with (first
            | (refine wpList_load_mid rfl 69 (.tmp 2) rfl w.heap.size 0 rfl (usL sl) _ RG.out Tryz.underlying69 rfl (by rw [SL.out]; kernel_rfl) ?_; rw [HSA.out])
            | (go_at_call 65; refine (CI.out _ BB.out).mono ?_; rintro e w2 ⟨rfl, B2⟩; replace B2 := hide (bto BX.out B2); have OW := hide (OO.out _ B2.out))
            | (at_builtin; refine wpList_append_own _ rfl _ _ 72 rfl (w.heap.size + 3) 23 i0 _ 2 16 Tryz.underlying72 hj hy0 hy1 hy2 rfl (by decide) _ _ _ rfl (OW.out.alloc _) ⟨_, 0, none⟩ 1 1 [.int .i64 t.1, .int .i64 t.2] rfl rfl (news2 _ _ _ _) (by intro u hu; simp at hu; rcases hu with rfl | rfl <;> rfl) (by unfold maxLen; omega) (by omega) (by have := B2.out.size; simp; omega) ?_; intro v' w1 hown' hgrow _; have HN2 := hide (show w1.ownsRow (w.heap.size + 3) 23 2 v' (rk ++ [t]).length (usL (rk ++ [t])) by rw [TS.out.1, TS.out.2]; exact hown'); have BN := hide (show Below (w.heap.size + 3) wr w1 from ((B2.out.mono (by omega)).alloc (by have := B2.out.size; omega) _).grown hgrow (by have := B2.out.size; simp; omega) (fun k hk => (OW.out.lt k hk).1)); clear hown' hgrow))
          go_roundw
          case rel => exact .mk (k + 1) (by go_num) (by omega) (by rw [ST.out]; exact HN2.out) (NX.out _ BN.out) (NY.out _ BN.out) (NZ.out _ BN.out) (NB.out _ BN.out)
          case measure => simp [intOf]; omega
        · obtain rfl : k = ps.length := by omega
          have hlt2' : ¬ (ps.length : Int) < ps.length := by omega
          have TK : ps.take ps.length = ps := List.take_of_length_le (Nat.le_refl _)
          rw [TK] at O0
          have RW := hide (own_rowA O0.out (by rw [List.length_append, List.length_map]; have := LE.out; omega))
          have CO := hide (addP_op RW.out T64.out)
          rw [← E.out] at CO
          have KR := hide (fun (W : World) (h : Below wr.heap.size wr W) => show Bk W (w.heap.size + 2) 23 [.int .i64 0, .int .i64 0] from Bk.up O1.out h)
          have BX := hide (Below.refl wr.heap.size wr)
          unfold OpC ratV at CO
          clear TK O0 O1 O3 O4 RW E T64 HV HI HN
          go_wp2_with (go_at_call 66; refine (CO.out _ BX.out).mono ?_; rintro e w5 ⟨rfl, B5⟩; replace BX := hide B5; have QR := KR.out _ BX.out; have t0 := Bk.cell QR 0; have t1 := Bk.cell QR 1; simp at t0 t1; have z0 := Bk.fz QR 0; have z1 := Bk.fz QR 1; clear QR)
          exact bodyPost_ret (v := .agg #[.int .i64 X.1, .int .i64 X.2]) (by simp [results, Tryz.results43, go_sem, *]) rfl ⟨rfl, ((bto OB.out BX.out).setCell (by first | (simp; done) | (simp; omega)) _).setCell (by first | (simp; done) | (simp; omega)) _⟩
end Go.Proofs.YtlhmecagijdinaaGreatDoor.nm
set_option linter.unusedVariables false
set_option linter.unusedSimpArgs false
namespace Go.Proofs.YtlhmecagijdinaaGreatDoor.nm
open Go.RowKit cc

theorem fm_range2 {w : World} {n : Nat} {v : Value} {l : List Fo} {k : Nat} {f : Fo} (h : FM w n v l) (hf : l[k]? = some f) : ∃ m b o c u, n = m + 1 ∧ v = .slice (some ⟨b, o, none⟩) l.length c ∧ b < w.heap.size ∧ Us f.us ∧ w.rangeAt b (o + k * 15) (usL f.us ++ [u]) ∧ PM w m u f.ps := by
  obtain ⟨m, hm, b, o, c, u, hv, hb, -, -, hun, h14, hpm⟩ := FM.at h hf
  refine ⟨m, b, o, c, u, hm, hv, hb, hun.1, fun j x hj => ?_, hpm⟩
  have l14 := usL_len f.us
  have l7 := hun.1.1
  by_cases hj14 : j < 14
  · rw [List.getElem?_append_left (by omega)] at hj
    exact un_cell hun hj
  · have hj2 := (List.getElem?_eq_some_iff.1 hj).1
    rw [List.length_append, List.length_singleton] at hj2
    obtain rfl : j = 14 := by omega
    rw [List.getElem?_append_right (by omega), show 14 - (usL f.us).length = 0 by omega] at hj
    simp at hj
    subst hj
    exact h14
def RelPt (w : World) (sl : List Value) (e2 : List Value) (rs : List (Int × Int)) (n : Nat) (i : Value) (wr : World) : Prop := ∃ k : Nat, i = .int .i64 k ∧ k ≤ n ∧ Hid (Rw2 wr (w.heap.size + 3) n k rs ∧ Bk wr (w.heap.size + 2) 23 [.int .i64 0, .int .i64 0] ∧ Bk wr (w.heap.size + 1) 60 e2 ∧ Bk wr w.heap.size 69 sl ∧ Below w.heap.size w wr)
theorem RelPt.mk {w : World} {sl : List Value} {e2 : List Value} {rs : List (Int × Int)} {n : Nat} {i : Value} {wr : World} (k : Nat) (h1 : i = .int .i64 k) (h2 : k ≤ n) (h3 : Rw2 wr (w.heap.size + 3) n k rs) (h4 : Bk wr (w.heap.size + 2) 23 [.int .i64 0, .int .i64 0]) (h5 : Bk wr (w.heap.size + 1) 60 e2) (h6 : Bk wr w.heap.size 69 sl) (h7 : Below w.heap.size w wr) : RelPt w sl e2 rs n i wr := ⟨k, h1, h2, h3, h4, h5, h6, h7⟩
set_option maxRecDepth 100000 in
set_option maxHeartbeats 16000000 in
theorem part_of (sz : Int → Int × Int) (sl : List (Int × Int)) (hs : SzA sz sl) (n : Nat) (IH : ∀ m, n = m + 1 → PxC sz sl m) : PtC sz sl n := by
  intro p u w hN hv
  obtain ⟨mx, l⟩ := p
  replace hv : FM w n u l := hv
  obtain ⟨a, c, rfl, hl9⟩ := hv.shape
  have SL := hide (show (usL sl).length = 16 by rw [usL_len, hs.1])
  obtain ⟨rs, hrs⟩ : ∃ rs, l.map (pxN sz n) = rs := ⟨_, rfl⟩
  have RL := hide (show rs.length = l.length by rw [← hrs, List.length_map])
  have RA := hide (show ∀ i y, l[i]? = some y → rs[i]? = some (pxN sz n y) by intro i y h; rw [← hrs, List.getElem?_map, h]; rfl)
  have RI := hide (show ∀ r ∈ rs, R64 r by intro r hr; rw [← hrs] at hr; obtain ⟨y, hy, rfl⟩ := List.mem_map.1 hr; exact pxN_64 sz n y)
  have E := hide (show ptP (pxN sz n) (mx, l) = wk.utAll (if mx then 1 else -1) rs by rw [← hrs]; rfl)
  obtain ⟨X, hX⟩ : ∃ X, ptP (pxN sz n) (mx, l) = X := ⟨_, rfl⟩
  rw [hX] at E ⊢
  obtain ⟨sa, hsa⟩ : ∃ sa : Array Value, (usL sl).toArray = sa := ⟨_, rfl⟩
  have sa16 : sa.size = 16 := by rw [← hsa, List.size_toArray, SL.out]
  have HSA := hide hsa
  have HV := hide hv
  have HN := hide hN
  have HI := hide IH
  show Calls Tryz.prog 65 #[.agg (usL sl).toArray, .agg #[.bool mx, .slice a l.length c]] w _
  rw [hsa]
  obtain ⟨W1, hW1⟩ : ∃ W1, ((w.alloc (.cells sa 69)).alloc (.cells #[.bool mx, .slice a l.length c] 60)).alloc (.cells #[.int .i64 0, .int .i64 0] 23) = W1 := ⟨_, rfl⟩
  have S1 : W1.heap.size = w.heap.size + 3 := by rw [← hW1]; simp
  have B0 := hide (show Below w.heap.size w W1 by rw [← hW1]; exact bplus (bplus (bplus (Below.refl _ _) _) _) _)
  have P2 := hide (show Bk W1 w.heap.size 69 (usL sl) by rw [← hW1, ← hsa]; exact (three_blk w _ _ _).1)
  have P0 := hide (show Bk W1 (w.heap.size + 1) 60 [.bool mx, .slice a l.length c] by rw [← hW1]; exact (three_blk w _ _ _).2.1)
  have P1 := hide (show Bk W1 (w.heap.size + 2) 23 [.int .i64 0, .int .i64 0] by rw [← hW1]; exact (three_blk w _ _ _).2.2)
  have HW1 := hide hW1
  have a1 := Bk.cell P0.out 1
  simp at a1
  clear hW1 hsa hX hrs hv hN IH hs
  go_enter Tryz.func65, Tryz.ntmps65
  go_upto_region 1 with fail
  rw [HW1.out]
  clear HW1
  have MK := madeR l.length hl9 W1
  have K0 := hide (show Rw2 (W1.alloc (.cells (madeCells #[.int .i64 0, .int .i64 0] (l.length * 2)) 23)) (w.heap.size + 3) l.length 0 rs by rw [← S1]; exact Rw2.new W1 _ _)
  have K1 := hide (show Bk (W1.alloc (.cells (madeCells #[.int .i64 0, .int .i64 0] (l.length * 2)) 23)) (w.heap.size + 2) 23 [.int .i64 0, .int .i64 0] from Bk.more P1.out _)
  have K2 := hide (show Bk (W1.alloc (.cells (madeCells #[.int .i64 0, .int .i64 0] (l.length * 2)) 23)) (w.heap.size + 1) 60 [.bool mx, .slice a l.length c] from Bk.more P0.out _)
  have K4 := hide (show Bk (W1.alloc (.cells (madeCells #[.int .i64 0, .int .i64 0] (l.length * 2)) 23)) w.heap.size 69 (usL sl) from Bk.more P2.out _)
  have K3 := hide (show Below w.heap.size w (W1.alloc (.cells (madeCells #[.int .i64 0, .int .i64 0] (l.length * 2)) 23)) from bplus B0.out _)
  go_upto_region 2 with fail
  clear MK P0 P1 P2 B0 a1
  (try rw [S1])
  generalize W1.alloc (.cells (madeCells #[.int .i64 0, .int .i64 0] (l.length * 2)) 23) = W2 at *
  clear S1
  have a1 := Bk.cell K2.out 1
  simp at a1
  go_wp2_with fail
  go_loopw [15] (fun i wr => RelPt w (usL sl) [.bool mx, .slice a l.length c] rs l.length i wr) (fun i _ => l.length - (intOf i).toNat)
  case atStart => exact .mk 0 rfl (by omega) K0.out K1.out K2.out K4.out K3.out
  case round =>
    obtain ⟨k, rfl, hk, R⟩ := hrel
    have Q0 := hide R.out.1
    have Q1 := hide R.out.2.1
    have Q2 := hide R.out.2.2.1
    have Q4 := hide R.out.2.2.2.1
    have BW := hide R.out.2.2.2.2
    clear R K0 K1 K2 K3 K4 a1
    by_cases hlt : k < l.length
    · have hlt' : (k : Int) < l.length := by omega
      obtain ⟨f, hf⟩ : ∃ f, l[k]? = some f := ⟨_, List.getElem?_eq_getElem hlt⟩
      obtain ⟨m, b, o, c', fu, hnm, hv', hb, hus, hrg, hpm⟩ := fm_range2 HV.out hf
      obtain ⟨rfl, rfl⟩ : a = some ⟨b, o, none⟩ ∧ c = c' := by cases hv'; exact ⟨rfl, rfl⟩
      have lA := fo_len hus fu
      have OA := hide (us_one (us := f.us) (pm_one hpm))
      have AY := hide (RA.out k f hf)
      have CI := hide (fun (W : World) (h : Below w.heap.size w W) => HI.out m hnm f.us f.ps fu W (HN.out.low h) hus (PM.low h hpm))
      rw [show foV f.us fu = .agg (usL f.us ++ [fu]).toArray from rfl, show Fo.mk f.us f.ps = f by cases f; rfl, ← hnm, HSA.out] at CI
      have RG := hide (show wr.rangeAt b (o + k * 15) (usL f.us ++ [fu]) from fun j v hj => (BW.out.cell (p := ⟨b, o + k * 15 + j, none⟩) hb).trans (hrg j v hj))
      have hbw : b < wr.heap.size := by have := BW.out.size; omega
      have nb : b ≠ wr.heap.size := by omega
      have hq2 : w.heap.size + 3 < wr.heap.size := Rw2.lt Q0.out
      obtain ⟨t, ht⟩ : ∃ t, pxN sz n f = t := ⟨_, rfl⟩
      rw [ht] at CI AY
      unfold ratV at CI
      clear hf hrg hpm hus ht hnm
      (try clear hv')
      generalize usL f.us ++ [fu] = A at *
      have sA : A.toArray.size = 15 := by rw [List.size_toArray]; exact lA
      obtain ⟨W4, hW4⟩ : ∃ W4, (wr.alloc (.cells #[.int .i64 0, .int .i64 0, .int .i64 0, .int .i64 0, .int .i64 0, .int .i64 0, .int .i64 0, .int .i64 0, .int .i64 0, .int .i64 0, .int .i64 0, .int .i64 0, .int .i64 0, .int .i64 0, .slice none 0 0] 30)).setCells wr.heap.size 0 A = W4 := ⟨_, rfl⟩
      have T4 := hide (show (wr.alloc (.cells #[.int .i64 0, .int .i64 0, .int .i64 0, .int .i64 0, .int .i64 0, .int .i64 0, .int .i64 0, .int .i64 0, .int .i64 0, .int .i64 0, .int .i64 0, .int .i64 0, .int .i64 0, .int .i64 0, .slice none 0 0] 30)).there wr.heap.size 0 A.toArray.size from there_blk (heap_alloc_new wr _) (by rw [sA]; rfl))
      have H4 := hide (show (Tryz.prog.info? 30).map (·.size) = some A.toArray.size by rw [sA]; kernel_rfl)
      have H5 := hide (show (Tryz.prog.info? 30).map (·.size) = some A.length by rw [lA]; kernel_rfl)
      have B4 := hide (show Below wr.heap.size wr W4 by rw [← hW4]; exact (bplus (Below.refl _ _) _).grown (setCells_grown _ _ _ _) (by simp) (fun k hk => by cases hk; exact Nat.le_refl _))
      have R4 := hide (show W4.rangeAt wr.heap.size 0 A by
        have q := Bk.puts A 0 _ _ (Bk.new wr 30 [.int .i64 0, .int .i64 0, .int .i64 0, .int .i64 0, .int .i64 0, .int .i64 0, .int .i64 0, .int .i64 0, .int .i64 0, .int .i64 0, .int .i64 0, .int .i64 0, .int .i64 0, .int .i64 0, .slice none 0 0]) (by rw [lA]; simp)
        rw [List.take_zero, List.nil_append, Nat.zero_add, List.drop_of_length_le (by rw [lA]; simp), List.append_nil] at q
        rw [← hW4]
        exact range_blk q)
      have RG2 := hide (show W4.rangeAt w.heap.size 0 (usL sl) from range_blk (Bk.up Q4.out B4.out))
      have HW4 := hide hW4
      clear hW4
      have BX := hide (Below.refl W4.heap.size W4)
      have CI2 := hide (fun (W : World) (h : Below W4.heap.size W4 W) => CI.out W (bto (bto BW.out B4.out) h))
      have PP := hide (fun (W : World) (h : Below wr.heap.size wr W) => (Rw2.up Q0.out h).put hlt AY.out)
      have NY := hide (fun (W : World) (h : Below wr.heap.size wr W) => show Bk ((W.setCell ⟨w.heap.size + 3, k * 2, none⟩ (.int .i64 t.1)).setCell ⟨w.heap.size + 3, k * 2 + 1, none⟩ (.int .i64 t.2)) (w.heap.size + 2) 23 [.int .i64 0, .int .i64 0] from Bk.far (Bk.far (Bk.up Q1.out h) (by omega) _ _) (by omega) _ _)
      have NZ := hide (fun (W : World) (h : Below wr.heap.size wr W) => show Bk ((W.setCell ⟨w.heap.size + 3, k * 2, none⟩ (.int .i64 t.1)).setCell ⟨w.heap.size + 3, k * 2 + 1, none⟩ (.int .i64 t.2)) (w.heap.size + 1) 60 [.bool mx, .slice (some ⟨b, o, none⟩) l.length c] from Bk.far (Bk.far (Bk.up Q2.out h) (by omega) _ _) (by omega) _ _)
      have NS := hide (fun (W : World) (h : Below wr.heap.size wr W) => show Bk ((W.setCell ⟨w.heap.size + 3, k * 2, none⟩ (.int .i64 t.1)).setCell ⟨w.heap.size + 3, k * 2 + 1, none⟩ (.int .i64 t.2)) w.heap.size 69 (usL sl) from Bk.far (Bk.far (Bk.up Q4.out h) (by omega) _ _) (by omega) _ _)
      have NB := hide (fun (W : World) (h : Below wr.heap.size wr W) => show Below w.heap.size w ((W.setCell ⟨w.heap.size + 3, k * 2, none⟩ (.int .i64 t.1)).setCell ⟨w.heap.size + 3, k * 2 + 1, none⟩ (.int .i64 t.2)) from ((bto BW.out h).setCell (by simp) _).setCell (by simp) _)
      have TH := hide (fun (W : World) (h : Below wr.heap.size wr W) => And.intro (Rw2.there (Rw2.up Q0.out h) (j := k * 2) (by omega)) (Rw2.there (Rw2.up Q0.out h) (j := k * 2 + 1) (by omega)))
      clear HI HN RA HV Q0 Q1 Q2 Q4 AY CI BW
      go_upto_region 5 with (first
        | (refine wpList_load_mid rfl 30 (.tmp 18) rfl b (o + k * 15) rfl A _ RG.out Tryz.underlying30 rfl H5.out ?_)
        | (refine wpList_store_mid rfl 30 (.tmp 7) (.tmp 19) rfl wr.heap.size 0 A.toArray rfl rfl T4.out H4.out (all_oneCell_toArray OA.out) ?_))
      (try rw [show A.toArray.toList = A from rfl])
      rw [HW4.out]
      clear HW4 T4 RG
      go_wp2_with (first
        | (refine wpList_load_mid rfl 69 (.tmp 2) rfl w.heap.size 0 rfl (usL sl) _ RG2.out Tryz.underlying69 rfl (by rw [SL.out]; kernel_rfl) ?_; rw [HSA.out])
        | (refine wpList_load_mid rfl 30 (.tmp 7) rfl wr.heap.size 0 rfl A _ R4.out Tryz.underlying30 rfl H5.out ?_)
        | (go_at_call 43; refine (CI2.out _ BX.out).mono ?_; rintro e w2 ⟨rfl, B2⟩; replace B2 := hide (bto B4.out B2); obtain ⟨⟨⟨z0, t0⟩, v0⟩, ⟨z1, t1⟩, v1⟩ := TH.out _ B2.out))
      go_roundw
      case rel => exact .mk (k + 1) (by go_num) (by omega) (PP.out _ B2.out) (NY.out _ B2.out) (NZ.out _ B2.out) (NS.out _ B2.out) (NB.out _ B2.out)
      case measure => simp [intOf]; omega
    · obtain rfl : k = l.length := by omega
      have hlt' : ¬ (l.length : Int) < l.length := by omega
      have RW := hide (Rw2.row Q0.out RL.out hl9)
      have b0 := Bk.cell Q2.out 0
      simp at b0
      have TR := hide (fun (W : World) (h : Below wr.heap.size wr W) => show Bk W (w.heap.size + 2) 23 [.int .i64 0, .int .i64 0] from Bk.up Q1.out h)
      have BX := hide (Below.refl wr.heap.size wr)
      clear Q0 Q1 Q2 Q4 HV HI HN RA RL
      cases mx
      · have CO := hide (leastP_op RW.out RI.out)
        replace E := hide (show X = wk.utAll (-1) rs from E.out)
        rw [← E.out] at CO
        unfold OpC ratV at CO
        clear E RW RI
        go_wp2_with (go_at_call 95; refine (CO.out _ BX.out).mono ?_; rintro e w5 ⟨rfl, B5⟩; replace BX := hide B5; have QR := TR.out _ BX.out; have t0 := Bk.cell QR 0; have t1 := Bk.cell QR 1; simp at t0 t1; have z0 := Bk.fz QR 0; have z1 := Bk.fz QR 1; clear QR)
        exact bodyPost_ret (v := .agg #[.int .i64 X.1, .int .i64 X.2]) (by simp [results, Tryz.results65, go_sem, *]) rfl ⟨rfl, ((bto BW.out BX.out).setCell (by first | (simp; done) | (simp; omega)) _).setCell (by first | (simp; done) | (simp; omega)) _⟩
      · have CO := hide (mostP_op RW.out RI.out)
        replace E := hide (show X = wk.utAll 1 rs from E.out)
        rw [← E.out] at CO
        unfold OpC ratV at CO
        clear E RW RI
        go_wp2_with (go_at_call 94; refine (CO.out _ BX.out).mono ?_; rintro e w5 ⟨rfl, B5⟩; replace BX := hide B5; have QR := TR.out _ BX.out; have t0 := Bk.cell QR 0; have t1 := Bk.cell QR 1; simp at t0 t1; have z0 := Bk.fz QR 0; have z1 := Bk.fz QR 1; clear QR)
        exact bodyPost_ret (v := .agg #[.int .i64 X.1, .int .i64 X.2]) (by simp [results, Tryz.results65, go_sem, *]) rfl ⟨rfl, ((bto BW.out BX.out).setCell (by first | (simp; done) | (simp; omega)) _).setCell (by first | (simp; done) | (simp; omega)) _⟩
theorem px_all (sz : Int → Int × Int) (sl : List (Int × Int)) (hs : SzA sz sl) : ∀ n, PxC sz sl n := by
  intro n
  induction n with
  | zero => exact px_of sz sl hs 0 (part_of sz sl hs 0 (fun m h => by omega))
  | succ n ih => exact px_of sz sl hs (n + 1) (part_of sz sl hs (n + 1) (fun m h => by
      have e : n = m := Nat.succ.inj h
      subst e
      exact ih))
end Go.Proofs.YtlhmecagijdinaaGreatDoor.nm
