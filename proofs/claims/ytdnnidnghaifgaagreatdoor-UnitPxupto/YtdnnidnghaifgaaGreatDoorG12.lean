/-
  A form in px: by the reference.
  The law of forms in px.
-/
import Derived.Test.YtdnnidnghaifgaaGreatDoorG08
import Derived.Test.YtdnnidnghaifgaaGreatDoorG03
import Derived.Test.YtdnnidnghaifgaaGreatDoorG10
set_option linter.unusedVariables false
set_option linter.unusedSimpArgs false
namespace Go.Proofs.YtdnnidnghaifgaaGreatDoor.nm
open Go.RowKit cc be

def PrC (cs : List (Int × Int)) (n : Nat) : Prop := ∀ (us : List (Int × Int)) (ps : List Pa) (u : Value) (w : World), Us us → PM w n u ps → Calls Tryz.prog 17 #[foV us u, cxV cs] w fun e w' => e = .returned (ratV (pxN (szC cs) (n + 1) (.mk us ps))) ∧ Below w.heap.size w w'
def RelPr (w : World) (fl cl : List Value) (rs : Nat → List (Int × Int)) (n : Nat) (lv i : Value) (wr : World) : Prop := ∃ (k : Nat) (l : Value), l = lv ∧ i = .int .i64 k ∧ k ≤ n ∧ Hid (wr.ownsRow (w.heap.size + 3) 23 2 lv (rs k).length (usL (rs k)) ∧ Bk wr (w.heap.size + 2) 23 [.int .i64 0, .int .i64 0] ∧ Bk wr (w.heap.size + 1) 25 cl ∧ Bk wr w.heap.size 36 fl ∧ Below w.heap.size w wr)
theorem RelPr.mk {w : World} {fl cl : List Value} {rs : Nat → List (Int × Int)} {n : Nat} {lv i : Value} {wr : World} (k : Nat) (h1 : i = .int .i64 k) (h2 : k ≤ n) (h3 : wr.ownsRow (w.heap.size + 3) 23 2 lv (rs k).length (usL (rs k))) (h4 : Bk wr (w.heap.size + 2) 23 [.int .i64 0, .int .i64 0]) (h5 : Bk wr (w.heap.size + 1) 25 cl) (h6 : Bk wr w.heap.size 36 fl) (h7 : Below w.heap.size w wr) : RelPr w fl cl rs n lv i wr := ⟨k, lv, rfl, h1, h2, h3, h4, h5, h6, h7⟩
/-- A part's forms on their way. -/
def RelPa (w5 : World) (rs : Nat → List (Int × Int)) (n : Nat) (lv i : Value) (wr : World) : Prop := ∃ (k : Nat) (l : Value), l = lv ∧ i = .int .i64 k ∧ k ≤ n ∧ Hid (wr.ownsRow w5.heap.size 23 2 lv (rs k).length (usL (rs k)) ∧ Below w5.heap.size w5 wr)
theorem RelPa.mk {w5 : World} {rs : Nat → List (Int × Int)} {n : Nat} {lv i : Value} {wr : World} (k : Nat) (h1 : i = .int .i64 k) (h2 : k ≤ n) (h3 : wr.ownsRow w5.heap.size 23 2 lv (rs k).length (usL (rs k))) (h7 : Below w5.heap.size w5 wr) : RelPa w5 rs n lv i wr := ⟨k, lv, rfl, h1, h2, h3, h7⟩
def kdX5 (r : Int × Int) (z : Bool) : Nat → Kd
  | 0 => .val (.agg #[.int .i64 r.1, .int .i64 r.2])
  | 1 => .val (.agg #[.int .i64 0, .int .i64 1])
  | 2 => .val (.bool z)
  | _ => .val undef
def kdX6 (csA : List Value) (lv : Value) (k : Nat) (r s t : Int × Int) : Nat → Kd
  | 0 => .val lv
  | 1 => .val (.agg #[.int .i64 r.1, .int .i64 r.2])
  | 2 => .val (.int .i64 k)
  | 3 => .val (.int .i64 (k + 1 : Nat))
  | 4 => .val (.agg csA.toArray)
  | 5 => .val (.agg #[.int .i64 s.1, .int .i64 s.2])
  | 6 => .row #[.int .i64 r.1, .int .i64 r.2, .int .i64 s.1, .int .i64 s.2] 23 2
  | 7 => .val (.agg #[.int .i64 t.1, .int .i64 t.2])
  | 8 => .row #[.int .i64 t.1, .int .i64 t.2] 23 1
  | _ => .val undef
set_option maxRecDepth 100000 in
set_option maxHeartbeats 16000000 in
theorem pxR_of (cs : List (Int × Int)) (hcs : cs.length = 6) (h64 : ∀ r ∈ cs, R64 r) (n : Nat) (IH : ∀ m, n = m + 1 → PrC cs m) : PrC cs n := by
  intro us ps u w hus hv
  obtain ⟨a, c, rfl, hl9⟩ := hv.shape
  have HUS := hide hus
  have HSZ := hide (fun (q : Int) => szC_64 h64 q)
  have CS0 := hide (fun (q : Int) (W : World) => size_any q cs W hcs h64)
  have C12 := hide (show (usL cs).length = 12 by rw [usL_len, hcs])
  have CL := hide (show (Tryz.prog.info? 25).map (·.size) = some (usL cs).length by rw [usL_len, hcs]; kernel_rfl)
  have FL := hide (fo_len hus (.slice a ps.length c))
  have UL := hide (show (usL us).length = 14 by rw [usL_len, hus.1])
  have T64 := hide (terms_64 (szC cs) n us ps)
  have F14 := hide (show (usL us ++ [Value.slice a ps.length c])[14]? = some (.slice a ps.length c) by rw [List.getElem?_append_right (by rw [UL.out]; decide), UL.out]; rfl)
  have E := hide (pxN_succ (szC cs) n (.mk us ps))
  obtain ⟨X, hX⟩ : ∃ X, pxN (szC cs) (n + 1) (.mk us ps) = X := ⟨_, rfl⟩
  rw [hX] at E ⊢
  replace E := hide (show X = wk.addAll (unT (szC cs) 1 us ++ ps.map (ptR (pxN (szC cs) n))) from E.out)
  have HI := hide (show ∀ m, n = m + 1 → ∀ (us : List (Int × Int)) (ps : List Pa) (u : Value) (w : World), Us us → PM w m u ps → Calls Tryz.prog 17 #[.agg (usL us ++ [u]).toArray, .agg (usL cs).toArray] w fun e w' => e = .returned (ratV (pxN (szC cs) (m + 1) (.mk us ps))) ∧ Below w.heap.size w w' from IH)
  have P64 := hide (fun (m : Nat) (f : Fo) => pxN_64 (szC cs) m f)
  obtain ⟨sz, hsz⟩ : ∃ q : Int → Int × Int, szC cs = q := ⟨_, rfl⟩
  rw [hsz] at HSZ CS0 T64 E HI P64
  unfold cxV at CS0
  show Calls Tryz.prog 17 #[.agg (usL us ++ [Value.slice a ps.length c]).toArray, .agg (usL cs).toArray] w _
  clear hX hsz IH h64 hcs hus
  obtain ⟨fa, hfa⟩ : ∃ fa : Array Value, (usL us ++ [Value.slice a ps.length c]).toArray = fa := ⟨_, rfl⟩
  have fa15 : fa.size = 15 := by rw [← hfa, List.size_toArray, FL.out]
  generalize usL cs = csA at *
  obtain ⟨ca, hca⟩ : ∃ q : Array Value, csA.toArray = q := ⟨_, rfl⟩
  have ca12 : ca.size = 12 := by rw [← hca, List.size_toArray, C12.out]
  have HCA := hide hca
  have HV := hide hv
  rw [hfa, hca]
  rw [hca] at HI
  obtain ⟨W1, hW1⟩ : ∃ W1, ((w.alloc (.cells fa 36)).alloc (.cells ca 25)).alloc (.cells #[.int .i64 0, .int .i64 0] 23) = W1 := ⟨_, rfl⟩
  have B0 := hide (show Below w.heap.size w W1 by rw [← hW1]; exact bplus (bplus (bplus (Below.refl _ _) _) _) _)
  have P2 := hide (show Bk W1 (w.heap.size + 1) 25 csA by rw [← hW1, ← hca]; exact (three_blk w _ _ _).2.1)
  have P0 := hide (show Bk W1 w.heap.size 36 (usL us ++ [Value.slice a ps.length c]) by rw [← hW1, ← hfa]; exact (three_blk w _ _ _).1)
  have P1 := hide (show Bk W1 (w.heap.size + 2) 23 [.int .i64 0, .int .i64 0] by rw [← hW1]; exact (three_blk w _ _ _).2.2)
  have HW1 := hide hW1
  have K3 := hide (show W1.ownsRow (w.heap.size + 3) 23 2 (.slice none 0 0) (unT sz 1 (us.take 0)).length (usL (unT sz 1 (us.take 0))) from World.ownsRow_nil _ _ _ _)
  have RG := hide (show W1.rangeAt w.heap.size 0 (usL us) from fun j v hj => by
    have hj14 := (List.getElem?_eq_some_iff.1 hj).1
    rw [Nat.zero_add, Bk.cell P0.out, List.getElem?_append_left hj14]; exact hj)
  have UL7 := hide (show (Tryz.prog.info? 33).map (·.size) = some (usL us).length by rw [UL.out]; kernel_rfl)
  have IXL := hide (fun (k : Nat) (hk : k < 7) (r : Int × Int) (hr : us[k]? = some r) (W : World) => ix7L HUS.out hk hr W)
  generalize usL us ++ [Value.slice a ps.length c] = fl at *
  clear hW1 hfa hca hv
  go_enter Tryz.func17, Tryz.ntmps17
  go_upto_region 1 with fail
  rw [HW1.out]
  clear HW1
  go_wp2_with (refine wpList_load_mid rfl 33 (.tmp 13) rfl w.heap.size 0 rfl (usL us) _ RG.out Tryz.underlying33 rfl UL7.out ?_)
  obtain ⟨ua, hua⟩ : ∃ q, (usL us).toArray = q := ⟨_, rfl⟩
  rw [hua] at IXL
  (try rw [hua])
  clear hua RG UL7
  go_loopw [5, 15] (fun lv i wr => RelPr w fl csA (fun k => unT sz 1 (us.take k)) 7 lv i wr) (fun _ i _ => 7 - (intOf i).toNat)
  case atStart => exact .mk 0 rfl (by omega) K3.out P1.out P2.out P0.out B0.out
  case round =>
    obtain ⟨k, lv, rfl, rfl, hk, R⟩ := hrel
    have Q0 := hide (show wr.ownsRow (w.heap.size + 3) 23 2 lv (unT sz 1 (us.take k)).length (usL (unT sz 1 (us.take k))) from R.out.1)
    have Q1 := hide R.out.2.1
    have Q3 := hide R.out.2.2.1
    have Q4 := hide R.out.2.2.2.1
    have BW := hide R.out.2.2.2.2
    clear R P0 P1 P2 K3 B0
    by_cases hlt : k < 7
    · have hlt' : (k : Int) < 7 := by omega
      obtain ⟨r, hr⟩ : ∃ r, us[k]? = some r := ⟨_, List.getElem?_eq_getElem (by rw [HUS.out.1]; exact hlt)⟩
      have r64 : R64 r := HUS.out.2 r (List.mem_of_getElem? hr)
      have IX := fun W => IXL.out k hlt r hr W
      have ST := hide (unT_step (sz := sz) hr)
      have LE := hide (show (unT sz 1 (us.take k)).length ≤ 7 from Nat.le_trans (unT_len sz _ 1) (by rw [List.length_take, HUS.out.1]; omega))
      obtain ⟨z, hz⟩ : ∃ z : Bool, (!decide (r = (0, 1))) = z := ⟨_, rfl⟩
      have HZ := hide (show decide (r = (0, 1)) = !z by rw [← hz, Bool.not_not])
      obtain ⟨s, hs⟩ : ∃ s, sz ((k + 1 : Nat) : Int) = s := ⟨_, rfl⟩
      have s64 : R64 s := by rw [← hs]; exact HSZ.out _
      have CS1 := hide (fun (W : World) => CS0.out ((k + 1 : Nat) : Int) W)
      rw [hs] at ST CS1
      have CM0 := hide (fun (b : Nat) (W : World) (h : W.heap[b]? = some (.cells #[.int .i64 r.1, .int .i64 r.2, .int .i64 s.1, .int .i64 s.2] 23)) => (wk.mulR_any (.slice (some ⟨b, 0, none⟩) 2 2) [r, s] W (row_blk2 h) (in_two r64 s64)).mono (R' := fun e w' => e = .returned (ratV (wk.mulAll [r, s])) ∧ Below W.heap.size W w') (by rintro e w1 ⟨rfl, U⟩; exact ⟨rfl, U.1⟩))
      obtain ⟨t, ht⟩ : ∃ t, wk.mulAll [r, s] = t := ⟨_, rfl⟩
      rw [ht] at CM0 ST
      unfold ratV at CM0 CS1
      obtain ⟨wq, hwq⟩ : ∃ wq, wr.alloc (.cells #[.int .i64 r.1, .int .i64 r.2] 23) = wq := ⟨_, rfl⟩
      have BQ := hide (show Below wr.heap.size wr wq by rw [← hwq]; exact bplus (Below.refl _ _) _)
      have RR := hide (fun (W : World) (h : Below wq.heap.size wq W) => bxk_2g (show W.heap[wr.heap.size]? = some (.cells #[.int .i64 r.1, .int .i64 r.2] 23) from Bk.up (show Bk wq wr.heap.size 23 [.int .i64 r.1, .int .i64 r.2] by rw [← hwq]; exact Bk.new wr _ _) h))
      have RC := hide (fun (W : World) (h : Below wq.heap.size wq W) => show W.rangeAt (w.heap.size + 1) 0 csA from range_blk (Bk.up Q3.out (bto BQ.out h)))
      have HK := hide (show IntKind.i64.wrap ((k : Int) + 1) = ((k + 1 : Nat) : Int) by simp [IntKind.wrap, go_sem]; omega)
      have CI0 := hide (fun (W : World) (h : Below wq.heap.size wq W) => (wk.int_any 0 W).mono (R' := fun e w' => e = .returned (.agg #[.int .i64 0, .int .i64 1]) ∧ Below W.heap.size W w') (by rintro e w1 ⟨rfl, cc, rfl⟩; exact ⟨rfl, bplus (Below.refl _ _) _⟩))
      have HWQ := hide hwq
      have BW3 := hide (show w.heap.size + 3 ≤ wr.heap.size from Bk.lt Q1.out)
      have HR := hide hz
      clear hwq hs ht r64 s64 hz hr
      go_upto_region 5 with fail
      rw [HWQ.out]
      clear HWQ IX
      refine wp_region_kdQ (by kernel_rfl) (kdX5 r z) (Stat.of (by kernel_rfl)) (acy_of (by kernel_rfl)) ?_ ?_
      · as_aux_lemma =>
          intro Q' i o ho blk listed a wx I hd
          have hi : i < 3 := (Array.getElem?_eq_some_iff.1 ho).1
          rcases (show i = 0 ∨ i = 1 ∨ i = 2 by omega) with rfl | rfl | rfl
          · obtain rfl := Option.some.inj ho
            exact wpOp_valW rfl (wn rfl) (run_ldA rfl (show a.tmps.getD 7 undef = _ from (I.oth_at (by kernel_rfl)).trans rfl) (RR.out wx I.up).1 (RR.out wx I.up).2) (show _ ∧ _ from ⟨rfl, be.Up.refl _⟩)
          · obtain rfl := Option.some.inj ho
            refine wpOp_callW rfl (wn rfl) (run_cl1 rfl rfl (fun v => enters_of Tryz.func36 (by kernel_rfl) rfl #[v] wx)) ?_
            refine (show Calls Tryz.prog 36 #[.int .i64 0] wx _ from ?_)
            exact (CI0.out wx I.up).mono (by rintro e w' ⟨rfl, hu⟩; exact ⟨_, rfl, (show _ ∧ _ from ⟨rfl, hu⟩)⟩)
          · obtain rfl := Option.some.inj ho
            exact wpOp_valW rfl (wn rfl) (run_neR (p := r) (q := (0, 1)) rfl (I.val_at (i := 0) (by decide) (hd ⟨0, .data⟩ (by simp) rfl) (.inl rfl) rfl) (I.val_at (i := 1) (by decide) (hd ⟨1, .data⟩ (by simp) rfl) (.inl rfl) rfl) HZ.out) (show _ ∧ _ from ⟨rfl, be.Up.refl _⟩)
      · intro blk listed a' wx I hall
        have fr := I.frameL [(19, (.agg #[.int .i64 r.1, .int .i64 r.2])), (20, (.agg #[.int .i64 0, .int .i64 1])), (21, (.bool z))] (by
          intro p hp
          simp only [List.mem_cons, List.not_mem_nil, or_false] at hp
          rcases hp with rfl | rfl | rfl
          · exact ⟨by simp, I.val_at (i := 0) (by decide) (hall _ (by decide)) (.inl rfl) rfl⟩
          · exact ⟨by simp, I.val_at (i := 1) (by decide) (hall _ (by decide)) (.inl rfl) rfl⟩
          · exact ⟨by simp, I.val_at (i := 2) (by decide) (hall _ (by decide)) (.inl rfl) rfl⟩) (by kernel_rfl)
        have B5 := hide (show Below wq.heap.size wq wx from I.up)
        clear I hall
        subst fr
        dsimp only [setsL, List.set_cons_zero, List.set_cons_succ]
        cases z
        · have hz0 : r = (0, 1) := by simpa using HR.out
          rw [if_pos hz0, List.append_nil] at ST
          have BX := hide (bto BQ.out B5.out)
          have HN2 := hide (show wx.ownsRow (w.heap.size + 3) 23 2 lv (unT sz 1 (us.take (k + 1))).length (usL (unT sz 1 (us.take (k + 1)))) by rw [ST.out]; exact own_up Q0.out BX.out)
          have NX := hide (Bk.up Q1.out BX.out)
          have NY := hide (Bk.up Q3.out BX.out)
          have NZ := hide (Bk.up Q4.out BX.out)
          have NB := hide (bto BW.out BX.out)
          clear Q0 Q1 Q3 Q4 BW BQ RR RC CM0 CS1 CI0 ST hz0 HR HZ B5 BX
          go_wp2
          go_roundw
          case rel => exact .mk (k + 1) (by go_num) (by omega) HN2.out NX.out NY.out NZ.out NB.out
          case measure => simp [intOf]; omega
        · have hz0 : ¬ r = (0, 1) := by simpa using HR.out
          rw [if_neg hz0] at ST
          go_upto_region 6 with fail
          replace RR := hide (fun (W : World) (h : Below wx.heap.size wx W) => RR.out W (bto B5.out h))
          replace RC := hide (fun (W : World) (h : Below wx.heap.size wx W) => RC.out W (bto B5.out h))
          have CM := hide (fun (b : Nat) (W : World) (h : Below wx.heap.size wx W) (hb : W.heap[b]? = some (.cells #[.int .i64 r.1, .int .i64 r.2, .int .i64 s.1, .int .i64 s.2] 23)) => CM0.out b W hb)
          have CS := hide (fun (W : World) (h : Below wx.heap.size wx W) => CS1.out W)
          replace BQ := hide (bto BQ.out B5.out)
          clear B5 HZ HR hz0 CM0 CS1 CI0
          refine wp_region_tm2 (by kernel_rfl) (kdX6 csA lv k r s t) 9 rfl (Stat.of (by kernel_rfl)) (acy_of (by kernel_rfl)) (by kernel_rfl) ?_ ?_
          · as_aux_lemma =>
              intro Q' i o hi ho blk listed a wx I hd LATE
              rcases (show i = 0 ∨ i = 1 ∨ i = 2 ∨ i = 3 ∨ i = 4 ∨ i = 5 ∨ i = 6 ∨ i = 7 ∨ i = 8 by omega) with rfl | rfl | rfl | rfl | rfl | rfl | rfl | rfl | rfl
              · obtain rfl := Option.some.inj ho
                exact wpOp_valW rfl (wn rfl) (run_mv rfl (show a.tmps.getD 5 undef = _ from (LATE 10 5 (by decide) (by decide) rfl).trans rfl)) (show _ ∧ _ from ⟨rfl, be.Up.refl _⟩)
              · obtain rfl := Option.some.inj ho
                exact wpOp_valW rfl (wn rfl) (run_ldA rfl (show a.tmps.getD 7 undef = _ from (I.oth_at (by kernel_rfl)).trans rfl) (RR.out wx I.up).1 (RR.out wx I.up).2) (show _ ∧ _ from ⟨rfl, be.Up.refl _⟩)
              · obtain rfl := Option.some.inj ho
                exact wpOp_valW rfl (wn rfl) (run_mv rfl (show a.tmps.getD 6 undef = _ from (I.oth_at (by kernel_rfl)).trans rfl)) (show _ ∧ _ from ⟨rfl, be.Up.refl _⟩)
              · obtain rfl := Option.some.inj ho
                exact wpOp_valW rfl (wn rfl) (run_inc rfl rfl (I.val_at (i := 2) (by decide) (hd ⟨2, .data⟩ (by simp) rfl) (.inl rfl) rfl) HK.out) (show _ ∧ _ from ⟨rfl, be.Up.refl _⟩)
              · obtain rfl := Option.some.inj ho
                exact wpOp_valW rfl (wn rfl) (run_ldF rfl (show a.tmps.getD 3 undef = _ from (I.oth_at (by kernel_rfl)).trans rfl) (RC.out wx I.up) Tryz.underlying25 rfl CL.out) (show _ ∧ _ from ⟨rfl, be.Up.refl _⟩)
              · obtain rfl := Option.some.inj ho
                have v0 := (I.val_at (i := 3) (by decide) (hd ⟨3, .data⟩ (by simp) rfl) (.inl rfl) rfl)
                have v1 := (I.val_at (i := 4) (by decide) (hd ⟨4, .data⟩ (by simp) rfl) (.inl rfl) rfl)
                refine wpOp_callW rfl (wn rfl) (run_cl2 rfl rfl (fun v u => enters_of Tryz.func12 (by kernel_rfl) rfl #[v, u] wx)) ?_
                refine (show Calls Tryz.prog 12 #[a.tmps.getD _ undef, a.tmps.getD _ undef] wx _ from ?_)
                rw [v0, v1]
                exact (CS.out wx I.up).mono (by rintro e w' ⟨rfl, hu⟩; exact ⟨_, rfl, (show _ ∧ _ from ⟨rfl, hu⟩)⟩)
              · obtain rfl := Option.some.inj ho
                exact wpOp_valW rfl (wn rfl) (run_bs2 rfl (I.val_at (i := 1) (by decide) (hd ⟨1, .data⟩ (by simp) rfl) (.inl rfl) rfl) (I.val_at (i := 5) (by decide) (hd ⟨5, .data⟩ (by simp) rfl) (.inl rfl) rfl)) (show _ ∧ _ from ⟨rfl, rfl⟩)
              · obtain rfl := Option.some.inj ho
                have r0 := (I.row_at (i := 6) (by decide) (hd ⟨6, .data⟩ (by simp) rfl) rfl rfl)
                have v0 := r0.1
                refine wpOp_callW rfl (wn rfl) (run_cl1 rfl rfl (fun v => enters_of Tryz.func29 (by kernel_rfl) rfl #[v] wx)) ?_
                refine (show Calls Tryz.prog 29 #[a.tmps.getD _ undef] wx _ from ?_)
                rw [v0]
                exact (CM.out _ wx I.up r0.2).mono (by rintro e w' ⟨rfl, hu⟩; exact ⟨_, rfl, (show _ ∧ _ from ⟨rfl, hu⟩)⟩)
              · obtain rfl := Option.some.inj ho
                exact wpOp_valW rfl (wn rfl) (run_bs1R rfl (I.val_at (i := 7) (by decide) (hd ⟨7, .data⟩ (by simp) rfl) (.inl rfl) rfl)) (show _ ∧ _ from ⟨rfl, rfl⟩)
          · intro blk listed a' wy I hall LATE
            have fr := I.frameL [(22, lv), (23, (.agg #[.int .i64 r.1, .int .i64 r.2])), (24, (.int .i64 k)), (25, (.int .i64 (k + 1 : Nat))), (26, (.agg csA.toArray)), (27, (.agg #[.int .i64 s.1, .int .i64 s.2])), (28, (.slice (some ⟨blk 6, 0, none⟩) 2 2)), (29, (.agg #[.int .i64 t.1, .int .i64 t.2])), (30, (.slice (some ⟨blk 8, 0, none⟩) 1 1)), (31, u31), (5, lv)] (by
              intro p hp
              simp only [List.mem_cons, List.not_mem_nil, or_false] at hp
              rcases hp with rfl | rfl | rfl | rfl | rfl | rfl | rfl | rfl | rfl | rfl | rfl
              · exact ⟨by simp, I.val_at (i := 0) (by decide) (hall _ (by decide)) (.inl rfl) rfl⟩
              · exact ⟨by simp, I.val_at (i := 1) (by decide) (hall _ (by decide)) (.inl rfl) rfl⟩
              · exact ⟨by simp, I.val_at (i := 2) (by decide) (hall _ (by decide)) (.inl rfl) rfl⟩
              · exact ⟨by simp, I.val_at (i := 3) (by decide) (hall _ (by decide)) (.inl rfl) rfl⟩
              · exact ⟨by simp, I.val_at (i := 4) (by decide) (hall _ (by decide)) (.inl rfl) rfl⟩
              · exact ⟨by simp, I.val_at (i := 5) (by decide) (hall _ (by decide)) (.inl rfl) rfl⟩
              · exact ⟨by simp, (I.row_at (i := 6) (by decide) (hall _ (by decide)) rfl rfl).1⟩
              · exact ⟨by simp, I.val_at (i := 7) (by decide) (hall _ (by decide)) (.inl rfl) rfl⟩
              · exact ⟨by simp, (I.row_at (i := 8) (by decide) (hall _ (by decide)) rfl rfl).1⟩
              · exact ⟨by simp, (LATE 9 31 (by decide) (by decide) rfl).trans rfl⟩
              · exact ⟨by simp, (LATE 10 5 (by decide) (by decide) rfl).trans rfl⟩) (by kernel_rfl)
            have BY := hide (show Below wr.heap.size wr wy from bto BQ.out I.up)
            have HB := hide (I.row_at (i := 8) (by decide) (hall _ (by decide)) rfl rfl).2
            have OW := hide (own_up Q0.out BY.out)
            clear I hall LATE
            subst fr
            dsimp only [setsL, List.set_cons_zero, List.set_cons_succ]
            refine wpOp_apR rfl rfl rfl (w.heap.size + 3) lv (unT sz 1 (us.take k)) t rfl OW.out (blk 8) rfl HB.out (by have := LE.out; omega) (Nat.le_trans BW3.out BY.out.size) ?_
            intro lv' wz hown hgrow
            refine wpOp_valW rfl (wn rfl) (run_as rfl rfl) ?_
            have HN2 := hide (show wz.ownsRow (w.heap.size + 3) 23 2 lv' (unT sz 1 (us.take (k + 1))).length (usL (unT sz 1 (us.take (k + 1)))) by rw [ST.out]; exact hown)
            have BN := hide (show Below (w.heap.size + 3) wr wz from (BY.out.mono BW3.out).grown hgrow (Nat.le_trans BW3.out BY.out.size) (fun k hk => (OW.out.lt k hk).1))
            have NX := hide (Bk.low Q1.out BN.out (by omega))
            have NY := hide (Bk.low Q3.out BN.out (by omega))
            have NZ := hide (Bk.low Q4.out BN.out (by omega))
            have NB := hide (show Below w.heap.size w wz from BW.out.trans (BN.out.mono (by omega)))
            clear hown hgrow OW HB BY Q0 Q1 Q3 Q4 BW BQ RR RC CM CS ST
            go_wp2
            go_roundw
            case rel => exact .mk (k + 1) (by go_num) (by omega) HN2.out NX.out NY.out NZ.out NB.out
            case measure => simp [intOf]; omega
    · obtain rfl : k = 7 := by omega
      have hlt' : ¬ ((7 : Nat) : Int) < 7 := by omega
      have TK : us.take 7 = us := List.take_of_length_le (by rw [HUS.out.1]; omega)
      rw [TK] at Q0
      have f14 := (Bk.cell Q4.out 14).trans F14.out
      have LE := hide (show (unT sz 1 us).length ≤ 7 from Nat.le_trans (unT_len sz _ 1) (by rw [HUS.out.1]; omega))
      replace Q0 := hide (show wr.ownsRow (w.heap.size + 3) 23 2 lv (unT sz 1 us ++ (ps.take 0).map (ptR (pxN sz n))).length (usL (unT sz 1 us ++ (ps.take 0).map (ptR (pxN sz n)))) by rw [List.take_zero, List.map_nil, List.append_nil]; exact Q0.out)
      clear TK IXL F14 HUS CS0 HSZ
      go_wp2
      go_loopw [5, 36] (fun lv i wr => RelPr w fl csA (fun k => unT sz 1 us ++ (ps.take k).map (ptR (pxN sz n))) ps.length lv i wr) (fun _ i _ => ps.length - (intOf i).toNat)
      case atStart => exact .mk 0 rfl (by omega) Q0.out Q1.out Q3.out Q4.out BW.out
      case round =>
        obtain ⟨k, lv, rfl, rfl, hk, R⟩ := hrel
        have O0 := hide (show wr.ownsRow (w.heap.size + 3) 23 2 lv (unT sz 1 us ++ (ps.take k).map (ptR (pxN sz n))).length (usL (unT sz 1 us ++ (ps.take k).map (ptR (pxN sz n)))) from R.out.1)
        have O1 := hide R.out.2.1
        have O3 := hide R.out.2.2.1
        have O4 := hide R.out.2.2.2.1
        have OB := hide R.out.2.2.2.2
        clear R Q0 Q1 Q3 Q4 BW f14
        have BW3 := hide (show w.heap.size + 3 ≤ wr.heap.size from Bk.lt O1.out)
        by_cases hlt2 : k < ps.length
        · have hlt2' : (k : Int) < ps.length := by omega
          obtain ⟨p, hp⟩ : ∃ p, ps[k]? = some p := ⟨_, List.getElem?_eq_getElem hlt2⟩
          obtain ⟨b, o, c', u5, hv', hb, -, -, p0, p1, hfm⟩ := HV.out.at hp
          obtain ⟨rfl, rfl⟩ : a = some ⟨b, o, none⟩ ∧ c = c' := by cases hv'; exact ⟨rfl, rfl⟩
          obtain ⟨a5, c5, rfl, hl5⟩ := FM.shape hfm
          have ST := hide (show unT sz 1 us ++ (ps.take (k + 1)).map (ptR (pxN sz n)) = (unT sz 1 us ++ (ps.take k).map (ptR (pxN sz n))) ++ [ptR (pxN sz n) p] by rw [List.take_add_one, hp]; simp)
          have c0 := (OB.out.cell (p := ⟨b, o + k * 2, none⟩) hb).trans p0
          have c1 := (OB.out.cell (p := ⟨b, o + k * 2 + 1, none⟩) hb).trans p1
          have hbw : b < wr.heap.size := by have := OB.out.size; omega
          have nb : b ≠ wr.heap.size := by omega
          have LN := hide (show (unT sz 1 us ++ (ps.take k).map (ptR (pxN sz n))).length ≤ 1000000007 by rw [List.length_append, List.length_map, List.length_take]; have := LE.out; omega)
          obtain ⟨mx, l⟩ := p
          replace hfm : FM w n (.slice a5 l.length c5) l := hfm
          have EP := hide (show ptR (pxN sz n) (mx, l) = wk.utAll (if mx then 1 else -1) (l.map (pxN sz n)) from rfl)
          obtain ⟨t, ht⟩ : ∃ t, ptR (pxN sz n) (mx, l) = t := ⟨_, rfl⟩
          rw [ht] at ST EP
          obtain ⟨rk, hrk⟩ : ∃ q, unT sz 1 us ++ (ps.take k).map (ptR (pxN sz n)) = q := ⟨_, rfl⟩
          rw [hrk] at O0 LN ST
          have HFM := hide hfm
          clear hp p0 p1 hfm hrk ht
          (try clear hv')
          simp only at c0 c1
          obtain ⟨w5, hw5⟩ : ∃ w5, wr.alloc (.cells #[.bool mx, .slice a5 l.length c5] 74) = w5 := ⟨_, rfl⟩
          have BQ := hide (show Below wr.heap.size wr w5 by rw [← hw5]; exact bplus (Below.refl _ _) _)
          have RP := hide (fun (W : World) (h : Below w5.heap.size w5 W) => bxk_2g (show W.heap[wr.heap.size]? = some (.cells #[.bool mx, .slice a5 l.length c5] 74) from Bk.up (show Bk w5 wr.heap.size 74 [.bool mx, .slice a5 l.length c5] by rw [← hw5]; exact Bk.new wr _ _) h))
          have HW5 := hide hw5
          have N3 := hide (show w5.ownsRow w5.heap.size 23 2 (.slice none 0 0) ((l.take 0).map (pxN sz n)).length (usL ((l.take 0).map (pxN sz n))) from World.ownsRow_nil _ _ _ _)
          have TS := hide (show (rk ++ [t]).length = rk.length + 1 ∧ usL (rk ++ [t]) = usL rk ++ [.int .i64 t.1, .int .i64 t.2] from ⟨by simp, usL_snoc rk t⟩)
          obtain ⟨i0, hj, hy0, hy1, hy2⟩ := info_parts infoRat
          clear hw5
          go_upto_region 12 with fail
          rw [HW5.out]
          clear HW5 c0 c1
          obtain ⟨e0, e1⟩ := RP.out w5 (Below.refl _ _)
          go_wp2_with fail
          generalize wr = wo at *
          go_loopw [10, 43] (fun lv i wr => RelPa w5 (fun j => (l.take j).map (pxN sz n)) l.length lv i wr) (fun _ i _ => l.length - (intOf i).toNat)
          case atStart => exact .mk 0 rfl (by omega) N3.out (Below.refl _ _)
          case round =>
            obtain ⟨j, av, rfl, rfl, hjn, R⟩ := hrel
            have A0 := hide (show wr.ownsRow w5.heap.size 23 2 av ((l.take j).map (pxN sz n)).length (usL ((l.take j).map (pxN sz n))) from R.out.1)
            have AB := hide R.out.2
            clear R N3 e0 e1
            by_cases hlj : j < l.length
            · have hlj' : (j : Int) < l.length := by omega
              obtain ⟨f, hf⟩ : ∃ f, l[j]? = some f := ⟨_, List.getElem?_eq_getElem hlj⟩
              obtain ⟨m, b', o', c', fu, hnm, hv', hb', hus, hrg, hpm⟩ := fm_range2 HFM.out hf
              obtain ⟨rfl, rfl⟩ : a5 = some ⟨b', o', none⟩ ∧ c5 = c' := by cases hv'; exact ⟨rfl, rfl⟩
              have lA := fo_len hus fu
              have OA := hide (us_one (us := f.us) (pm_one hpm))
              have BWW := hide (show Below w.heap.size w wr from bto OB.out (bto BQ.out AB.out))
              have CI := hide (fun (W : World) (h : Below w.heap.size w W) => HI.out m hnm f.us f.ps fu W hus (PM.low h hpm))
              rw [show Fo.mk f.us f.ps = f by cases f; rfl, ← hnm] at CI
              have SJ := hide (show (l.take (j + 1)).map (pxN sz n) = (l.take j).map (pxN sz n) ++ [pxN sz n f] by rw [List.take_add_one, hf]; simp)
              have RG := hide (show wr.rangeAt b' (o' + j * 15) (usL f.us ++ [fu]) from fun i v hi => (BWW.out.cell (p := ⟨b', o' + j * 15 + i, none⟩) hb').trans (hrg i v hi))
              have hbw2 : b' < wr.heap.size := by have := BWW.out.size; omega
              have nb2 : b' ≠ wr.heap.size := by omega
              have LJ := hide (show ((l.take j).map (pxN sz n)).length = j by rw [List.length_map, List.length_take]; omega)
              obtain ⟨q, hq⟩ : ∃ q, pxN sz n f = q := ⟨_, rfl⟩
              rw [hq] at CI SJ
              unfold ratV at CI
              obtain ⟨rj, hrj⟩ : ∃ rj, (l.take j).map (pxN sz n) = rj := ⟨_, rfl⟩
              rw [hrj] at A0 SJ LJ
              have TJ := hide (show (rj ++ [q]).length = rj.length + 1 ∧ usL (rj ++ [q]) = usL rj ++ [.int .i64 q.1, .int .i64 q.2] from ⟨by simp, usL_snoc rj q⟩)
              rw [LJ.out] at A0 TJ
              clear hf hrg hpm hus hq hnm hrj
              (try clear hv')
              generalize usL f.us ++ [fu] = A at *
              have sA : A.toArray.size = 15 := by rw [List.size_toArray]; exact lA
              obtain ⟨W4, hW4⟩ : ∃ W4, (wr.alloc (.cells #[.int .i64 0, .int .i64 0, .int .i64 0, .int .i64 0, .int .i64 0, .int .i64 0, .int .i64 0, .int .i64 0, .int .i64 0, .int .i64 0, .int .i64 0, .int .i64 0, .int .i64 0, .int .i64 0, .slice none 0 0] 36)).setCells wr.heap.size 0 A = W4 := ⟨_, rfl⟩
              have T4 := hide (show (wr.alloc (.cells #[.int .i64 0, .int .i64 0, .int .i64 0, .int .i64 0, .int .i64 0, .int .i64 0, .int .i64 0, .int .i64 0, .int .i64 0, .int .i64 0, .int .i64 0, .int .i64 0, .int .i64 0, .int .i64 0, .slice none 0 0] 36)).there wr.heap.size 0 A.toArray.size from there_blk (heap_alloc_new wr _) (by rw [sA]; rfl))
              have H4 := hide (show (Tryz.prog.info? 36).map (·.size) = some A.toArray.size by rw [sA]; kernel_rfl)
              have H5 := hide (show (Tryz.prog.info? 36).map (·.size) = some A.length by rw [lA]; kernel_rfl)
              have B4 := hide (show Below wr.heap.size wr W4 by rw [← hW4]; exact (bplus (Below.refl _ _) _).grown (setCells_grown _ _ _ _) (by simp) (fun k hk => by cases hk; exact Nat.le_refl _))
              have R4 := hide (show W4.rangeAt wr.heap.size 0 A by
                have q := Bk.puts A 0 _ _ (Bk.new wr 36 [.int .i64 0, .int .i64 0, .int .i64 0, .int .i64 0, .int .i64 0, .int .i64 0, .int .i64 0, .int .i64 0, .int .i64 0, .int .i64 0, .int .i64 0, .int .i64 0, .int .i64 0, .int .i64 0, .slice none 0 0]) (by rw [lA]; simp)
                rw [List.take_zero, List.nil_append, Nat.zero_add, List.drop_of_length_le (by rw [lA]; simp), List.append_nil] at q
                rw [← hW4]
                exact range_blk q)
              have RC4 := hide (show W4.rangeAt (w.heap.size + 1) 0 csA from range_blk (Bk.up O3.out (bto BQ.out (bto AB.out B4.out))))
              have HW4 := hide hW4
              have CI2 := hide (CI.out W4 (bto BWW.out B4.out))
              have OO := hide (fun (W : World) (h : Below wr.heap.size wr W) => own_up A0.out h)
              have hl3 : w5.heap.size ≤ wr.heap.size := AB.out.size
              have hj9 : j < 1000000000 := by omega
              clear hW4 HI HV HFM A0 CI
              go_upto_region 15 with (first
                | (refine wpList_load_mid rfl 36 (.tmp 45) rfl b' (o' + j * 15) rfl A _ RG.out Tryz.underlying36 rfl H5.out ?_)
                | (refine wpList_store_mid rfl 36 (.tmp 12) (.tmp 46) rfl wr.heap.size 0 A.toArray rfl rfl T4.out H4.out (all_oneCell_toArray OA.out) ?_))
              (try rw [show A.toArray.toList = A from rfl])
              rw [HW4.out]
              clear HW4 T4 RG
              go_wp2_with (first
                | (refine wpList_load_mid rfl 36 (.tmp 12) rfl wr.heap.size 0 rfl A _ R4.out Tryz.underlying36 rfl H5.out ?_)
                | (refine wpList_load_mid rfl 25 (.tmp 3) rfl (w.heap.size + 1) 0 rfl csA _ RC4.out Tryz.underlying25 rfl CL.out ?_; rw [HCA.out])
                | (go_at_call 17; refine CI2.out.mono ?_; rintro e w2 ⟨rfl, B2⟩; replace B2 := hide (bto B4.out B2); have OW := hide (OO.out _ B2.out))
                | (at_builtin; refine wpList_append_own _ rfl _ _ 71 rfl w5.heap.size 23 i0 _ 2 16 Tryz.underlying71 hj hy0 hy1 hy2 rfl (by decide) _ _ _ rfl (OW.out.alloc _) ⟨_, 0, none⟩ 1 1 [.int .i64 q.1, .int .i64 q.2] rfl rfl (news2 _ _ _ _) (by intro u hu; simp at hu; rcases hu with rfl | rfl <;> rfl) (by unfold maxLen; omega) (by omega) (by have := B2.out.size; simp; omega) ?_; intro v' w1 hown' hgrow _; have HN2 := hide (show w1.ownsRow w5.heap.size 23 2 v' (rj ++ [q]).length (usL (rj ++ [q])) by rw [TJ.out.1, TJ.out.2]; exact hown'); have BN := hide (show Below w5.heap.size w5 w1 from ((bto AB.out B2.out).alloc (by have := B2.out.size; omega) _).grown hgrow (by have := B2.out.size; simp; omega) (fun k hk => (OW.out.lt k hk).1)); clear hown' hgrow))
              go_roundw
              case rel => exact .mk (j + 1) (by go_num) (by omega) (by rw [SJ.out]; exact HN2.out) BN.out
              case measure => simp [intOf]; omega
            · obtain rfl : j = l.length := by omega
              have hlj' : ¬ (l.length : Int) < l.length := by omega
              rw [List.take_of_length_le (Nat.le_refl _)] at A0
              have LM : (l.map (pxN sz n)).length = l.length := List.length_map _
              have RW3 := hide (own_rowA A0.out (by rw [LM]; omega))
              have RI := hide (show ∀ r ∈ l.map (pxN sz n), R64 r by intro r hr; obtain ⟨y, hy, rfl⟩ := List.mem_map.1 hr; exact P64.out n y)
              have OX := hide (own_up O0.out (bto BQ.out AB.out))
              have OO := hide (fun (W : World) (h : Below wr.heap.size wr W) => own_up OX.out h)
              obtain ⟨e0, e1⟩ := RP.out wr AB.out
              have BX := hide (Below.refl wr.heap.size wr)
              have BO := hide (bto BQ.out AB.out)
              have hl3 : w.heap.size + 3 ≤ wr.heap.size := Nat.le_trans BW3.out BO.out.size
              have hl7 := LN.out
              obtain ⟨q, hq⟩ : ∃ q, rk.length = q := ⟨_, rfl⟩
              rw [hq] at OO TS hl7
              have CLl := hide (leastR_op RW3.out RI.out)
              have CMm := hide (mostR_op RW3.out RI.out)
              have BND := hide (fun (W : World) (h : Below (w.heap.size + 3) wr W) => show Below (w.heap.size + 3) wo W from (BO.out.mono BW3.out).trans h)
              clear hq LN HV HI HFM A0 OX RW3 RI O0 LM
              cases mx
              · rw [show wk.utAll (-1) (l.map (pxN sz n)) = t from EP.out.symm] at CLl
                unfold OpC ratV at CLl
                clear CMm EP
                go_wp2_with (first
                  | (go_at_call 44; refine (CLl.out _ BX.out).mono ?_; rintro e w2 ⟨rfl, B2⟩; replace B2 := hide B2; have OW := hide (OO.out _ B2.out))
                  | (at_builtin; refine wpList_append_own _ rfl _ _ 71 rfl (w.heap.size + 3) 23 i0 _ 2 16 Tryz.underlying71 hj hy0 hy1 hy2 rfl (by decide) _ _ _ rfl (OW.out.alloc _) ⟨_, 0, none⟩ 1 1 [.int .i64 t.1, .int .i64 t.2] rfl rfl (news2 _ _ _ _) (by intro u hu; simp at hu; rcases hu with rfl | rfl <;> rfl) (by unfold maxLen; omega) (by omega) (by have := B2.out.size; simp; omega) ?_; intro v' w1 hown' hgrow _; have HN2 := hide (show w1.ownsRow (w.heap.size + 3) 23 2 v' (rk ++ [t]).length (usL (rk ++ [t])) by rw [TS.out.1, TS.out.2]; exact hown'); have BN := hide (BND.out w1 (((B2.out.mono (by omega)).alloc (by have := B2.out.size; omega) _).grown hgrow (by have := B2.out.size; simp; omega) (fun k hk => (OW.out.lt k hk).1))); clear hown' hgrow))
                go_roundw
                case rel => exact .mk (k + 1) (by go_num) (by omega) (by rw [ST.out]; exact HN2.out) (Bk.low O1.out BN.out (by omega)) (Bk.low O3.out BN.out (by omega)) (Bk.low O4.out BN.out (by omega)) (OB.out.trans (BN.out.mono (by omega)))
                case measure => simp [intOf]; omega
              · rw [show wk.utAll 1 (l.map (pxN sz n)) = t from EP.out.symm] at CMm
                unfold OpC ratV at CMm
                clear CLl EP
                go_wp2_with (first
                  | (go_at_call 43; refine (CMm.out _ BX.out).mono ?_; rintro e w2 ⟨rfl, B2⟩; replace B2 := hide B2; have OW := hide (OO.out _ B2.out))
                  | (at_builtin; refine wpList_append_own _ rfl _ _ 71 rfl (w.heap.size + 3) 23 i0 _ 2 16 Tryz.underlying71 hj hy0 hy1 hy2 rfl (by decide) _ _ _ rfl (OW.out.alloc _) ⟨_, 0, none⟩ 1 1 [.int .i64 t.1, .int .i64 t.2] rfl rfl (news2 _ _ _ _) (by intro u hu; simp at hu; rcases hu with rfl | rfl <;> rfl) (by unfold maxLen; omega) (by omega) (by have := B2.out.size; simp; omega) ?_; intro v' w1 hown' hgrow _; have HN2 := hide (show w1.ownsRow (w.heap.size + 3) 23 2 v' (rk ++ [t]).length (usL (rk ++ [t])) by rw [TS.out.1, TS.out.2]; exact hown'); have BN := hide (BND.out w1 (((B2.out.mono (by omega)).alloc (by have := B2.out.size; omega) _).grown hgrow (by have := B2.out.size; simp; omega) (fun k hk => (OW.out.lt k hk).1))); clear hown' hgrow))
                go_roundw
                case rel => exact .mk (k + 1) (by go_num) (by omega) (by rw [ST.out]; exact HN2.out) (Bk.low O1.out BN.out (by omega)) (Bk.low O3.out BN.out (by omega)) (Bk.low O4.out BN.out (by omega)) (OB.out.trans (BN.out.mono (by omega)))
                case measure => simp [intOf]; omega
        · obtain rfl : k = ps.length := by omega
          have hlt2' : ¬ (ps.length : Int) < ps.length := by omega
          have TK : ps.take ps.length = ps := List.take_of_length_le (Nat.le_refl _)
          rw [TK] at O0
          have RW := hide (own_rowA O0.out (by rw [List.length_append, List.length_map]; have := LE.out; omega))
          have CO := hide (addR_op RW.out T64.out)
          rw [← E.out] at CO
          have KR := hide (fun (W : World) (h : Below wr.heap.size wr W) => show Bk W (w.heap.size + 2) 23 [.int .i64 0, .int .i64 0] from Bk.up O1.out h)
          have BX := hide (Below.refl wr.heap.size wr)
          unfold OpC ratV at CO
          clear TK O0 O1 O3 O4 RW E T64 HV HI
          go_wp2_with (go_at_call 27; refine (CO.out _ BX.out).mono ?_; rintro e w5 ⟨rfl, B5⟩; replace BX := hide B5; have QR := KR.out _ BX.out; have t0 := Bk.cell QR 0; have t1 := Bk.cell QR 1; simp at t0 t1; have z0 := Bk.fz QR 0; have z1 := Bk.fz QR 1; clear QR)
          exact bodyPost_ret (v := .agg #[.int .i64 X.1, .int .i64 X.2]) (by simp [results, Tryz.results17, go_sem, *]) rfl ⟨rfl, ((bto OB.out BX.out).setCell (by first | (simp; done) | (simp; omega)) _).setCell (by first | (simp; done) | (simp; omega)) _⟩
theorem pxR_all (cs : List (Int × Int)) (hcs : cs.length = 6) (h64 : ∀ r ∈ cs, R64 r) : ∀ n, PrC cs n := by
  intro n
  induction n with
  | zero => exact pxR_of cs hcs h64 0 (fun m h => by omega)
  | succ n ih => exact pxR_of cs hcs h64 (n + 1) (fun m h => by
      have e : n = m := Nat.succ.inj h
      subst e
      exact ih)
end Go.Proofs.YtdnnidnghaifgaaGreatDoor.nm
set_option linter.unusedVariables false
set_option linter.unusedSimpArgs false
namespace Go.Proofs.YtdnnidnghaifgaaGreatDoor.nm
open Go.RowKit cc be

def kdLp (csF csA : List Value) (X : Int × Int) : Nat → Kd
  | 0 => .val (.agg csF.toArray)
  | 1 => .val (.agg csA.toArray)
  | 2 => .val (.agg #[.int .i64 X.1, .int .i64 X.2])
  | 3 => .val (.agg #[.int .i64 X.1, .int .i64 X.2])
  | 4 => .val (.bool true)
  | 5 => .val (.bool true)
  | 6 => .val (.bool true)
  | 7 => .val (.bool true)
  | 8 => .val (.bool true)
  | _ => .val undef
set_option maxRecDepth 100000 in
set_option maxHeartbeats 8000000 in
theorem law_px (n : Nat) (us : List (Int × Int)) (ps : List Pa) (u : Value) (cs : List (Int × Int)) (w : World) (hN : Nth w) (hM : NthU w) (hus : Us us) (hv : PM w n u ps) (hcs : cs.length = 6) (h64 : ∀ r ∈ cs, R64 r) : Calls Tryz.prog 4 #[foV us u, cxV cs] w fun e w' => e = .returned (.bool true) ∧ Below w.heap.size w w' := by
  have C1 := hide (fun (W : World) (h : Below w.heap.size w W) => pxU_any n us ps u cs W (hM.low h) hus (hv.low h) hcs h64)
  have CM := hide (fun (W : World) (h : Below w.heap.size w W) => fmayR_any n us ps u W hus (hv.low h))
  have CX := hide (fun (W : World) (h : Below w.heap.size w W) => pxR_all cs hcs h64 n us ps u W hus (hv.low h))
  have CA := hide (fun (W : World) (h : Below w.heap.size w W) => awakeU_any W (hN.low h) (hM.low h))
  have E := hide (show upx n cs us ps = if maF 340 (.mk us ps) = true then pxN (szC cs) (n + 1) (.mk us ps) else (0, 0) from rfl)
  have FL := hide (fo_lenI hus u)
  have F15 := hide (fo_len hus u)
  have CL := hide (show (Tryz.prog.info? 25).map (·.size) = some (usL cs).length by rw [usL_len, hcs]; kernel_rfl)
  have C12 := hide (show (usL cs).length = 12 by rw [usL_len, hcs])
  rw [show foV us u = .agg (usL us ++ [u]).toArray from rfl] at C1 CM CX ⊢
  unfold cxV at *
  unfold ratV at C1 CX
  generalize usL us ++ [u] = csF at *
  generalize usL cs = csA at *
  obtain ⟨X, hX⟩ : ∃ X, upx n cs us ps = X := ⟨_, rfl⟩
  rw [hX] at E C1
  obtain ⟨r, hr⟩ : ∃ r, maF 340 (.mk us ps) = r := ⟨_, rfl⟩
  rw [hr] at CM E
  generalize pxN (szC cs) (n + 1) (.mk us ps) = Y at *
  clear hX hr hus hv hcs h64 hN hM
  obtain ⟨fa, hfa⟩ : ∃ q : Array Value, csF.toArray = q := ⟨_, rfl⟩
  obtain ⟨ca, hca⟩ : ∃ q : Array Value, csA.toArray = q := ⟨_, rfl⟩
  have fa15 : fa.size = 15 := by rw [← hfa, List.size_toArray, F15.out]
  have ca12 : ca.size = 12 := by rw [← hca, List.size_toArray, C12.out]
  obtain ⟨W1, hW1⟩ : ∃ W1, ((w.alloc (.cells fa 36)).alloc (.cells ca 25)).alloc (.cells #[.int .i64 0, .int .i64 0] 23) = W1 := ⟨_, rfl⟩
  have B0 := hide (show Below w.heap.size w W1 by rw [← hW1]; exact bplus (bplus (bplus (Below.refl _ _) _) _) _)
  have KF := hide (fun (W : World) (h : Below (w.heap.size + 2) W1 W) => show W.rangeAt w.heap.size 0 csF from range_blk (Bk.low (show Bk W1 w.heap.size 36 csF by rw [← hW1, ← hfa]; exact (three_blk w _ _ _).1) h (by omega)))
  have KC := hide (fun (W : World) (h : Below (w.heap.size + 2) W1 W) => show W.rangeAt (w.heap.size + 1) 0 csA from range_blk (Bk.low (show Bk W1 (w.heap.size + 1) 25 csA by rw [← hW1, ← hca]; exact (three_blk w _ _ _).2.1) h (by omega)))
  have KB := hide (show Bk W1 (w.heap.size + 2) 23 [.int .i64 0, .int .i64 0] by rw [← hW1]; exact (three_blk w _ _ _).2.2)
  have S1 := hide (show ((w.alloc (.cells fa 36)).alloc (.cells ca 25)).heap.size = w.heap.size + 2 by simp)
  have HFA := hide hfa
  have HCA := hide hca
  rw [hfa, hca]
  have HW1 := hide hW1
  have RF1 := hide (KF.out W1 (Below.refl _ _))
  have L3 : w.heap.size + 2 < W1.heap.size := Bk.lt KB.out
  clear hW1 hfa hca
  go_enter Tryz.func4, Tryz.ntmps4
  go_upto_region 2 with fail
  rw [HW1.out]
  clear HW1
  (try rw [S1.out])
  cases r
  · have HX := hide (show X = (0, 0) by rw [E.out]; rfl)
    clear CX E S1
    go_upto_region 4 with (first
      | (refine wpList_load_mid rfl 36 (.tmp 2) rfl w.heap.size 0 rfl csF _ RF1.out Tryz.underlying36 rfl FL.out ?_)
      | (go_at_call 16; refine (CM.out _ B0.out).mono ?_; rintro e wz ⟨rfl, BZ⟩; have BZ1 := hide BZ; replace BZ := hide (show Below (w.heap.size + 2) W1 wz from BZ.mono (by omega))))
    have LZ : w.heap.size + 2 ≤ wz.heap.size := by have := BZ.out.size; omega
    have KBZ := hide (show Bk wz (w.heap.size + 2) 23 [.int .i64 0, .int .i64 0] from Bk.up KB.out BZ1.out)
    obtain ⟨b5, hb5⟩ : ∃ b, w.heap.size + 2 = b := ⟨_, rfl⟩
    have NB := hide (show Bk wz b5 23 [.int .i64 X.1, .int .i64 X.2] by rw [← hb5, HX.out]; exact KBZ.out)
    (try simp only [show w.heap.size + 1 + 1 = b5 from hb5])
    (try rw [hb5])
    clear HX hb5 CM KB KBZ BZ1
    replace C1 := hide (fun (W : World) (h : Below wz.heap.size wz W) => C1.out W (B0.out.trans ((BZ.out.trans (h.mono LZ)).mono (by omega))))
    replace CA := hide (fun (W : World) (h : Below wz.heap.size wz W) => CA.out W (B0.out.trans ((BZ.out.trans (h.mono LZ)).mono (by omega))))
    have RF := hide (fun (W : World) (h : Below wz.heap.size wz W) => KF.out W (BZ.out.trans (h.mono LZ)))
    have RC := hide (fun (W : World) (h : Below wz.heap.size wz W) => KC.out W (BZ.out.trans (h.mono LZ)))
    have RR := hide (fun (W : World) (h : Below wz.heap.size wz W) => bxk_2g (show W.heap[b5]? = some (.cells #[.int .i64 X.1, .int .i64 X.2] 23) from Bk.up NB.out h))
    refine wp_region_kdQ (by kernel_rfl) (kdLp csF csA X) (Stat.of (by kernel_rfl)) (acy_of (by kernel_rfl)) ?_ ?_
    · as_aux_lemma =>
        intro Q' i o ho blk listed a wx I hd
        have hi : i < 9 := (Array.getElem?_eq_some_iff.1 ho).1
        rcases (show i = 0 ∨ i = 1 ∨ i = 2 ∨ i = 3 ∨ i = 4 ∨ i = 5 ∨ i = 6 ∨ i = 7 ∨ i = 8 by omega) with rfl | rfl | rfl | rfl | rfl | rfl | rfl | rfl | rfl
        · obtain rfl := Option.some.inj ho
          exact wpOp_valW rfl (wn rfl) (run_ldF rfl (show a.tmps.getD 2 undef = _ from (I.oth_at (by kernel_rfl)).trans rfl) (RF.out wx I.up) Tryz.underlying36 rfl FL.out) (show _ ∧ _ from ⟨rfl, be.Up.refl _⟩)
        · obtain rfl := Option.some.inj ho
          exact wpOp_valW rfl (wn rfl) (run_ldF rfl (show a.tmps.getD 3 undef = _ from (I.oth_at (by kernel_rfl)).trans rfl) (RC.out wx I.up) Tryz.underlying25 rfl CL.out) (show _ ∧ _ from ⟨rfl, be.Up.refl _⟩)
        · obtain rfl := Option.some.inj ho
          have v0 := (I.val_at (i := 0) (by decide) (hd ⟨0, .data⟩ (by simp) rfl) (.inl rfl) rfl)
          have v1 := (I.val_at (i := 1) (by decide) (hd ⟨1, .data⟩ (by simp) rfl) (.inl rfl) rfl)
          refine wpOp_callW rfl (wn rfl) (run_cl2 rfl rfl (fun v u => enters_of Tryz.func18 (by kernel_rfl) rfl #[v, u] wx)) ?_
          refine (show Calls Tryz.prog 18 #[a.tmps.getD _ undef, a.tmps.getD _ undef] wx _ from ?_)
          rw [v0, v1]
          exact (C1.out wx I.up).mono (by rintro e w' ⟨rfl, hu⟩; exact ⟨_, rfl, (show _ ∧ _ from ⟨rfl, hu⟩)⟩)
        · obtain rfl := Option.some.inj ho
          exact wpOp_valW rfl (wn rfl) (run_ldA rfl (show a.tmps.getD 5 undef = _ from (I.oth_at (by kernel_rfl)).trans rfl) (RR.out wx I.up).1 (RR.out wx I.up).2) (show _ ∧ _ from ⟨rfl, be.Up.refl _⟩)
        · obtain rfl := Option.some.inj ho
          exact wpOp_valW rfl (wn rfl) (run_eqz (p := X) (q := X) rfl (I.val_at (i := 2) (by decide) (hd ⟨2, .data⟩ (by simp) rfl) (.inl rfl) rfl) (I.val_at (i := 3) (by decide) (hd ⟨3, .data⟩ (by simp) rfl) (.inl rfl) rfl) (by simp)) (show _ ∧ _ from ⟨rfl, be.Up.refl _⟩)
        · obtain rfl := Option.some.inj ho
          exact wpOp_valW rfl (wn rfl) (run_mv rfl (I.val_at (i := 4) (by decide) (hd ⟨4, .data⟩ (by simp) rfl) (.inl rfl) rfl)) (show _ ∧ _ from ⟨rfl, be.Up.refl _⟩)
        · obtain rfl := Option.some.inj ho
          refine wpOp_callW rfl (wgT (c := true) rfl rfl (I.val_at (i := 5) (by decide) (hd ⟨5, .guard⟩ (by simp) rfl) (.inl rfl) rfl) rfl) (run_cl0 rfl rfl (enters_of Tryz.func15 (by kernel_rfl) rfl #[] wx)) ?_
          refine (show Calls Tryz.prog 15 #[] wx _ from ?_)
          exact (CA.out wx I.up).mono (by rintro e w' ⟨rfl, hu⟩; exact ⟨_, rfl, (show _ ∧ _ from ⟨rfl, hu⟩)⟩)
        · obtain rfl := Option.some.inj ho
          exact wpOp_valW rfl (wn rfl) (run_pickT rfl (I.val_at (i := 5) (by decide) (hd ⟨5, .data⟩ (by simp) rfl) (.inl rfl) rfl) (I.val_at (i := 6) (by decide) (hd ⟨6, .data⟩ (by simp) rfl) (.inl rfl) rfl)) (show _ ∧ _ from ⟨rfl, be.Up.refl _⟩)
        · obtain rfl := Option.some.inj ho
          exact wpOp_valW rfl (wn rfl) (run_as rfl (I.val_at (i := 7) (by decide) (hd ⟨7, .data⟩ (by simp) rfl) (.inl rfl) rfl)) (show _ ∧ _ from ⟨rfl, be.Up.refl _⟩)
    · intro blk listed a' wx I hall
      have fr := I.frameL [(12, (.agg csF.toArray)), (13, (.agg csA.toArray)), (14, (.agg #[.int .i64 X.1, .int .i64 X.2])), (15, (.agg #[.int .i64 X.1, .int .i64 X.2])), (16, (.bool true)), (17, (.bool true)), (18, (.bool true)), (19, (.bool true)), (4, (.bool true))] (by
        intro p hp
        simp only [List.mem_cons, List.not_mem_nil, or_false] at hp
        rcases hp with rfl | rfl | rfl | rfl | rfl | rfl | rfl | rfl | rfl
        · exact ⟨by simp, I.val_at (i := 0) (by decide) (hall _ (by decide)) (.inl rfl) rfl⟩
        · exact ⟨by simp, I.val_at (i := 1) (by decide) (hall _ (by decide)) (.inl rfl) rfl⟩
        · exact ⟨by simp, I.val_at (i := 2) (by decide) (hall _ (by decide)) (.inl rfl) rfl⟩
        · exact ⟨by simp, I.val_at (i := 3) (by decide) (hall _ (by decide)) (.inl rfl) rfl⟩
        · exact ⟨by simp, I.val_at (i := 4) (by decide) (hall _ (by decide)) (.inl rfl) rfl⟩
        · exact ⟨by simp, I.val_at (i := 5) (by decide) (hall _ (by decide)) (.inl rfl) rfl⟩
        · exact ⟨by simp, I.val_at (i := 6) (by decide) (hall _ (by decide)) (.inl rfl) rfl⟩
        · exact ⟨by simp, I.val_at (i := 7) (by decide) (hall _ (by decide)) (.inl rfl) rfl⟩
        · exact ⟨by simp, I.val_at (i := 8) (by decide) (hall _ (by decide)) (.inl rfl) rfl⟩) (by kernel_rfl)
      have BY := hide (show Below w.heap.size w wx from B0.out.trans ((BZ.out.trans (be.Up.refl wz |>.trans I.up |>.mono LZ)).mono (by omega)))
      clear I hall
      subst fr
      dsimp only [setsL, List.set_cons_zero, List.set_cons_succ]
      go_wp2_with fail
      go_ret
      exact ⟨rfl, BY.out⟩
  · have HX := hide (show X = Y by rw [E.out]; rfl)
    rw [← HX.out] at CX
    clear E S1 HX
    go_upto_region 3 with (first
      | (refine wpList_load_mid rfl 36 (.tmp 2) rfl w.heap.size 0 rfl csF _ RF1.out Tryz.underlying36 rfl FL.out ?_)
      | (go_at_call 16; refine (CM.out _ B0.out).mono ?_; rintro e wm ⟨rfl, BM⟩; replace BM := hide BM))
    have RF2 := hide (KF.out wm (BM.out.mono (by omega)))
    have RC2 := hide (KC.out wm (BM.out.mono (by omega)))
    clear CM RF1
    go_upto_region 4 with (first
      | (refine wpList_load_mid rfl 36 (.tmp 2) rfl w.heap.size 0 rfl csF _ RF2.out Tryz.underlying36 rfl FL.out ?_)
      | (refine wpList_load_mid rfl 25 (.tmp 3) rfl (w.heap.size + 1) 0 rfl csA _ RC2.out Tryz.underlying25 rfl CL.out ?_)
      | (go_at_call 17; refine (CX.out _ (bto B0.out BM.out)).mono ?_; rintro e w4 ⟨rfl, B4⟩; have BB4 := hide (bto BM.out B4); have QR := Bk.up KB.out BB4.out; have t0 := Bk.cell QR 0; have t1 := Bk.cell QR 1; simp at t0 t1; have z0 := Bk.fz QR 0; have z1 := Bk.fz QR 1; clear QR B4))
    obtain ⟨wz, hwz⟩ : ∃ q, (w4.setCell ⟨w.heap.size + 2, 0, none⟩ (.int .i64 X.1)).setCell ⟨w.heap.size + 2, 1, none⟩ (.int .i64 X.2) = q := ⟨_, rfl⟩
    have NB0 := hide (show Bk wz (w.heap.size + 2) 23 [.int .i64 X.1, .int .i64 X.2] by rw [← hwz]; exact Bk.put (Bk.put (Bk.up KB.out BB4.out) 0 _) 1 _)
    have BZ0 := hide (show Below (w.heap.size + 2) W1 wz by rw [← hwz]; exact (((BB4.out.mono (by have := Bk.lt KB.out; omega)).setCell (by simp) _).setCell (by simp) _))
    rw [hwz]
    have BZ := hide BZ0.out
    have LZ : w.heap.size + 2 ≤ wz.heap.size := by have := BZ.out.size; omega
    obtain ⟨b5, hb5⟩ : ∃ b, w.heap.size + 2 = b := ⟨_, rfl⟩
    have NB := hide (show Bk wz b5 23 [.int .i64 X.1, .int .i64 X.2] by rw [← hb5]; exact NB0.out)
    (try simp only [show w.heap.size + 1 + 1 = b5 from hb5])
    (try rw [hb5])
    clear hwz hb5 CX KB NB0 BZ0 t0 t1 z0 z1 BB4 RF2 RC2 BM
    replace C1 := hide (fun (W : World) (h : Below wz.heap.size wz W) => C1.out W (B0.out.trans ((BZ.out.trans (h.mono LZ)).mono (by omega))))
    replace CA := hide (fun (W : World) (h : Below wz.heap.size wz W) => CA.out W (B0.out.trans ((BZ.out.trans (h.mono LZ)).mono (by omega))))
    have RF := hide (fun (W : World) (h : Below wz.heap.size wz W) => KF.out W (BZ.out.trans (h.mono LZ)))
    have RC := hide (fun (W : World) (h : Below wz.heap.size wz W) => KC.out W (BZ.out.trans (h.mono LZ)))
    have RR := hide (fun (W : World) (h : Below wz.heap.size wz W) => bxk_2g (show W.heap[b5]? = some (.cells #[.int .i64 X.1, .int .i64 X.2] 23) from Bk.up NB.out h))
    refine wp_region_kdQ (by kernel_rfl) (kdLp csF csA X) (Stat.of (by kernel_rfl)) (acy_of (by kernel_rfl)) ?_ ?_
    · as_aux_lemma =>
        intro Q' i o ho blk listed a wx I hd
        have hi : i < 9 := (Array.getElem?_eq_some_iff.1 ho).1
        rcases (show i = 0 ∨ i = 1 ∨ i = 2 ∨ i = 3 ∨ i = 4 ∨ i = 5 ∨ i = 6 ∨ i = 7 ∨ i = 8 by omega) with rfl | rfl | rfl | rfl | rfl | rfl | rfl | rfl | rfl
        · obtain rfl := Option.some.inj ho
          exact wpOp_valW rfl (wn rfl) (run_ldF rfl (show a.tmps.getD 2 undef = _ from (I.oth_at (by kernel_rfl)).trans rfl) (RF.out wx I.up) Tryz.underlying36 rfl FL.out) (show _ ∧ _ from ⟨rfl, be.Up.refl _⟩)
        · obtain rfl := Option.some.inj ho
          exact wpOp_valW rfl (wn rfl) (run_ldF rfl (show a.tmps.getD 3 undef = _ from (I.oth_at (by kernel_rfl)).trans rfl) (RC.out wx I.up) Tryz.underlying25 rfl CL.out) (show _ ∧ _ from ⟨rfl, be.Up.refl _⟩)
        · obtain rfl := Option.some.inj ho
          have v0 := (I.val_at (i := 0) (by decide) (hd ⟨0, .data⟩ (by simp) rfl) (.inl rfl) rfl)
          have v1 := (I.val_at (i := 1) (by decide) (hd ⟨1, .data⟩ (by simp) rfl) (.inl rfl) rfl)
          refine wpOp_callW rfl (wn rfl) (run_cl2 rfl rfl (fun v u => enters_of Tryz.func18 (by kernel_rfl) rfl #[v, u] wx)) ?_
          refine (show Calls Tryz.prog 18 #[a.tmps.getD _ undef, a.tmps.getD _ undef] wx _ from ?_)
          rw [v0, v1]
          exact (C1.out wx I.up).mono (by rintro e w' ⟨rfl, hu⟩; exact ⟨_, rfl, (show _ ∧ _ from ⟨rfl, hu⟩)⟩)
        · obtain rfl := Option.some.inj ho
          exact wpOp_valW rfl (wn rfl) (run_ldA rfl (show a.tmps.getD 5 undef = _ from (I.oth_at (by kernel_rfl)).trans rfl) (RR.out wx I.up).1 (RR.out wx I.up).2) (show _ ∧ _ from ⟨rfl, be.Up.refl _⟩)
        · obtain rfl := Option.some.inj ho
          exact wpOp_valW rfl (wn rfl) (run_eqz (p := X) (q := X) rfl (I.val_at (i := 2) (by decide) (hd ⟨2, .data⟩ (by simp) rfl) (.inl rfl) rfl) (I.val_at (i := 3) (by decide) (hd ⟨3, .data⟩ (by simp) rfl) (.inl rfl) rfl) (by simp)) (show _ ∧ _ from ⟨rfl, be.Up.refl _⟩)
        · obtain rfl := Option.some.inj ho
          exact wpOp_valW rfl (wn rfl) (run_mv rfl (I.val_at (i := 4) (by decide) (hd ⟨4, .data⟩ (by simp) rfl) (.inl rfl) rfl)) (show _ ∧ _ from ⟨rfl, be.Up.refl _⟩)
        · obtain rfl := Option.some.inj ho
          refine wpOp_callW rfl (wgT (c := true) rfl rfl (I.val_at (i := 5) (by decide) (hd ⟨5, .guard⟩ (by simp) rfl) (.inl rfl) rfl) rfl) (run_cl0 rfl rfl (enters_of Tryz.func15 (by kernel_rfl) rfl #[] wx)) ?_
          refine (show Calls Tryz.prog 15 #[] wx _ from ?_)
          exact (CA.out wx I.up).mono (by rintro e w' ⟨rfl, hu⟩; exact ⟨_, rfl, (show _ ∧ _ from ⟨rfl, hu⟩)⟩)
        · obtain rfl := Option.some.inj ho
          exact wpOp_valW rfl (wn rfl) (run_pickT rfl (I.val_at (i := 5) (by decide) (hd ⟨5, .data⟩ (by simp) rfl) (.inl rfl) rfl) (I.val_at (i := 6) (by decide) (hd ⟨6, .data⟩ (by simp) rfl) (.inl rfl) rfl)) (show _ ∧ _ from ⟨rfl, be.Up.refl _⟩)
        · obtain rfl := Option.some.inj ho
          exact wpOp_valW rfl (wn rfl) (run_as rfl (I.val_at (i := 7) (by decide) (hd ⟨7, .data⟩ (by simp) rfl) (.inl rfl) rfl)) (show _ ∧ _ from ⟨rfl, be.Up.refl _⟩)
    · intro blk listed a' wx I hall
      have fr := I.frameL [(12, (.agg csF.toArray)), (13, (.agg csA.toArray)), (14, (.agg #[.int .i64 X.1, .int .i64 X.2])), (15, (.agg #[.int .i64 X.1, .int .i64 X.2])), (16, (.bool true)), (17, (.bool true)), (18, (.bool true)), (19, (.bool true)), (4, (.bool true))] (by
        intro p hp
        simp only [List.mem_cons, List.not_mem_nil, or_false] at hp
        rcases hp with rfl | rfl | rfl | rfl | rfl | rfl | rfl | rfl | rfl
        · exact ⟨by simp, I.val_at (i := 0) (by decide) (hall _ (by decide)) (.inl rfl) rfl⟩
        · exact ⟨by simp, I.val_at (i := 1) (by decide) (hall _ (by decide)) (.inl rfl) rfl⟩
        · exact ⟨by simp, I.val_at (i := 2) (by decide) (hall _ (by decide)) (.inl rfl) rfl⟩
        · exact ⟨by simp, I.val_at (i := 3) (by decide) (hall _ (by decide)) (.inl rfl) rfl⟩
        · exact ⟨by simp, I.val_at (i := 4) (by decide) (hall _ (by decide)) (.inl rfl) rfl⟩
        · exact ⟨by simp, I.val_at (i := 5) (by decide) (hall _ (by decide)) (.inl rfl) rfl⟩
        · exact ⟨by simp, I.val_at (i := 6) (by decide) (hall _ (by decide)) (.inl rfl) rfl⟩
        · exact ⟨by simp, I.val_at (i := 7) (by decide) (hall _ (by decide)) (.inl rfl) rfl⟩
        · exact ⟨by simp, I.val_at (i := 8) (by decide) (hall _ (by decide)) (.inl rfl) rfl⟩) (by kernel_rfl)
      have BY := hide (show Below w.heap.size w wx from B0.out.trans ((BZ.out.trans (be.Up.refl wz |>.trans I.up |>.mono LZ)).mono (by omega)))
      clear I hall
      subst fr
      dsimp only [setsL, List.set_cons_zero, List.set_cons_succ]
      go_wp2_with fail
      go_ret
      exact ⟨rfl, BY.out⟩
theorem law_pxR (us : List (Int × Int)) (ps : List Pa) (u : Value) (cs : List (Int × Int)) (w : World) (hN : Nth w) (hM : NthU w) (hus : Us us) (hv : PM w 65536 u ps) (hcs : cs.length = 6) (h64 : ∀ r ∈ cs, R64 r) : Calls Tryz.prog 4 #[foV us u, cxV cs] w fun e w' => e = .returned (.bool true) ∧ Below w.heap.size w w' := law_px 65536 us ps u cs w hN hM hus hv hcs h64
end Go.Proofs.YtdnnidnghaifgaaGreatDoor.nm
