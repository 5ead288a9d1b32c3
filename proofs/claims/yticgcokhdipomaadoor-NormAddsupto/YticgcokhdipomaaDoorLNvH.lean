/-
  The law of sums of forms.
-/
import Derived.Test.YticgcokhdipomaaDoorLNvG
import Derived.Test.YticgcokhdipomaaDoorLNoD
import Derived.Test.YticgcokhdipomaaDoorLBeC
import Derived.Shelf.Abstract
set_option linter.unusedVariables false
set_option linter.unusedSimpArgs false
namespace Go.Proofs.YticgcokhdipomaaDoor.nm
open Go.RowKit be

theorem zero_adR {r : Int × Int} (h : mayB r.1 r.2 = true) (h1 : i64 r.1) (h2 : i64 r.2) : adR (0, 1) r = r := by
  have e0 : wk.addN 0 1 0 1 = 0 ∧ wk.addD 0 1 0 1 = 1 := by
    obtain ⟨a, b⟩ := wk.zero_add (n := 0) (d := 1) ⟨by decide, by decide⟩ ⟨by decide, by decide⟩
    rw [a, b]
    decide
  obtain ⟨a, b⟩ := wk.zero_add (n := r.1) (d := r.2) h1 h2
  show (wk.addN (wk.addN 0 1 0 1) (wk.addD 0 1 0 1) r.1 r.2, wk.addD (wk.addN 0 1 0 1) (wk.addD 0 1 0 1) r.1 r.2) = r
  rw [e0.1, e0.2, a, b]
  unfold wk.clN wk.clD
  rw [may_same, h]
  rfl
theorem zero_plU {us : List (Int × Int)} (h : Us us) (hm : us.all (fun r => mayB r.1 r.2) = true) : plU z01 us = us := by
  match us, h.1 with
  | [r0, r1, r2, r3, r4, r5, r6], _ =>
    simp only [List.all_cons, List.all_nil, Bool.and_true, Bool.and_eq_true] at hm
    obtain ⟨m0, m1, m2, m3, m4, m5, m6⟩ := hm
    have k := h.2
    show [adR (0, 1) r0, adR (0, 1) r1, adR (0, 1) r2, adR (0, 1) r3, adR (0, 1) r4, adR (0, 1) r5, adR (0, 1) r6] = _
    rw [zero_adR m0 (k r0 (by simp)).1 (k r0 (by simp)).2, zero_adR m1 (k r1 (by simp)).1 (k r1 (by simp)).2, zero_adR m2 (k r2 (by simp)).1 (k r2 (by simp)).2, zero_adR m3 (k r3 (by simp)).1 (k r3 (by simp)).2, zero_adR m4 (k r4 (by simp)).1 (k r4 (by simp)).2, zero_adR m5 (k r5 (by simp)).1 (k r5 (by simp)).2, zero_adR m6 (k r6 (by simp)).1 (k r6 (by simp)).2]
theorem ra_ss {l : List Fo} (hu : ∀ x ∈ l, Us x.us) (h : l.all (maF 340) = true) : raU l = ssU l := by
  cases l with
  | nil => rfl
  | cons x r =>
    rw [List.all_cons, Bool.and_eq_true] at h
    have hx := h.1
    rw [show (340 : Nat) = 339 + 1 from rfl, maF, Bool.and_eq_true] at hx
    show (r.map Fo.us).foldl plU x.us = (r.map Fo.us).foldl plU (plU z01 x.us)
    rw [zero_plU (hu x (by simp)) hx.1]
theorem tl_us {l : List Fo} (hu : ∀ x ∈ l, Us x.us) : Us (tlU l) := by
  unfold tlU
  split
  · exact ssU_us hu
  · exact zus
def kdA (VZ VO : Value) (u rn rd : Int) : Nat → Kd
  | 0 => .val VZ
  | 1 => .val VZ
  | 2 => .val (.bool true)
  | 3 => .val (.bool false)
  | 4 => .val (.bool false)
  | 5 => .val (.int .i64 u)
  | 6 => .val (.agg #[.int .i64 rn, .int .i64 rd])
  | 7 => .val VO
  | 8 => .val (.int .i64 u)
  | 9 => .val (.agg #[.int .i64 rn, .int .i64 rd])
  | 10 => .val VO
  | 11 => .val (.bool true)
  | 12 => .val (.bool false)
  | 13 => .val (.bool false)
  | _ => .val undef
set_option maxRecDepth 100000 in
set_option maxHeartbeats 20000000 in
theorem law_addsF (n : Nat) (l : List Fo) (v : Value) (u rn rd : Int) (w : World) (hN : Nth w) (hl : FM w (n + 1) v l) (hpl : (ssP l).length ≤ 1000000000) (hu : i64 u) (hrn : i64 rn) (hrd : i64 rd) : Calls Tryd.prog 3 #[v, .int .i64 u, .agg #[.int .i64 rn, .int .i64 rd]] w fun e w' => e = .returned (.bool true) ∧ Below w.heap.size w w' := by
  have hus : ∀ x ∈ l, Us x.us := fun x hx => by
    obtain ⟨i, hi⟩ := List.mem_iff_getElem?.1 hx
    obtain ⟨_, _, _, _, _, _, _, hu, _⟩ := fm_range hl hi
    exact hu
  have HUS := hide (tl_us hus)
  have nil0 : ∀ W : World, PM W n nilS [] := fun W => .inl ⟨_, _, rfl, rfl⟩
  obtain ⟨W1, hW1⟩ : ∃ W1, w.alloc (.cells #[.int .i64 rn, .int .i64 rd] 24) = W1 := ⟨_, rfl⟩
  have B0 := hide (show Below w.heap.size w W1 by rw [← hW1]; exact bplus (Below.refl _ _) _)
  have P0 := hide (show Bk W1 w.heap.size 24 [.int .i64 rn, .int .i64 rd] by rw [← hW1]; exact Bk.new w _ _)
  have HS1 := hide (show W1.heap.size = w.heap.size + 1 by rw [← hW1]; simp)
  have HW1 := hide hW1
  clear hW1
  have RR := hide (fun (W : World) (h : Below W1.heap.size W1 W) => show W.cell? ⟨w.heap.size, 0, none⟩ = some (.int .i64 rn) ∧ W.cell? ⟨w.heap.size, 1, none⟩ = some (.int .i64 rd) from ⟨Bk.cell (Bk.up P0.out h) 0, Bk.cell (Bk.up P0.out h) 1⟩)
  have D1 := hide (fun (W : World) (h : Below W1.heap.size W1 W) => zero_any W (hN.low (bto B0.out h)))
  have D2 := hide (fun (W : World) (h : Below W1.heap.size W1 W) => zeroR_any W)
  have D3 := hide (fun (W : World) (h : Below W1.heap.size W1 W) => saR_all n z01 z01 [] [] nilS nilS W zus zus (nil0 W) ⟨n, nil0 W⟩)
  have D4 := hide (fun (W : World) (h : Below W1.heap.size W1 W) => oneF_any u rn rd W (hN.low (bto B0.out h)) hu hrn hrd)
  have D5 := hide (fun (W : World) (h : Below W1.heap.size W1 W) => oneR_any u rn rd W hu hrn hrd)
  have D6 := hide (fun (W : World) (h : Below W1.heap.size W1 W) => saR_all n (oneU u (rn, rd)) (oneU u (rn, rd)) [] [] nilS nilS W (one_us u rn rd hrn hrd) (one_us u rn rd hrn hrd) (nil0 W) ⟨n, nil0 W⟩)
  rw [saF_refl] at D3 D6
  have CZ := hide (fun (W : World) (h : Below W1.heap.size W1 W) => zeroR_any W)
  rw [show foV z01 nilS = .agg #[.int .i64 0, .int .i64 1, .int .i64 0, .int .i64 1, .int .i64 0, .int .i64 1, .int .i64 0, .int .i64 1, .int .i64 0, .int .i64 1, .int .i64 0, .int .i64 1, .int .i64 0, .int .i64 1, .slice none 0 0] from rfl] at CZ
  have CL := hide (fun (W : World) (h : Below W1.heap.size W1 W) => allR_any (n + 1) l v W (FM.low (bto B0.out h) hl))
  have CR := hide (fun (W : World) (h : Below W1.heap.size W1 W) => addRF_any n l v w W (below_sees (bto B0.out h)) hl hpl)
  generalize foV z01 nilS = VZ at D1 D2 D3
  generalize foV (oneU u (rn, rd)) nilS = VO at D4 D5 D6
  have RA := fun h => ra_ss hus h
  have EU := hide (show tlU l = if l.all (maF 340) = true then ssU l else z01 from rfl)
  have EP := hide (show tlP l = if l.all (maF 340) = true then ssP l else [] from rfl)
  obtain ⟨UU, hUU0⟩ : ∃ q, tlU l = q := ⟨_, rfl⟩
  obtain ⟨PP, hPP0⟩ : ∃ q, tlP l = q := ⟨_, rfl⟩
  obtain ⟨va, vc, rfl, hl9⟩ := FM.shape hl
  replace hUU0 := hide hUU0
  replace hPP0 := hide hPP0
  replace HUS := hide (show Us UU by rw [← hUU0.out]; exact HUS.out)
  have HN := hide hN
  have HL := hide hl
  have HPL := hide hpl
  replace RA := hide RA
  clear hN hl hpl hus hu hrn hrd nil0 P0
  go_enter Tryd.func3, Tryd.ntmps3
  go_upto_region 1 with fail
  rw [HW1.out]
  clear HW1
  refine wp_region_kdQ (by kernel_rfl) (kdA VZ VO u rn rd) (Stat.of (by kernel_rfl)) (acy_of (by kernel_rfl)) ?_ ?_
  · as_aux_lemma =>
    intro Q' i o ho blk listed a wx I hd
    have hi : i < 14 := (Array.getElem?_eq_some_iff.1 ho).1
    rcases (show i = 0 ∨ i = 1 ∨ i = 2 ∨ i = 3 ∨ i = 4 ∨ i = 5 ∨ i = 6 ∨ i = 7 ∨ i = 8 ∨ i = 9 ∨ i = 10 ∨ i = 11 ∨ i = 12 ∨ i = 13 by omega) with rfl | rfl | rfl | rfl | rfl | rfl | rfl | rfl | rfl | rfl | rfl | rfl | rfl | rfl
    · obtain rfl := Option.some.inj ho
      refine wpOp_callW rfl (wn rfl) (run_cl0 rfl rfl (enters_of Tryd.func7 (by kernel_rfl) rfl #[] wx)) ?_
      refine (show Calls Tryd.prog 7 #[] wx _ from ?_)
      exact (D1.out wx I.up).mono (by rintro e w' ⟨rfl, hu⟩; exact ⟨_, rfl, (show _ ∧ _ from ⟨rfl, hu⟩)⟩)
    · obtain rfl := Option.some.inj ho
      refine wpOp_callW rfl (wn rfl) (run_cl0 rfl rfl (enters_of Tryd.func8 (by kernel_rfl) rfl #[] wx)) ?_
      refine (show Calls Tryd.prog 8 #[] wx _ from ?_)
      exact (D2.out wx I.up).mono (by rintro e w' ⟨rfl, hu⟩; exact ⟨_, rfl, (show _ ∧ _ from ⟨rfl, hu⟩)⟩)
    · obtain rfl := Option.some.inj ho
      have v0 := (I.val_at (i := 0) (by decide) (hd ⟨0, .data⟩ (by simp) rfl) (.inl rfl) rfl)
      have v1 := (I.val_at (i := 1) (by decide) (hd ⟨1, .data⟩ (by simp) rfl) (.inl rfl) rfl)
      refine wpOp_callW rfl (wn rfl) (run_cl2 rfl rfl (fun v u => enters_of Tryd.func6 (by kernel_rfl) rfl #[v, u] wx)) ?_
      refine (show Calls Tryd.prog 6 #[a.tmps.getD _ undef, a.tmps.getD _ undef] wx _ from ?_)
      rw [v0, v1]
      exact (D3.out wx I.up).mono (by rintro e w' ⟨rfl, hu⟩; exact ⟨_, rfl, (show _ ∧ _ from ⟨rfl, hu⟩)⟩)
    · obtain rfl := Option.some.inj ho
      exact wpOp_valW rfl (wn rfl) (run_not rfl (I.val_at (i := 2) (by decide) (hd ⟨2, .data⟩ (by simp) rfl) (.inl rfl) rfl)) (show _ ∧ _ from ⟨rfl, be.Up.refl _⟩)
    · obtain rfl := Option.some.inj ho
      exact wpOp_valW rfl (wn rfl) (run_mv rfl (I.val_at (i := 3) (by decide) (hd ⟨3, .data⟩ (by simp) rfl) (.inl rfl) rfl)) (show _ ∧ _ from ⟨rfl, be.Up.refl _⟩)
    · obtain rfl := Option.some.inj ho
      exact wpOp_valW rfl (wgT (c := false) rfl rfl (I.val_at (i := 4) (by decide) (hd ⟨4, .guard⟩ (by simp) rfl) (.inl rfl) rfl) rfl) (run_mv rfl (show a.tmps.getD 1 undef = _ from (I.oth_at (by kernel_rfl)).trans rfl)) (show _ ∧ _ from ⟨rfl, be.Up.refl _⟩)
    · obtain rfl := Option.some.inj ho
      exact wpOp_valW rfl (wgT (c := false) rfl rfl (I.val_at (i := 4) (by decide) (hd ⟨4, .guard⟩ (by simp) rfl) (.inl rfl) rfl) rfl) (run_ld rfl (show a.tmps.getD 5 undef = _ from (I.oth_at (by kernel_rfl)).trans rfl) (RR.out wx I.up).1 (RR.out wx I.up).2) (show _ ∧ _ from ⟨rfl, be.Up.refl _⟩)
    · obtain rfl := Option.some.inj ho
      have v0 := (I.val_at (i := 5) (by decide) (hd ⟨5, .data⟩ (by simp) rfl) (.inl rfl) rfl)
      have v1 := (I.val_at (i := 6) (by decide) (hd ⟨6, .data⟩ (by simp) rfl) (.inl rfl) rfl)
      refine wpOp_callW rfl (wgT (c := false) rfl rfl (I.val_at (i := 4) (by decide) (hd ⟨4, .guard⟩ (by simp) rfl) (.inl rfl) rfl) rfl) (run_cl2 rfl rfl (fun v u => enters_of Tryd.func9 (by kernel_rfl) rfl #[v, u] wx)) ?_
      refine (show Calls Tryd.prog 9 #[a.tmps.getD _ undef, a.tmps.getD _ undef] wx _ from ?_)
      rw [v0, v1]
      exact (D4.out wx I.up).mono (by rintro e w' ⟨rfl, hu⟩; exact ⟨_, rfl, (show _ ∧ _ from ⟨rfl, hu⟩)⟩)
    · obtain rfl := Option.some.inj ho
      exact wpOp_valW rfl (wgT (c := false) rfl rfl (I.val_at (i := 4) (by decide) (hd ⟨4, .guard⟩ (by simp) rfl) (.inl rfl) rfl) rfl) (run_mv rfl (show a.tmps.getD 1 undef = _ from (I.oth_at (by kernel_rfl)).trans rfl)) (show _ ∧ _ from ⟨rfl, be.Up.refl _⟩)
    · obtain rfl := Option.some.inj ho
      exact wpOp_valW rfl (wgT (c := false) rfl rfl (I.val_at (i := 4) (by decide) (hd ⟨4, .guard⟩ (by simp) rfl) (.inl rfl) rfl) rfl) (run_ld rfl (show a.tmps.getD 5 undef = _ from (I.oth_at (by kernel_rfl)).trans rfl) (RR.out wx I.up).1 (RR.out wx I.up).2) (show _ ∧ _ from ⟨rfl, be.Up.refl _⟩)
    · obtain rfl := Option.some.inj ho
      have v0 := (I.val_at (i := 8) (by decide) (hd ⟨8, .data⟩ (by simp) rfl) (.inl rfl) rfl)
      have v1 := (I.val_at (i := 9) (by decide) (hd ⟨9, .data⟩ (by simp) rfl) (.inl rfl) rfl)
      refine wpOp_callW rfl (wgT (c := false) rfl rfl (I.val_at (i := 4) (by decide) (hd ⟨4, .guard⟩ (by simp) rfl) (.inl rfl) rfl) rfl) (run_cl2 rfl rfl (fun v u => enters_of Tryd.func10 (by kernel_rfl) rfl #[v, u] wx)) ?_
      refine (show Calls Tryd.prog 10 #[a.tmps.getD _ undef, a.tmps.getD _ undef] wx _ from ?_)
      rw [v0, v1]
      exact (D5.out wx I.up).mono (by rintro e w' ⟨rfl, hu⟩; exact ⟨_, rfl, (show _ ∧ _ from ⟨rfl, hu⟩)⟩)
    · obtain rfl := Option.some.inj ho
      have v0 := (I.val_at (i := 7) (by decide) (hd ⟨7, .data⟩ (by simp) rfl) (.inl rfl) rfl)
      have v1 := (I.val_at (i := 10) (by decide) (hd ⟨10, .data⟩ (by simp) rfl) (.inl rfl) rfl)
      refine wpOp_callW rfl (wgT (c := false) rfl rfl (I.val_at (i := 4) (by decide) (hd ⟨4, .guard⟩ (by simp) rfl) (.inl rfl) rfl) rfl) (run_cl2 rfl rfl (fun v u => enters_of Tryd.func6 (by kernel_rfl) rfl #[v, u] wx)) ?_
      refine (show Calls Tryd.prog 6 #[a.tmps.getD _ undef, a.tmps.getD _ undef] wx _ from ?_)
      rw [v0, v1]
      exact (D6.out wx I.up).mono (by rintro e w' ⟨rfl, hu⟩; exact ⟨_, rfl, (show _ ∧ _ from ⟨rfl, hu⟩)⟩)
    · obtain rfl := Option.some.inj ho
      exact wpOp_valW rfl (wgT (c := false) rfl rfl (I.val_at (i := 4) (by decide) (hd ⟨4, .guard⟩ (by simp) rfl) (.inl rfl) rfl) rfl) (run_not rfl (I.val_at (i := 11) (by decide) (hd ⟨11, .data⟩ (by simp) rfl) (.inl rfl) rfl)) (show _ ∧ _ from ⟨rfl, be.Up.refl _⟩)
    · obtain rfl := Option.some.inj ho
      exact wpOp_valW rfl (wn rfl) (run_pickF rfl (I.val_at (i := 4) (by decide) (hd ⟨4, .data⟩ (by simp) rfl) (.inl rfl) rfl) (I.val_at (i := 12) (by decide) (hd ⟨12, .data⟩ (by simp) rfl) (.inl rfl) rfl)) (show _ ∧ _ from ⟨rfl, be.Up.refl _⟩)
  · intro blk listed a' wx I hall
    have fr := I.frameL [(8, VZ), (9, VZ), (10, (.bool true)), (11, (.bool false)), (12, (.bool false)), (13, (.int .i64 u)), (14, (.agg #[.int .i64 rn, .int .i64 rd])), (15, VO), (16, (.int .i64 u)), (17, (.agg #[.int .i64 rn, .int .i64 rd])), (18, VO), (19, (.bool true)), (20, (.bool false)), (21, (.bool false))] (by
      intro p hp
      simp only [List.mem_cons, List.not_mem_nil, or_false] at hp
      rcases hp with rfl | rfl | rfl | rfl | rfl | rfl | rfl | rfl | rfl | rfl | rfl | rfl | rfl | rfl
      · exact ⟨by simp, I.val_at (i := 0) (by decide) (hall _ (by decide)) (.inl rfl) rfl⟩
      · exact ⟨by simp, I.val_at (i := 1) (by decide) (hall _ (by decide)) (.inl rfl) rfl⟩
      · exact ⟨by simp, I.val_at (i := 2) (by decide) (hall _ (by decide)) (.inl rfl) rfl⟩
      · exact ⟨by simp, I.val_at (i := 3) (by decide) (hall _ (by decide)) (.inl rfl) rfl⟩
      · exact ⟨by simp, I.val_at (i := 4) (by decide) (hall _ (by decide)) (.inl rfl) rfl⟩
      · exact ⟨by simp, I.val_at (i := 5) (by decide) (hall _ (by decide)) (.inl rfl) rfl⟩
      · exact ⟨by simp, I.val_at (i := 6) (by decide) (hall _ (by decide)) (.inl rfl) rfl⟩
      · exact ⟨by simp, I.val_at (i := 7) (by decide) (hall _ (by decide)) (.inl rfl) rfl⟩
      · exact ⟨by simp, I.val_at (i := 8) (by decide) (hall _ (by decide)) (.inl rfl) rfl⟩
      · exact ⟨by simp, I.val_at (i := 9) (by decide) (hall _ (by decide)) (.inl rfl) rfl⟩
      · exact ⟨by simp, I.val_at (i := 10) (by decide) (hall _ (by decide)) (.inl rfl) rfl⟩
      · exact ⟨by simp, I.val_at (i := 11) (by decide) (hall _ (by decide)) (.inl rfl) rfl⟩
      · exact ⟨by simp, I.val_at (i := 12) (by decide) (hall _ (by decide)) (.inl rfl) rfl⟩
      · exact ⟨by simp, I.val_at (i := 13) (by decide) (hall _ (by decide)) (.inl rfl) rfl⟩) (by kernel_rfl)
    have BX := hide (show Below W1.heap.size W1 wx from I.up)
    clear I hall
    subst fr
    dsimp only [setsL, List.set_cons_zero, List.set_cons_succ]
    clear D1 D2 D3 D4 D5 D6 RR
    go_upto_region 4 with (go_at_call 8; refine (CZ.out _ BX.out).mono ?_; rintro e wz ⟨rfl, BZ⟩; replace BZ := hide (bto BX.out BZ))
    have FZ := hide (show BF (wz.alloc (.cells #[.int .i64 0, .int .i64 1, .int .i64 0, .int .i64 1, .int .i64 0, .int .i64 1, .int .i64 0, .int .i64 1, .int .i64 0, .int .i64 1, .int .i64 0, .int .i64 1, .int .i64 0, .int .i64 1, .slice none 0 0] 29)) wz.heap.size z01 nilS from Bk.new wz _ _)
    have hbz := hide (show w.heap.size < wz.heap.size from Nat.lt_of_lt_of_le (Nat.lt_of_lt_of_le (by rw [HS1.out]; omega) (Nat.le_refl W1.heap.size)) BZ.out.size)
    have BZ2 := hide (show Below W1.heap.size W1 (wz.alloc (.cells #[.int .i64 0, .int .i64 1, .int .i64 0, .int .i64 1, .int .i64 0, .int .i64 1, .int .i64 0, .int .i64 1, .int .i64 0, .int .i64 1, .int .i64 0, .int .i64 1, .int .i64 0, .int .i64 1, .slice none 0 0] 29)) from bplus BZ.out _)
    clear BZ BX CZ
    generalize wz.alloc (.cells #[.int .i64 0, .int .i64 1, .int .i64 0, .int .i64 1, .int .i64 0, .int .i64 1, .int .i64 0, .int .i64 1, .int .i64 0, .int .i64 1, .int .i64 0, .int .i64 1, .int .i64 0, .int .i64 1, .slice none 0 0] 29) = wy at *
    generalize wz.heap.size = bw at *
    cases hm : l.all (maF 340)
    · rw [hm] at CL EU EP
      have EU2 := EU.out
      have EP2 := EP.out
      simp at EU2 EP2
      rw [hUU0.out] at EU2
      rw [hPP0.out] at EP2
      rw [← EU2] at FZ
      clear CR RA
      go_upto_region 5 with (go_at_call 11; refine (CL.out _ BZ2.out).mono ?_; rintro e wb ⟨rfl, BB⟩; replace BB := hide BB)
      have BF2 := hide (Bk.up FZ.out BB.out)
      have BWB := hide (bto B0.out (bto BZ2.out BB.out))
      obtain ⟨u2, hu2⟩ : ∃ u2, nilS = u2 := ⟨_, rfl⟩
      have hp2 : PM wb n u2 PP := by rw [← hu2, EP2]; exact .inl ⟨_, _, rfl, rfl⟩
      rw [hu2] at BF2
      clear hm EU EP EU2 EP2 hu2 FZ BZ2 BB CL
      have HP2 := hide hp2
      obtain ⟨n0, d0, n1, d1, n2, d2, n3, d3, n4, d4, n5, d5, n6, d6, hUU⟩ := us7 HUS.out
      have KW := hide (fun (W : World) (h : Below wb.heap.size wb W) => bxk_15 (show W.heap[bw]? = some (.cells #[.int .i64 n0, .int .i64 d0, .int .i64 n1, .int .i64 d1, .int .i64 n2, .int .i64 d2, .int .i64 n3, .int .i64 d3, .int .i64 n4, .int .i64 d4, .int .i64 n5, .int .i64 d5, .int .i64 n6, .int .i64 d6, u2] 29) from by
        have q := Bk.up BF2.out h
        unfold Bk at q
        rw [hUU] at q
        exact q))
      have CA := hide (fun (W : World) (h : Below wb.heap.size wb W) => (addN_any n l (.slice va l.length vc) W (HN.out.low (bto BWB.out h)) (FM.low (bto BWB.out h) HL.out) HPL.out).mono (R' := fun e w' => ∃ u1, e = .returned (foV UU u1) ∧ PM w' n u1 PP ∧ Below wb.heap.size wb w') (by rintro e w' ⟨u1, rfl, -, h2, h3⟩; exact ⟨u1, by rw [hUU0.out], by rw [← hPP0.out]; exact h2, bto h h3⟩))
      have CS := hide (fun (u1 : Value) (W : World) (h1 : PM W n u1 PP) (h2 : Below wb.heap.size wb W) => (saR_all n UU UU PP PP u1 u2 W HUS.out HUS.out h1 ⟨n, PM.low h2 HP2.out⟩).mono (R' := fun e w' => e = .returned (.bool true) ∧ Below wb.heap.size wb w') (by rintro e w' ⟨rfl, h3⟩; exact ⟨by rw [saF_refl], bto h2 h3⟩))
      have CW := hide (fun (W : World) (h : Below wb.heap.size wb W) => (awakeN_any W (HN.out.low (bto BWB.out h))).mono (R' := fun e w' => e = .returned (.bool true) ∧ Below wb.heap.size wb w') (by rintro e w' ⟨rfl, h3⟩; exact ⟨rfl, bto h h3⟩))
      rw [show foV UU u2 = .agg #[.int .i64 n0, .int .i64 d0, .int .i64 n1, .int .i64 d1, .int .i64 n2, .int .i64 d2, .int .i64 n3, .int .i64 d3, .int .i64 n4, .int .i64 d4, .int .i64 n5, .int .i64 d5, .int .i64 n6, .int .i64 d6, u2] by rw [hUU]; rfl] at CS
      have BE := hide (Below.refl wb.heap.size wb)
      have hbw : bw < wb.heap.size := Bk.lt BF2.out
      obtain ⟨⟨f0, f1, f2, f3, f4, f5, f6, f7, f8, f9, f10, f11, f12, f13⟩, f14⟩ := KW.out wb BE.out
      have EVU := fun u1 => show foV UU u1 = .agg (usL UU ++ [u1]).toArray from rfl
      simp only [EVU] at CA CS
      clear hUU hp2 EVU
      generalize usL UU = UL at *
      go_upto_region 6 with fail
      go_region_with (first
        | (go_at_call 13; refine (CA.out _ (by repeat (first | exact BE.out | (with_reducible refine Below.drew ?_) | (with_reducible refine below_drewN ?_ _) | exact Below.refl _ _))).mono ?_; rintro e w5 ⟨u1, rfl, P1', B5⟩; replace P1' := hide P1'; replace BE := hide B5; obtain ⟨⟨g0, g1, g2, g3, g4, g5, g6, g7, g8, g9, g10, g11, g12, g13⟩, g14⟩ := KW.out w5 B5)
        | (go_at_call 6; refine (CS.out u1 _ (by first | exact P1'.out | exact PM.low (Below.drew (Below.refl _ _)) P1'.out) (by repeat (first | exact BE.out | (with_reducible refine Below.drew ?_) | (with_reducible refine below_drewN ?_ _) | exact Below.refl _ _))).mono ?_; rintro e w6 ⟨rfl, B6⟩; replace BE := hide B6)
        | (go_at_call 14; refine (CW.out _ (by repeat (first | exact BE.out | (with_reducible refine Below.drew ?_) | (with_reducible refine below_drewN ?_ _) | exact Below.refl _ _))).mono ?_; rintro e w7 ⟨rfl, B7⟩; replace BE := hide B7))
      all_goals
        go_wp2_with fail
        go_ret
        exact ⟨rfl, bto BWB.out BE.out⟩
    · rw [hm] at CL EU EP
      have RA2 := RA.out hm
      have EU2 := EU.out
      have EP2 := EP.out
      simp at EU2 EP2
      rw [← EU2, hUU0.out] at RA2
      rw [hPP0.out] at EP2
      rw [RA2, ← EP2] at CR
      have OL := hide (fun (q : Value) (h : q.oneCell' = true) => us_one (us := UU) h)
      have LL := hide (fun (q : Value) => fo_len HUS.out q)
      have EVC := fun q => show foV UU q = .agg (usL UU ++ [q]).toArray from rfl
      simp only [EVC] at CR
      clear RA EVC
      go_upto_region 6 with (first
        | (go_at_call 11; refine (CL.out _ BZ2.out).mono ?_; rintro e wa ⟨rfl, BA⟩; replace BA := hide BA)
        | (go_at_call 12; refine (CR.out _ (bto BZ2.out BA.out)).mono ?_; rintro e wr ⟨u2, rfl, B9, hB9, PU, BR⟩; obtain ⟨ua9, uc9, hu9⟩ := PO.shape PU; replace hu9 := hide hu9; replace PU := hide PU; replace BR := hide (bto BA.out BR))
        | (refine wpList_store_mid rfl 29 (.tmp 7) (.tmp 26) rfl bw 0 (usL UU ++ [u2]).toArray rfl rfl (there_blk (show wr.heap[bw]? = some (.cells (usL z01 ++ [nilS]).toArray 29) from Bk.up FZ.out BR.out) (by rw [List.size_toArray, List.size_toArray, LL.out u2]; rfl)) (by rw [List.size_toArray, LL.out u2]; kernel_rfl) (all_oneCell_toArray (OL.out u2 (by rw [hu9.out]; rfl))) ?_))
      (try rw [show (usL UU ++ [u2]).toArray.toList = usL UU ++ [u2] from rfl])
      have BF2 := hide (show Bk (wr.setCells bw 0 (usL UU ++ [u2])) bw 29 (usL UU ++ [u2]) by
        have q := Bk.puts (usL UU ++ [u2]) 0 wr _ (Bk.up FZ.out BR.out) (by rw [LL.out u2]; decide)
        rwa [List.take_zero, List.nil_append, Nat.zero_add, List.drop_of_length_le (by rw [LL.out u2]; decide), List.append_nil] at q)
      have hbb : bw < wa.heap.size := Nat.lt_of_lt_of_le (Bk.lt FZ.out) BA.out.size
      have HPL0 := hide HPL.out
      have BWB := hide (show Below w.heap.size w (wr.setCells bw 0 (usL UU ++ [u2])) from (bto B0.out (bto BZ2.out BR.out)).grown (setCells_grown _ _ _ _) (bto B0.out (bto BZ2.out BR.out)).size (fun k hk => by cases hk; exact Nat.le_of_lt hbz.out))
      have hp2 : PM (wr.setCells bw 0 (usL UU ++ [u2])) n u2 PP := by
        have q := PO.keep PU.out (w' := wr.setCells bw 0 (usL UU ++ [u2])) (fun g hg hl => setCells_far g bw 0 (by omega) _ _ _)
        have q2 := PO.pm q BWB.out
        exact q2 (by rw [EP2]; exact HPL.out)
      clear hm EU EP EU2 EP2 FZ BZ2 BA BR CL CR OL LL RA2 PU hu9
      generalize wr.setCells bw 0 (usL UU ++ [u2]) = wb at *
      have HP2 := hide hp2
      obtain ⟨n0, d0, n1, d1, n2, d2, n3, d3, n4, d4, n5, d5, n6, d6, hUU⟩ := us7 HUS.out
      have KW := hide (fun (W : World) (h : Below wb.heap.size wb W) => bxk_15 (show W.heap[bw]? = some (.cells #[.int .i64 n0, .int .i64 d0, .int .i64 n1, .int .i64 d1, .int .i64 n2, .int .i64 d2, .int .i64 n3, .int .i64 d3, .int .i64 n4, .int .i64 d4, .int .i64 n5, .int .i64 d5, .int .i64 n6, .int .i64 d6, u2] 29) from by
        have q := Bk.up BF2.out h
        unfold Bk at q
        rw [hUU] at q
        exact q))
      have CA := hide (fun (W : World) (h : Below wb.heap.size wb W) => (addN_any n l (.slice va l.length vc) W (HN.out.low (bto BWB.out h)) (FM.low (bto BWB.out h) HL.out) HPL0.out).mono (R' := fun e w' => ∃ u1, e = .returned (foV UU u1) ∧ PM w' n u1 PP ∧ Below wb.heap.size wb w') (by rintro e w' ⟨u1, rfl, -, h2, h3⟩; exact ⟨u1, by rw [hUU0.out], by rw [← hPP0.out]; exact h2, bto h h3⟩))
      have CS := hide (fun (u1 : Value) (W : World) (h1 : PM W n u1 PP) (h2 : Below wb.heap.size wb W) => (saR_all n UU UU PP PP u1 u2 W HUS.out HUS.out h1 ⟨n, PM.low h2 HP2.out⟩).mono (R' := fun e w' => e = .returned (.bool true) ∧ Below wb.heap.size wb w') (by rintro e w' ⟨rfl, h3⟩; exact ⟨by rw [saF_refl], bto h2 h3⟩))
      have CW := hide (fun (W : World) (h : Below wb.heap.size wb W) => (awakeN_any W (HN.out.low (bto BWB.out h))).mono (R' := fun e w' => e = .returned (.bool true) ∧ Below wb.heap.size wb w') (by rintro e w' ⟨rfl, h3⟩; exact ⟨rfl, bto h h3⟩))
      rw [show foV UU u2 = .agg #[.int .i64 n0, .int .i64 d0, .int .i64 n1, .int .i64 d1, .int .i64 n2, .int .i64 d2, .int .i64 n3, .int .i64 d3, .int .i64 n4, .int .i64 d4, .int .i64 n5, .int .i64 d5, .int .i64 n6, .int .i64 d6, u2] by rw [hUU]; rfl] at CS
      have BE := hide (Below.refl wb.heap.size wb)
      have hbw : bw < wb.heap.size := Bk.lt BF2.out
      obtain ⟨⟨f0, f1, f2, f3, f4, f5, f6, f7, f8, f9, f10, f11, f12, f13⟩, f14⟩ := KW.out wb BE.out
      have EVU := fun u1 => show foV UU u1 = .agg (usL UU ++ [u1]).toArray from rfl
      simp only [EVU] at CA CS
      clear hUU hp2 EVU
      generalize usL UU = UL at *
      go_upto_region 6 with fail
      go_region_with (first
        | (go_at_call 13; refine (CA.out _ (by repeat (first | exact BE.out | (with_reducible refine Below.drew ?_) | (with_reducible refine below_drewN ?_ _) | exact Below.refl _ _))).mono ?_; rintro e w5 ⟨u1, rfl, P1', B5⟩; replace P1' := hide P1'; replace BE := hide B5; obtain ⟨⟨g0, g1, g2, g3, g4, g5, g6, g7, g8, g9, g10, g11, g12, g13⟩, g14⟩ := KW.out w5 B5)
        | (go_at_call 6; refine (CS.out u1 _ (by first | exact P1'.out | exact PM.low (Below.drew (Below.refl _ _)) P1'.out) (by repeat (first | exact BE.out | (with_reducible refine Below.drew ?_) | (with_reducible refine below_drewN ?_ _) | exact Below.refl _ _))).mono ?_; rintro e w6 ⟨rfl, B6⟩; replace BE := hide B6)
        | (go_at_call 14; refine (CW.out _ (by repeat (first | exact BE.out | (with_reducible refine Below.drew ?_) | (with_reducible refine below_drewN ?_ _) | exact Below.refl _ _))).mono ?_; rintro e w7 ⟨rfl, B7⟩; replace BE := hide B7))
      all_goals
        go_wp2_with fail
        go_ret
        exact ⟨rfl, bto BWB.out BE.out⟩
end Go.Proofs.YticgcokhdipomaaDoor.nm
