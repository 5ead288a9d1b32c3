/-
  The law of forms that may be, that are the same, and of units.
-/
import Derived.Test.YticgcokhdipomaaDoorLNoS
import Derived.Test.YticgcokhdipomaaDoorLNoP
import Derived.Test.YticgcokhdipomaaDoorLNoD
import Derived.Test.YticgcokhdipomaaDoorLBeC
import Derived.Shelf.Abstract
set_option linter.unusedVariables false
set_option linter.unusedSimpArgs false
namespace Go.Proofs.YticgcokhdipomaaDoor.nm
open Go.RowKit be

theorem one11 : oneU 1 (1, 1) = [(1, 1), (0, 1), (0, 1), (0, 1), (0, 1), (0, 1), (0, 1)] := by decide +kernel
def kdM (csA csB : List Value) (V1 : Value) (r sr : Bool) (q : Int) : Nat → Kd
  | 0 => .val (.agg csA.toArray)
  | 1 => .val (.bool r)
  | 2 => .val (.agg csA.toArray)
  | 3 => .val (.bool r)
  | 4 => .val (.bool true)
  | 5 => .val (.bool true)
  | 6 => .val (.agg csA.toArray)
  | 7 => .val (.agg csB.toArray)
  | 8 => .val (.bool sr)
  | 9 => .val (.agg csA.toArray)
  | 10 => .val (.agg csB.toArray)
  | 11 => .val (.bool sr)
  | 12 => .val (.bool true)
  | 13 => .val (.bool true)
  | 14 => .val (.bool true)
  | 15 => .val (.agg csA.toArray)
  | 16 => .val (.agg csA.toArray)
  | 17 => .val (.bool true)
  | 18 => .val (.bool true)
  | 19 => .val (.bool true)
  | 20 => .val (.agg csA.toArray)
  | 21 => .val (.int .i64 q)
  | 22 => .val (.int .i64 q)
  | 23 => .val (.bool true)
  | 24 => .val (.bool true)
  | 25 => .val (.bool true)
  | 26 => .val (.agg #[.int .i64 1, .int .i64 1])
  | 27 => .val V1
  | 28 => .val (.int .i64 2)
  | 29 => .val (.bool true)
  | 30 => .val (.bool true)
  | 31 => .val (.bool true)
  | 32 => .val (.bool true)
  | 33 => .val (.bool true)
  | 34 => .val (.bool true)
  | _ => .val undef
set_option maxRecDepth 100000 in
set_option maxHeartbeats 20000000 in
theorem law_mayN (n m : Nat) (us vs : List (Int × Int)) (ps qs : List Pa) (u v : Value) (w : World) (hN : Nth w) (hn : n ≤ 65536) (hus : Us us) (hvs : Us vs) (hu : PM w n u ps) (hv : PM w m v qs) :
    Calls Tryd.prog 5 #[foV us u, foV vs v] w fun e w' => e = .returned (.bool true) ∧ Below w.heap.size w w' := by
  have i1 : i64 1 := ⟨by decide, by decide⟩
  have D1 := hide (fun (W : World) (h : Below w.heap.size w W) => fmay_any n us ps u W hus (hu.low h))
  have D2 := hide (fun (W : World) (h : Below w.heap.size w W) => fmayR_any n us ps u W hus (hu.low h))
  have D3 := hide (fun (W : World) (h : Below w.heap.size w W) => sameF_any n m us vs ps qs u v W hn hus hvs (hu.low h) (hv.low h))
  have D4 := hide (fun (W : World) (h : Below w.heap.size w W) => saR_all n us vs ps qs u v W hus hvs (hu.low h) ⟨m, hv.low h⟩)
  have D5 := hide (fun (W : World) (h : Below w.heap.size w W) => sameF_any n n us us ps ps u u W hn hus hus (hu.low h) (hu.low h))
  rw [saF_refl] at D5
  have D6 := hide (fun (W : World) (h : Below w.heap.size w W) => uses_any n us ps u W (hN.low h) hus (hu.low h))
  have D7 := hide (fun (W : World) (h : Below w.heap.size w W) => usesR_all n us ps u W (hN.low h) hus (hu.low h))
  have D8 := hide (fun (W : World) (h : Below w.heap.size w W) => oneF_any 1 1 1 W (hN.low h) i1 i1 i1)
  have D9 := hide (fun (W : World) (h : Below w.heap.size w W) => uses_any 0 (oneU 1 (1, 1)) [] nilS W (hN.low h) (one_us 1 1 1 i1 i1) (.inl ⟨none, 0, rfl, rfl⟩))
  rw [use_one] at D9
  have D0 := hide (fun (W : World) (h : Below w.heap.size w W) => awakeN_any W (hN.low h))
  rw [one11, show foV [(1, 1), (0, 1), (0, 1), (0, 1), (0, 1), (0, 1), (0, 1)] nilS = .agg #[.int .i64 1, .int .i64 1, .int .i64 0, .int .i64 1, .int .i64 0, .int .i64 1, .int .i64 0, .int .i64 1, .int .i64 0, .int .i64 1, .int .i64 0, .int .i64 1, .int .i64 0, .int .i64 1, .slice none 0 0] from rfl] at D8 D9
  have EQ := hide (show usQ n us ps = if maF 340 (.mk us ps) then usG n us ps else 0 from rfl)
  generalize saF n (.mk us ps) (.mk vs qs) = sr at *
  obtain ⟨r, hr⟩ : ∃ r, maF 340 (.mk us ps) = r := ⟨_, rfl⟩
  rw [hr] at D1 D2 EQ
  clear hr
  generalize usG n us ps = g at *
  generalize usQ n us ps = q at *
  have lA : (usL us ++ [u]).length = 15 := by rw [List.length_append, usL_len, hus.1]; rfl
  have lB : (usL vs ++ [v]).length = 15 := by rw [List.length_append, usL_len, hvs.1]; rfl
  rw [show foV us u = .agg (usL us ++ [u]).toArray from rfl] at D1 D2 D6 D7 D5
  rw [show foV us u = .agg (usL us ++ [u]).toArray from rfl, show foV vs v = .agg (usL vs ++ [v]).toArray from rfl] at D3 D4 ⊢
  have NA : (usL us ++ [u]).length ≠ 0 := by omega
  clear hN hus hvs hu hv hn i1
  generalize usL us ++ [u] = csA at *
  generalize usL vs ++ [v] = csB at *
  have RAS := hide (show (Tryd.prog.info? 29).map (·.size) = some csA.length by rw [lA]; kernel_rfl)
  have RBS := hide (show (Tryd.prog.info? 29).map (·.size) = some csB.length by rw [lB]; kernel_rfl)
  have sA : csA.toArray.size = 15 := by rw [List.size_toArray]; exact lA
  have sB : csB.toArray.size = 15 := by rw [List.size_toArray]; exact lB
  obtain ⟨W1, hW1⟩ : ∃ W1, (w.alloc (.cells csA.toArray 29)).alloc (.cells csB.toArray 29) = W1 := ⟨_, rfl⟩
  have B0 := hide (show Below w.heap.size w W1 by rw [← hW1]; exact bplus (bplus (Below.refl _ _) _) _)
  have P0 := hide (show Bk W1 w.heap.size 29 csA by rw [← hW1]; exact (two_new w _ _).1)
  have P1 := hide (show Bk W1 (w.heap.size + 1) 29 csB by rw [← hW1]; exact (two_new w _ _).2)
  have HW1 := hide hW1
  clear hW1
  replace D1 := hide (fun (W : World) (h : Below W1.heap.size W1 W) => D1.out W (bto B0.out h))
  replace D2 := hide (fun (W : World) (h : Below W1.heap.size W1 W) => D2.out W (bto B0.out h))
  replace D3 := hide (fun (W : World) (h : Below W1.heap.size W1 W) => D3.out W (bto B0.out h))
  replace D4 := hide (fun (W : World) (h : Below W1.heap.size W1 W) => D4.out W (bto B0.out h))
  replace D5 := hide (fun (W : World) (h : Below W1.heap.size W1 W) => D5.out W (bto B0.out h))
  replace D6 := hide (fun (W : World) (h : Below W1.heap.size W1 W) => D6.out W (bto B0.out h))
  replace D7 := hide (fun (W : World) (h : Below W1.heap.size W1 W) => D7.out W (bto B0.out h))
  replace D8 := hide (fun (W : World) (h : Below W1.heap.size W1 W) => D8.out W (bto B0.out h))
  replace D9 := hide (fun (W : World) (h : Below W1.heap.size W1 W) => D9.out W (bto B0.out h))
  replace D0 := hide (fun (W : World) (h : Below W1.heap.size W1 W) => D0.out W (bto B0.out h))
  have RX := hide (fun (W : World) (h : Below W1.heap.size W1 W) => show W.rangeAt w.heap.size 0 csA from range_blk (Bk.up P0.out h))
  have RY := hide (fun (W : World) (h : Below W1.heap.size W1 W) => show W.rangeAt (w.heap.size + 1) 0 csB from range_blk (Bk.up P1.out h))
  have BI := hide (Below.refl W1.heap.size W1)
  obtain ⟨V1, hV1⟩ : ∃ V1, Value.agg #[.int .i64 1, .int .i64 1, .int .i64 0, .int .i64 1, .int .i64 0, .int .i64 1, .int .i64 0, .int .i64 1, .int .i64 0, .int .i64 1, .int .i64 0, .int .i64 1, .int .i64 0, .int .i64 1, .slice none 0 0] = V1 := ⟨_, rfl⟩
  rw [hV1] at D8 D9
  clear hV1
  go_enter Tryd.func5, Tryd.ntmps5
  go_upto_region 1 with fail
  rw [HW1.out]
  clear HW1 P0 P1 lA lB NA
  cases r
  · obtain rfl : q = 0 := by rw [EQ.out]; rfl
    clear D7 EQ
    go_upto_region 4 with (first
      | (refine wpList_load_mid rfl 29 (.tmp 2) rfl w.heap.size 0 rfl csA _ (RX.out _ BI.out) Tryd.underlying29 rfl RAS.out ?_)
      | (go_at_call 17; refine (D2.out _ BI.out).mono ?_; rintro e wz ⟨rfl, BE⟩; replace BE := hide BE))
    replace D1 := hide (fun (W : World) (h : Below wz.heap.size wz W) => D1.out W (bto BE.out h))
    replace D2 := hide (fun (W : World) (h : Below wz.heap.size wz W) => D2.out W (bto BE.out h))
    replace D3 := hide (fun (W : World) (h : Below wz.heap.size wz W) => D3.out W (bto BE.out h))
    replace D4 := hide (fun (W : World) (h : Below wz.heap.size wz W) => D4.out W (bto BE.out h))
    replace D5 := hide (fun (W : World) (h : Below wz.heap.size wz W) => D5.out W (bto BE.out h))
    replace D6 := hide (fun (W : World) (h : Below wz.heap.size wz W) => D6.out W (bto BE.out h))
    replace D8 := hide (fun (W : World) (h : Below wz.heap.size wz W) => D8.out W (bto BE.out h))
    replace D9 := hide (fun (W : World) (h : Below wz.heap.size wz W) => D9.out W (bto BE.out h))
    replace D0 := hide (fun (W : World) (h : Below wz.heap.size wz W) => D0.out W (bto BE.out h))
    have RA := hide (fun (W : World) (h : Below wz.heap.size wz W) => RX.out W (bto BE.out h))
    have RB := hide (fun (W : World) (h : Below wz.heap.size wz W) => RY.out W (bto BE.out h))
    clear RX RY
    refine wp_region_kdQ (by kernel_rfl) (kdM csA csB V1 false sr 0) (Stat.of (by kernel_rfl)) (acy_of (by kernel_rfl)) ?_ ?_
    · as_aux_lemma =>
        intro Q' i o ho blk listed a wx I hd
        have hi : i < 35 := (Array.getElem?_eq_some_iff.1 ho).1
        rcases (show i = 0 ∨ i = 1 ∨ i = 2 ∨ i = 3 ∨ i = 4 ∨ i = 5 ∨ i = 6 ∨ i = 7 ∨ i = 8 ∨ i = 9 ∨ i = 10 ∨ i = 11 ∨ i = 12 ∨ i = 13 ∨ i = 14 ∨ i = 15 ∨ i = 16 ∨ i = 17 ∨ i = 18 ∨ i = 19 ∨ i = 20 ∨ i = 21 ∨ i = 22 ∨ i = 23 ∨ i = 24 ∨ i = 25 ∨ i = 26 ∨ i = 27 ∨ i = 28 ∨ i = 29 ∨ i = 30 ∨ i = 31 ∨ i = 32 ∨ i = 33 ∨ i = 34 by omega) with rfl | rfl | rfl | rfl | rfl | rfl | rfl | rfl | rfl | rfl | rfl | rfl | rfl | rfl | rfl | rfl | rfl | rfl | rfl | rfl | rfl | rfl | rfl | rfl | rfl | rfl | rfl | rfl | rfl | rfl | rfl | rfl | rfl | rfl | rfl
        · obtain rfl := Option.some.inj ho
          exact wpOp_valW rfl (wn rfl) (run_ldF rfl (show a.tmps.getD 2 undef = _ from (I.oth_at (by kernel_rfl)).trans rfl) (RA.out wx I.up) Tryd.underlying29 rfl RAS.out) (show _ ∧ _ from ⟨rfl, be.Up.refl _⟩)
        · obtain rfl := Option.some.inj ho
          have v0 := (I.val_at (i := 0) (by decide) (hd ⟨0, .data⟩ (by simp) rfl) (.inl rfl) rfl)
          refine wpOp_callW rfl (wn rfl) (run_cl1 rfl rfl (fun v => enters_of Tryd.func19 (by kernel_rfl) rfl #[v] wx)) ?_
          refine (show Calls Tryd.prog 19 #[a.tmps.getD _ undef] wx _ from ?_)
          rw [v0]
          exact (D1.out wx I.up).mono (by rintro e w' ⟨rfl, hu⟩; exact ⟨_, rfl, (show _ ∧ _ from ⟨rfl, hu⟩)⟩)
        · obtain rfl := Option.some.inj ho
          exact wpOp_valW rfl (wn rfl) (run_ldF rfl (show a.tmps.getD 2 undef = _ from (I.oth_at (by kernel_rfl)).trans rfl) (RA.out wx I.up) Tryd.underlying29 rfl RAS.out) (show _ ∧ _ from ⟨rfl, be.Up.refl _⟩)
        · obtain rfl := Option.some.inj ho
          have v0 := (I.val_at (i := 2) (by decide) (hd ⟨2, .data⟩ (by simp) rfl) (.inl rfl) rfl)
          refine wpOp_callW rfl (wn rfl) (run_cl1 rfl rfl (fun v => enters_of Tryd.func17 (by kernel_rfl) rfl #[v] wx)) ?_
          refine (show Calls Tryd.prog 17 #[a.tmps.getD _ undef] wx _ from ?_)
          rw [v0]
          exact (D2.out wx I.up).mono (by rintro e w' ⟨rfl, hu⟩; exact ⟨_, rfl, (show _ ∧ _ from ⟨rfl, hu⟩)⟩)
        · obtain rfl := Option.some.inj ho
          exact wpOp_valW rfl (wn rfl) (run_eqB rfl (I.val_at (i := 1) (by decide) (hd ⟨1, .data⟩ (by simp) rfl) (.inl rfl) rfl) (I.val_at (i := 3) (by decide) (hd ⟨3, .data⟩ (by simp) rfl) (.inl rfl) rfl)) (show _ ∧ _ from ⟨rfl, be.Up.refl _⟩)
        · obtain rfl := Option.some.inj ho
          exact wpOp_valW rfl (wn rfl) (run_mv rfl (I.val_at (i := 4) (by decide) (hd ⟨4, .data⟩ (by simp) rfl) (.inl rfl) rfl)) (show _ ∧ _ from ⟨rfl, be.Up.refl _⟩)
        · obtain rfl := Option.some.inj ho
          exact wpOp_valW rfl (wgT (c := true) rfl rfl (I.val_at (i := 5) (by decide) (hd ⟨5, .guard⟩ (by simp) rfl) (.inl rfl) rfl) rfl) (run_ldF rfl (show a.tmps.getD 2 undef = _ from (I.oth_at (by kernel_rfl)).trans rfl) (RA.out wx I.up) Tryd.underlying29 rfl RAS.out) (show _ ∧ _ from ⟨rfl, be.Up.refl _⟩)
        · obtain rfl := Option.some.inj ho
          exact wpOp_valW rfl (wgT (c := true) rfl rfl (I.val_at (i := 5) (by decide) (hd ⟨5, .guard⟩ (by simp) rfl) (.inl rfl) rfl) rfl) (run_ldF rfl (show a.tmps.getD 3 undef = _ from (I.oth_at (by kernel_rfl)).trans rfl) (RB.out wx I.up) Tryd.underlying29 rfl RBS.out) (show _ ∧ _ from ⟨rfl, be.Up.refl _⟩)
        · obtain rfl := Option.some.inj ho
          have v0 := (I.val_at (i := 6) (by decide) (hd ⟨6, .data⟩ (by simp) rfl) (.inl rfl) rfl)
          have v1 := (I.val_at (i := 7) (by decide) (hd ⟨7, .data⟩ (by simp) rfl) (.inl rfl) rfl)
          refine wpOp_callW rfl (wgT (c := true) rfl rfl (I.val_at (i := 5) (by decide) (hd ⟨5, .guard⟩ (by simp) rfl) (.inl rfl) rfl) rfl) (run_cl2 rfl rfl (fun v u => enters_of Tryd.func20 (by kernel_rfl) rfl #[v, u] wx)) ?_
          refine (show Calls Tryd.prog 20 #[a.tmps.getD _ undef, a.tmps.getD _ undef] wx _ from ?_)
          rw [v0, v1]
          exact (D3.out wx I.up).mono (by rintro e w' ⟨rfl, hu⟩; exact ⟨_, rfl, (show _ ∧ _ from ⟨rfl, hu⟩)⟩)
        · obtain rfl := Option.some.inj ho
          exact wpOp_valW rfl (wgT (c := true) rfl rfl (I.val_at (i := 5) (by decide) (hd ⟨5, .guard⟩ (by simp) rfl) (.inl rfl) rfl) rfl) (run_ldF rfl (show a.tmps.getD 2 undef = _ from (I.oth_at (by kernel_rfl)).trans rfl) (RA.out wx I.up) Tryd.underlying29 rfl RAS.out) (show _ ∧ _ from ⟨rfl, be.Up.refl _⟩)
        · obtain rfl := Option.some.inj ho
          exact wpOp_valW rfl (wgT (c := true) rfl rfl (I.val_at (i := 5) (by decide) (hd ⟨5, .guard⟩ (by simp) rfl) (.inl rfl) rfl) rfl) (run_ldF rfl (show a.tmps.getD 3 undef = _ from (I.oth_at (by kernel_rfl)).trans rfl) (RB.out wx I.up) Tryd.underlying29 rfl RBS.out) (show _ ∧ _ from ⟨rfl, be.Up.refl _⟩)
        · obtain rfl := Option.some.inj ho
          have v0 := (I.val_at (i := 9) (by decide) (hd ⟨9, .data⟩ (by simp) rfl) (.inl rfl) rfl)
          have v1 := (I.val_at (i := 10) (by decide) (hd ⟨10, .data⟩ (by simp) rfl) (.inl rfl) rfl)
          refine wpOp_callW rfl (wgT (c := true) rfl rfl (I.val_at (i := 5) (by decide) (hd ⟨5, .guard⟩ (by simp) rfl) (.inl rfl) rfl) rfl) (run_cl2 rfl rfl (fun v u => enters_of Tryd.func6 (by kernel_rfl) rfl #[v, u] wx)) ?_
          refine (show Calls Tryd.prog 6 #[a.tmps.getD _ undef, a.tmps.getD _ undef] wx _ from ?_)
          rw [v0, v1]
          exact (D4.out wx I.up).mono (by rintro e w' ⟨rfl, hu⟩; exact ⟨_, rfl, (show _ ∧ _ from ⟨rfl, hu⟩)⟩)
        · obtain rfl := Option.some.inj ho
          exact wpOp_valW rfl (wgT (c := true) rfl rfl (I.val_at (i := 5) (by decide) (hd ⟨5, .guard⟩ (by simp) rfl) (.inl rfl) rfl) rfl) (run_eqB rfl (I.val_at (i := 8) (by decide) (hd ⟨8, .data⟩ (by simp) rfl) (.inl rfl) rfl) (I.val_at (i := 11) (by decide) (hd ⟨11, .data⟩ (by simp) rfl) (.inl rfl) rfl)) (show _ ∧ _ from ⟨rfl, be.Up.refl _⟩)
        · obtain rfl := Option.some.inj ho
          exact wpOp_valW rfl (wn rfl) (run_pickT rfl (I.val_at (i := 5) (by decide) (hd ⟨5, .data⟩ (by simp) rfl) (.inl rfl) rfl) (I.val_at (i := 12) (by decide) (hd ⟨12, .data⟩ (by simp) rfl) (.inl rfl) rfl)) (show _ ∧ _ from ⟨rfl, be.Up.refl _⟩)
        · obtain rfl := Option.some.inj ho
          exact wpOp_valW rfl (wn rfl) (run_mv rfl (I.val_at (i := 13) (by decide) (hd ⟨13, .data⟩ (by simp) rfl) (.inl rfl) rfl)) (show _ ∧ _ from ⟨rfl, be.Up.refl _⟩)
        · obtain rfl := Option.some.inj ho
          exact wpOp_valW rfl (wgT (c := true) rfl rfl (I.val_at (i := 14) (by decide) (hd ⟨14, .guard⟩ (by simp) rfl) (.inl rfl) rfl) rfl) (run_ldF rfl (show a.tmps.getD 2 undef = _ from (I.oth_at (by kernel_rfl)).trans rfl) (RA.out wx I.up) Tryd.underlying29 rfl RAS.out) (show _ ∧ _ from ⟨rfl, be.Up.refl _⟩)
        · obtain rfl := Option.some.inj ho
          exact wpOp_valW rfl (wgT (c := true) rfl rfl (I.val_at (i := 14) (by decide) (hd ⟨14, .guard⟩ (by simp) rfl) (.inl rfl) rfl) rfl) (run_ldF rfl (show a.tmps.getD 2 undef = _ from (I.oth_at (by kernel_rfl)).trans rfl) (RA.out wx I.up) Tryd.underlying29 rfl RAS.out) (show _ ∧ _ from ⟨rfl, be.Up.refl _⟩)
        · obtain rfl := Option.some.inj ho
          have v0 := (I.val_at (i := 15) (by decide) (hd ⟨15, .data⟩ (by simp) rfl) (.inl rfl) rfl)
          have v1 := (I.val_at (i := 16) (by decide) (hd ⟨16, .data⟩ (by simp) rfl) (.inl rfl) rfl)
          refine wpOp_callW rfl (wgT (c := true) rfl rfl (I.val_at (i := 14) (by decide) (hd ⟨14, .guard⟩ (by simp) rfl) (.inl rfl) rfl) rfl) (run_cl2 rfl rfl (fun v u => enters_of Tryd.func20 (by kernel_rfl) rfl #[v, u] wx)) ?_
          refine (show Calls Tryd.prog 20 #[a.tmps.getD _ undef, a.tmps.getD _ undef] wx _ from ?_)
          rw [v0, v1]
          exact (D5.out wx I.up).mono (by rintro e w' ⟨rfl, hu⟩; exact ⟨_, rfl, (show _ ∧ _ from ⟨rfl, hu⟩)⟩)
        · obtain rfl := Option.some.inj ho
          exact wpOp_valW rfl (wn rfl) (run_pickT rfl (I.val_at (i := 14) (by decide) (hd ⟨14, .data⟩ (by simp) rfl) (.inl rfl) rfl) (I.val_at (i := 17) (by decide) (hd ⟨17, .data⟩ (by simp) rfl) (.inl rfl) rfl)) (show _ ∧ _ from ⟨rfl, be.Up.refl _⟩)
        · obtain rfl := Option.some.inj ho
          exact wpOp_valW rfl (wn rfl) (run_mv rfl (I.val_at (i := 18) (by decide) (hd ⟨18, .data⟩ (by simp) rfl) (.inl rfl) rfl)) (show _ ∧ _ from ⟨rfl, be.Up.refl _⟩)
        · obtain rfl := Option.some.inj ho
          exact wpOp_valW rfl (wgT (c := true) rfl rfl (I.val_at (i := 19) (by decide) (hd ⟨19, .guard⟩ (by simp) rfl) (.inl rfl) rfl) rfl) (run_ldF rfl (show a.tmps.getD 2 undef = _ from (I.oth_at (by kernel_rfl)).trans rfl) (RA.out wx I.up) Tryd.underlying29 rfl RAS.out) (show _ ∧ _ from ⟨rfl, be.Up.refl _⟩)
        · obtain rfl := Option.some.inj ho
          have v0 := (I.val_at (i := 20) (by decide) (hd ⟨20, .data⟩ (by simp) rfl) (.inl rfl) rfl)
          refine wpOp_callW rfl (wgT (c := true) rfl rfl (I.val_at (i := 19) (by decide) (hd ⟨19, .guard⟩ (by simp) rfl) (.inl rfl) rfl) rfl) (run_cl1 rfl rfl (fun v => enters_of Tryd.func21 (by kernel_rfl) rfl #[v] wx)) ?_
          refine (show Calls Tryd.prog 21 #[a.tmps.getD _ undef] wx _ from ?_)
          rw [v0]
          exact (D6.out wx I.up).mono (by rintro e w' ⟨rfl, hu⟩; exact ⟨_, rfl, (show _ ∧ _ from ⟨rfl, hu⟩)⟩)
        · obtain rfl := Option.some.inj ho
          exact wpOp_valW rfl (wgT (c := true) rfl rfl (I.val_at (i := 19) (by decide) (hd ⟨19, .guard⟩ (by simp) rfl) (.inl rfl) rfl) rfl) (run_mv rfl (show a.tmps.getD 5 undef = _ from (I.oth_at (by kernel_rfl)).trans rfl)) (show _ ∧ _ from ⟨rfl, be.Up.refl _⟩)
        · obtain rfl := Option.some.inj ho
          exact wpOp_valW rfl (wgT (c := true) rfl rfl (I.val_at (i := 19) (by decide) (hd ⟨19, .guard⟩ (by simp) rfl) (.inl rfl) rfl) rfl) (run_eqI rfl (I.val_at (i := 21) (by decide) (hd ⟨21, .data⟩ (by simp) rfl) (.inl rfl) rfl) (I.val_at (i := 22) (by decide) (hd ⟨22, .data⟩ (by simp) rfl) (.inl rfl) rfl)) (show _ ∧ _ from ⟨rfl, be.Up.refl _⟩)
        · obtain rfl := Option.some.inj ho
          exact wpOp_valW rfl (wn rfl) (run_pickT rfl (I.val_at (i := 19) (by decide) (hd ⟨19, .data⟩ (by simp) rfl) (.inl rfl) rfl) (I.val_at (i := 23) (by decide) (hd ⟨23, .data⟩ (by simp) rfl) (.inl rfl) rfl)) (show _ ∧ _ from ⟨rfl, be.Up.refl _⟩)
        · obtain rfl := Option.some.inj ho
          exact wpOp_valW rfl (wn rfl) (run_mv rfl (I.val_at (i := 24) (by decide) (hd ⟨24, .data⟩ (by simp) rfl) (.inl rfl) rfl)) (show _ ∧ _ from ⟨rfl, be.Up.refl _⟩)
        · obtain rfl := Option.some.inj ho
          exact wpOp_valW rfl (wgT (c := true) rfl rfl (I.val_at (i := 25) (by decide) (hd ⟨25, .guard⟩ (by simp) rfl) (.inl rfl) rfl) rfl) (run_bd2 rfl rfl rfl) (show _ ∧ _ from ⟨rfl, be.Up.refl _⟩)
        · obtain rfl := Option.some.inj ho
          have v1 := (I.val_at (i := 26) (by decide) (hd ⟨26, .data⟩ (by simp) rfl) (.inl rfl) rfl)
          refine wpOp_callW rfl (wgT (c := true) rfl rfl (I.val_at (i := 25) (by decide) (hd ⟨25, .guard⟩ (by simp) rfl) (.inl rfl) rfl) rfl) (run_cl2 rfl rfl (fun v u => enters_of Tryd.func9 (by kernel_rfl) rfl #[v, u] wx)) ?_
          refine (show Calls Tryd.prog 9 #[.int .i64 1, a.tmps.getD _ undef] wx _ from ?_)
          rw [v1]
          exact (D8.out wx I.up).mono (by rintro e w' ⟨rfl, hu⟩; exact ⟨_, rfl, (show _ ∧ _ from ⟨rfl, hu⟩)⟩)
        · obtain rfl := Option.some.inj ho
          have v0 := (I.val_at (i := 27) (by decide) (hd ⟨27, .data⟩ (by simp) rfl) (.inl rfl) rfl)
          refine wpOp_callW rfl (wgT (c := true) rfl rfl (I.val_at (i := 25) (by decide) (hd ⟨25, .guard⟩ (by simp) rfl) (.inl rfl) rfl) rfl) (run_cl1 rfl rfl (fun v => enters_of Tryd.func21 (by kernel_rfl) rfl #[v] wx)) ?_
          refine (show Calls Tryd.prog 21 #[a.tmps.getD _ undef] wx _ from ?_)
          rw [v0]
          exact (D9.out wx I.up).mono (by rintro e w' ⟨rfl, hu⟩; exact ⟨_, rfl, (show _ ∧ _ from ⟨rfl, hu⟩)⟩)
        · obtain rfl := Option.some.inj ho
          exact wpOp_valW rfl (wgT (c := true) rfl rfl (I.val_at (i := 25) (by decide) (hd ⟨25, .guard⟩ (by simp) rfl) (.inl rfl) rfl) rfl) (run_eqI rfl (I.val_at (i := 28) (by decide) (hd ⟨28, .data⟩ (by simp) rfl) (.inl rfl) rfl) rfl) (show _ ∧ _ from ⟨rfl, be.Up.refl _⟩)
        · obtain rfl := Option.some.inj ho
          exact wpOp_valW rfl (wn rfl) (run_pickT rfl (I.val_at (i := 25) (by decide) (hd ⟨25, .data⟩ (by simp) rfl) (.inl rfl) rfl) (I.val_at (i := 29) (by decide) (hd ⟨29, .data⟩ (by simp) rfl) (.inl rfl) rfl)) (show _ ∧ _ from ⟨rfl, be.Up.refl _⟩)
        · obtain rfl := Option.some.inj ho
          exact wpOp_valW rfl (wn rfl) (run_mv rfl (I.val_at (i := 30) (by decide) (hd ⟨30, .data⟩ (by simp) rfl) (.inl rfl) rfl)) (show _ ∧ _ from ⟨rfl, be.Up.refl _⟩)
        · obtain rfl := Option.some.inj ho
          refine wpOp_callW rfl (wgT (c := true) rfl rfl (I.val_at (i := 31) (by decide) (hd ⟨31, .guard⟩ (by simp) rfl) (.inl rfl) rfl) rfl) (run_cl0 rfl rfl (enters_of Tryd.func14 (by kernel_rfl) rfl #[] wx)) ?_
          refine (show Calls Tryd.prog 14 #[] wx _ from ?_)
          exact (D0.out wx I.up).mono (by rintro e w' ⟨rfl, hu⟩; exact ⟨_, rfl, (show _ ∧ _ from ⟨rfl, hu⟩)⟩)
        · obtain rfl := Option.some.inj ho
          exact wpOp_valW rfl (wn rfl) (run_pickT rfl (I.val_at (i := 31) (by decide) (hd ⟨31, .data⟩ (by simp) rfl) (.inl rfl) rfl) (I.val_at (i := 32) (by decide) (hd ⟨32, .data⟩ (by simp) rfl) (.inl rfl) rfl)) (show _ ∧ _ from ⟨rfl, be.Up.refl _⟩)
        · obtain rfl := Option.some.inj ho
          exact wpOp_valW rfl (wn rfl) (run_as rfl (I.val_at (i := 33) (by decide) (hd ⟨33, .data⟩ (by simp) rfl) (.inl rfl) rfl)) (show _ ∧ _ from ⟨rfl, be.Up.refl _⟩)
    · intro blk listed a' wx I hall
      have fr := I.frameL [(10, (.agg csA.toArray)), (11, (.bool false)), (12, (.agg csA.toArray)), (13, (.bool false)), (14, (.bool true)), (15, (.bool true)), (16, (.agg csA.toArray)), (17, (.agg csB.toArray)), (18, (.bool sr)), (19, (.agg csA.toArray)), (20, (.agg csB.toArray)), (21, (.bool sr)), (22, (.bool true)), (23, (.bool true)), (24, (.bool true)), (25, (.agg csA.toArray)), (26, (.agg csA.toArray)), (27, (.bool true)), (28, (.bool true)), (29, (.bool true)), (30, (.agg csA.toArray)), (31, (.int .i64 0)), (32, (.int .i64 0)), (33, (.bool true)), (34, (.bool true)), (35, (.bool true)), (36, (.agg #[.int .i64 1, .int .i64 1])), (37, V1), (38, (.int .i64 2)), (39, (.bool true)), (40, (.bool true)), (41, (.bool true)), (42, (.bool true)), (43, (.bool true)), (4, (.bool true))] (by
        intro p hp
        simp only [List.mem_cons, List.not_mem_nil, or_false] at hp
        rcases hp with rfl | rfl | rfl | rfl | rfl | rfl | rfl | rfl | rfl | rfl | rfl | rfl | rfl | rfl | rfl | rfl | rfl | rfl | rfl | rfl | rfl | rfl | rfl | rfl | rfl | rfl | rfl | rfl | rfl | rfl | rfl | rfl | rfl | rfl | rfl
        · exact ⟨by simp, I.val_at (i := 0) (by decide) (hall _ (by decide)) (.inl rfl) rfl⟩
        · exact ⟨by simp, I.val_at (i := 1) (by decide) (hall _ (by decide)) (.inl rfl) rfl⟩
        · exact ⟨by simp, I.val_at (i := 2) (by decide) (hall _ (by decide)) (.inl rfl) rfl⟩
        · exact ⟨by simp, I.val_at (i := 3) (by decide) (hall _ (by decide)) (.inl rfl) rfl⟩
        · exact ⟨by simp, I.val_at (i := 4) (by decide) (hall _ (by decide)) (.inl rfl) rfl⟩
        · exact ⟨by simp, I.val_at (i := 5) (by decide) (hall _ (by decide)) (.inl rfl) rfl⟩
        · exact ⟨by simp, I.val_at (i := 6) (by decide) (hall _ (by decide)) (.inl rfl) rfl⟩
        · exact ⟨by simp, I.val_at (i := 7) (by decide) (hall _ (by decide)) (.inl rfl) rfl⟩
        · exact ⟨by simp, I.val_at (i := 8) (by decide) (hall _ (by decide)) (.inl rfl) rfl⟩
        · exact ⟨by simp, I.val_at (i := 9) (by decide) (hall _ (by decide)) (.inl rfl) rfl⟩
        · exact ⟨by simp, I.val_at (i := 10) (by decide) (hall _ (by decide)) (.inl rfl) rfl⟩
        · exact ⟨by simp, I.val_at (i := 11) (by decide) (hall _ (by decide)) (.inl rfl) rfl⟩
        · exact ⟨by simp, I.val_at (i := 12) (by decide) (hall _ (by decide)) (.inl rfl) rfl⟩
        · exact ⟨by simp, I.val_at (i := 13) (by decide) (hall _ (by decide)) (.inl rfl) rfl⟩
        · exact ⟨by simp, I.val_at (i := 14) (by decide) (hall _ (by decide)) (.inl rfl) rfl⟩
        · exact ⟨by simp, I.val_at (i := 15) (by decide) (hall _ (by decide)) (.inl rfl) rfl⟩
        · exact ⟨by simp, I.val_at (i := 16) (by decide) (hall _ (by decide)) (.inl rfl) rfl⟩
        · exact ⟨by simp, I.val_at (i := 17) (by decide) (hall _ (by decide)) (.inl rfl) rfl⟩
        · exact ⟨by simp, I.val_at (i := 18) (by decide) (hall _ (by decide)) (.inl rfl) rfl⟩
        · exact ⟨by simp, I.val_at (i := 19) (by decide) (hall _ (by decide)) (.inl rfl) rfl⟩
        · exact ⟨by simp, I.val_at (i := 20) (by decide) (hall _ (by decide)) (.inl rfl) rfl⟩
        · exact ⟨by simp, I.val_at (i := 21) (by decide) (hall _ (by decide)) (.inl rfl) rfl⟩
        · exact ⟨by simp, I.val_at (i := 22) (by decide) (hall _ (by decide)) (.inl rfl) rfl⟩
        · exact ⟨by simp, I.val_at (i := 23) (by decide) (hall _ (by decide)) (.inl rfl) rfl⟩
        · exact ⟨by simp, I.val_at (i := 24) (by decide) (hall _ (by decide)) (.inl rfl) rfl⟩
        · exact ⟨by simp, I.val_at (i := 25) (by decide) (hall _ (by decide)) (.inl rfl) rfl⟩
        · exact ⟨by simp, I.val_at (i := 26) (by decide) (hall _ (by decide)) (.inl rfl) rfl⟩
        · exact ⟨by simp, I.val_at (i := 27) (by decide) (hall _ (by decide)) (.inl rfl) rfl⟩
        · exact ⟨by simp, I.val_at (i := 28) (by decide) (hall _ (by decide)) (.inl rfl) rfl⟩
        · exact ⟨by simp, I.val_at (i := 29) (by decide) (hall _ (by decide)) (.inl rfl) rfl⟩
        · exact ⟨by simp, I.val_at (i := 30) (by decide) (hall _ (by decide)) (.inl rfl) rfl⟩
        · exact ⟨by simp, I.val_at (i := 31) (by decide) (hall _ (by decide)) (.inl rfl) rfl⟩
        · exact ⟨by simp, I.val_at (i := 32) (by decide) (hall _ (by decide)) (.inl rfl) rfl⟩
        · exact ⟨by simp, I.val_at (i := 33) (by decide) (hall _ (by decide)) (.inl rfl) rfl⟩
        · exact ⟨by simp, I.val_at (i := 34) (by decide) (hall _ (by decide)) (.inl rfl) rfl⟩) (by kernel_rfl)
      have BW := hide (bto BE.out (show Below wz.heap.size wz wx from I.up))
      clear I hall
      subst fr
      dsimp only [setsL, List.set_cons_zero, List.set_cons_succ]
      go_wp2_with fail
      go_ret
      exact ⟨rfl, bto B0.out BW.out⟩
  · obtain rfl : q = g := by rw [EQ.out]; rfl
    clear EQ
    go_upto_region 4 with (first
      | (refine wpList_load_mid rfl 29 (.tmp 2) rfl w.heap.size 0 rfl csA _ (RX.out _ BI.out) Tryd.underlying29 rfl RAS.out ?_)
      | (go_at_call 17; refine (D2.out _ BI.out).mono ?_; rintro e wy ⟨rfl, BY⟩; replace BI := hide BY)
      | (go_at_call 18; refine (D7.out _ BI.out).mono ?_; rintro e wz ⟨rfl, BE⟩; replace BE := hide (bto BI.out BE)))
    clear D7
    replace D1 := hide (fun (W : World) (h : Below wz.heap.size wz W) => D1.out W (bto BE.out h))
    replace D2 := hide (fun (W : World) (h : Below wz.heap.size wz W) => D2.out W (bto BE.out h))
    replace D3 := hide (fun (W : World) (h : Below wz.heap.size wz W) => D3.out W (bto BE.out h))
    replace D4 := hide (fun (W : World) (h : Below wz.heap.size wz W) => D4.out W (bto BE.out h))
    replace D5 := hide (fun (W : World) (h : Below wz.heap.size wz W) => D5.out W (bto BE.out h))
    replace D6 := hide (fun (W : World) (h : Below wz.heap.size wz W) => D6.out W (bto BE.out h))
    replace D8 := hide (fun (W : World) (h : Below wz.heap.size wz W) => D8.out W (bto BE.out h))
    replace D9 := hide (fun (W : World) (h : Below wz.heap.size wz W) => D9.out W (bto BE.out h))
    replace D0 := hide (fun (W : World) (h : Below wz.heap.size wz W) => D0.out W (bto BE.out h))
    have RA := hide (fun (W : World) (h : Below wz.heap.size wz W) => RX.out W (bto BE.out h))
    have RB := hide (fun (W : World) (h : Below wz.heap.size wz W) => RY.out W (bto BE.out h))
    clear RX RY
    refine wp_region_kdQ (by kernel_rfl) (kdM csA csB V1 true sr q) (Stat.of (by kernel_rfl)) (acy_of (by kernel_rfl)) ?_ ?_
    · as_aux_lemma =>
        intro Q' i o ho blk listed a wx I hd
        have hi : i < 35 := (Array.getElem?_eq_some_iff.1 ho).1
        rcases (show i = 0 ∨ i = 1 ∨ i = 2 ∨ i = 3 ∨ i = 4 ∨ i = 5 ∨ i = 6 ∨ i = 7 ∨ i = 8 ∨ i = 9 ∨ i = 10 ∨ i = 11 ∨ i = 12 ∨ i = 13 ∨ i = 14 ∨ i = 15 ∨ i = 16 ∨ i = 17 ∨ i = 18 ∨ i = 19 ∨ i = 20 ∨ i = 21 ∨ i = 22 ∨ i = 23 ∨ i = 24 ∨ i = 25 ∨ i = 26 ∨ i = 27 ∨ i = 28 ∨ i = 29 ∨ i = 30 ∨ i = 31 ∨ i = 32 ∨ i = 33 ∨ i = 34 by omega) with rfl | rfl | rfl | rfl | rfl | rfl | rfl | rfl | rfl | rfl | rfl | rfl | rfl | rfl | rfl | rfl | rfl | rfl | rfl | rfl | rfl | rfl | rfl | rfl | rfl | rfl | rfl | rfl | rfl | rfl | rfl | rfl | rfl | rfl | rfl
        · obtain rfl := Option.some.inj ho
          exact wpOp_valW rfl (wn rfl) (run_ldF rfl (show a.tmps.getD 2 undef = _ from (I.oth_at (by kernel_rfl)).trans rfl) (RA.out wx I.up) Tryd.underlying29 rfl RAS.out) (show _ ∧ _ from ⟨rfl, be.Up.refl _⟩)
        · obtain rfl := Option.some.inj ho
          have v0 := (I.val_at (i := 0) (by decide) (hd ⟨0, .data⟩ (by simp) rfl) (.inl rfl) rfl)
          refine wpOp_callW rfl (wn rfl) (run_cl1 rfl rfl (fun v => enters_of Tryd.func19 (by kernel_rfl) rfl #[v] wx)) ?_
          refine (show Calls Tryd.prog 19 #[a.tmps.getD _ undef] wx _ from ?_)
          rw [v0]
          exact (D1.out wx I.up).mono (by rintro e w' ⟨rfl, hu⟩; exact ⟨_, rfl, (show _ ∧ _ from ⟨rfl, hu⟩)⟩)
        · obtain rfl := Option.some.inj ho
          exact wpOp_valW rfl (wn rfl) (run_ldF rfl (show a.tmps.getD 2 undef = _ from (I.oth_at (by kernel_rfl)).trans rfl) (RA.out wx I.up) Tryd.underlying29 rfl RAS.out) (show _ ∧ _ from ⟨rfl, be.Up.refl _⟩)
        · obtain rfl := Option.some.inj ho
          have v0 := (I.val_at (i := 2) (by decide) (hd ⟨2, .data⟩ (by simp) rfl) (.inl rfl) rfl)
          refine wpOp_callW rfl (wn rfl) (run_cl1 rfl rfl (fun v => enters_of Tryd.func17 (by kernel_rfl) rfl #[v] wx)) ?_
          refine (show Calls Tryd.prog 17 #[a.tmps.getD _ undef] wx _ from ?_)
          rw [v0]
          exact (D2.out wx I.up).mono (by rintro e w' ⟨rfl, hu⟩; exact ⟨_, rfl, (show _ ∧ _ from ⟨rfl, hu⟩)⟩)
        · obtain rfl := Option.some.inj ho
          exact wpOp_valW rfl (wn rfl) (run_eqB rfl (I.val_at (i := 1) (by decide) (hd ⟨1, .data⟩ (by simp) rfl) (.inl rfl) rfl) (I.val_at (i := 3) (by decide) (hd ⟨3, .data⟩ (by simp) rfl) (.inl rfl) rfl)) (show _ ∧ _ from ⟨rfl, be.Up.refl _⟩)
        · obtain rfl := Option.some.inj ho
          exact wpOp_valW rfl (wn rfl) (run_mv rfl (I.val_at (i := 4) (by decide) (hd ⟨4, .data⟩ (by simp) rfl) (.inl rfl) rfl)) (show _ ∧ _ from ⟨rfl, be.Up.refl _⟩)
        · obtain rfl := Option.some.inj ho
          exact wpOp_valW rfl (wgT (c := true) rfl rfl (I.val_at (i := 5) (by decide) (hd ⟨5, .guard⟩ (by simp) rfl) (.inl rfl) rfl) rfl) (run_ldF rfl (show a.tmps.getD 2 undef = _ from (I.oth_at (by kernel_rfl)).trans rfl) (RA.out wx I.up) Tryd.underlying29 rfl RAS.out) (show _ ∧ _ from ⟨rfl, be.Up.refl _⟩)
        · obtain rfl := Option.some.inj ho
          exact wpOp_valW rfl (wgT (c := true) rfl rfl (I.val_at (i := 5) (by decide) (hd ⟨5, .guard⟩ (by simp) rfl) (.inl rfl) rfl) rfl) (run_ldF rfl (show a.tmps.getD 3 undef = _ from (I.oth_at (by kernel_rfl)).trans rfl) (RB.out wx I.up) Tryd.underlying29 rfl RBS.out) (show _ ∧ _ from ⟨rfl, be.Up.refl _⟩)
        · obtain rfl := Option.some.inj ho
          have v0 := (I.val_at (i := 6) (by decide) (hd ⟨6, .data⟩ (by simp) rfl) (.inl rfl) rfl)
          have v1 := (I.val_at (i := 7) (by decide) (hd ⟨7, .data⟩ (by simp) rfl) (.inl rfl) rfl)
          refine wpOp_callW rfl (wgT (c := true) rfl rfl (I.val_at (i := 5) (by decide) (hd ⟨5, .guard⟩ (by simp) rfl) (.inl rfl) rfl) rfl) (run_cl2 rfl rfl (fun v u => enters_of Tryd.func20 (by kernel_rfl) rfl #[v, u] wx)) ?_
          refine (show Calls Tryd.prog 20 #[a.tmps.getD _ undef, a.tmps.getD _ undef] wx _ from ?_)
          rw [v0, v1]
          exact (D3.out wx I.up).mono (by rintro e w' ⟨rfl, hu⟩; exact ⟨_, rfl, (show _ ∧ _ from ⟨rfl, hu⟩)⟩)
        · obtain rfl := Option.some.inj ho
          exact wpOp_valW rfl (wgT (c := true) rfl rfl (I.val_at (i := 5) (by decide) (hd ⟨5, .guard⟩ (by simp) rfl) (.inl rfl) rfl) rfl) (run_ldF rfl (show a.tmps.getD 2 undef = _ from (I.oth_at (by kernel_rfl)).trans rfl) (RA.out wx I.up) Tryd.underlying29 rfl RAS.out) (show _ ∧ _ from ⟨rfl, be.Up.refl _⟩)
        · obtain rfl := Option.some.inj ho
          exact wpOp_valW rfl (wgT (c := true) rfl rfl (I.val_at (i := 5) (by decide) (hd ⟨5, .guard⟩ (by simp) rfl) (.inl rfl) rfl) rfl) (run_ldF rfl (show a.tmps.getD 3 undef = _ from (I.oth_at (by kernel_rfl)).trans rfl) (RB.out wx I.up) Tryd.underlying29 rfl RBS.out) (show _ ∧ _ from ⟨rfl, be.Up.refl _⟩)
        · obtain rfl := Option.some.inj ho
          have v0 := (I.val_at (i := 9) (by decide) (hd ⟨9, .data⟩ (by simp) rfl) (.inl rfl) rfl)
          have v1 := (I.val_at (i := 10) (by decide) (hd ⟨10, .data⟩ (by simp) rfl) (.inl rfl) rfl)
          refine wpOp_callW rfl (wgT (c := true) rfl rfl (I.val_at (i := 5) (by decide) (hd ⟨5, .guard⟩ (by simp) rfl) (.inl rfl) rfl) rfl) (run_cl2 rfl rfl (fun v u => enters_of Tryd.func6 (by kernel_rfl) rfl #[v, u] wx)) ?_
          refine (show Calls Tryd.prog 6 #[a.tmps.getD _ undef, a.tmps.getD _ undef] wx _ from ?_)
          rw [v0, v1]
          exact (D4.out wx I.up).mono (by rintro e w' ⟨rfl, hu⟩; exact ⟨_, rfl, (show _ ∧ _ from ⟨rfl, hu⟩)⟩)
        · obtain rfl := Option.some.inj ho
          exact wpOp_valW rfl (wgT (c := true) rfl rfl (I.val_at (i := 5) (by decide) (hd ⟨5, .guard⟩ (by simp) rfl) (.inl rfl) rfl) rfl) (run_eqB rfl (I.val_at (i := 8) (by decide) (hd ⟨8, .data⟩ (by simp) rfl) (.inl rfl) rfl) (I.val_at (i := 11) (by decide) (hd ⟨11, .data⟩ (by simp) rfl) (.inl rfl) rfl)) (show _ ∧ _ from ⟨rfl, be.Up.refl _⟩)
        · obtain rfl := Option.some.inj ho
          exact wpOp_valW rfl (wn rfl) (run_pickT rfl (I.val_at (i := 5) (by decide) (hd ⟨5, .data⟩ (by simp) rfl) (.inl rfl) rfl) (I.val_at (i := 12) (by decide) (hd ⟨12, .data⟩ (by simp) rfl) (.inl rfl) rfl)) (show _ ∧ _ from ⟨rfl, be.Up.refl _⟩)
        · obtain rfl := Option.some.inj ho
          exact wpOp_valW rfl (wn rfl) (run_mv rfl (I.val_at (i := 13) (by decide) (hd ⟨13, .data⟩ (by simp) rfl) (.inl rfl) rfl)) (show _ ∧ _ from ⟨rfl, be.Up.refl _⟩)
        · obtain rfl := Option.some.inj ho
          exact wpOp_valW rfl (wgT (c := true) rfl rfl (I.val_at (i := 14) (by decide) (hd ⟨14, .guard⟩ (by simp) rfl) (.inl rfl) rfl) rfl) (run_ldF rfl (show a.tmps.getD 2 undef = _ from (I.oth_at (by kernel_rfl)).trans rfl) (RA.out wx I.up) Tryd.underlying29 rfl RAS.out) (show _ ∧ _ from ⟨rfl, be.Up.refl _⟩)
        · obtain rfl := Option.some.inj ho
          exact wpOp_valW rfl (wgT (c := true) rfl rfl (I.val_at (i := 14) (by decide) (hd ⟨14, .guard⟩ (by simp) rfl) (.inl rfl) rfl) rfl) (run_ldF rfl (show a.tmps.getD 2 undef = _ from (I.oth_at (by kernel_rfl)).trans rfl) (RA.out wx I.up) Tryd.underlying29 rfl RAS.out) (show _ ∧ _ from ⟨rfl, be.Up.refl _⟩)
        · obtain rfl := Option.some.inj ho
          have v0 := (I.val_at (i := 15) (by decide) (hd ⟨15, .data⟩ (by simp) rfl) (.inl rfl) rfl)
          have v1 := (I.val_at (i := 16) (by decide) (hd ⟨16, .data⟩ (by simp) rfl) (.inl rfl) rfl)
          refine wpOp_callW rfl (wgT (c := true) rfl rfl (I.val_at (i := 14) (by decide) (hd ⟨14, .guard⟩ (by simp) rfl) (.inl rfl) rfl) rfl) (run_cl2 rfl rfl (fun v u => enters_of Tryd.func20 (by kernel_rfl) rfl #[v, u] wx)) ?_
          refine (show Calls Tryd.prog 20 #[a.tmps.getD _ undef, a.tmps.getD _ undef] wx _ from ?_)
          rw [v0, v1]
          exact (D5.out wx I.up).mono (by rintro e w' ⟨rfl, hu⟩; exact ⟨_, rfl, (show _ ∧ _ from ⟨rfl, hu⟩)⟩)
        · obtain rfl := Option.some.inj ho
          exact wpOp_valW rfl (wn rfl) (run_pickT rfl (I.val_at (i := 14) (by decide) (hd ⟨14, .data⟩ (by simp) rfl) (.inl rfl) rfl) (I.val_at (i := 17) (by decide) (hd ⟨17, .data⟩ (by simp) rfl) (.inl rfl) rfl)) (show _ ∧ _ from ⟨rfl, be.Up.refl _⟩)
        · obtain rfl := Option.some.inj ho
          exact wpOp_valW rfl (wn rfl) (run_mv rfl (I.val_at (i := 18) (by decide) (hd ⟨18, .data⟩ (by simp) rfl) (.inl rfl) rfl)) (show _ ∧ _ from ⟨rfl, be.Up.refl _⟩)
        · obtain rfl := Option.some.inj ho
          exact wpOp_valW rfl (wgT (c := true) rfl rfl (I.val_at (i := 19) (by decide) (hd ⟨19, .guard⟩ (by simp) rfl) (.inl rfl) rfl) rfl) (run_ldF rfl (show a.tmps.getD 2 undef = _ from (I.oth_at (by kernel_rfl)).trans rfl) (RA.out wx I.up) Tryd.underlying29 rfl RAS.out) (show _ ∧ _ from ⟨rfl, be.Up.refl _⟩)
        · obtain rfl := Option.some.inj ho
          have v0 := (I.val_at (i := 20) (by decide) (hd ⟨20, .data⟩ (by simp) rfl) (.inl rfl) rfl)
          refine wpOp_callW rfl (wgT (c := true) rfl rfl (I.val_at (i := 19) (by decide) (hd ⟨19, .guard⟩ (by simp) rfl) (.inl rfl) rfl) rfl) (run_cl1 rfl rfl (fun v => enters_of Tryd.func21 (by kernel_rfl) rfl #[v] wx)) ?_
          refine (show Calls Tryd.prog 21 #[a.tmps.getD _ undef] wx _ from ?_)
          rw [v0]
          exact (D6.out wx I.up).mono (by rintro e w' ⟨rfl, hu⟩; exact ⟨_, rfl, (show _ ∧ _ from ⟨rfl, hu⟩)⟩)
        · obtain rfl := Option.some.inj ho
          exact wpOp_valW rfl (wgT (c := true) rfl rfl (I.val_at (i := 19) (by decide) (hd ⟨19, .guard⟩ (by simp) rfl) (.inl rfl) rfl) rfl) (run_mv rfl (show a.tmps.getD 5 undef = _ from (I.oth_at (by kernel_rfl)).trans rfl)) (show _ ∧ _ from ⟨rfl, be.Up.refl _⟩)
        · obtain rfl := Option.some.inj ho
          exact wpOp_valW rfl (wgT (c := true) rfl rfl (I.val_at (i := 19) (by decide) (hd ⟨19, .guard⟩ (by simp) rfl) (.inl rfl) rfl) rfl) (run_eqI rfl (I.val_at (i := 21) (by decide) (hd ⟨21, .data⟩ (by simp) rfl) (.inl rfl) rfl) (I.val_at (i := 22) (by decide) (hd ⟨22, .data⟩ (by simp) rfl) (.inl rfl) rfl)) (show _ ∧ _ from ⟨rfl, be.Up.refl _⟩)
        · obtain rfl := Option.some.inj ho
          exact wpOp_valW rfl (wn rfl) (run_pickT rfl (I.val_at (i := 19) (by decide) (hd ⟨19, .data⟩ (by simp) rfl) (.inl rfl) rfl) (I.val_at (i := 23) (by decide) (hd ⟨23, .data⟩ (by simp) rfl) (.inl rfl) rfl)) (show _ ∧ _ from ⟨rfl, be.Up.refl _⟩)
        · obtain rfl := Option.some.inj ho
          exact wpOp_valW rfl (wn rfl) (run_mv rfl (I.val_at (i := 24) (by decide) (hd ⟨24, .data⟩ (by simp) rfl) (.inl rfl) rfl)) (show _ ∧ _ from ⟨rfl, be.Up.refl _⟩)
        · obtain rfl := Option.some.inj ho
          exact wpOp_valW rfl (wgT (c := true) rfl rfl (I.val_at (i := 25) (by decide) (hd ⟨25, .guard⟩ (by simp) rfl) (.inl rfl) rfl) rfl) (run_bd2 rfl rfl rfl) (show _ ∧ _ from ⟨rfl, be.Up.refl _⟩)
        · obtain rfl := Option.some.inj ho
          have v1 := (I.val_at (i := 26) (by decide) (hd ⟨26, .data⟩ (by simp) rfl) (.inl rfl) rfl)
          refine wpOp_callW rfl (wgT (c := true) rfl rfl (I.val_at (i := 25) (by decide) (hd ⟨25, .guard⟩ (by simp) rfl) (.inl rfl) rfl) rfl) (run_cl2 rfl rfl (fun v u => enters_of Tryd.func9 (by kernel_rfl) rfl #[v, u] wx)) ?_
          refine (show Calls Tryd.prog 9 #[.int .i64 1, a.tmps.getD _ undef] wx _ from ?_)
          rw [v1]
          exact (D8.out wx I.up).mono (by rintro e w' ⟨rfl, hu⟩; exact ⟨_, rfl, (show _ ∧ _ from ⟨rfl, hu⟩)⟩)
        · obtain rfl := Option.some.inj ho
          have v0 := (I.val_at (i := 27) (by decide) (hd ⟨27, .data⟩ (by simp) rfl) (.inl rfl) rfl)
          refine wpOp_callW rfl (wgT (c := true) rfl rfl (I.val_at (i := 25) (by decide) (hd ⟨25, .guard⟩ (by simp) rfl) (.inl rfl) rfl) rfl) (run_cl1 rfl rfl (fun v => enters_of Tryd.func21 (by kernel_rfl) rfl #[v] wx)) ?_
          refine (show Calls Tryd.prog 21 #[a.tmps.getD _ undef] wx _ from ?_)
          rw [v0]
          exact (D9.out wx I.up).mono (by rintro e w' ⟨rfl, hu⟩; exact ⟨_, rfl, (show _ ∧ _ from ⟨rfl, hu⟩)⟩)
        · obtain rfl := Option.some.inj ho
          exact wpOp_valW rfl (wgT (c := true) rfl rfl (I.val_at (i := 25) (by decide) (hd ⟨25, .guard⟩ (by simp) rfl) (.inl rfl) rfl) rfl) (run_eqI rfl (I.val_at (i := 28) (by decide) (hd ⟨28, .data⟩ (by simp) rfl) (.inl rfl) rfl) rfl) (show _ ∧ _ from ⟨rfl, be.Up.refl _⟩)
        · obtain rfl := Option.some.inj ho
          exact wpOp_valW rfl (wn rfl) (run_pickT rfl (I.val_at (i := 25) (by decide) (hd ⟨25, .data⟩ (by simp) rfl) (.inl rfl) rfl) (I.val_at (i := 29) (by decide) (hd ⟨29, .data⟩ (by simp) rfl) (.inl rfl) rfl)) (show _ ∧ _ from ⟨rfl, be.Up.refl _⟩)
        · obtain rfl := Option.some.inj ho
          exact wpOp_valW rfl (wn rfl) (run_mv rfl (I.val_at (i := 30) (by decide) (hd ⟨30, .data⟩ (by simp) rfl) (.inl rfl) rfl)) (show _ ∧ _ from ⟨rfl, be.Up.refl _⟩)
        · obtain rfl := Option.some.inj ho
          refine wpOp_callW rfl (wgT (c := true) rfl rfl (I.val_at (i := 31) (by decide) (hd ⟨31, .guard⟩ (by simp) rfl) (.inl rfl) rfl) rfl) (run_cl0 rfl rfl (enters_of Tryd.func14 (by kernel_rfl) rfl #[] wx)) ?_
          refine (show Calls Tryd.prog 14 #[] wx _ from ?_)
          exact (D0.out wx I.up).mono (by rintro e w' ⟨rfl, hu⟩; exact ⟨_, rfl, (show _ ∧ _ from ⟨rfl, hu⟩)⟩)
        · obtain rfl := Option.some.inj ho
          exact wpOp_valW rfl (wn rfl) (run_pickT rfl (I.val_at (i := 31) (by decide) (hd ⟨31, .data⟩ (by simp) rfl) (.inl rfl) rfl) (I.val_at (i := 32) (by decide) (hd ⟨32, .data⟩ (by simp) rfl) (.inl rfl) rfl)) (show _ ∧ _ from ⟨rfl, be.Up.refl _⟩)
        · obtain rfl := Option.some.inj ho
          exact wpOp_valW rfl (wn rfl) (run_as rfl (I.val_at (i := 33) (by decide) (hd ⟨33, .data⟩ (by simp) rfl) (.inl rfl) rfl)) (show _ ∧ _ from ⟨rfl, be.Up.refl _⟩)
    · intro blk listed a' wx I hall
      have fr := I.frameL [(10, (.agg csA.toArray)), (11, (.bool true)), (12, (.agg csA.toArray)), (13, (.bool true)), (14, (.bool true)), (15, (.bool true)), (16, (.agg csA.toArray)), (17, (.agg csB.toArray)), (18, (.bool sr)), (19, (.agg csA.toArray)), (20, (.agg csB.toArray)), (21, (.bool sr)), (22, (.bool true)), (23, (.bool true)), (24, (.bool true)), (25, (.agg csA.toArray)), (26, (.agg csA.toArray)), (27, (.bool true)), (28, (.bool true)), (29, (.bool true)), (30, (.agg csA.toArray)), (31, (.int .i64 q)), (32, (.int .i64 q)), (33, (.bool true)), (34, (.bool true)), (35, (.bool true)), (36, (.agg #[.int .i64 1, .int .i64 1])), (37, V1), (38, (.int .i64 2)), (39, (.bool true)), (40, (.bool true)), (41, (.bool true)), (42, (.bool true)), (43, (.bool true)), (4, (.bool true))] (by
        intro p hp
        simp only [List.mem_cons, List.not_mem_nil, or_false] at hp
        rcases hp with rfl | rfl | rfl | rfl | rfl | rfl | rfl | rfl | rfl | rfl | rfl | rfl | rfl | rfl | rfl | rfl | rfl | rfl | rfl | rfl | rfl | rfl | rfl | rfl | rfl | rfl | rfl | rfl | rfl | rfl | rfl | rfl | rfl | rfl | rfl
        · exact ⟨by simp, I.val_at (i := 0) (by decide) (hall _ (by decide)) (.inl rfl) rfl⟩
        · exact ⟨by simp, I.val_at (i := 1) (by decide) (hall _ (by decide)) (.inl rfl) rfl⟩
        · exact ⟨by simp, I.val_at (i := 2) (by decide) (hall _ (by decide)) (.inl rfl) rfl⟩
        · exact ⟨by simp, I.val_at (i := 3) (by decide) (hall _ (by decide)) (.inl rfl) rfl⟩
        · exact ⟨by simp, I.val_at (i := 4) (by decide) (hall _ (by decide)) (.inl rfl) rfl⟩
        · exact ⟨by simp, I.val_at (i := 5) (by decide) (hall _ (by decide)) (.inl rfl) rfl⟩
        · exact ⟨by simp, I.val_at (i := 6) (by decide) (hall _ (by decide)) (.inl rfl) rfl⟩
        · exact ⟨by simp, I.val_at (i := 7) (by decide) (hall _ (by decide)) (.inl rfl) rfl⟩
        · exact ⟨by simp, I.val_at (i := 8) (by decide) (hall _ (by decide)) (.inl rfl) rfl⟩
        · exact ⟨by simp, I.val_at (i := 9) (by decide) (hall _ (by decide)) (.inl rfl) rfl⟩
        · exact ⟨by simp, I.val_at (i := 10) (by decide) (hall _ (by decide)) (.inl rfl) rfl⟩
        · exact ⟨by simp, I.val_at (i := 11) (by decide) (hall _ (by decide)) (.inl rfl) rfl⟩
        · exact ⟨by simp, I.val_at (i := 12) (by decide) (hall _ (by decide)) (.inl rfl) rfl⟩
        · exact ⟨by simp, I.val_at (i := 13) (by decide) (hall _ (by decide)) (.inl rfl) rfl⟩
        · exact ⟨by simp, I.val_at (i := 14) (by decide) (hall _ (by decide)) (.inl rfl) rfl⟩
        · exact ⟨by simp, I.val_at (i := 15) (by decide) (hall _ (by decide)) (.inl rfl) rfl⟩
        · exact ⟨by simp, I.val_at (i := 16) (by decide) (hall _ (by decide)) (.inl rfl) rfl⟩
        · exact ⟨by simp, I.val_at (i := 17) (by decide) (hall _ (by decide)) (.inl rfl) rfl⟩
        · exact ⟨by simp, I.val_at (i := 18) (by decide) (hall _ (by decide)) (.inl rfl) rfl⟩
        · exact ⟨by simp, I.val_at (i := 19) (by decide) (hall _ (by decide)) (.inl rfl) rfl⟩
        · exact ⟨by simp, I.val_at (i := 20) (by decide) (hall _ (by decide)) (.inl rfl) rfl⟩
        · exact ⟨by simp, I.val_at (i := 21) (by decide) (hall _ (by decide)) (.inl rfl) rfl⟩
        · exact ⟨by simp, I.val_at (i := 22) (by decide) (hall _ (by decide)) (.inl rfl) rfl⟩
        · exact ⟨by simp, I.val_at (i := 23) (by decide) (hall _ (by decide)) (.inl rfl) rfl⟩
        · exact ⟨by simp, I.val_at (i := 24) (by decide) (hall _ (by decide)) (.inl rfl) rfl⟩
        · exact ⟨by simp, I.val_at (i := 25) (by decide) (hall _ (by decide)) (.inl rfl) rfl⟩
        · exact ⟨by simp, I.val_at (i := 26) (by decide) (hall _ (by decide)) (.inl rfl) rfl⟩
        · exact ⟨by simp, I.val_at (i := 27) (by decide) (hall _ (by decide)) (.inl rfl) rfl⟩
        · exact ⟨by simp, I.val_at (i := 28) (by decide) (hall _ (by decide)) (.inl rfl) rfl⟩
        · exact ⟨by simp, I.val_at (i := 29) (by decide) (hall _ (by decide)) (.inl rfl) rfl⟩
        · exact ⟨by simp, I.val_at (i := 30) (by decide) (hall _ (by decide)) (.inl rfl) rfl⟩
        · exact ⟨by simp, I.val_at (i := 31) (by decide) (hall _ (by decide)) (.inl rfl) rfl⟩
        · exact ⟨by simp, I.val_at (i := 32) (by decide) (hall _ (by decide)) (.inl rfl) rfl⟩
        · exact ⟨by simp, I.val_at (i := 33) (by decide) (hall _ (by decide)) (.inl rfl) rfl⟩
        · exact ⟨by simp, I.val_at (i := 34) (by decide) (hall _ (by decide)) (.inl rfl) rfl⟩) (by kernel_rfl)
      have BW := hide (bto BE.out (show Below wz.heap.size wz wx from I.up))
      clear I hall
      subst fr
      dsimp only [setsL, List.set_cons_zero, List.set_cons_succ]
      go_wp2_with fail
      go_ret
      exact ⟨rfl, bto B0.out BW.out⟩
end Go.Proofs.YticgcokhdipomaaDoor.nm
