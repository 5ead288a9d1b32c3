/-
  The law of picks.
-/
import Derived.Test.YtdnnidnghaifgaaDoorMPqC
import Derived.Test.YtdnnidnghaifgaaDoorMNoD
import Derived.Test.YtdnnidnghaifgaaDoorG24
import Derived.Shelf.Abstract
set_option linter.unusedVariables false
set_option linter.unusedSimpArgs false
namespace Go.Proofs.YtdnnidnghaifgaaDoor.nm
open Go.RowKit be

set_option maxRecDepth 100000 in
set_option maxHeartbeats 20000000 in
theorem law_picks (n : Nat) (l : List Fo) (v : Value) (mx : Bool) (w : World) (hN : Nth w) (hT : TabD w) (hl : FM w n v l) : Calls Tryd.prog 4 #[v, .bool mx] w fun e w' => e = .returned (.bool true) ∧ Below w.heap.size w w' := by
  have PUS := hide (pkF_us (mx := mx) (fm_us hl))
  have CZ := hide (zeroR_any w)
  rw [show foV z01 nilS = .agg #[.int .i64 0, .int .i64 1, .int .i64 0, .int .i64 1, .int .i64 0, .int .i64 1, .int .i64 0, .int .i64 1, .int .i64 0, .int .i64 1, .int .i64 0, .int .i64 1, .int .i64 0, .int .i64 1, .slice none 0 0] from rfl] at CZ
  have CL := hide (fun (W : World) (h : Below w.heap.size w W) => allR_any n l v W (FM.low h hl))
  have CR := hide (fun (W : World) (h : Below w.heap.size w W) => pickR_any n mx l v w W hl h)
  have ET := hide (show tkF mx l = if l.all (maF 340) = true then pkF mx l else .mk z01 [] from rfl)
  obtain ⟨UU, hUU0⟩ : ∃ q, (tkF mx l).us = q := ⟨_, rfl⟩
  obtain ⟨PP, hPP0⟩ : ∃ q, (tkF mx l).ps = q := ⟨_, rfl⟩
  obtain ⟨va, vc, rfl, hl9⟩ := FM.shape hl
  replace hUU0 := hide hUU0
  replace hPP0 := hide hPP0
  have HN := hide hN
  have HT := hide hT
  have HL := hide hl
  clear hN hl hT
  go_enter Tryd.func4, Tryd.ntmps4
  go_upto_region 2 with (go_at_call 8; refine CZ.out.mono ?_; rintro e wz ⟨rfl, BZ⟩; replace BZ := hide BZ)
  have FZ := hide (show BF (wz.alloc (.cells #[.int .i64 0, .int .i64 1, .int .i64 0, .int .i64 1, .int .i64 0, .int .i64 1, .int .i64 0, .int .i64 1, .int .i64 0, .int .i64 1, .int .i64 0, .int .i64 1, .int .i64 0, .int .i64 1, .slice none 0 0] 38)) wz.heap.size z01 nilS from Bk.new wz _ _)
  have hbz := hide (show w.heap.size ≤ wz.heap.size from BZ.out.size)
  have BZ2 := hide (show Below w.heap.size w (wz.alloc (.cells #[.int .i64 0, .int .i64 1, .int .i64 0, .int .i64 1, .int .i64 0, .int .i64 1, .int .i64 0, .int .i64 1, .int .i64 0, .int .i64 1, .int .i64 0, .int .i64 1, .int .i64 0, .int .i64 1, .slice none 0 0] 38)) from bplus BZ.out _)
  clear BZ CZ
  generalize wz.alloc (.cells #[.int .i64 0, .int .i64 1, .int .i64 0, .int .i64 1, .int .i64 0, .int .i64 1, .int .i64 0, .int .i64 1, .int .i64 0, .int .i64 1, .int .i64 0, .int .i64 1, .int .i64 0, .int .i64 1, .slice none 0 0] 38) = wy at *
  generalize wz.heap.size = bw at *
  cases hm : l.all (maF 340)
  · rw [hm] at CL ET
    have E2 : tkF mx l = .mk z01 [] := ET.out
    have EU2 : z01 = UU := by rw [← hUU0.out, E2]; rfl
    have EP2 : [] = PP := by rw [← hPP0.out, E2]; rfl
    have HUS := hide (show Us UU by rw [← EU2]; exact zus)
    rw [EU2] at FZ
    clear CR PUS
    go_upto_region 4 with (go_at_call 9; refine (CL.out _ BZ2.out).mono ?_; rintro e wb ⟨rfl, BB⟩; replace BB := hide BB)
    have BF2 := hide (Bk.up FZ.out BB.out)
    have BWB := hide (bto BZ2.out BB.out)
    obtain ⟨u2, hu2⟩ : ∃ u2, nilS = u2 := ⟨_, rfl⟩
    have hp2 : PM wb n u2 PP := by rw [← hu2, ← EP2]; exact .inl ⟨_, _, rfl, rfl⟩
    rw [hu2] at BF2
    clear hm ET E2 EU2 EP2 hu2 FZ BZ2 BB CL
    have HP2 := hide hp2
    obtain ⟨n0, d0, n1, d1, n2, d2, n3, d3, n4, d4, n5, d5, n6, d6, hUU⟩ := us7 HUS.out
    have KW := hide (fun (W : World) (h : Below wb.heap.size wb W) => bxk_15 (show W.heap[bw]? = some (.cells #[.int .i64 n0, .int .i64 d0, .int .i64 n1, .int .i64 d1, .int .i64 n2, .int .i64 d2, .int .i64 n3, .int .i64 d3, .int .i64 n4, .int .i64 d4, .int .i64 n5, .int .i64 d5, .int .i64 n6, .int .i64 d6, u2] 38) from by
      have q := Bk.up BF2.out h
      unfold Bk at q
      rw [hUU] at q
      exact q))
    have CA := hide (fun (W : World) (h : Below wb.heap.size wb W) => (pickN_any n mx l (.slice va l.length vc) W (HN.out.low (bto BWB.out h)) (HT.out.low (bto BWB.out h)) (FM.low (bto BWB.out h) HL.out)).mono (R' := fun e w' => ∃ u1, e = .returned (foV UU u1) ∧ PM w' n u1 PP ∧ Below wb.heap.size wb w') (by rintro e w' ⟨u1, rfl, h2, h3⟩; exact ⟨u1, by rw [hUU0.out], by rw [← hPP0.out]; exact h2, bto h h3⟩))
    have CS := hide (fun (u1 : Value) (W : World) (h1 : PM W n u1 PP) (h2 : Below wb.heap.size wb W) => (saR_all n UU UU PP PP u1 u2 W HUS.out HUS.out h1 ⟨n, PM.low h2 HP2.out⟩).mono (R' := fun e w' => e = .returned (.bool true) ∧ Below wb.heap.size wb w') (by rintro e w' ⟨rfl, h3⟩; exact ⟨by rw [saF_refl], bto h2 h3⟩))
    have CW := hide (fun (W : World) (h : Below wb.heap.size wb W) => (awakeN_any W (HN.out.low (bto BWB.out h))).mono (R' := fun e w' => e = .returned (.bool true) ∧ Below wb.heap.size wb w') (by rintro e w' ⟨rfl, h3⟩; exact ⟨rfl, bto h h3⟩))
    rw [show foV UU u2 = .agg #[.int .i64 n0, .int .i64 d0, .int .i64 n1, .int .i64 d1, .int .i64 n2, .int .i64 d2, .int .i64 n3, .int .i64 d3, .int .i64 n4, .int .i64 d4, .int .i64 n5, .int .i64 d5, .int .i64 n6, .int .i64 d6, u2] by rw [hUU]; rfl] at CS
    have BE := hide (Below.refl wb.heap.size wb)
    have hbw : bw < wb.heap.size := Bk.lt BF2.out
    obtain ⟨⟨f0, f1, f2, f3, f4, f5, f6, f7, f8, f9, f10, f11, f12, f13⟩, f14⟩ := KW.out wb BE.out
    have EVU := fun u1 => show foV UU u1 = .agg (usL UU ++ [u1]).toArray from rfl
    simp only [EVU] at CA CS
    clear hUU hp2 EVU
    generalize usL UU = UL at *
    go_region_with (first
      | (go_at_call 12; refine (CA.out _ (by repeat (first | exact BE.out | (with_reducible refine Below.drew ?_) | (with_reducible refine below_drewN ?_ _) | exact Below.refl _ _))).mono ?_; rintro e w5 ⟨u1, rfl, P1', B5⟩; replace P1' := hide P1'; replace BE := hide B5; obtain ⟨⟨g0, g1, g2, g3, g4, g5, g6, g7, g8, g9, g10, g11, g12, g13⟩, g14⟩ := KW.out w5 B5)
      | (go_at_call 11; refine (CS.out u1 _ (by first | exact P1'.out | exact PM.low (Below.drew (Below.refl _ _)) P1'.out) (by repeat (first | exact BE.out | (with_reducible refine Below.drew ?_) | (with_reducible refine below_drewN ?_ _) | exact Below.refl _ _))).mono ?_; rintro e w6 ⟨rfl, B6⟩; replace BE := hide B6)
      | (go_at_call 13; refine (CW.out _ (by repeat (first | exact BE.out | (with_reducible refine Below.drew ?_) | (with_reducible refine below_drewN ?_ _) | exact Below.refl _ _))).mono ?_; rintro e w7 ⟨rfl, B7⟩; replace BE := hide B7))
    all_goals
      go_wp2_with fail
      go_ret
      exact ⟨rfl, bto BWB.out BE.out⟩
  · rw [hm] at CL ET
    have E2 : tkF mx l = pkF mx l := ET.out
    have E3 : pkF mx l = .mk UU PP := by rw [← E2, ← hUU0.out, ← hPP0.out]; cases tkF mx l; rfl
    have HUS := hide (show Us UU by have q := PUS.out; rw [E3] at q; exact q)
    replace CR := hide (fun (W : World) (h : Below w.heap.size w W) => show Calls Tryd.prog 10 #[.bool mx, .slice va l.length vc] W (fun e w' => ∃ u2, e = .returned (.agg (usL UU ++ [u2]).toArray) ∧ (∀ W' : World, Below w.heap.size w W' → (∀ b, W.heap.size ≤ b → b < w'.heap.size → W'.heap[b]? = w'.heap[b]?) → PM W' n u2 PP) ∧ Below W.heap.size W w') from (by have q := CR.out W h; rw [E3] at q; exact q))
    have OL := hide (fun (q : Value) (h : q.oneCell' = true) => us_one (us := UU) h)
    have LL := hide (fun (q : Value) => fo_len HUS.out q)
    clear PUS
    go_upto_region 4 with (first
      | (go_at_call 9; refine (CL.out _ BZ2.out).mono ?_; rintro e wa ⟨rfl, BA⟩; replace BA := hide BA)
      | (go_at_call 10; refine (CR.out _ (bto BZ2.out BA.out)).mono ?_; rintro e wr ⟨u2, rfl, RP, BR⟩; replace RP := hide RP; have BR0 := hide BR; replace BR := hide (bto BA.out BR))
      | (refine wpList_store_mid rfl 38 (.tmp 5) (.tmp 11) rfl bw 0 (usL UU ++ [u2]).toArray rfl rfl (there_blk (show wr.heap[bw]? = some (.cells (usL z01 ++ [nilS]).toArray 38) from Bk.up FZ.out BR.out) (by rw [List.size_toArray, List.size_toArray, LL.out u2]; rfl)) (by rw [List.size_toArray, LL.out u2]; kernel_rfl) (all_oneCell_toArray (OL.out u2 (pm_one (RP.out wr (bto BZ2.out BR.out) (fun _ _ _ => rfl))))) ?_))
    (try rw [show (usL UU ++ [u2]).toArray.toList = usL UU ++ [u2] from rfl])
    have BF2 := hide (show Bk (wr.setCells bw 0 (usL UU ++ [u2])) bw 38 (usL UU ++ [u2]) by
      have q := Bk.puts (usL UU ++ [u2]) 0 wr _ (Bk.up FZ.out BR.out) (by rw [LL.out u2]; decide)
      rwa [List.take_zero, List.nil_append, Nat.zero_add, List.drop_of_length_le (by rw [LL.out u2]; decide), List.append_nil] at q)
    have hbb : bw < wa.heap.size := Nat.lt_of_lt_of_le (Bk.lt FZ.out) BA.out.size
    have BWB := hide (show Below w.heap.size w (wr.setCells bw 0 (usL UU ++ [u2])) from (bto BZ2.out BR.out).grown (setCells_grown _ _ _ _) (bto BZ2.out BR.out).size (fun k hk => by cases hk; exact hbz.out))
    have hp2 : PM (wr.setCells bw 0 (usL UU ++ [u2])) n u2 PP := RP.out _ BWB.out (fun b h1 h2 => setCells_far b bw 0 (by omega) _ _ _)
    clear hm ET E2 E3 FZ BZ2 BA BR BR0 CL CR OL LL RP
    generalize wr.setCells bw 0 (usL UU ++ [u2]) = wb at *
    have HP2 := hide hp2
    obtain ⟨n0, d0, n1, d1, n2, d2, n3, d3, n4, d4, n5, d5, n6, d6, hUU⟩ := us7 HUS.out
    have KW := hide (fun (W : World) (h : Below wb.heap.size wb W) => bxk_15 (show W.heap[bw]? = some (.cells #[.int .i64 n0, .int .i64 d0, .int .i64 n1, .int .i64 d1, .int .i64 n2, .int .i64 d2, .int .i64 n3, .int .i64 d3, .int .i64 n4, .int .i64 d4, .int .i64 n5, .int .i64 d5, .int .i64 n6, .int .i64 d6, u2] 38) from by
      have q := Bk.up BF2.out h
      unfold Bk at q
      rw [hUU] at q
      exact q))
    have CA := hide (fun (W : World) (h : Below wb.heap.size wb W) => (pickN_any n mx l (.slice va l.length vc) W (HN.out.low (bto BWB.out h)) (HT.out.low (bto BWB.out h)) (FM.low (bto BWB.out h) HL.out)).mono (R' := fun e w' => ∃ u1, e = .returned (foV UU u1) ∧ PM w' n u1 PP ∧ Below wb.heap.size wb w') (by rintro e w' ⟨u1, rfl, h2, h3⟩; exact ⟨u1, by rw [hUU0.out], by rw [← hPP0.out]; exact h2, bto h h3⟩))
    have CS := hide (fun (u1 : Value) (W : World) (h1 : PM W n u1 PP) (h2 : Below wb.heap.size wb W) => (saR_all n UU UU PP PP u1 u2 W HUS.out HUS.out h1 ⟨n, PM.low h2 HP2.out⟩).mono (R' := fun e w' => e = .returned (.bool true) ∧ Below wb.heap.size wb w') (by rintro e w' ⟨rfl, h3⟩; exact ⟨by rw [saF_refl], bto h2 h3⟩))
    have CW := hide (fun (W : World) (h : Below wb.heap.size wb W) => (awakeN_any W (HN.out.low (bto BWB.out h))).mono (R' := fun e w' => e = .returned (.bool true) ∧ Below wb.heap.size wb w') (by rintro e w' ⟨rfl, h3⟩; exact ⟨rfl, bto h h3⟩))
    rw [show foV UU u2 = .agg #[.int .i64 n0, .int .i64 d0, .int .i64 n1, .int .i64 d1, .int .i64 n2, .int .i64 d2, .int .i64 n3, .int .i64 d3, .int .i64 n4, .int .i64 d4, .int .i64 n5, .int .i64 d5, .int .i64 n6, .int .i64 d6, u2] by rw [hUU]; rfl] at CS
    have BE := hide (Below.refl wb.heap.size wb)
    have hbw : bw < wb.heap.size := Bk.lt BF2.out
    obtain ⟨⟨f0, f1, f2, f3, f4, f5, f6, f7, f8, f9, f10, f11, f12, f13⟩, f14⟩ := KW.out wb BE.out
    have EVU := fun u1 => show foV UU u1 = .agg (usL UU ++ [u1]).toArray from rfl
    simp only [EVU] at CA CS
    clear hUU hp2 EVU
    generalize usL UU = UL at *
    go_region_with (first
      | (go_at_call 12; refine (CA.out _ (by repeat (first | exact BE.out | (with_reducible refine Below.drew ?_) | (with_reducible refine below_drewN ?_ _) | exact Below.refl _ _))).mono ?_; rintro e w5 ⟨u1, rfl, P1', B5⟩; replace P1' := hide P1'; replace BE := hide B5; obtain ⟨⟨g0, g1, g2, g3, g4, g5, g6, g7, g8, g9, g10, g11, g12, g13⟩, g14⟩ := KW.out w5 B5)
      | (go_at_call 11; refine (CS.out u1 _ (by first | exact P1'.out | exact PM.low (Below.drew (Below.refl _ _)) P1'.out) (by repeat (first | exact BE.out | (with_reducible refine Below.drew ?_) | (with_reducible refine below_drewN ?_ _) | exact Below.refl _ _))).mono ?_; rintro e w6 ⟨rfl, B6⟩; replace BE := hide B6)
      | (go_at_call 13; refine (CW.out _ (by repeat (first | exact BE.out | (with_reducible refine Below.drew ?_) | (with_reducible refine below_drewN ?_ _) | exact Below.refl _ _))).mono ?_; rintro e w7 ⟨rfl, B7⟩; replace BE := hide B7))
    all_goals
      go_wp2_with fail
      go_ret
      exact ⟨rfl, bto BWB.out BE.out⟩
end Go.Proofs.YtdnnidnghaifgaaDoor.nm
