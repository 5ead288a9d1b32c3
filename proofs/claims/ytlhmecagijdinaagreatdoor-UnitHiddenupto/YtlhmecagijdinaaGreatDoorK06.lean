/-
  A context as a row reads it; the two variables that are nothing.
  The law of what a form does not use.
-/
import Derived.Test.YtlhmecagijdinaaGreatDoorH11
import Derived.Test.YtlhmecagijdinaaGreatDoorK01
import Derived.Test.YtlhmecagijdinaaGreatDoorK05
import Derived.Test.YtlhmecagijdinaaGreatDoorQ01
set_option linter.unusedVariables false
set_option linter.unusedSimpArgs false
namespace Go.Proofs.YtlhmecagijdinaaGreatDoor.rowg
open Go.ChangeShapes Go.WideShapes Go.ChangeAt Go.RowKit Go.Joins
open Go.ChangeMaps (open_string shut_string)
open Go.Proofs.YtlhmecagijdinaaGreatDoor.nm
theorem cCx : Tryz.prog.cellsOf 45 = 12 := by kernel_rfl
set_option maxRecDepth 100000 in
/-- A context that comes in. -/
theorem ctx_open {H : Type} {enc : TypeId × Value → H} {W : World} {base : Nat} {held : Bool} {v : Value} {x : DataW H} {p : List MemPlace} (hv : Value.okWide Tryz.prog W .any base 45 v) (h : DataW.Trod enc Tryz.prog W 0 (fun _ => true) held 45 v x p) :
    ∃ cs : List (Int × Int), v = cxV cs ∧ cs.length = 6 ∧ ∀ r ∈ cs, R64 r := by
  obtain ⟨cs, rfl, hsz⟩ := okWide_struct Tryz.underlying45 hv
  obtain ⟨fuel, hf⟩ := h
  have hf2 : DataW.trod enc Tryz.prog W 0 (fun _ => true) held fuel 45 cs.toList = some (x, p) := by simpa [Value.cells] using hf
  obtain ⟨xs, k', _, hx', hc, hl', hq⟩ := DataW.trod_struct Tryz.underlying45 hf2
  rw [cCx] at hc
  obtain ⟨l⟩ := cs
  match l, hc, xs, hl' with
  | [c0, c1, c2, c3, c4, c5, c6, c7, c8, c9, c10, c11], _, [y0, y1, y2, y3, y4, y5], _ =>
    have q0' : DataW.trod enc Tryz.prog W 0 (fun _ => true) held k' 23 (([c0, c1, c2, c3, c4, c5, c6, c7, c8, c9, c10, c11].drop 0).take (Tryz.prog.cellsOf 23)) = some y0 := hq 0 _ rfl
    have q1' : DataW.trod enc Tryz.prog W 0 (fun _ => true) held k' 23 (([c0, c1, c2, c3, c4, c5, c6, c7, c8, c9, c10, c11].drop 2).take (Tryz.prog.cellsOf 23)) = some y1 := hq 1 _ rfl
    have q2' : DataW.trod enc Tryz.prog W 0 (fun _ => true) held k' 23 (([c0, c1, c2, c3, c4, c5, c6, c7, c8, c9, c10, c11].drop 4).take (Tryz.prog.cellsOf 23)) = some y2 := hq 2 _ rfl
    have q3' : DataW.trod enc Tryz.prog W 0 (fun _ => true) held k' 23 (([c0, c1, c2, c3, c4, c5, c6, c7, c8, c9, c10, c11].drop 6).take (Tryz.prog.cellsOf 23)) = some y3 := hq 3 _ rfl
    have q4' : DataW.trod enc Tryz.prog W 0 (fun _ => true) held k' 23 (([c0, c1, c2, c3, c4, c5, c6, c7, c8, c9, c10, c11].drop 8).take (Tryz.prog.cellsOf 23)) = some y4 := hq 4 _ rfl
    have q5' : DataW.trod enc Tryz.prog W 0 (fun _ => true) held k' 23 (([c0, c1, c2, c3, c4, c5, c6, c7, c8, c9, c10, c11].drop 10).take (Tryz.prog.cellsOf 23)) = some y5 := hq 5 _ rfl
    rw [cR] at q0' q1' q2' q3' q4' q5'
    obtain ⟨n0, e0, h0, a0, b0, -⟩ := rat_cells q0'
    obtain ⟨n1, e1, h1, a1, b1, -⟩ := rat_cells q1'
    obtain ⟨n2, e2, h2, a2, b2, -⟩ := rat_cells q2'
    obtain ⟨n3, e3, h3, a3, b3, -⟩ := rat_cells q3'
    obtain ⟨n4, e4, h4, a4, b4, -⟩ := rat_cells q4'
    obtain ⟨n5, e5, h5, a5, b5, -⟩ := rat_cells q5'
    simp at h0 h1 h2 h3 h4 h5
    obtain ⟨rfl, rfl⟩ := h0
    obtain ⟨rfl, rfl⟩ := h1
    obtain ⟨rfl, rfl⟩ := h2
    obtain ⟨rfl, rfl⟩ := h3
    obtain ⟨rfl, rfl⟩ := h4
    obtain ⟨rfl, rfl⟩ := h5
    refine ⟨[(n0, e0), (n1, e1), (n2, e2), (n3, e3), (n4, e4), (n5, e5)], rfl, rfl, ?_⟩
    intro r hr
    simp at hr
    rcases hr with rfl | rfl | rfl | rfl | rfl | rfl
    · exact ⟨a0, b0⟩
    · exact ⟨a1, b1⟩
    · exact ⟨a2, b2⟩
    · exact ⟨a3, b3⟩
    · exact ⟨a4, b4⟩
    · exact ⟨a5, b5⟩
set_option maxRecDepth 100000 in
theorem nthU_fourth {W : World} {a1 a2 a3 : String × DataW Unit} {r : List (String × DataW Unit)}
    (h : laidMet Tryz.prog (a1 :: a2 :: a3 :: ("jalousie/unit.nothing", Rows.laid_jalousie_unit_nothing) :: r) W) : NthU W := by
  obtain ⟨ps, hL, _⟩ := h
  obtain ⟨_, _, _, _, _, q1, _, _, _, _, hL, _⟩ := hL
  obtain ⟨_, _, _, _, _, q2, _, _, _, _, hL, _⟩ := hL
  obtain ⟨_, _, _, _, _, q3, _, _, _, _, hL, _⟩ := hL
  obtain ⟨g', t', cs, fuel, p, q, hg', ht', hvar, hd, _, _⟩ := hL
  have hg : Tryz.prog.globalNamed "jalousie/unit.nothing" = some 1 := by kernel_rfl
  have hty : (Tryz.prog.globals[1]?).map (·.type) = some 23 := by kernel_rfl
  obtain rfl := Option.some.inj (hg.symm.trans hg')
  obtain rfl := Option.some.inj (hty.symm.trans ht')
  have hd' : DataW.trod (fun _ => ()) Tryz.prog W 0 (fun _ => true) false fuel 23 cs.toList = some (Rows.laid_jalousie_unit_nothing, p) := hd
  obtain ⟨ys, m2, _, hy, hc, hl2, hq2⟩ := DataW.trod_struct Tryz.underlying23 hd'
  obtain ⟨n, e, hcs, -, -, -⟩ := rat_cells hd'
  match ys, hl2 with
  | [u0, u1], _ =>
    have r0' : DataW.trod (fun _ => ()) Tryz.prog W 0 (fun _ => true) false m2 2 ((cs.toList.drop 0).take (Tryz.prog.cellsOf 2)) = some u0 := hq2 0 _ rfl
    have r1' : DataW.trod (fun _ => ()) Tryz.prog W 0 (fun _ => true) false m2 2 ((cs.toList.drop 1).take (Tryz.prog.cellsOf 2)) = some u1 := hq2 1 _ rfl
    rw [cL, hcs] at r0' r1'
    obtain ⟨n', en, rfl, wn⟩ := DataW.trod_int Tryz.underlying2 r0'
    obtain ⟨e', ee, rfl, we⟩ := DataW.trod_int Tryz.underlying2 r1'
    simp at en ee
    subst en ee
    have hD : (Rows.laid_jalousie_unit_nothing : DataW Unit) = .agg [.lit (.int .i64 n), .lit (.int .i64 e)] := by simpa using congrArg Prod.fst hy
    simp [Rows.laid_jalousie_unit_nothing] at hD
    obtain ⟨rfl, rfl⟩ := hD
    have e0 := World.var?_cell hg hvar 0
    have e1 := World.var?_cell hg hvar 1
    have hca : cs = #[.int .i64 0, .int .i64 1] := by rw [← Array.toArray_toList (xs := cs), hcs]
    subst hca
    exact ⟨World.block_lt_of_cell? _ _ (show W.cell? ⟨1, 0, none⟩ = some (.int .i64 0) from e0), e0, e1⟩
end Go.Proofs.YtlhmecagijdinaaGreatDoor.rowg
set_option linter.unusedVariables false
set_option linter.unusedSimpArgs false
namespace Go.Proofs.YtlhmecagijdinaaGreatDoor.nm
open Go.RowKit cc be

theorem and_one64 (n : Int) : bits .and .i64 n 1 = n % 2 := by
  have h1 : (BitVec.ofInt 64 1).toNat = 2 ^ 1 - 1 := by decide
  have key : (BitVec.ofInt 64 n &&& BitVec.ofInt 64 1).toNat = (n % ((2 ^ 64 : Nat) : Int)).toNat % 2 ^ 1 := by
    rw [BitVec.toNat_and, BitVec.toNat_ofInt, h1, Nat.and_two_pow_sub_one_eq_mod]
  show IntKind.i64.wrap ((BitVec.ofInt 64 n &&& BitVec.ofInt 64 1).toNat : Nat) = n % 2
  rw [key, IntKind.wrap_i64]
  omega
theorem bit_test (N b : Nat) (p : Int) (hp : p = 2 ^ b) : (bits .and .i64 ((N : Int) / p) 1 == 1) = N.testBit b := by
  rw [and_one64, tb_div, hp]
  generalize (N : Int) / 2 ^ b = q
  by_cases h : q % 2 = 1
  · rw [decide_eq_true h, h]; rfl
  · rw [decide_eq_false h]; simpa using h
def kdUh (csF csA csM : List Value) (X : Int × Int) : Nat → Kd
  | 0 => .val (.agg csF.toArray)
  | 1 => .val (.agg csA.toArray)
  | 2 => .val (.agg #[.int .i64 X.1, .int .i64 X.2])
  | 3 => .val (.agg csF.toArray)
  | 4 => .val (.agg csM.toArray)
  | 5 => .val (.agg #[.int .i64 X.1, .int .i64 X.2])
  | _ => .val (.bool true)
set_option maxRecDepth 100000 in
set_option maxHeartbeats 20000000 in
theorem law_hidden (x : Ex) (u : Value) (cs ds : List (Int × Int)) (w : World) (hN : Nth w) (hM : NthU w) (hx : OkX x) (hu : EM w u x.ks) (hsz : szE x ≤ 200000000) (hcs : cs.length = 6) (h64 : ∀ r ∈ cs, R64 r) (hds : ds.length = 6) (d64 : ∀ r ∈ ds, R64 r) : Calls Tryz.prog 6 #[exV x u, cxV cs, cxV ds] w fun e w' => e = .returned (.bool true) ∧ Below w.heap.size w w' := by
  have C2 := hide (fun (W : World) (h : Below w.heap.size w W) => kindR_any x u W hx.ok (hu.low h))
  have C3 := hide (fun (W : World) (h : Below w.heap.size w W) (h1 : exM x 340 = true) (h2 : kdE x = 2) => formR_all _ x 340 u W (Nat.le_refl _) hsz hx h1 h2 (hu.low h))
  have HN := hide hN
  have HM := hide hM
  have KC := kd_cases x
  have CLc : (usL cs).length = 12 := by rw [usL_len, hcs]
  have CLd : (usL ds).length = 12 := by rw [usL_len, hds]
  obtain ⟨a, c, rfl, hl9⟩ := hu.shape
  unfold cxV
  obtain ⟨ca, hca⟩ : ∃ q : Array Value, (usL cs).toArray = q := ⟨_, rfl⟩
  obtain ⟨da, hda⟩ : ∃ q : Array Value, (usL ds).toArray = q := ⟨_, rfl⟩
  rw [hca, hda]
  obtain ⟨W1, hW1⟩ : ∃ W1, ((w.alloc (.cells #[.int .i64 x.k, .int .i64 x.n, .int .i64 x.d, .int .i64 x.u, .slice a x.ks.length c] 26)).alloc (.cells ca 45)).alloc (.cells da 45) = W1 := ⟨_, rfl⟩
  have B0 := hide (show Below w.heap.size w W1 by rw [← hW1]; exact bplus (bplus (bplus (Below.refl _ _) _) _) _)
  have P0 := hide (show Bk W1 w.heap.size 26 [.int .i64 x.k, .int .i64 x.n, .int .i64 x.d, .int .i64 x.u, .slice a x.ks.length c] by rw [← hW1]; exact (three_blk w _ _ _).1)
  have P1 := hide (show Bk W1 (w.heap.size + 1) 45 (usL cs) by unfold Bk; rw [hca, ← hW1]; exact (three_blk w _ _ _).2.1)
  have P2 := hide (show Bk W1 (w.heap.size + 2) 45 (usL ds) by unfold Bk; rw [hda, ← hW1]; exact (three_blk w _ _ _).2.2)
  have sca : ca.size = 12 := by rw [← hca, List.size_toArray]; exact CLc
  have sda : da.size = 12 := by rw [← hda, List.size_toArray]; exact CLd
  have HW1 := hide hW1
  have HCA := hide hca
  unfold exV at C2 C3 ⊢
  generalize fmE x 340 = FE at *
  generalize kdT x = kt at *
  generalize kdX x = kx at *
  generalize exM x 340 = em at *
  generalize kdE x = ke at *
  generalize x.k = xk at *
  generalize x.n = xn at *
  generalize x.d = xd at *
  generalize x.u = xu at *
  generalize x.ks.length = xl at *
  obtain ⟨a0, a1, a2, a3, a4⟩ := bxk_5m P0.out
  have KE := hide (fun (W : World) (h : Below W1.heap.size W1 W) => bxk_5m (Bk.up P0.out h))
  have hw3 : w.heap.size + 2 < W1.heap.size := Bk.lt P2.out
  clear hW1 hN hM hu hx hsz hca hda
  rcases KC with ⟨h1, h2, h3, h4 | h4⟩ | ⟨h1, h2⟩ | ⟨h1, h2⟩
  rotate_left
  · subst h1 h2 h4 h3
    obtain ⟨FU, FP⟩ := FE
    replace C3 := hide (fun (W : World) (h : Below w.heap.size w W) => show Calls Tryz.prog 12 #[.agg #[.int .i64 xk, .int .i64 xn, .int .i64 xd, .int .i64 xu, .slice a xl c]] W fun e w' => ∃ v, e = .returned (.agg (usL FU ++ [v]).toArray) ∧ Us FU ∧ PM (cutW W.heap.size w') 680 v FP ∧ Below W.heap.size W w' from C3.out W h rfl rfl)
    go_enter Tryz.func6, Tryz.ntmps6
    go_upto_region 1 with fail
    rw [HW1.out]
    clear HW1
    go_upto_region 4 with (go_at_call 9; refine (C2.out _ B0.out).mono ?_; rintro e w1 ⟨rfl, B1⟩; replace B1 := hide B1)
    clear a0 a1 a2 a3 a4
    obtain ⟨a0, a1, a2, a3, a4⟩ := KE.out w1 B1.out
    go_upto_region 5 with (first
      | (go_at_call 12; refine (C3.out _ (bto B0.out B1.out)).mono ?_; rintro e w2 ⟨fu, rfl, UV, PV, B2⟩; replace B2 := hide B2; have LV := hide (fo_len UV fu); have OV := hide (us_one (us := FU) (pm_one PV)); have UVH := hide UV; have PVH := hide PV; clear UV PV)
      | (refine wpList_store_mid rfl 30 (.tmp 9) (.tmp 25) rfl w2.heap.size 0 (usL FU ++ [fu]).toArray rfl rfl (by rw [show (usL FU ++ [fu]).toArray.size = 15 from LV.out]; exact there_blk (heap_alloc_new w2 _) rfl) (by rw [show (usL FU ++ [fu]).toArray.size = 15 from LV.out]; kernel_rfl) (all_oneCell_toArray OV.out) ?_))
    (try rw [show (usL FU ++ [fu]).toArray.toList = usL FU ++ [fu] from rfl])
    obtain ⟨wb, hwb⟩ : ∃ wb, (w2.alloc (.cells #[.int .i64 0, .int .i64 0, .int .i64 0, .int .i64 0, .int .i64 0, .int .i64 0, .int .i64 0, .int .i64 0, .int .i64 0, .int .i64 0, .int .i64 0, .int .i64 0, .int .i64 0, .int .i64 0, .slice none 0 0] 30)).setCells w2.heap.size 0 (usL FU ++ [fu]) = wb := ⟨_, rfl⟩
    have B3 := hide (show Below w2.heap.size w2 wb by rw [← hwb]; exact (bplus (Below.refl _ _) _).grown (setCells_grown _ _ _ _) (by simp) (fun k hk => by cases hk; exact Nat.le_refl _))
    have P3 := hide (show Bk wb w2.heap.size 30 (usL FU ++ [fu]) by
      have q := Bk.puts (usL FU ++ [fu]) 0 _ _ (Bk.new w2 30 z15) (by rw [LV.out]; decide)
      rw [List.take_zero, List.nil_append, Nat.zero_add, List.drop_of_length_le (by rw [LV.out]; decide), List.append_nil] at q
      rw [← hwb]
      exact q)
    have HP1 := hide (show PM wb 680 fu FP from PM.low B3.out (pm_sees (cut_sees _ _) PVH.out))
    have BWB := hide (bto B0.out (bto B1.out (bto B2.out B3.out)))
    have BIB := hide (bto B1.out (bto B2.out B3.out))
    (try rw [hwb])
    obtain ⟨fb, hfb⟩ : ∃ fb, w2.heap.size = fb := ⟨_, rfl⟩
    rw [hfb] at P3
    (try rw [hfb])
    have AL := al7_of 680 UVH.out HP1.out
    obtain ⟨N, hNN, hN8, -, -⟩ := usN_all 680 _ AL
    replace hNN : usG 680 FU FP = (N : Int) := hNN
    have UPX := hide (upx_mx (cs := cs) (ds := ds) AL hNN)
    have CU := hide (fun (W : World) (h : Below wb.heap.size wb W) => (usesR_all 680 FU FP fu W (HN.out.low (bto BWB.out h)) UVH.out (PM.low h HP1.out)).mono (R' := fun e w' => e = .returned (.int .i64 (N : Int)) ∧ Below W.heap.size W w') (by rintro e w' ⟨rfl, h3⟩; exact ⟨by rw [hNN], h3⟩))
    have CP := hide (fun (cq : List (Int × Int)) (hq : cq.length = 6) (hq2 : ∀ r ∈ cq, R64 r) (W : World) (h : Below wb.heap.size wb W) => show Calls Tryz.prog 21 #[.agg (usL FU ++ [fu]).toArray, .agg (usL cq).toArray] W fun e w' => e = .returned (ratV (upx 680 cq FU FP)) ∧ Below W.heap.size W w' from pxU_any 680 FU FP fu cq W (HM.out.low (bto BWB.out h)) UVH.out (PM.low h HP1.out) hq hq2)
    have CW := hide (fun (W : World) (h : Below wb.heap.size wb W) => awakeU_any W (HN.out.low (bto BWB.out h)) (HM.out.low (bto BWB.out h)))
    replace CU := hide (fun (W : World) (h : Below wb.heap.size wb W) => show Calls Tryz.prog 20 #[.agg (usL FU ++ [fu]).toArray] W fun e w' => e = .returned (.int .i64 (N : Int)) ∧ Below W.heap.size W w' from CU.out W h)
    have hfbw : fb < wb.heap.size := Bk.lt P3.out
    have hwb0 : w.heap.size + 2 < wb.heap.size := by have := BIB.out.size; omega
    have hfb0 : w.heap.size + 2 < fb := by have := (bto B1.out B2.out).size; omega
    have P1b := hide (Bk.up P1.out BIB.out)
    have P2b := hide (Bk.up P2.out BIB.out)
    clear hwb hfb HP1 AL hNN B1 B2 B3 PVH UVH C2 C3 P0 P1 P2 KE OV a0 a1 a2 a3 a4
    obtain ⟨X, hX⟩ : ∃ X, upx 680 cs FU FP = X := ⟨_, rfl⟩
    have HX := hide hX
    clear hX
    obtain ⟨A, hA⟩ : ∃ A, usL FU ++ [fu] = A := ⟨_, rfl⟩
    rw [hA] at P3 LV CU CP
    clear hA
    have RFf := hide (fun (W : World) (h : Below wb.heap.size wb W) => show W.rangeAt fb 0 A from range_blk (Bk.up P3.out h))
    have FLf := hide (show (Tryz.prog.info? 30).map (·.size) = some A.length by rw [LV.out]; kernel_rfl)
    have BE0 := hide (Below.refl wb.heap.size wb)
    go_upto_region 6 with (first
      | (refine wpList_load_mid rfl 30 (.tmp 9) rfl fb 0 rfl A _ (RFf.out _ BE0.out) Tryz.underlying30 rfl FLf.out ?_)
      | (go_at_call 20; refine (CU.out _ BE0.out).mono ?_; rintro e w3 ⟨rfl, B3⟩; replace B3 := hide B3))
    obtain ⟨CD, hCD⟩ : ∃ q, usL ds = q := ⟨_, rfl⟩
    have LD : CD.length = 12 := by rw [← hCD]; exact CLd
    have LDh := hide LD
    have ODh := hide (show ∀ v ∈ CD, v.oneCell' = true by rw [← hCD]; exact usL_cell ds)
    have RD := hide (show w3.rangeAt (w.heap.size + 2) 0 CD from by rw [← hCD]; exact range_blk (Bk.up P2b.out B3.out))
    have FLd := hide (show (Tryz.prog.info? 45).map (·.size) = some CD.length by rw [LD]; kernel_rfl)
    go_upto_region 7 with (first
      | (refine wpList_load_mid rfl 45 (.tmp 5) rfl (w.heap.size + 2) 0 rfl CD _ RD.out Tryz.underlying45 rfl FLd.out ?_)
      | (refine wpList_store_mid rfl 45 (.tmp 11) (.tmp 28) rfl w3.heap.size 0 CD.toArray rfl rfl (by rw [show CD.toArray.size = 12 from LDh.out]; exact there_blk (heap_alloc_new w3 _) rfl) (by rw [show CD.toArray.size = 12 from LDh.out]; kernel_rfl) (all_oneCell_toArray ODh.out) ?_))
    (try rw [show CD.toArray.toList = CD from rfl])
    obtain ⟨wa, hwa⟩ : ∃ wa, (w3.alloc (.cells #[.int .i64 0, .int .i64 0, .int .i64 0, .int .i64 0, .int .i64 0, .int .i64 0, .int .i64 0, .int .i64 0, .int .i64 0, .int .i64 0, .int .i64 0, .int .i64 0] 45)).setCells w3.heap.size 0 CD = wa := ⟨_, rfl⟩
    have B4 := hide (show Below w3.heap.size w3 wa by rw [← hwa]; exact (bplus (Below.refl _ _) _).grown (setCells_grown _ _ _ _) (by simp) (fun k hk => by cases hk; exact Nat.le_refl _))
    have Q0 := hide (show Bk wa w3.heap.size 45 (usL (mxC N 0 cs ds)) by
      have q := Bk.puts CD 0 _ _ (Bk.new w3 45 [.int .i64 0, .int .i64 0, .int .i64 0, .int .i64 0, .int .i64 0, .int .i64 0, .int .i64 0, .int .i64 0, .int .i64 0, .int .i64 0, .int .i64 0, .int .i64 0]) (by rw [LD]; decide)
      rw [List.take_zero, List.nil_append, Nat.zero_add, List.drop_of_length_le (by rw [LD]; decide), List.append_nil] at q
      rw [mxC_zero hds, hCD, ← hwa]
      exact q)
    (try rw [hwa])
    obtain ⟨tb, htb⟩ : ∃ tb, w3.heap.size = tb := ⟨_, rfl⟩
    rw [htb] at Q0
    (try rw [htb])
    have BAW := hide (show Below wb.heap.size wb wa from bto B3.out B4.out)
    have htb0 : wb.heap.size ≤ tb := by have := B3.out.size; omega
    have BQ0 := hide (Below.refl tb wa)
    have P1c := hide (Bk.up P1b.out BAW.out)
    have kc := fun (i : Nat) (hi : i < 6) => (show ∃ p q, cs[i]? = some (p, q) from ⟨_, _, by rw [List.getElem?_eq_getElem (by omega)]⟩)
    have CX := hide (fun (W : World) (h : Below tb wa W) (i : Nat) (hi : i < 6) => show W.cell? ⟨w.heap.size + 1, i * 2, none⟩ = some (.int .i64 (rAt cs i).1) ∧ W.cell? ⟨w.heap.size + 1, i * 2 + 1, none⟩ = some (.int .i64 (rAt cs i).2) from by
      have hr : cs[i]? = some (rAt cs i) := by unfold rAt; rw [List.getD_eq_getElem?_getD, List.getElem?_eq_getElem (by omega)]; rfl
      obtain ⟨e1, e2⟩ := usL_at (us := cs) (k := i) (n := (rAt cs i).1) (d := (rAt cs i).2) hr
      have P := Bk.low P1c.out h (by omega)
      exact ⟨by rw [Bk.cell P, e1], by rw [Bk.cell P, e2]⟩)
    have TX := hide (fun (W : World) (j i : Nat) (Q : Bk W tb 45 (usL (mxC N j cs ds))) (hi : i < 6) => show (∃ v, W.cell? ⟨tb, i * 2, none⟩ = some v) ∧ (∃ v, W.cell? ⟨tb, i * 2 + 1, none⟩ = some v) ∧ W.frozen? ⟨tb, i * 2, none⟩ = false ∧ W.frozen? ⟨tb, i * 2 + 1, none⟩ = false from by
      have hl : (usL (mxC N j cs ds)).length = 12 := by rw [usL_len, mxC_len]
      exact ⟨⟨_, by rw [Bk.cell Q, List.getElem?_eq_getElem (by omega)]⟩, ⟨_, by rw [Bk.cell Q, List.getElem?_eq_getElem (by omega)]⟩, Bk.fz Q _, Bk.fz Q _⟩)
    have NX := hide (fun (W : World) (j : Nat) (hj : j < 6) (hb : N.testBit (j + 2) = true) (Q : Bk W tb 45 (usL (mxC N j cs ds))) (h : Below tb wa W) => show Bk ((W.setCell ⟨tb, j * 2, none⟩ (.int .i64 (rAt cs j).1)).setCell ⟨tb, j * 2 + 1, none⟩ (.int .i64 (rAt cs j).2)) tb 45 (usL (mxC N (j + 1) cs ds)) ∧ Below tb wa ((W.setCell ⟨tb, j * 2, none⟩ (.int .i64 (rAt cs j).1)).setCell ⟨tb, j * 2 + 1, none⟩ (.int .i64 (rAt cs j).2)) from by
      have q := Bk.put (Bk.put Q (j * 2) (.int .i64 (rAt cs j).1)) (j * 2 + 1) (.int .i64 (rAt cs j).2)
      rw [← usL_set (by rw [mxC_len]; exact hj), show ((mxC N j cs ds).set j ((rAt cs j).1, (rAt cs j).2)) = mxC N (j + 1) cs ds by rw [mxC_next hj, if_pos hb]] at q
      exact ⟨q, (h.setCell (Nat.le_refl _) _).setCell (Nat.le_refl _) _⟩)
    have NO := hide (fun (W : World) (j : Nat) (hj : j < 6) (hb : N.testBit (j + 2) = false) (Q : Bk W tb 45 (usL (mxC N j cs ds))) => show Bk W tb 45 (usL (mxC N (j + 1) cs ds)) from by
      rw [mxC_next hj, if_neg (by rw [hb]; decide)]
      exact Q)
    clear hwa htb kc P1b P2b RD hCD BE0 B3 B4
    have QJ := Q0
    have BJ := BQ0
    clear Q0 BQ0
    obtain ⟨wc, hwc⟩ : ∃ wc, wc = wa := ⟨_, rfl⟩
    rw [← hwc] at QJ BJ
    have BJ2 := hide (show Below tb wa wc from by rw [hwc]; exact Below.refl _ _)
    (try rw [← hwc])
    clear hwc
    go_upto_if 32 with fail
    go_cut [] (fun wx => Hid (Bk wx tb 45 (usL (mxC N 1 cs ds))) ∧ Hid (Below tb wa wx))
    case first =>
      cases hb : N.testBit 2
      · have tt : (bits .and .i64 ((N : Int) / 4) 1 == 1) = false := (bit_test N 2 4 (by decide)).trans hb
        have QN := hide (NO.out _ 0 (by decide) hb QJ.out)
        clear hb
        go_wp2
        go_meet
        case rel => exact ⟨QN, BJ2⟩
      · have tt : (bits .and .i64 ((N : Int) / 4) 1 == 1) = true := (bit_test N 2 4 (by decide)).trans hb
        have QN := hide (NX.out _ 0 (by decide) hb QJ.out BJ2.out)
        obtain ⟨e1, e2⟩ := (show _ ∧ _ from CX.out _ BJ2.out 0 (by decide))
        obtain ⟨⟨v1, g1⟩, ⟨v2, g2⟩, z1, z2⟩ := (show _ ∧ _ ∧ _ ∧ _ from TX.out _ 0 0 QJ.out (by decide))
        simp only [Nat.reduceMul, Nat.reduceAdd] at e1 e2 g1 g2 z1 z2 QN
        clear hb
        go_wp2
        go_meet
        case rel => exact ⟨hide QN.out.1, hide QN.out.2⟩
    case rest =>
      clear QJ BJ2 BJ
      obtain ⟨QJ, BJ2⟩ := hcut
      go_upto_if 39 with fail
      go_cut [] (fun wx => Hid (Bk wx tb 45 (usL (mxC N 2 cs ds))) ∧ Hid (Below tb wa wx))
      case first =>
        cases hb : N.testBit 3
        · have tt : (bits .and .i64 ((N : Int) / 8) 1 == 1) = false := (bit_test N 3 8 (by decide)).trans hb
          have QN := hide (NO.out _ 1 (by decide) hb QJ.out)
          clear hb
          go_wp2
          go_meet
          case rel => exact ⟨QN, BJ2⟩
        · have tt : (bits .and .i64 ((N : Int) / 8) 1 == 1) = true := (bit_test N 3 8 (by decide)).trans hb
          have QN := hide (NX.out _ 1 (by decide) hb QJ.out BJ2.out)
          obtain ⟨e1, e2⟩ := (show _ ∧ _ from CX.out _ BJ2.out 1 (by decide))
          obtain ⟨⟨v1, g1⟩, ⟨v2, g2⟩, z1, z2⟩ := (show _ ∧ _ ∧ _ ∧ _ from TX.out _ 1 1 QJ.out (by decide))
          simp only [Nat.reduceMul, Nat.reduceAdd] at e1 e2 g1 g2 z1 z2 QN
          clear hb
          go_wp2
          go_meet
          case rel => exact ⟨hide QN.out.1, hide QN.out.2⟩
      case rest =>
        clear QJ BJ2
        obtain ⟨QJ, BJ2⟩ := hcut
        go_upto_if 46 with fail
        go_cut [] (fun wx => Hid (Bk wx tb 45 (usL (mxC N 3 cs ds))) ∧ Hid (Below tb wa wx))
        case first =>
          cases hb : N.testBit 4
          · have tt : (bits .and .i64 ((N : Int) / 16) 1 == 1) = false := (bit_test N 4 16 (by decide)).trans hb
            have QN := hide (NO.out _ 2 (by decide) hb QJ.out)
            clear hb
            go_wp2
            go_meet
            case rel => exact ⟨QN, BJ2⟩
          · have tt : (bits .and .i64 ((N : Int) / 16) 1 == 1) = true := (bit_test N 4 16 (by decide)).trans hb
            have QN := hide (NX.out _ 2 (by decide) hb QJ.out BJ2.out)
            obtain ⟨e1, e2⟩ := (show _ ∧ _ from CX.out _ BJ2.out 2 (by decide))
            obtain ⟨⟨v1, g1⟩, ⟨v2, g2⟩, z1, z2⟩ := (show _ ∧ _ ∧ _ ∧ _ from TX.out _ 2 2 QJ.out (by decide))
            simp only [Nat.reduceMul, Nat.reduceAdd] at e1 e2 g1 g2 z1 z2 QN
            clear hb
            go_wp2
            go_meet
            case rel => exact ⟨hide QN.out.1, hide QN.out.2⟩
        case rest =>
          clear QJ BJ2
          obtain ⟨QJ, BJ2⟩ := hcut
          go_upto_if 53 with fail
          go_cut [] (fun wx => Hid (Bk wx tb 45 (usL (mxC N 4 cs ds))) ∧ Hid (Below tb wa wx))
          case first =>
            cases hb : N.testBit 5
            · have tt : (bits .and .i64 ((N : Int) / 32) 1 == 1) = false := (bit_test N 5 32 (by decide)).trans hb
              have QN := hide (NO.out _ 3 (by decide) hb QJ.out)
              clear hb
              go_wp2
              go_meet
              case rel => exact ⟨QN, BJ2⟩
            · have tt : (bits .and .i64 ((N : Int) / 32) 1 == 1) = true := (bit_test N 5 32 (by decide)).trans hb
              have QN := hide (NX.out _ 3 (by decide) hb QJ.out BJ2.out)
              obtain ⟨e1, e2⟩ := (show _ ∧ _ from CX.out _ BJ2.out 3 (by decide))
              obtain ⟨⟨v1, g1⟩, ⟨v2, g2⟩, z1, z2⟩ := (show _ ∧ _ ∧ _ ∧ _ from TX.out _ 3 3 QJ.out (by decide))
              simp only [Nat.reduceMul, Nat.reduceAdd] at e1 e2 g1 g2 z1 z2 QN
              clear hb
              go_wp2
              go_meet
              case rel => exact ⟨hide QN.out.1, hide QN.out.2⟩
          case rest =>
            clear QJ BJ2
            obtain ⟨QJ, BJ2⟩ := hcut
            go_upto_if 60 with fail
            go_cut [] (fun wx => Hid (Bk wx tb 45 (usL (mxC N 5 cs ds))) ∧ Hid (Below tb wa wx))
            case first =>
              cases hb : N.testBit 6
              · have tt : (bits .and .i64 ((N : Int) / 64) 1 == 1) = false := (bit_test N 6 64 (by decide)).trans hb
                have QN := hide (NO.out _ 4 (by decide) hb QJ.out)
                clear hb
                go_wp2
                go_meet
                case rel => exact ⟨QN, BJ2⟩
              · have tt : (bits .and .i64 ((N : Int) / 64) 1 == 1) = true := (bit_test N 6 64 (by decide)).trans hb
                have QN := hide (NX.out _ 4 (by decide) hb QJ.out BJ2.out)
                obtain ⟨e1, e2⟩ := (show _ ∧ _ from CX.out _ BJ2.out 4 (by decide))
                obtain ⟨⟨v1, g1⟩, ⟨v2, g2⟩, z1, z2⟩ := (show _ ∧ _ ∧ _ ∧ _ from TX.out _ 4 4 QJ.out (by decide))
                simp only [Nat.reduceMul, Nat.reduceAdd] at e1 e2 g1 g2 z1 z2 QN
                clear hb
                go_wp2
                go_meet
                case rel => exact ⟨hide QN.out.1, hide QN.out.2⟩
            case rest =>
              clear QJ BJ2
              obtain ⟨QJ, BJ2⟩ := hcut
              go_upto_if 67 with fail
              go_cut [] (fun wx => Hid (Bk wx tb 45 (usL (mxC N 6 cs ds))) ∧ Hid (Below tb wa wx))
              case first =>
                cases hb : N.testBit 7
                · have tt : (bits .and .i64 ((N : Int) / 128) 1 == 1) = false := (bit_test N 7 128 (by decide)).trans hb
                  have QN := hide (NO.out _ 5 (by decide) hb QJ.out)
                  clear hb
                  go_wp2
                  go_meet
                  case rel => exact ⟨QN, BJ2⟩
                · have tt : (bits .and .i64 ((N : Int) / 128) 1 == 1) = true := (bit_test N 7 128 (by decide)).trans hb
                  have QN := hide (NX.out _ 5 (by decide) hb QJ.out BJ2.out)
                  obtain ⟨e1, e2⟩ := (show _ ∧ _ from CX.out _ BJ2.out 5 (by decide))
                  obtain ⟨⟨v1, g1⟩, ⟨v2, g2⟩, z1, z2⟩ := (show _ ∧ _ ∧ _ ∧ _ from TX.out _ 5 5 QJ.out (by decide))
                  simp only [Nat.reduceMul, Nat.reduceAdd] at e1 e2 g1 g2 z1 z2 QN
                  clear hb
                  go_wp2
                  go_meet
                  case rel => exact ⟨hide QN.out.1, hide QN.out.2⟩
              case rest =>
                clear QJ BJ2
                obtain ⟨QJ, BJ2⟩ := hcut
                have BJW := hide (show Below wb.heap.size wb wc from BAW.out.trans (BJ2.out.mono htb0))
                have BWC := hide (show Below w.heap.size w wc from bto BWB.out BJW.out)
                have C1 := hide (fun (W : World) (h : Below wc.heap.size wc W) => show Calls Tryz.prog 21 #[.agg A.toArray, .agg (usL cs).toArray] W fun e w' => e = .returned (.agg #[.int .i64 X.1, .int .i64 X.2]) ∧ be.Up W w' from by have q := CP.out cs hcs h64 W (bto BJW.out h); rw [HX.out] at q; exact q)
                have C4 := hide (fun (W : World) (h : Below wc.heap.size wc W) => show Calls Tryz.prog 21 #[.agg A.toArray, .agg (usL (mxC N 6 cs ds)).toArray] W fun e w' => e = .returned (.agg #[.int .i64 X.1, .int .i64 X.2]) ∧ be.Up W w' from by have q := CP.out (mxC N 6 cs ds) (mxC_len _ _ _ _) (mxC_64 h64 d64) W (bto BJW.out h); rw [UPX.out, HX.out] at q; exact q)
                have CA := hide (fun (W : World) (h : Below wc.heap.size wc W) => show Calls Tryz.prog 19 #[] W fun e w' => e = .returned (.bool true) ∧ be.Up W w' from CW.out W (bto BJW.out h))
                have RF := hide (fun (W : World) (h : Below wc.heap.size wc W) => RFf.out W (bto BJW.out h))
                have RC := hide (fun (W : World) (h : Below wc.heap.size wc W) => show W.rangeAt (w.heap.size + 1) 0 (usL cs) from range_blk (Bk.up (Bk.low P1c.out BJ2.out (by omega)) h))
                have RM := hide (fun (W : World) (h : Below wc.heap.size wc W) => show W.rangeAt tb 0 (usL (mxC N 6 cs ds)) from range_blk (Bk.up QJ.out h))
                have LCC := hide (show (Tryz.prog.info? 45).map (·.size) = some (usL cs).length by rw [CLc]; kernel_rfl)
                have LCM := hide (show (Tryz.prog.info? 45).map (·.size) = some (usL (mxC N 6 cs ds)).length by rw [usL_len, mxC_len]; kernel_rfl)
                generalize usL cs = CC at *
                generalize usL (mxC N 6 cs ds) = CM at *
                clear CP CX TX NX NO QJ BJ2 UPX HX CW RFf P1c CU
                go_upto_region 19 with fail
                refine wp_region_kdQ (by kernel_rfl) (kdUh A CC CM X) (Stat.of (by kernel_rfl)) (acy_of (by kernel_rfl)) ?_ ?_
                · as_aux_lemma =>
                    intro Q' i o ho blk listed a wx I hd
                    have hi : i < 11 := (Array.getElem?_eq_some_iff.1 ho).1
                    rcases (show i = 0 ∨ i = 1 ∨ i = 2 ∨ i = 3 ∨ i = 4 ∨ i = 5 ∨ i = 6 ∨ i = 7 ∨ i = 8 ∨ i = 9 ∨ i = 10 by omega) with rfl | rfl | rfl | rfl | rfl | rfl | rfl | rfl | rfl | rfl | rfl
                    · obtain rfl := Option.some.inj ho
                      exact wpOp_valW rfl (wn rfl) (run_ldF rfl (show a.tmps.getD 9 undef = _ from (I.oth_at (by kernel_rfl)).trans rfl) (RF.out wx I.up) Tryz.underlying30 rfl FLf.out) (show _ ∧ _ from ⟨rfl, be.Up.refl _⟩)
                    · obtain rfl := Option.some.inj ho
                      exact wpOp_valW rfl (wn rfl) (run_ldF rfl (show a.tmps.getD 4 undef = _ from (I.oth_at (by kernel_rfl)).trans rfl) (RC.out wx I.up) Tryz.underlying45 rfl LCC.out) (show _ ∧ _ from ⟨rfl, be.Up.refl _⟩)
                    · obtain rfl := Option.some.inj ho
                      have v0 := (I.val_at (i := 0) (by decide) (hd ⟨0, .data⟩ (by simp) rfl) (.inl rfl) rfl)
                      have v1 := (I.val_at (i := 1) (by decide) (hd ⟨1, .data⟩ (by simp) rfl) (.inl rfl) rfl)
                      refine wpOp_callW rfl (wn rfl) (run_cl2 rfl rfl (fun v u => enters_of Tryz.func21 (by kernel_rfl) rfl #[v, u] wx)) ?_
                      refine (show Calls Tryz.prog 21 #[a.tmps.getD _ undef, a.tmps.getD _ undef] wx _ from ?_)
                      rw [v0, v1]
                      exact (C1.out wx I.up).mono (by rintro e w' ⟨rfl, hu⟩; exact ⟨_, rfl, (show _ ∧ _ from ⟨rfl, hu⟩)⟩)
                    · obtain rfl := Option.some.inj ho
                      exact wpOp_valW rfl (wn rfl) (run_ldF rfl (show a.tmps.getD 9 undef = _ from (I.oth_at (by kernel_rfl)).trans rfl) (RF.out wx I.up) Tryz.underlying30 rfl FLf.out) (show _ ∧ _ from ⟨rfl, be.Up.refl _⟩)
                    · obtain rfl := Option.some.inj ho
                      exact wpOp_valW rfl (wn rfl) (run_ldF rfl (show a.tmps.getD 11 undef = _ from (I.oth_at (by kernel_rfl)).trans rfl) (RM.out wx I.up) Tryz.underlying45 rfl LCM.out) (show _ ∧ _ from ⟨rfl, be.Up.refl _⟩)
                    · obtain rfl := Option.some.inj ho
                      have v0 := (I.val_at (i := 3) (by decide) (hd ⟨3, .data⟩ (by simp) rfl) (.inl rfl) rfl)
                      have v1 := (I.val_at (i := 4) (by decide) (hd ⟨4, .data⟩ (by simp) rfl) (.inl rfl) rfl)
                      refine wpOp_callW rfl (wn rfl) (run_cl2 rfl rfl (fun v u => enters_of Tryz.func21 (by kernel_rfl) rfl #[v, u] wx)) ?_
                      refine (show Calls Tryz.prog 21 #[a.tmps.getD _ undef, a.tmps.getD _ undef] wx _ from ?_)
                      rw [v0, v1]
                      exact (C4.out wx I.up).mono (by rintro e w' ⟨rfl, hu⟩; exact ⟨_, rfl, (show _ ∧ _ from ⟨rfl, hu⟩)⟩)
                    · obtain rfl := Option.some.inj ho
                      exact wpOp_valW rfl (wn rfl) (run_eqz (p := X) (q := X) rfl (I.val_at (i := 2) (by decide) (hd ⟨2, .data⟩ (by simp) rfl) (.inl rfl) rfl) (I.val_at (i := 5) (by decide) (hd ⟨5, .data⟩ (by simp) rfl) (.inl rfl) rfl) (by simp)) (show _ ∧ _ from ⟨rfl, be.Up.refl _⟩)
                    · obtain rfl := Option.some.inj ho
                      exact wpOp_valW rfl (wn rfl) (run_mv rfl (I.val_at (i := 6) (by decide) (hd ⟨6, .data⟩ (by simp) rfl) (.inl rfl) rfl)) (show _ ∧ _ from ⟨rfl, be.Up.refl _⟩)
                    · obtain rfl := Option.some.inj ho
                      refine wpOp_callW rfl (wgT (c := true) rfl rfl (I.val_at (i := 7) (by decide) (hd ⟨7, .guard⟩ (by simp) rfl) (.inl rfl) rfl) rfl) (run_cl0 rfl rfl (enters_of Tryz.func19 (by kernel_rfl) rfl #[] wx)) ?_
                      refine (show Calls Tryz.prog 19 #[] wx _ from ?_)
                      exact (CA.out wx I.up).mono (by rintro e w' ⟨rfl, hu⟩; exact ⟨_, rfl, (show _ ∧ _ from ⟨rfl, hu⟩)⟩)
                    · obtain rfl := Option.some.inj ho
                      exact wpOp_valW rfl (wn rfl) (run_pickT rfl (I.val_at (i := 7) (by decide) (hd ⟨7, .data⟩ (by simp) rfl) (.inl rfl) rfl) (I.val_at (i := 8) (by decide) (hd ⟨8, .data⟩ (by simp) rfl) (.inl rfl) rfl)) (show _ ∧ _ from ⟨rfl, be.Up.refl _⟩)
                    · obtain rfl := Option.some.inj ho
                      exact wpOp_valW rfl (wn rfl) (run_as rfl (I.val_at (i := 9) (by decide) (hd ⟨9, .data⟩ (by simp) rfl) (.inl rfl) rfl)) (show _ ∧ _ from ⟨rfl, be.Up.refl _⟩)
                · intro blk listed a' wx I hall
                  have fr := I.frameL [(71, (.agg A.toArray)), (72, (.agg CC.toArray)), (73, (.agg #[.int .i64 X.1, .int .i64 X.2])), (74, (.agg A.toArray)), (75, (.agg CM.toArray)), (76, (.agg #[.int .i64 X.1, .int .i64 X.2])), (77, (.bool true)), (78, (.bool true)), (79, (.bool true)), (80, (.bool true)), (6, (.bool true))] (by
                    intro p hp
                    simp only [List.mem_cons, List.not_mem_nil, or_false] at hp
                    rcases hp with rfl | rfl | rfl | rfl | rfl | rfl | rfl | rfl | rfl | rfl | rfl
                    · exact ⟨by simp, I.val_at (i := 0) (by decide) (hall _ (by decide)) (.inl rfl) rfl⟩
                    · exact ⟨by simp, I.val_at (i := 1) (by decide) (hall _ (by decide)) (.inl rfl) rfl⟩
                    · exact ⟨by simp, I.val_at (i := 2) (by decide) (hall _ (by decide)) (.inl rfl) rfl⟩
                    · exact ⟨by simp, I.val_at (i := 3) (by decide) (hall _ (by decide)) (.inl rfl) rfl⟩
                    · exact ⟨by simp, I.val_at (i := 4) (by decide) (hall _ (by decide)) (.inl rfl) rfl⟩
                    · exact ⟨by simp, I.val_at (i := 5) (by decide) (hall _ (by decide)) (.inl rfl) rfl⟩
                    · exact ⟨by simp, I.val_at (i := 6) (by decide) (hall _ (by decide)) (.inl rfl) rfl⟩
                    · exact ⟨by simp, I.val_at (i := 7) (by decide) (hall _ (by decide)) (.inl rfl) rfl⟩
                    · exact ⟨by simp, I.val_at (i := 8) (by decide) (hall _ (by decide)) (.inl rfl) rfl⟩
                    · exact ⟨by simp, I.val_at (i := 9) (by decide) (hall _ (by decide)) (.inl rfl) rfl⟩
                    · exact ⟨by simp, I.val_at (i := 10) (by decide) (hall _ (by decide)) (.inl rfl) rfl⟩) (by kernel_rfl)
                  have BY := hide (show Below w.heap.size w wx from bto BWC.out I.up)
                  clear I hall
                  subst fr
                  dsimp only [setsL, List.set_cons_zero, List.set_cons_succ]
                  go_wp2_with fail
                  go_ret
                  exact ⟨rfl, BY.out⟩
  · subst h1 h2
    have CA := hide (fun (W : World) (h : Below w.heap.size w W) => awakeU_any W (HN.out.low h) (HM.out.low h))
    clear C3
    go_enter Tryz.func6, Tryz.ntmps6
    go_upto_region 1 with fail
    rw [HW1.out]
    clear HW1
    go_wp2_with (first
      | (go_at_call 9; refine (C2.out _ B0.out).mono ?_; rintro e w1 ⟨rfl, B1⟩; replace B1 := hide (bto B0.out B1))
      | (go_at_call 19; refine (CA.out _ B1.out).mono ?_; rintro e w2 ⟨rfl, B2⟩; replace B2 := hide (bto B1.out B2)))
    go_ret
    exact ⟨rfl, B2.out⟩
  · subst h1 h2
    have CA := hide (fun (W : World) (h : Below w.heap.size w W) => awakeU_any W (HN.out.low h) (HM.out.low h))
    clear C3
    go_enter Tryz.func6, Tryz.ntmps6
    go_upto_region 1 with fail
    rw [HW1.out]
    clear HW1
    go_wp2_with (first
      | (go_at_call 9; refine (C2.out _ B0.out).mono ?_; rintro e w1 ⟨rfl, B1⟩; replace B1 := hide (bto B0.out B1))
      | (go_at_call 19; refine (CA.out _ B1.out).mono ?_; rintro e w2 ⟨rfl, B2⟩; replace B2 := hide (bto B1.out B2)))
    go_ret
    exact ⟨rfl, B2.out⟩
  · subst h1 h4 h3
    have CA := hide (fun (W : World) (h : Below w.heap.size w W) => awakeU_any W (HN.out.low h) (HM.out.low h))
    clear C3
    go_enter Tryz.func6, Tryz.ntmps6
    go_upto_region 1 with fail
    rw [HW1.out]
    clear HW1
    go_wp2_with (first
      | (go_at_call 9; refine (C2.out _ B0.out).mono ?_; rintro e w1 ⟨rfl, B1⟩; replace B1 := hide (bto B0.out B1))
      | (go_at_call 19; refine (CA.out _ B1.out).mono ?_; rintro e w2 ⟨rfl, B2⟩; replace B2 := hide (bto B1.out B2)))
    go_ret
    exact ⟨rfl, B2.out⟩
theorem okx_of2 {x : Ex} {w : World} {u : Value} (hx : x.Ok) (hu : EM w u x.ks) : OkX x := by
  obtain ⟨k, n, d, q, ks⟩ := x
  exact .mk k n d q ks hx (em_okx hu)
theorem law_hidden2 (x : Ex) (u : Value) (cs ds : List (Int × Int)) (w : World) (hN : Nth w) (hM : NthU w) (hx : x.Ok) (hu : EM w u x.ks) (hsz : szE x ≤ 1048576) (hcs : cs.length = 6) (h64 : ∀ r ∈ cs, R64 r) (hds : ds.length = 6) (d64 : ∀ r ∈ ds, R64 r) : Calls Tryz.prog 6 #[exV x u, cxV cs, cxV ds] w fun e w' => e = .returned (.bool true) ∧ Below w.heap.size w w' :=
  law_hidden x u cs ds w hN hM (okx_of2 hx hu) hu (by omega) hcs h64 hds d64
end Go.Proofs.YtlhmecagijdinaaGreatDoor.nm
