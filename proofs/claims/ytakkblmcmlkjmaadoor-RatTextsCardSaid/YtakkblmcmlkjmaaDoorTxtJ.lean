/-
  The law of fractions as texts.
-/
import Derived.Test.YtakkblmcmlkjmaaDoorTxtI
set_option linter.unusedVariables false
set_option linter.unusedSimpArgs false
namespace Go.Proofs.YtakkblmcmlkjmaaDoor
open Go.RowKit Go.Shelf

/-- A block that holds a fraction. -/
def RC (b : Nat) (x y : Int) (W : World) : Prop := b < W.heap.size ∧ W.cell? ⟨b, 0, none⟩ = some (.int .i64 x) ∧ W.cell? ⟨b, 1, none⟩ = some (.int .i64 y)
theorem RC.below {b : Nat} {x y : Int} {W W' : World} (h : RC b x y W) (hb : Below W.heap.size W W') : RC b x y W' := by
  obtain ⟨h0, h1, h2⟩ := h
  exact ⟨Nat.lt_of_lt_of_le h0 hb.size, (hb.cell (p := ⟨b, 0, none⟩) h0).trans h1, (hb.cell (p := ⟨b, 1, none⟩) h0).trans h2⟩
theorem RC.box (w : World) (x y : Int) (T : TypeId) : RC w.heap.size x y (w.alloc (.cells #[.int .i64 x, .int .i64 y] T)) := by
  refine ⟨by simp, ?_, ?_⟩ <;> simp [go_sem]
theorem RC.made (w : World) (x y : Int) (T : TypeId) : RC w.heap.size x y (((w.alloc (.cells #[.int .i64 0, .int .i64 0] T)).setCell ⟨w.heap.size, 0, none⟩ (.int .i64 x)).setCell ⟨w.heap.size, 1, none⟩ (.int .i64 y)) := by
  refine ⟨by simp, ?_, ?_⟩ <;> simp [go_sem]
theorem made_below (w : World) (x y : Int) (T : TypeId) : Below w.heap.size w (((w.alloc (.cells #[.int .i64 0, .int .i64 0] T)).setCell ⟨w.heap.size, 0, none⟩ (.int .i64 x)).setCell ⟨w.heap.size, 1, none⟩ (.int .i64 y)) :=
  ((bplus (Below.refl _ _) _).setCell (by simp) _).setCell (by simp) _
theorem ps_tx (n d : Int) (hn : I64 n) (hd : I64 d) : PS (tx n d) (cnN n d) (cnD n d) 0 := by
  unfold tx cnN cnD
  by_cases h : isV n d = true
  · rw [if_pos h, if_pos h, if_pos h]; exact .inr (.inl ⟨rfl, h, hn, hd, rfl⟩)
  · rw [if_neg h, if_neg h, if_neg h]; exact .inl ⟨rfl, rfl, rfl, rfl⟩
theorem tx12 : txB 1 2 = ⟨#[49, 47, 50]⟩ := by
  unfold txB tx txV Lib.itoa
  rw [show isV 1 2 = true from by decide]
  simp only [if_true]
  rw [if_neg (by decide), if_neg (by decide), if_neg (by decide), show (1 : Int).toNat = 1 from rfl, show (2 : Int).toNat = 2 from rfl, Lib.decDigits_one (by omega), Lib.decDigits_one (by omega)]
  decide
set_option maxRecDepth 100000 in
set_option maxHeartbeats 4000000 in
theorem law_texts (n d : Int) (s : ByteArray) (w : World) (hn : I64 n) (hd : I64 d) (hs : s.size ≤ 140737488355328) (hT : TabT w) (he : Errs w) :
    Calls Tryd.prog 3 #[.agg #[.int .i64 n, .int .i64 d], .string s] w fun e w' => e = .returned (.bool true) ∧ Below w.heap.size w w' := by
  have HT := hide (fun (W : World) (h : Below w.heap.size w W) => hT.below h)
  have HE := hide (fun (W : World) (h : Below w.heap.size w W) => he.below h)
  have B0 := bplus (Below.refl w.heap.size w) (.cells #[.int .i64 n, .int .i64 d] 23)
  have R0 := hide (RC.box w n d 23)
  have PX := hide (show PS (txB n d).data.toList (cnN n d) (cnD n d) 0 from ps_tx n d hn hd)
  have zt : (txB n d).size ≤ 140737488355328 := by
    show (tx n d).toArray.size ≤ _
    have l1 := itoa_len n hn.1 hn.2
    have l2 := itoa_len d hd.1 hd.2
    unfold tx txV ovr
    simp
    split
    · split
      · omega
      · simp; omega
    · simp
  have CT1 := hide (fun (W : World) (h : Below w.heap.size w W) => textP_any n d W hn.1 hn.2 hd.1 hd.2 (HT.out W h))
  have CT2 := hide (fun (W : World) (h : Below w.heap.size w W) => textR_any n d W hn.1 hn.2 hd.1 hd.2 (HT.out W h))
  have CT3 := hide (fun (W : World) (h : Below w.heap.size w W) => textP_any 1 2 W (by omega) (by omega) (by omega) (by omega) (HT.out W h))
  have CC := hide (fun (W : World) => clean_any n d W hn.1 hn.2 hd.1 hd.2)
  have CP1 := hide (fun (W : World) (h : Below w.heap.size w W) => parseP_any (txB n d) W zt (HT.out W h) (HE.out W h))
  have CP2 := hide (fun (W : World) (h : Below w.heap.size w W) => parseP_any s W hs (HT.out W h) (HE.out W h))
  have CP3 := hide (fun (W : World) => parseR_any s W hs)
  replace B0 := hide B0
  clear hT he zt hn hd hs
  obtain ⟨X, hX⟩ : ∃ X, cnN n d = X := ⟨_, rfl⟩
  obtain ⟨Y, hY⟩ : ∃ Y, cnD n d = Y := ⟨_, rfl⟩
  obtain ⟨tt, htt⟩ : ∃ tt, txB n d = tt := ⟨_, rfl⟩
  rw [hX, hY, htt] at PX
  rw [hX, hY] at CC
  rw [htt] at CT1 CT2 CP1
  rw [tx12] at CT3
  clear hX hY htt
  go_enter Tryd.func3, Tryd.ntmps3
  go_wp2_with fail
  go_at_call 4
  refine (CT1.out _ B0.out).mono ?_
  rintro e w1 ⟨rfl, B1⟩
  replace R0 := hide (R0.out.below B1)
  obtain ⟨r0, r1, r2⟩ := R0.out
  replace B1 := hide (show Below w.heap.size w w1 from bto B0.out B1)
  go_wp2_with fail
  go_at_call 5
  refine (CT2.out _ B1.out).mono ?_
  rintro e w2 ⟨rfl, B2⟩
  clear r0 r1 r2
  replace R0 := hide (R0.out.below B2)
  obtain ⟨r0, r1, r2⟩ := R0.out
  replace B1 := hide (bto B1.out B2)
  go_wp2_with fail
  go_at_call 6
  refine (CP1.out _ B1.out).mono ?_
  rintro e w3 ⟨x0, y0, c0, rfl, H3, B3⟩
  obtain ⟨rfl, rfl, rfl⟩ := PX.out.one H3.out
  replace R0 := hide ((R0.out.below B3).below (bplus (Below.refl w3.heap.size w3) (.cells #[.int .i64 x0, .int .i64 y0] 23)))
  have RX := hide (RC.box w3 x0 y0 23)
  replace B1 := hide (bto (bto B1.out B3) (bplus (Below.refl w3.heap.size w3) (.cells #[.int .i64 x0, .int .i64 y0] 23)))
  clear r0 r1 r2 H3
  go_wp2_with fail
  go_at_call 6
  refine (CP2.out _ B1.out).mono ?_
  rintro e w4 ⟨x4, y4, c4, rfl, H4, B4⟩
  replace R0 := hide ((R0.out.below B4).below (bplus (Below.refl w4.heap.size w4) (.cells #[.int .i64 x4, .int .i64 y4] 23)))
  replace RX := hide ((RX.out.below B4).below (bplus (Below.refl w4.heap.size w4) (.cells #[.int .i64 x4, .int .i64 y4] 23)))
  have RY := hide (RC.box w4 x4 y4 23)
  replace B1 := hide (bto (bto B1.out B4) (bplus (Below.refl w4.heap.size w4) (.cells #[.int .i64 x4, .int .i64 y4] 23)))
  go_wp2_with fail
  go_at_call 7
  refine (CP3.out _).mono ?_
  rintro e w5 ⟨x5, y5, c5, rfl, H5, B5⟩
  obtain ⟨rfl, rfl, rfl⟩ := H4.out.one H5.out
  replace R0 := hide ((R0.out.below B5).below (bplus (Below.refl w5.heap.size w5) (.cells #[.int .i64 x5, .int .i64 y5] 23)))
  replace RX := hide ((RX.out.below B5).below (bplus (Below.refl w5.heap.size w5) (.cells #[.int .i64 x5, .int .i64 y5] 23)))
  replace RY := hide ((RY.out.below B5).below (bplus (Below.refl w5.heap.size w5) (.cells #[.int .i64 x5, .int .i64 y5] 23)))
  have RZ := hide (RC.box w5 x5 y5 23)
  replace B1 := hide (bto (bto B1.out B5) (bplus (Below.refl w5.heap.size w5) (.cells #[.int .i64 x5, .int .i64 y5] 23)))
  obtain ⟨W, hW⟩ : ∃ W, w5.alloc (.cells #[.int .i64 x5, .int .i64 y5] 23) = W := ⟨_, rfl⟩
  rw [hW] at R0 RX RY RZ B1
  replace hW := hide hW
  go_wp2_with fail
  rw [hW.out]
  have KP := hide (fun (W' : World) (h : Below W.heap.size W W') => show W'.cell? ⟨w.heap.size, 0, none⟩ = some (.int .i64 n) ∧ W'.cell? ⟨w.heap.size, 1, none⟩ = some (.int .i64 d) ∧ W'.cell? ⟨w3.heap.size, 0, none⟩ = some (.int .i64 x0) ∧ W'.cell? ⟨w3.heap.size, 1, none⟩ = some (.int .i64 y0) ∧ W'.cell? ⟨w4.heap.size, 0, none⟩ = some (.int .i64 x5) ∧ W'.cell? ⟨w4.heap.size, 1, none⟩ = some (.int .i64 y5) ∧ W'.cell? ⟨w5.heap.size, 0, none⟩ = some (.int .i64 x5) ∧ W'.cell? ⟨w5.heap.size, 1, none⟩ = some (.int .i64 y5) from
    ⟨(R0.out.below h).2.1, (R0.out.below h).2.2, (RX.out.below h).2.1, (RX.out.below h).2.2, (RY.out.below h).2.1, (RY.out.below h).2.2, (RZ.out.below h).2.1, (RZ.out.below h).2.2⟩)
  clear R0 RX RY RZ hW B2 B3 B4 B5 H4 H5
  go_region_held3 (fun w' => w'.cell? ⟨w.heap.size, 0, none⟩ = some (.int .i64 n) ∧ w'.cell? ⟨w.heap.size, 1, none⟩ = some (.int .i64 d) ∧ w'.cell? ⟨w3.heap.size, 0, none⟩ = some (.int .i64 x0) ∧ w'.cell? ⟨w3.heap.size, 1, none⟩ = some (.int .i64 y0) ∧ w'.cell? ⟨w4.heap.size, 0, none⟩ = some (.int .i64 x5) ∧ w'.cell? ⟨w4.heap.size, 1, none⟩ = some (.int .i64 y5) ∧ w'.cell? ⟨w5.heap.size, 0, none⟩ = some (.int .i64 x5) ∧ w'.cell? ⟨w5.heap.size, 1, none⟩ = some (.int .i64 y5))
    (exact KP.out _ (by repeat (first | exact Below.refl _ _ | (with_reducible refine Below.drew ?_) | (with_reducible refine below_drewN ?_ _) | (refine bto ?_ (by assumption)))))
    (first
      | (go_at_call 8; refine (CC.out _).mono ?_; rintro _ wl ⟨rfl, hl⟩)
      | (go_at_call 4; refine (CT3.out _ (bto B1.out (by repeat (first | exact Below.refl _ _ | (with_reducible refine Below.drew ?_) | (with_reducible refine below_drewN ?_ _) | (refine bto ?_ (by assumption)))))).mono ?_; rintro _ wk ⟨rfl, hk⟩))
  go_wp2
  go_ret
  refine ⟨rfl, bto B1.out ?_⟩
  repeat (first | exact Below.refl _ _ | (with_reducible refine Below.drew ?_) | (with_reducible refine below_drewN ?_ _) | (refine bto ?_ (by assumption)))
end Go.Proofs.YtakkblmcmlkjmaaDoor
