/-
  The tokens of any bytes, written, are read as those tokens: the law.
-/
import Derived.Test.YtcclhdiphcfdfaaGreatDoorKyc
import Derived.Test.YtcclhdiphcfdfaaGreatDoorKz
set_option linter.unusedVariables false
set_option linter.unusedSimpArgs false
namespace Go.Proofs.YtcclhdiphcfdfaaGreatDoor
open Go.RowKit Go.Shelf

theorem PostSp.yesD {ts : List TS} {w : World} {e : Ending} {w' : World} (h : PostSp wtA ts w e w') (hall : ∀ t ∈ ts, t.may = true) : Below w.heap.size w w' ∧ ∃ u, e = .returned (.tuple #[.string u, .int .i64 0]) ∧ bl u = spK wtA ts ts.length := by
  obtain ⟨h1, ⟨A, s, rfl, hs⟩ | ⟨⟨t, ht, A⟩, rfl⟩⟩ := h
  · exact ⟨h1, s, rfl, hs⟩
  · rw [hall t ht] at A; cases A
theorem chs_dcdD {bs : List Int} (h : By bs) : chs (dcd bs) = dcd bs := by
  unfold chs
  conv => rhs; rw [← List.map_id (dcd bs)]
  refine List.map_congr_left fun x hx => ?_
  have := (dec_good bs h x hx).1
  unfold chr
  rw [if_pos this]; rfl
set_option maxRecDepth 100000 in
set_option maxHeartbeats 8000000 in
theorem law_back (bs : List Int) (v : Value) (w : World) (hb : By bs) (hv : Nums .u8 w v bs) (hl : bs.length ≤ 1048576) (hK : KT w) (hT : Tabs w) :
    Calls Tryz.prog 6 #[v] w fun e w' => e = .returned (.bool true) ∧ Below w.heap.size w w' := by
  have dl := dcd_len bs
  obtain ⟨a1, a2, a3, a4⟩ := all_back (s := dcd bs) (dec_good bs hb) (by omega)
  have tl := (toks_few _ (dcd bs) (Nat.le_refl _)).1
  have hok : ∀ t ∈ (toks (dcd bs)).map tsOf, t.Ok := fun t ht => (a1 t ht).1
  have hmy : ∀ t ∈ (toks (dcd bs)).map tsOf, t.may = true := fun t ht => (a1 t ht).2
  have LN := spS_all _ hok
  rw [List.length_map] at LN
  obtain ⟨T, hTk⟩ : ∃ T, toks (dcd bs) = T := ⟨_, rfl⟩
  rw [hTk] at a1 a2 a3 a4 tl hok hmy LN
  have LB : (spK wtA (T.map tsOf) (T.map tsOf).length).length ≤ 250000000 := by rw [List.length_map]; omega
  have C0 := hide (tbytesP_any bs v w hb hv (by omega))
  rw [chs_dcdD hb, hTk] at C0
  have CT := hide (fun (W : World) (u : Value) (hb : Below w.heap.size w W) (h : Toks W u T) => (tokens_any wtA (T.map tsOf) u W (toks4_of (by rw [a2]; exact h)) hok (fun t ht h => writes_all t (hok t ht) h) (spA_by _ _) (by omega) (hK.below hb) (hT.below hb)).mono fun e w' h => h.yesD hmy)
  have CA := hide (fun (W : World) (h : Below w.heap.size w W) => awake4_any W (hK.below h) (hT.below h))
  have CB := hide (fun (W : World) (u : ByteArray) (hu : bl u = spK wtA (T.map tsOf) (T.map tsOf).length) (x : Value) (hx : Nums .u8 W x (bl u)) => tbytesP_any (bl u) x W (bl_by u) hx (by rw [hu]; exact LB))
  have RB := hide (fun (u : ByteArray) (hu : bl u = spK wtA (T.map tsOf) (T.map tsOf).length) => show toks (chs (dcd (bl u))) = T by
    rw [chs_dcdD (bl_by u), hu]; exact a4)
  have SZ := hide (fun (u : ByteArray) (hu : bl u = spK wtA (T.map tsOf) (T.map tsOf).length) => show u.size ≤ 140737488355328 by have := bl_len u; rw [hu] at this; omega)
  clear a1 a2 a3 a4 tl hok hmy LN LB hTk hv hl hb hK hT dl
  go_enter Tryz.func6, Tryz.ntmps6
  go_wp2_with (first
    | (go_at_call 14; refine C0.out.mono ?_; rintro e w0 ⟨lw, rfl, N0, B0⟩; have TK := hide N0; have BW := hide B0; clear N0 B0 C0)
    | (go_at_call 11; refine (CT.out _ _ BW.out TK.out).mono ?_; rintro e w1 ⟨B1, u, rfl, hu⟩; replace hu := hide hu; replace TK := hide (TK.out.below B1); replace BW := hide (bto BW.out B1); clear B1; obtain ⟨cv, w9, kcv, NV, BV⟩ := conv_any u w1 (SZ.out u hu.out); replace NV := hide NV; replace BV := hide BV)
    | (go_at_call 14; refine (CB.out _ u hu.out _ NV.out).mono ?_; rintro e w2 ⟨lv, rfl, N, B2⟩; rw [RB.out u hu.out] at N; replace N := hide N; replace TK := hide ((TK.out.below BV.out).below B2); replace BW := hide (bto (bto BW.out BV.out) B2); clear B2)
    | (go_at_call 15; refine (sameT_any _ _ _ _ N.out TK.out).mono ?_; rintro e w3 ⟨rfl, B3⟩; replace BW := hide (bto BW.out B3); clear B3)
    | (go_at_call 10; refine (CA.out _ BW.out).mono ?_; rintro e w4 ⟨rfl, B4⟩; replace BW := hide (bto BW.out B4); clear B4))
  go_ret
  exact ⟨rfl, BW.out⟩
end Go.Proofs.YtcclhdiphcfdfaaGreatDoor
