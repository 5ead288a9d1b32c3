/-
  A row of texts, numbers and names, written, is read as it was: the law.
-/
import Derived.Test.YtcclhdiphcfdfabGreatDoorLSpcC
import Derived.Test.YtcclhdiphcfdfabGreatDoorKz
set_option linter.unusedVariables false
set_option linter.unusedSimpArgs false
namespace Go.Proofs.YtcclhdiphcfdfabGreatDoor
open Go.RowKit Go.Shelf

/-- The end of the law: the row is made. -/
theorem PostSp.yes {ts : List TS} {w : World} {e : Ending} {w' : World} (h : PostSp wtA ts w e w') (hall : ∀ t ∈ ts, t.may = true) : Below w.heap.size w w' ∧ ∃ u, e = .returned (.tuple #[.string u, .int .i64 0]) ∧ bl u = spK wtA ts ts.length := by
  obtain ⟨h1, ⟨A, s, rfl, hs⟩ | ⟨⟨t, ht, A⟩, rfl⟩⟩ := h
  · exact ⟨h1, s, rfl, hs⟩
  · rw [hall t ht] at A; cases A
theorem PostSp.no {ts : List TS} {w : World} {e : Ending} {w' : World} (h : PostSp wtA ts w e w') (hall : ¬ ∀ t ∈ ts, t.may = true) : Below w.heap.size w w' ∧ e = .returned (.tuple #[.string ⟨#[]⟩, .int .i64 1]) := by
  obtain ⟨h1, ⟨A, _⟩ | ⟨A, rfl⟩⟩ := h
  · exact absurd A hall
  · exact ⟨h1, rfl⟩
theorem news6p (w : World) (A : Obj) (u0 u1 u2 u3 u4 u5 : Value) (t : TypeId) : ∀ j x, [u0, u1, u2, u3, u4, u5][j]? = some x → ((w.alloc A).alloc (.cells #[u0, u1, u2, u3, u4, u5] t)).cell? ((⟨w.heap.size + 1, 0, none⟩ : Addr).add j) = some x := by
  have e : (w.alloc A).heap.size = w.heap.size + 1 := by simp
  intro j x h
  have := news6 (w.alloc A) u0 u1 u2 u3 u4 u5 t j x h
  rwa [e] at this
theorem chs_dcdR {bs : List Int} (h : By bs) : chs (dcd bs) = dcd bs := by
  unfold chs
  conv => rhs; rw [← List.map_id (dcd bs)]
  refine List.map_congr_left fun x hx => ?_
  have := (dec_good bs h x hx).1
  unfold chr
  rw [if_pos this]; rfl
set_option maxRecDepth 100000 in
set_option maxHeartbeats 8000000 in
theorem law_row (ts : List TS) (v : Value) (w : World) (hv : Toks4 w v ts) (ho : ∀ t ∈ ts, t.Ok) (hs : 6 * szS ts + 204 * ts.length ≤ 250000000) (hK : KT w) (hT : Tabs w) :
    Calls Tryz.prog 3 #[v] w fun e w' => e = .returned (.bool true) ∧ Below w.heap.size w w' := by
  obtain ⟨i0, hi, hz0, hz1, hz2⟩ := info_parts infoT
  obtain ⟨a, n, c, rfl, hn, hc⟩ : ∃ a n c, v = .slice a n c ∧ n = ts.length ∧ ∀ i t, ts[i]? = some t → ∃ b o, a = some ⟨b, o, none⟩ ∧ b < w.heap.size ∧ Six4 w b (o + i * 6) t := by
    rcases hv with ⟨a, c, rfl, rfl⟩ | ⟨b, o, n, c, rfl, hn, h0, hb, hc, h9, hc9, hcell⟩
    · exact ⟨a, 0, c, rfl, rfl, fun i t h => by cases h⟩
    · exact ⟨_, n, c, rfl, hn, fun i t h => ⟨b, o, rfl, hb, hcell i t h⟩⟩
  have HC := hide hc
  have HN := hide hn
  have fz := filt_sz ts
  have hlen : ts.length ≤ 1300000 := by omega
  have hn9 : n ≤ 1300000 := by omega
  have hok : ∀ t ∈ filt ts, t.Ok := fun t ht => ho t (List.mem_filter.1 ht).1
  have hin : ∀ t ∈ filt ts, inK t.k := fun t ht => (inKB_iff _).1 (List.mem_filter.1 ht).2
  have LN := Nat.le_trans (spS_all (filt ts) hok) (show 6 * szS (filt ts) + 204 * (filt ts).length ≤ 250000000 by omega)
  have CT := hide (fun (W : World) (u : Value) (hb : Below w.heap.size w W) (h : Toks W u ((filt ts).map tkOf)) => tokens_any wtA (filt ts) u W (toks4_of h) hok (fun t ht h => writes_all t (hok t ht) h) (spA_by _ _) (by omega) (hK.below hb) (hT.below hb))
  have CA := hide (fun (W : World) (h : Below w.heap.size w W) => awake4_any W (hK.below h) (hT.below h))
  have CB := hide (fun (W : World) (u : ByteArray) (hu : bl u = spK wtA (filt ts) (filt ts).length) (x : Value) (hx : Nums .u8 W x (bl u)) => tbytesP_any (bl u) x W (bl_by u) hx (by rw [hu]; exact LN))
  have RB := hide (fun (u : ByteArray) (hu : bl u = spK wtA (filt ts) (filt ts).length) (hm : ∀ t ∈ filt ts, t.may = true) => show toks (chs (dcd (bl u))) = (filt ts).map tkOf by
    rw [chs_dcdR (bl_by u), hu]; exact row_back (filt ts) (fun t ht => ⟨hok t ht, hm t ht, hin t ht⟩))
  have SZ := hide (fun (u : ByteArray) (hu : bl u = spK wtA (filt ts) (filt ts).length) => show u.size ≤ 140737488355328 by have := bl_len u; rw [hu] at this; omega)
  have TL := hide (show ((filt ts).map tkOf).length ≤ 1000000000 by rw [List.length_map]; omega)
  have GL := hide (fun (k : Nat) => show ((filt (ts.take k)).map tkOf).length ≤ 1300000 by
    rw [List.length_map]
    have := (filt_sz (ts.take k)).2
    have h2 : (ts.take k).length ≤ ts.length := by (rw [List.length_take]; omega)
    omega)
  clear hv hn hc ho hs hK hT fz hok hin LN
  go_enter Tryz.func3, Tryz.ntmps3
  go_wp2
  go_loopw [3, 10] (fun row i wr => RelRw w ts row i wr) (fun _ i _ => n - (intOf i).toNat)
  case atStart => exact .mk 0 (by omega) rfl (OwnR.nil w)
  case round =>
    obtain ⟨k, hk, rfl, OW⟩ := hrel
    rw [← HN.out] at hk
    by_cases hlt : k < n
    · obtain ⟨t, ht⟩ : ∃ t, ts[k]? = some t := ⟨_, List.getElem?_eq_getElem (by rw [← HN.out]; exact hlt)⟩
      obtain ⟨b, o, rfl, hb, S6⟩ := HC.out k t ht
      obtain ⟨q0, q1, q2, q3, q4, q5⟩ := S6.below OW.out.2 hb
      have TS1 := take_snoc ht
      have FS := filt_snoc (ts.take k) t
      rw [← TS1] at FS
      have NG : inKB t.k = false → filt (ts.take (k + 1)) = filt (ts.take k) := fun e => by rw [FS, e]; simp
      have YG : inKB t.k = true → (filt (ts.take (k + 1))).map tkOf = (filt (ts.take k)).map tkOf ++ [tkOf t] := fun e => by rw [FS, e]; simp
      replace NG := hide NG
      replace YG := hide YG
      have GK := hide (GL.out k)
      clear FS TS1 S6 hb ht
      obtain ⟨kk, s, nn, dd, ii, hh⟩ := t
      simp only at q0 q1 q2 q3 q4 q5
      have TX := hide (tok_box (heap_alloc_new wr (boxT ⟨kk, s, nn, dd, ii, hh⟩)))
      have B1 := hide (bplus (Below.refl wr.heap.size wr) (boxT ⟨kk, s, nn, dd, ii, hh⟩))
      unfold boxT at TX B1
      cases hin : inKB kk with
      | false =>
        have E := NG.out hin
        have f : ¬ kk = 1 ∧ ¬ kk = 10 ∧ ¬ kk = 12 ∧ ¬ kk = 11 ∧ ¬ kk = 5 ∧ ¬ kk = 18 ∧ ¬ kk = 4 ∧ ¬ kk = 3 ∧ ¬ kk = 15 ∧ ¬ kk = 7 := by
          have : ¬ inK kk := fun g => by rw [(inKB_iff kk).2 g] at hin; cases hin
          unfold inK at this; omega
        have f1 : (kk == 1) = false := by simpa using f.1
        have f2 : (kk == 10) = false := by simpa using f.2.1
        have f3 : (kk == 12) = false := by simpa using f.2.2.1
        have f4 : (kk == 11) = false := by simpa using f.2.2.2.1
        have f5 : (kk == 5) = false := by simpa using f.2.2.2.2.1
        have f6 : (kk == 18) = false := by simpa using f.2.2.2.2.2.1
        have f7 : (kk == 4) = false := by simpa using f.2.2.2.2.2.2.1
        have f8 : (kk == 3) = false := by simpa using f.2.2.2.2.2.2.2.1
        have f9 : (kk == 15) = false := by simpa using f.2.2.2.2.2.2.2.2.1
        have f10 : (kk == 7) = false := by simpa using f.2.2.2.2.2.2.2.2.2
        replace E := hide E
        clear f hin
        go_wp2
        exact ⟨.mk (k + 1) (by rw [← HN.out]; omega) (by go_num) (by rw [E.out]; exact OW.out.on B1.out), by simp [intOf]; omega⟩
      | true =>
        have YE := hide (YG.out hin)
        have KI := (inKB_iff kk).1 hin
        unfold inK at KI
        have OW1 := hide (OW.out.on B1.out)
        have CO := fun K => cells_of ⟨K, s, nn, dd, ii, hh⟩
        replace CO := hide CO
        have H1 : ∀ K, ∀ u ∈ [Value.int .i64 K, .string s, .int .i64 nn, .int .i64 dd, .bool ii, .bool hh], u.oneCell' = true := fun K => by rw [← CO.out K]; exact one6 _
        replace H1 := hide H1
        clear hin YG NG OW
        rcases KI with rfl | rfl | rfl | rfl | rfl | rfl | rfl | rfl | rfl | rfl
        all_goals
          go_wp2_with (at_builtin; refine wpList_append_own _ rfl _ _ 22 rfl w.heap.size 26 i0 _ 6 48 Tryz.underlying22 hi hz0 hz1 hz2 rfl (by decide) _ _ _ rfl (OW1.out.1.alloc _) ⟨_, 0, none⟩ 1 1 [_, .string s, .int .i64 nn, .int .i64 dd, .bool ii, .bool hh] rfl rfl (news6p _ _ _ _ _ _ _ _ _) (H1.out _) (by have := GK.out; unfold maxLen; omega) (by have := GK.out; omega) (by have := OW1.out.2.size; simp at this ⊢; omega) ?_; intro v' w5 hown' hgrow _; have OW2 := hide (OW1.out.grow (by rw [CO.out]; exact hown') hgrow); clear hown' hgrow)
          exact ⟨.mk (k + 1) (by rw [← HN.out]; omega) (by go_num) (by rw [YE.out]; exact OW2.out), by simp [intOf]; omega⟩
    · obtain rfl : k = n := by omega
      have TK := OW.out.toks (Nat.le_trans (GL.out k) (by omega))
      rw [HN.out, List.take_length] at TK
      replace TK := hide TK
      have BW := hide OW.out.2
      clear OW
      by_cases hall : ∀ t ∈ filt ts, t.may = true
      · have C1 := hide (fun hb => (CT.out wr _ hb TK.out).mono fun e w' h => h.yes hall)
        have R1 := hide (fun u hu => RB.out u hu hall)
        clear hall CT RB
        go_wp2_with (first
          | (go_at_call 4; refine (C1.out BW.out).mono ?_; rintro e w1 ⟨B1, u, rfl, hu⟩; replace hu := hide hu; replace TK := hide (TK.out.below B1); replace BW := hide (bto BW.out B1); clear B1; obtain ⟨cv, w9, kcv, NV, BV⟩ := conv_any u w1 (SZ.out u hu.out); replace NV := hide NV; replace BV := hide BV)
          | (go_at_call 7; refine (CB.out _ u hu.out _ NV.out).mono ?_; rintro e w2 ⟨lv, rfl, N, B2⟩; rw [R1.out u hu.out] at N; replace N := hide N; replace TK := hide ((TK.out.below BV.out).below B2); replace BW := hide (bto (bto BW.out BV.out) B2); clear B2)
          | (go_at_call 6; refine (sameT_any _ _ _ _ N.out TK.out).mono ?_; rintro e w3 ⟨rfl, B3⟩; replace BW := hide (bto BW.out B3); clear B3)
          | (go_at_call 5; refine (CA.out _ BW.out).mono ?_; rintro e w4 ⟨rfl, B4⟩; replace BW := hide (bto BW.out B4); clear B4))
        go_ret
        exact ⟨rfl, BW.out⟩
      · have C1 := hide (fun hb => (CT.out wr _ hb TK.out).mono fun e w' h => h.no hall)
        clear hall CT RB
        go_wp2_with (first
          | (go_at_call 4; refine (C1.out BW.out).mono ?_; rintro e w1 ⟨B1, rfl⟩; replace BW := hide (bto BW.out B1); clear B1)
          | (go_at_call 5; refine (CA.out _ BW.out).mono ?_; rintro e w4 ⟨rfl, B4⟩; replace BW := hide (bto BW.out B4); clear B4))
        go_ret
        exact ⟨rfl, BW.out⟩
end Go.Proofs.YtcclhdiphcfdfabGreatDoor
