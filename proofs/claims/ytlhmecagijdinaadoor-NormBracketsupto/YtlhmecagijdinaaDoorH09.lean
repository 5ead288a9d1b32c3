/-
  May all of some forms be; their sum: by the program.
  Nothing of each unit, and so much of one: by the reference.
-/
import Derived.Test.YtlhmecagijdinaaDoorH08
import Derived.Test.YtlhmecagijdinaaDoorMNoB
set_option linter.unusedVariables false
set_option linter.unusedSimpArgs false
namespace Go.Proofs.YtlhmecagijdinaaDoor.nm
open Go.RowKit

theorem fm_range {w : World} {n : Nat} {v : Value} {l : List Fo} {k : Nat} {f : Fo} (h : FM w n v l) (hf : l[k]? = some f) : ∃ m b o c u, v = .slice (some ⟨b, o, none⟩) l.length c ∧ b < w.heap.size ∧ Us f.us ∧ w.rangeAt b (o + k * 15) (usL f.us ++ [u]) ∧ PM w m u f.ps := by
  obtain ⟨m, -, b, o, c, u, hv, hb, -, -, hun, h14, hpm⟩ := FM.at h hf
  refine ⟨m, b, o, c, u, hv, hb, hun.1, fun j x hj => ?_, hpm⟩
  have l14 := usL_len f.us
  have l7 := hun.1.1
  by_cases hj14 : j < 14
  · rw [List.getElem?_append_left (by omega)] at hj
    exact un_cell hun hj
  · have hj2 := (List.getElem?_eq_some_iff.1 hj).1
    rw [List.length_append, List.length_singleton] at hj2
    obtain rfl : j = 14 := by omega
    rw [List.getElem?_append_right (by omega), show 14 - (usL f.us).length = 0 by omega] at hj
    simp at hj
    subst hj
    exact h14
def RelAlF (w : World) (l : List Fo) (R0 : Bool) (i : Value) (wr : World) : Prop := ∃ k : Nat, i = .int .i64 k ∧ k ≤ l.length ∧ Hid (R0 = (l.drop k).all (maF 340) ∧ Below w.heap.size w wr)
theorem RelAlF.mk {w : World} {l : List Fo} {R0 : Bool} {i : Value} {wr : World} (k : Nat) (h1 : i = .int .i64 k) (h2 : k ≤ l.length) (h3 : R0 = (l.drop k).all (maF 340)) (h4 : Below w.heap.size w wr) : RelAlF w l R0 i wr := ⟨k, h1, h2, h3, h4⟩
set_option maxRecDepth 100000 in
set_option maxHeartbeats 8000000 in
theorem allMay_any (n : Nat) (l : List Fo) (v : Value) (w : World) (hv : FM w n v l) : Calls Tryd.prog 27 #[v] w fun e w' => e = .returned (.bool (l.all (maF 340))) ∧ Below w.heap.size w w' := by
  have HV := hide hv
  obtain ⟨a, c, rfl, h9⟩ := FM.shape hv
  obtain ⟨R0, hR0⟩ : ∃ r, l.all (maF 340) = r := ⟨_, rfl⟩
  rw [hR0]
  have E0 := hide (show R0 = (l.drop 0).all (maF 340) from hR0.symm)
  have BB := hide (Below.refl w.heap.size w)
  clear hv hR0
  go_enter Tryd.func27, Tryd.ntmps27
  go_wp2_with fail
  go_loopw [7] (fun i wr => RelAlF w l R0 i wr) (fun i _ => l.length - (intOf i).toNat)
  case atStart => exact .mk 0 rfl (by omega) E0.out BB.out
  case round =>
    obtain ⟨k, rfl, hk, R⟩ := hrel
    have RE := hide R.out.1
    have BW := hide R.out.2
    clear R E0 BB
    by_cases hlt : k < l.length
    · have hlt' : (k : Int) < l.length := by omega
      obtain ⟨f, hf⟩ : ∃ f, l[k]? = some f := ⟨_, List.getElem?_eq_getElem hlt⟩
      obtain ⟨m, b, o, c', fu, hv', hb, hus, hrg, hpm⟩ := fm_range HV.out hf
      obtain ⟨rfl, rfl⟩ : a = some ⟨b, o, none⟩ ∧ c = c' := by cases hv'; exact ⟨rfl, rfl⟩
      have lA := fo_len hus fu
      have OA := hide (us_one (us := f.us) (pm_one hpm))
      have CI := hide (fun (W : World) (h : Below w.heap.size w W) => fmay_any m f.us f.ps fu W hus (PM.low h hpm))
      rw [show foV f.us fu = .agg (usL f.us ++ [fu]).toArray from rfl, show Fo.mk f.us f.ps = f by cases f; rfl] at CI
      have RG := hide (show wr.rangeAt b (o + k * 15) (usL f.us ++ [fu]) from fun j v hj => (BW.out.cell (p := ⟨b, o + k * 15 + j, none⟩) hb).trans (hrg j v hj))
      have R2 := hide (show R0 = (maF 340 f && (l.drop (k + 1)).all (maF 340)) by rw [RE.out, drop_atE hf]; rfl)
      have hbw : b < wr.heap.size := by have := BW.out.size; omega
      have nb : b ≠ wr.heap.size := by omega
      clear hf hrg hpm hus RE
      (try clear hv')
      generalize usL f.us ++ [fu] = A at *
      have sA : A.toArray.size = 15 := by rw [List.size_toArray]; exact lA
      obtain ⟨W4, hW4⟩ : ∃ W4, (wr.alloc (.cells #[.int .i64 0, .int .i64 0, .int .i64 0, .int .i64 0, .int .i64 0, .int .i64 0, .int .i64 0, .int .i64 0, .int .i64 0, .int .i64 0, .int .i64 0, .int .i64 0, .int .i64 0, .int .i64 0, .slice none 0 0] 30)).setCells wr.heap.size 0 A = W4 := ⟨_, rfl⟩
      have T4 := hide (show (wr.alloc (.cells #[.int .i64 0, .int .i64 0, .int .i64 0, .int .i64 0, .int .i64 0, .int .i64 0, .int .i64 0, .int .i64 0, .int .i64 0, .int .i64 0, .int .i64 0, .int .i64 0, .int .i64 0, .int .i64 0, .slice none 0 0] 30)).there wr.heap.size 0 A.toArray.size from there_blk (heap_alloc_new wr _) (by rw [sA]; rfl))
      have H4 := hide (show (Tryd.prog.info? 30).map (·.size) = some A.toArray.size by rw [sA]; kernel_rfl)
      have H5 := hide (show (Tryd.prog.info? 30).map (·.size) = some A.length by rw [lA]; kernel_rfl)
      have B4 := hide (show Below wr.heap.size wr W4 by rw [← hW4]; exact (bplus (Below.refl _ _) _).grown (setCells_grown _ _ _ _) (by simp) (fun k hk => by cases hk; exact Nat.le_refl _))
      have R4 := hide (show W4.rangeAt wr.heap.size 0 A by
        have q := Bk.puts A 0 _ _ (Bk.new wr 30 [.int .i64 0, .int .i64 0, .int .i64 0, .int .i64 0, .int .i64 0, .int .i64 0, .int .i64 0, .int .i64 0, .int .i64 0, .int .i64 0, .int .i64 0, .int .i64 0, .int .i64 0, .int .i64 0, .slice none 0 0]) (by rw [lA]; simp)
        rw [List.take_zero, List.nil_append, Nat.zero_add, List.drop_of_length_le (by rw [lA]; simp), List.append_nil] at q
        rw [← hW4]
        exact range_blk q)
      have HW4 := hide hW4
      clear hW4
      go_upto_region 4 with (first
        | (refine wpList_load_mid rfl 30 (.tmp 9) rfl b (o + k * 15) rfl A _ RG.out Tryd.underlying30 rfl H5.out ?_)
        | (refine wpList_store_mid rfl 30 (.tmp 4) (.tmp 10) rfl wr.heap.size 0 A.toArray rfl rfl T4.out H4.out (all_oneCell_toArray OA.out) ?_))
      (try rw [show A.toArray.toList = A from rfl])
      rw [HW4.out]
      clear HW4 T4 RG
      cases hm : maF 340 f
      · have F := hide (show R0 = false by rw [R2.out, hm]; rfl)
        rw [hm] at CI
        clear hm R2
        go_wp2_with (first
          | (refine wpList_load_mid rfl 30 (.tmp 4) rfl wr.heap.size 0 rfl A _ R4.out Tryd.underlying30 rfl H5.out ?_)
          | (go_at_call 20; refine (CI.out _ (bto BW.out B4.out)).mono ?_; rintro e w5 ⟨rfl, B5⟩; replace B5 := hide B5))
        go_ret
        exact ⟨ret_bool F.out.symm, bto (bto BW.out B4.out) B5.out⟩
      · have F := hide (show R0 = (l.drop (k + 1)).all (maF 340) by rw [R2.out, hm]; rfl)
        rw [hm] at CI
        clear hm R2
        go_wp2_with (first
          | (refine wpList_load_mid rfl 30 (.tmp 4) rfl wr.heap.size 0 rfl A _ R4.out Tryd.underlying30 rfl H5.out ?_)
          | (go_at_call 20; refine (CI.out _ (bto BW.out B4.out)).mono ?_; rintro e w5 ⟨rfl, B5⟩; replace B5 := hide B5))
        go_roundw
        case rel => exact .mk (k + 1) (by go_num) (by omega) F.out (bto (bto BW.out B4.out) B5.out)
        case measure => simp [intOf]; omega
    · have F := hide (show R0 = true by rw [RE.out, List.drop_of_length_le (by omega)]; rfl)
      have hlt' : ¬ (k : Int) < l.length := by omega
      go_wp2
      go_ret
      exact ⟨ret_bool F.out.symm, BW.out⟩
/-- What Add tells. -/
def tlU (l : List Fo) : List (Int × Int) := if l.all (maF 340) = true then ssU l else z01
def tlP (l : List Fo) : List Pa := if l.all (maF 340) = true then ssP l else []
set_option maxRecDepth 100000 in
set_option maxHeartbeats 8000000 in
theorem addN_any (n : Nat) (l : List Fo) (v : Value) (w : World) (hN : Nth w) (hv : FM w (n + 1) v l) (hpl : (ssP l).length ≤ 1000000000) : Calls Tryd.prog 13 #[v] w fun e w' => ∃ u, e = .returned (foV (tlU l) u) ∧ Us (tlU l) ∧ PM w' n u (tlP l) ∧ Below w.heap.size w w' := by
  have C1 := hide (fun (W : World) (h : Below w.heap.size w W) => allMay_any (n + 1) l v W (FM.low h hv))
  have C2 := hide (fun (W : World) (h : Below w.heap.size w W) => zero_any W (hN.low h))
  have C3 := hide (fun (W : World) (h : Below w.heap.size w W) => sum_any n l v W (hN.low h) (FM.low h hv) hpl)
  have SU : Us (ssU l) := ssU_us (fun x hx => by
    obtain ⟨i, hi⟩ := List.mem_iff_getElem?.1 hx
    obtain ⟨_, _, _, _, _, _, _, hu, _⟩ := fm_range hv hi
    exact hu)
  have C4 := hide (fun (u : Value) (W : World) (h : PM W n u (ssP l)) => clone_all n (ssU l) (ssP l) u W SU h)
  have EU := hide (show tlU l = if l.all (maF 340) = true then ssU l else z01 from rfl)
  have EP := hide (show tlP l = if l.all (maF 340) = true then ssP l else [] from rfl)
  have L2 := hide (show (usL z01 ++ [nilS]).length = 15 from rfl)
  have LS := hide (fun (u : Value) => fo_len SU u)
  have OS := hide (fun (u : Value) (h : u.oneCell' = true) => us_one (us := ssU l) h)
  obtain ⟨a, c, rfl, h9⟩ := FM.shape hv
  obtain ⟨W1, hW1⟩ : ∃ W1, w.alloc (.cells #[.int .i64 0, .int .i64 0, .int .i64 0, .int .i64 0, .int .i64 0, .int .i64 0, .int .i64 0, .int .i64 0, .int .i64 0, .int .i64 0, .int .i64 0, .int .i64 0, .int .i64 0, .int .i64 0, .slice none 0 0] 30) = W1 := ⟨_, rfl⟩
  have B0 := hide (show Below w.heap.size w W1 by rw [← hW1]; exact bplus (Below.refl _ _) _)
  have P0 := hide (show Bk W1 w.heap.size 30 [.int .i64 0, .int .i64 0, .int .i64 0, .int .i64 0, .int .i64 0, .int .i64 0, .int .i64 0, .int .i64 0, .int .i64 0, .int .i64 0, .int .i64 0, .int .i64 0, .int .i64 0, .int .i64 0, .slice none 0 0] by rw [← hW1]; exact Bk.new w _ _)
  have HW1 := hide hW1
  have EV := fun us u => show foV us u = .agg (usL us ++ [u]).toArray from rfl
  simp only [EV] at C2 C3 C4 ⊢
  have TH := hide (fun (W : World) (A : List Value) (hA : A.length = 15) (h : Below W1.heap.size W1 W) => show W.there w.heap.size 0 A.toArray.size from there_blk (show W.heap[w.heap.size]? = some (.cells #[.int .i64 0, .int .i64 0, .int .i64 0, .int .i64 0, .int .i64 0, .int .i64 0, .int .i64 0, .int .i64 0, .int .i64 0, .int .i64 0, .int .i64 0, .int .i64 0, .int .i64 0, .int .i64 0, .slice none 0 0] 30) from Bk.up P0.out h) (by rw [List.size_toArray, List.size_toArray, hA]; rfl))
  have HI := hide (fun (A : List Value) (hA : A.length = 15) => show (Tryd.prog.info? 30).map (·.size) = some A.toArray.size by rw [List.size_toArray, hA]; kernel_rfl)
  have HSU := hide SU
  clear hW1 hv hN EV hpl SU
  generalize ssP l = SP at *
  generalize ssU l = SL at *
  cases hm : l.all (maF 340)
  · rw [hm] at C1 EU EP
    have EU2 := EU.out
    have EP2 := EP.out
    simp at EU2 EP2
    rw [EU2, EP2]
    clear EU EP EU2 EP2 C3 C4 hm LS OS HSU
    have OZ := hide (us_one (us := z01) (u := nilS) rfl)
    obtain ⟨A, hAA⟩ : ∃ A, usL z01 ++ [nilS] = A := ⟨_, rfl⟩
    rw [hAA] at C2 L2 OZ
    have HAA := hide hAA
    clear hAA
    go_enter Tryd.func13, Tryd.ntmps13
    go_upto_region 1 with fail
    rw [HW1.out]
    clear HW1
    go_wp2_with (first
      | (go_at_call 27; refine (C1.out _ B0.out).mono ?_; rintro e w1 ⟨rfl, B1⟩; replace B1 := hide B1)
      | (go_at_call 21; refine (C2.out _ (bto B0.out B1.out)).mono ?_; rintro e w5 ⟨rfl, B5⟩; replace B5 := hide (bto B1.out B5))
      | (refine wpList_store_mid rfl 30 (.tmp 2) (.tmp 6) rfl w.heap.size 0 A.toArray rfl rfl (TH.out _ A L2.out B5.out) (HI.out A L2.out) (all_oneCell_toArray OZ.out) ?_))
    refine ret_cell (b := w.heap.size) (cs := A) Tryd.results13 rfl (World.rangeAt_setCells_same _ _ _ _ (TH.out _ A L2.out B5.out)) Tryd.underlying30 rfl (by rw [L2.out]; kernel_rfl) rfl ?_
    exact ⟨nilS, by rw [HAA.out], zus, .inl ⟨_, _, rfl, rfl⟩, (bto B0.out B5.out).grown (setCells_grown _ _ _ _) (bto B0.out B5.out).size (fun k hk => by cases hk; exact Nat.le_refl _)⟩
  · rw [hm] at C1 EU EP
    have EU2 := EU.out
    have EP2 := EP.out
    simp at EU2 EP2
    rw [EU2, EP2]
    clear EU EP EU2 EP2 C2 hm L2
    go_enter Tryd.func13, Tryd.ntmps13
    go_upto_region 1 with fail
    rw [HW1.out]
    clear HW1
    go_wp2_with (first
      | (go_at_call 27; refine (C1.out _ B0.out).mono ?_; rintro e w1 ⟨rfl, B1⟩; replace B1 := hide B1)
      | (go_at_call 29; refine (C3.out _ (bto B0.out B1.out)).mono ?_; rintro e w2 ⟨u2, rfl, PU, B2⟩; replace B2 := hide (bto B1.out B2); replace PU := hide PU)
      | (go_at_call 28; refine (C4.out _ _ PU.out).mono ?_; rintro e w5 ⟨u5, rfl, PV, B5⟩; replace PV := hide PV; replace B5 := hide (bto B2.out B5))
      | (refine wpList_store_mid rfl 30 (.tmp 2) (.tmp 9) rfl w.heap.size 0 (usL SL ++ [u5]).toArray rfl rfl (TH.out _ _ (LS.out u5) B5.out) (HI.out _ (LS.out u5)) (all_oneCell_toArray (OS.out u5 (pm_one PV.out))) ?_))
    refine ret_cell (b := w.heap.size) (cs := usL SL ++ [u5]) Tryd.results13 rfl (World.rangeAt_setCells_same _ _ _ _ (TH.out _ _ (LS.out u5) B5.out)) Tryd.underlying30 rfl (by rw [LS.out u5]; kernel_rfl) rfl ?_
    have FB := (bto B0.out B5.out).grown (setCells_grown w.heap.size (usL SL ++ [u5]) 0 w5) (bto B0.out B5.out).size (fun k hk => by cases hk; exact Nat.le_refl _)
    refine ⟨u5, rfl, HSU.out, pm_sees ?_ PV.out, FB⟩
    have hs2 : w.heap.size < w2.heap.size := Nat.lt_of_lt_of_le (Bk.lt P0.out) B2.out.size
    exact ⟨by rw [cut_size, setCells_size]; omega, fun b o v h => by
      by_cases hb : b < w2.heap.size
      · rw [cut_low _ hb] at h; cases h
      · rw [cell_blk (cut_blk _ (by omega)) o] at h
        rw [cell_blk (setCells_far b w.heap.size 0 (by omega) _ _ _) o]
        exact h⟩
end Go.Proofs.YtlhmecagijdinaaDoor.nm
set_option linter.unusedVariables false
set_option linter.unusedSimpArgs false
namespace Go.Proofs.YtlhmecagijdinaaDoor.nm
open Go.RowKit

theorem may_same (n d : Int) : wk.mayB n d = mayB n d := rfl
theorem cleanR_any (n d : Int) (w : World) (hn : i64 n) (hd : i64 d) : Calls Tryd.prog 25 #[.agg #[.int .i64 n, .int .i64 d]] w fun e w' => e = .returned (.agg #[.int .i64 (ctR (n, d)).1, .int .i64 (ctR (n, d)).2]) ∧ Below w.heap.size w w' := by
  refine (wk.clean_any n d w hn hd).mono ?_
  rintro e w1 ⟨rfl, U⟩
  refine ⟨?_, U.1⟩
  unfold wk.clN wk.clD ctR
  rw [may_same]
  cases mayB n d <;> rfl
end Go.Proofs.YtlhmecagijdinaaDoor.nm
