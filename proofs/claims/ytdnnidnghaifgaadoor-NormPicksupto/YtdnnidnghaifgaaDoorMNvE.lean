/-
  May all of some forms be; their sum: by the program.
-/
import Derived.Test.YtdnnidnghaifgaaDoorG27
import Derived.Test.YtdnnidnghaifgaaDoorMNoB
set_option linter.unusedVariables false
set_option linter.unusedSimpArgs false
namespace Go.Proofs.YtdnnidnghaifgaaDoor.nm
open Go.RowKit

theorem fm_range {w : World} {n : Nat} {v : Value} {l : List Fo} {k : Nat} {f : Fo} (h : FM w n v l) (hf : l[k]? = some f) : ∃ m b o c u, v = .slice (some ⟨b, o, none⟩) l.length c ∧ b < w.heap.size ∧ Us f.us ∧ w.rangeAt b (o + k * 15) (usL f.us ++ [u]) ∧ PM w m u f.ps := by
  obtain ⟨m, -, b, o, c, u, hv, hb, -, -, hun, h14, hpm⟩ := FM.at h hf
  refine ⟨m, b, o, c, u, hv, hb, hun.1, fun j x hj => ?_, hpm⟩
  have l14 := usL_len f.us
  have l7 := hun.1.1
  by_cases hj14 : j < 14
  · rw [List.getElem?_append_left (by omega)] at hj
    exact un_cell hun hj
  · have hj2 := (List.getElem?_eq_some_iff.1 hj).1
    rw [List.length_append, List.length_singleton] at hj2
    obtain rfl : j = 14 := by omega
    rw [List.getElem?_append_right (by omega), show 14 - (usL f.us).length = 0 by omega] at hj
    simp at hj
    subst hj
    exact h14
def RelAlF (w : World) (l : List Fo) (R0 : Bool) (i : Value) (wr : World) : Prop := ∃ k : Nat, i = .int .i64 k ∧ k ≤ l.length ∧ Hid (R0 = (l.drop k).all (maF 340) ∧ Below w.heap.size w wr)
theorem RelAlF.mk {w : World} {l : List Fo} {R0 : Bool} {i : Value} {wr : World} (k : Nat) (h1 : i = .int .i64 k) (h2 : k ≤ l.length) (h3 : R0 = (l.drop k).all (maF 340)) (h4 : Below w.heap.size w wr) : RelAlF w l R0 i wr := ⟨k, h1, h2, h3, h4⟩
set_option maxRecDepth 100000 in
set_option maxHeartbeats 8000000 in
theorem allMay_any (n : Nat) (l : List Fo) (v : Value) (w : World) (hv : FM w n v l) : Calls Tryd.prog 24 #[v] w fun e w' => e = .returned (.bool (l.all (maF 340))) ∧ Below w.heap.size w w' := by
  have HV := hide hv
  obtain ⟨a, c, rfl, h9⟩ := FM.shape hv
  obtain ⟨R0, hR0⟩ : ∃ r, l.all (maF 340) = r := ⟨_, rfl⟩
  rw [hR0]
  have E0 := hide (show R0 = (l.drop 0).all (maF 340) from hR0.symm)
  have BB := hide (Below.refl w.heap.size w)
  clear hv hR0
  go_enter Tryd.func24, Tryd.ntmps24
  go_wp2_with fail
  go_loopw [7] (fun i wr => RelAlF w l R0 i wr) (fun i _ => l.length - (intOf i).toNat)
  case atStart => exact .mk 0 rfl (by omega) E0.out BB.out
  case round =>
    obtain ⟨k, rfl, hk, R⟩ := hrel
    have RE := hide R.out.1
    have BW := hide R.out.2
    clear R E0 BB
    by_cases hlt : k < l.length
    · have hlt' : (k : Int) < l.length := by omega
      obtain ⟨f, hf⟩ : ∃ f, l[k]? = some f := ⟨_, List.getElem?_eq_getElem hlt⟩
      obtain ⟨m, b, o, c', fu, hv', hb, hus, hrg, hpm⟩ := fm_range HV.out hf
      obtain ⟨rfl, rfl⟩ : a = some ⟨b, o, none⟩ ∧ c = c' := by cases hv'; exact ⟨rfl, rfl⟩
      have lA := fo_len hus fu
      have OA := hide (us_one (us := f.us) (pm_one hpm))
      have CI := hide (fun (W : World) (h : Below w.heap.size w W) => fmay_any m f.us f.ps fu W hus (PM.low h hpm))
      rw [show foV f.us fu = .agg (usL f.us ++ [fu]).toArray from rfl, show Fo.mk f.us f.ps = f by cases f; rfl] at CI
      have RG := hide (show wr.rangeAt b (o + k * 15) (usL f.us ++ [fu]) from fun j v hj => (BW.out.cell (p := ⟨b, o + k * 15 + j, none⟩) hb).trans (hrg j v hj))
      have R2 := hide (show R0 = (maF 340 f && (l.drop (k + 1)).all (maF 340)) by rw [RE.out, drop_atE hf]; rfl)
      have hbw : b < wr.heap.size := by have := BW.out.size; omega
      have nb : b ≠ wr.heap.size := by omega
      clear hf hrg hpm hus RE
      (try clear hv')
      generalize usL f.us ++ [fu] = A at *
      have sA : A.toArray.size = 15 := by rw [List.size_toArray]; exact lA
      obtain ⟨W4, hW4⟩ : ∃ W4, (wr.alloc (.cells #[.int .i64 0, .int .i64 0, .int .i64 0, .int .i64 0, .int .i64 0, .int .i64 0, .int .i64 0, .int .i64 0, .int .i64 0, .int .i64 0, .int .i64 0, .int .i64 0, .int .i64 0, .int .i64 0, .slice none 0 0] 38)).setCells wr.heap.size 0 A = W4 := ⟨_, rfl⟩
      have T4 := hide (show (wr.alloc (.cells #[.int .i64 0, .int .i64 0, .int .i64 0, .int .i64 0, .int .i64 0, .int .i64 0, .int .i64 0, .int .i64 0, .int .i64 0, .int .i64 0, .int .i64 0, .int .i64 0, .int .i64 0, .int .i64 0, .slice none 0 0] 38)).there wr.heap.size 0 A.toArray.size from there_blk (heap_alloc_new wr _) (by rw [sA]; rfl))
      have H4 := hide (show (Tryd.prog.info? 38).map (·.size) = some A.toArray.size by rw [sA]; kernel_rfl)
      have H5 := hide (show (Tryd.prog.info? 38).map (·.size) = some A.length by rw [lA]; kernel_rfl)
      have B4 := hide (show Below wr.heap.size wr W4 by rw [← hW4]; exact (bplus (Below.refl _ _) _).grown (setCells_grown _ _ _ _) (by simp) (fun k hk => by cases hk; exact Nat.le_refl _))
      have R4 := hide (show W4.rangeAt wr.heap.size 0 A by
        have q := Bk.puts A 0 _ _ (Bk.new wr 38 [.int .i64 0, .int .i64 0, .int .i64 0, .int .i64 0, .int .i64 0, .int .i64 0, .int .i64 0, .int .i64 0, .int .i64 0, .int .i64 0, .int .i64 0, .int .i64 0, .int .i64 0, .int .i64 0, .slice none 0 0]) (by rw [lA]; simp)
        rw [List.take_zero, List.nil_append, Nat.zero_add, List.drop_of_length_le (by rw [lA]; simp), List.append_nil] at q
        rw [← hW4]
        exact range_blk q)
      have HW4 := hide hW4
      clear hW4
      go_upto_region 4 with (first
        | (refine wpList_load_mid rfl 38 (.tmp 9) rfl b (o + k * 15) rfl A _ RG.out Tryd.underlying38 rfl H5.out ?_)
        | (refine wpList_store_mid rfl 38 (.tmp 4) (.tmp 10) rfl wr.heap.size 0 A.toArray rfl rfl T4.out H4.out (all_oneCell_toArray OA.out) ?_))
      (try rw [show A.toArray.toList = A from rfl])
      rw [HW4.out]
      clear HW4 T4 RG
      cases hm : maF 340 f
      · have F := hide (show R0 = false by rw [R2.out, hm]; rfl)
        rw [hm] at CI
        clear hm R2
        go_wp2_with (first
          | (refine wpList_load_mid rfl 38 (.tmp 4) rfl wr.heap.size 0 rfl A _ R4.out Tryd.underlying38 rfl H5.out ?_)
          | (go_at_call 31; refine (CI.out _ (bto BW.out B4.out)).mono ?_; rintro e w5 ⟨rfl, B5⟩; replace B5 := hide B5))
        go_ret
        exact ⟨ret_bool F.out.symm, bto (bto BW.out B4.out) B5.out⟩
      · have F := hide (show R0 = (l.drop (k + 1)).all (maF 340) by rw [R2.out, hm]; rfl)
        rw [hm] at CI
        clear hm R2
        go_wp2_with (first
          | (refine wpList_load_mid rfl 38 (.tmp 4) rfl wr.heap.size 0 rfl A _ R4.out Tryd.underlying38 rfl H5.out ?_)
          | (go_at_call 31; refine (CI.out _ (bto BW.out B4.out)).mono ?_; rintro e w5 ⟨rfl, B5⟩; replace B5 := hide B5))
        go_roundw
        case rel => exact .mk (k + 1) (by go_num) (by omega) F.out (bto (bto BW.out B4.out) B5.out)
        case measure => simp [intOf]; omega
    · have F := hide (show R0 = true by rw [RE.out, List.drop_of_length_le (by omega)]; rfl)
      have hlt' : ¬ (k : Int) < l.length := by omega
      go_wp2
      go_ret
      exact ⟨ret_bool F.out.symm, BW.out⟩
set_option maxRecDepth 100000 in
set_option maxHeartbeats 8000000 in
theorem allR_any (n : Nat) (l : List Fo) (v : Value) (w : World) (hv : FM w n v l) : Calls Tryd.prog 9 #[v] w fun e w' => e = .returned (.bool (l.all (maF 340))) ∧ Below w.heap.size w w' := by
  have HV := hide hv
  obtain ⟨a, c, rfl, h9⟩ := FM.shape hv
  obtain ⟨R0, hR0⟩ : ∃ r, l.all (maF 340) = r := ⟨_, rfl⟩
  rw [hR0]
  have E0 := hide (show R0 = (l.drop 0).all (maF 340) from hR0.symm)
  have BB := hide (Below.refl w.heap.size w)
  clear hv hR0
  go_enter Tryd.func9, Tryd.ntmps9
  go_wp2_with fail
  go_loopw [7] (fun i wr => RelAlF w l R0 i wr) (fun i _ => l.length - (intOf i).toNat)
  case atStart => exact .mk 0 rfl (by omega) E0.out BB.out
  case round =>
    obtain ⟨k, rfl, hk, R⟩ := hrel
    have RE := hide R.out.1
    have BW := hide R.out.2
    clear R E0 BB
    by_cases hlt : k < l.length
    · have hlt' : (k : Int) < l.length := by omega
      obtain ⟨f, hf⟩ : ∃ f, l[k]? = some f := ⟨_, List.getElem?_eq_getElem hlt⟩
      obtain ⟨m, b, o, c', fu, hv', hb, hus, hrg, hpm⟩ := fm_range HV.out hf
      obtain ⟨rfl, rfl⟩ : a = some ⟨b, o, none⟩ ∧ c = c' := by cases hv'; exact ⟨rfl, rfl⟩
      have lA := fo_len hus fu
      have OA := hide (us_one (us := f.us) (pm_one hpm))
      have CI := hide (fun (W : World) (h : Below w.heap.size w W) => fmayR_any m f.us f.ps fu W hus (PM.low h hpm))
      rw [show foV f.us fu = .agg (usL f.us ++ [fu]).toArray from rfl, show Fo.mk f.us f.ps = f by cases f; rfl] at CI
      have RG := hide (show wr.rangeAt b (o + k * 15) (usL f.us ++ [fu]) from fun j v hj => (BW.out.cell (p := ⟨b, o + k * 15 + j, none⟩) hb).trans (hrg j v hj))
      have R2 := hide (show R0 = (maF 340 f && (l.drop (k + 1)).all (maF 340)) by rw [RE.out, drop_atE hf]; rfl)
      have hbw : b < wr.heap.size := by have := BW.out.size; omega
      have nb : b ≠ wr.heap.size := by omega
      clear hf hrg hpm hus RE
      (try clear hv')
      generalize usL f.us ++ [fu] = A at *
      have sA : A.toArray.size = 15 := by rw [List.size_toArray]; exact lA
      obtain ⟨W4, hW4⟩ : ∃ W4, (wr.alloc (.cells #[.int .i64 0, .int .i64 0, .int .i64 0, .int .i64 0, .int .i64 0, .int .i64 0, .int .i64 0, .int .i64 0, .int .i64 0, .int .i64 0, .int .i64 0, .int .i64 0, .int .i64 0, .int .i64 0, .slice none 0 0] 38)).setCells wr.heap.size 0 A = W4 := ⟨_, rfl⟩
      have T4 := hide (show (wr.alloc (.cells #[.int .i64 0, .int .i64 0, .int .i64 0, .int .i64 0, .int .i64 0, .int .i64 0, .int .i64 0, .int .i64 0, .int .i64 0, .int .i64 0, .int .i64 0, .int .i64 0, .int .i64 0, .int .i64 0, .slice none 0 0] 38)).there wr.heap.size 0 A.toArray.size from there_blk (heap_alloc_new wr _) (by rw [sA]; rfl))
      have H4 := hide (show (Tryd.prog.info? 38).map (·.size) = some A.toArray.size by rw [sA]; kernel_rfl)
      have H5 := hide (show (Tryd.prog.info? 38).map (·.size) = some A.length by rw [lA]; kernel_rfl)
      have B4 := hide (show Below wr.heap.size wr W4 by rw [← hW4]; exact (bplus (Below.refl _ _) _).grown (setCells_grown _ _ _ _) (by simp) (fun k hk => by cases hk; exact Nat.le_refl _))
      have R4 := hide (show W4.rangeAt wr.heap.size 0 A by
        have q := Bk.puts A 0 _ _ (Bk.new wr 38 [.int .i64 0, .int .i64 0, .int .i64 0, .int .i64 0, .int .i64 0, .int .i64 0, .int .i64 0, .int .i64 0, .int .i64 0, .int .i64 0, .int .i64 0, .int .i64 0, .int .i64 0, .int .i64 0, .slice none 0 0]) (by rw [lA]; simp)
        rw [List.take_zero, List.nil_append, Nat.zero_add, List.drop_of_length_le (by rw [lA]; simp), List.append_nil] at q
        rw [← hW4]
        exact range_blk q)
      have HW4 := hide hW4
      clear hW4
      go_upto_region 4 with (first
        | (refine wpList_load_mid rfl 38 (.tmp 9) rfl b (o + k * 15) rfl A _ RG.out Tryd.underlying38 rfl H5.out ?_)
        | (refine wpList_store_mid rfl 38 (.tmp 4) (.tmp 10) rfl wr.heap.size 0 A.toArray rfl rfl T4.out H4.out (all_oneCell_toArray OA.out) ?_))
      (try rw [show A.toArray.toList = A from rfl])
      rw [HW4.out]
      clear HW4 T4 RG
      cases hm : maF 340 f
      · have F := hide (show R0 = false by rw [R2.out, hm]; rfl)
        rw [hm] at CI
        clear hm R2
        go_wp2_with (first
          | (refine wpList_load_mid rfl 38 (.tmp 4) rfl wr.heap.size 0 rfl A _ R4.out Tryd.underlying38 rfl H5.out ?_)
          | (go_at_call 21; refine (CI.out _ (bto BW.out B4.out)).mono ?_; rintro e w5 ⟨rfl, B5⟩; replace B5 := hide B5))
        go_ret
        exact ⟨ret_bool F.out.symm, bto (bto BW.out B4.out) B5.out⟩
      · have F := hide (show R0 = (l.drop (k + 1)).all (maF 340) by rw [R2.out, hm]; rfl)
        rw [hm] at CI
        clear hm R2
        go_wp2_with (first
          | (refine wpList_load_mid rfl 38 (.tmp 4) rfl wr.heap.size 0 rfl A _ R4.out Tryd.underlying38 rfl H5.out ?_)
          | (go_at_call 21; refine (CI.out _ (bto BW.out B4.out)).mono ?_; rintro e w5 ⟨rfl, B5⟩; replace B5 := hide B5))
        go_roundw
        case rel => exact .mk (k + 1) (by go_num) (by omega) F.out (bto (bto BW.out B4.out) B5.out)
        case measure => simp [intOf]; omega
    · have F := hide (show R0 = true by rw [RE.out, List.drop_of_length_le (by omega)]; rfl)
      have hlt' : ¬ (k : Int) < l.length := by omega
      go_wp2
      go_ret
      exact ⟨ret_bool F.out.symm, BW.out⟩
/-- What Add tells. -/
def tlU (l : List Fo) : List (Int × Int) := if l.all (maF 340) = true then ssU l else z01
def tlP (l : List Fo) : List Pa := if l.all (maF 340) = true then ssP l else []
end Go.Proofs.YtdnnidnghaifgaaDoor.nm
