/-
  The pick of some forms: by the program.
  The pick of some forms, over an elder world: by the program.
  The pick, as the reference scans it: plain.
-/
import Derived.Test.YtlhmecagijdinaaDoorH15
import Derived.Test.YtlhmecagijdinaaDoorH11
import Derived.Test.YtlhmecagijdinaaDoorH08
set_option linter.unusedVariables false
set_option linter.unusedSimpArgs false
namespace Go.Proofs.YtlhmecagijdinaaDoor.nm
open Go.RowKit cc

def PkPost (n : Nat) (f : Fo) (w : World) (e : Ending) (w' : World) : Prop := ∃ fu, e = .returned (foV f.us fu) ∧ PM w' n fu f.ps ∧ Below w.heap.size w w'
theorem PkPost.mk {n : Nat} {f : Fo} {w w' : World} {e : Ending} (fu : Value) (h1 : e = .returned (foV f.us fu)) (h2 : PM w' n fu f.ps) (h3 : Below w.heap.size w w') : PkPost n f w e w' := ⟨fu, h1, h2, h3⟩
theorem fi5 {us : List (Int × Int)} (h : us.length = 7) (u : Value) : (Tryd.prog.info? 30).map (·.size) = some (usL us ++ [u]).toArray.size := by rw [List.size_toArray, List.length_append, usL_len, h]; kernel_rfl
theorem fm_le {w : World} {n m : Nat} (h : n ≤ m) {v : Value} {l : List Fo} (hf : FM w n v l) : FM w m v l := by
  induction m with
  | zero => obtain rfl : n = 0 := by omega
            exact hf
  | succ m ih =>
    by_cases e : n = m + 1
    · subst e; exact hf
    · exact (ih (by omega)).up
theorem pm_le {w : World} {n m : Nat} (h : n ≤ m) {v : Value} {l : List Pa} (hf : PM w n v l) : PM w m v l := RowOf.mono hf (Nat.le_refl _) (fun b o x hb _ hx => by obtain ⟨u, h1, h2, h3⟩ := hx; exact ⟨u, h1, h2, fm_le h h3⟩)
theorem fm_rangeN {w : World} {n : Nat} {v : Value} {l : List Fo} {k : Nat} {f : Fo} (h : FM w n v l) (hf : l[k]? = some f) : ∃ m b o c u, n = m + 1 ∧ v = .slice (some ⟨b, o, none⟩) l.length c ∧ b < w.heap.size ∧ Us f.us ∧ w.rangeAt b (o + k * 15) (usL f.us ++ [u]) ∧ PM w m u f.ps := by
  obtain ⟨m, hm, b, o, c, u, hv, hb, -, -, hun, h14, hpm⟩ := FM.at h hf
  refine ⟨m, b, o, c, u, hm, hv, hb, hun.1, fun j x hj => ?_, hpm⟩
  have l14 := usL_len f.us
  have l7 := hun.1.1
  by_cases hj14 : j < 14
  · rw [List.getElem?_append_left (by omega)] at hj
    exact un_cell hun hj
  · have hj2 := (List.getElem?_eq_some_iff.1 hj).1
    rw [List.length_append, List.length_singleton] at hj2
    obtain rfl : j = 14 := by omega
    rw [List.getElem?_append_right (by omega), show 14 - (usL f.us).length = 0 by omega] at hj
    simp at hj
    subst hj
    exact h14
/-- A form is told out of the result's block. -/
theorem one_part {w : World} {n : Nat} {mx : Bool} {l : List Fo} {v : Value} {b : Nat} (hb : Bk w b 51 [.bool mx, v]) (hv : FM w n v l) : PM w n (.slice (some ⟨b, 0, none⟩) 1 1) [(mx, l)] := by
  refine .inr ⟨b, 0, 1, rfl, by show 0 < 1; decide, Bk.lt hb, by show 1 ≤ 1; decide, by show 1 ≤ 1000000000; decide, by show 1 ≤ 9223372036854775807; decide, fun i x hi => ?_⟩
  match i, hi with
  | 0, hi =>
    obtain rfl := Option.some.inj hi
    exact ⟨v, by rw [Nat.zero_mul, Nat.add_zero, Bk.cell hb]; rfl, by rw [Nat.zero_mul, Nat.add_zero, Bk.cell hb]; rfl, hv⟩
set_option maxRecDepth 100000 in
set_option maxHeartbeats 16000000 in
theorem pick_any (n : Nat) (mx : Bool) (l : List Fo) (v : Value) (w : World) (hN : Nth w) (hT : TabD w) (hv : FM w n v l) : Calls Tryd.prog 30 #[.bool mx, v] w (PkPost n (pkF mx l) w) := by
  obtain ⟨a, c, rfl, hl9⟩ := hv.shape
  have HV := hide hv
  have HN := hide hN
  have HT := hide hT
  have hus := fm_us hv
  have h7s := fun f hf => (hus f hf).1
  have EP := hide (show pkF mx l = if l.length = 1 then l.headD (.mk z01 []) else if plainL l = false ∨ 1 < popM (maskN l) then .mk z01 [(mx, l)] else if maskN l = 0 then .mk z01 [] else .mk (oneU ((maskN l).log2 : Nat) (wk.utAll (if mx then 1 else -1) (amU (maskN l).log2 l))) [] from rfl)
  obtain ⟨W1, hW1⟩ : ∃ W1, w.alloc (.cells #[.int .i64 0, .int .i64 0, .int .i64 0, .int .i64 0, .int .i64 0, .int .i64 0, .int .i64 0, .int .i64 0, .int .i64 0, .int .i64 0, .int .i64 0, .int .i64 0, .int .i64 0, .int .i64 0, .slice none 0 0] 30) = W1 := ⟨_, rfl⟩
  have B0 := hide (show Below w.heap.size w W1 by rw [← hW1]; exact bplus (Below.refl _ _) _)
  have KB := hide (show Bk W1 w.heap.size 30 [.int .i64 0, .int .i64 0, .int .i64 0, .int .i64 0, .int .i64 0, .int .i64 0, .int .i64 0, .int .i64 0, .int .i64 0, .int .i64 0, .int .i64 0, .int .i64 0, .int .i64 0, .int .i64 0, .slice none 0 0] by rw [← hW1]; exact Bk.new w _ _)
  have TH0 := hide (fun (W : World) (h : Below W1.heap.size W1 W) => there_blk (n := 15) (show W.heap[w.heap.size]? = some (.cells #[.int .i64 0, .int .i64 0, .int .i64 0, .int .i64 0, .int .i64 0, .int .i64 0, .int .i64 0, .int .i64 0, .int .i64 0, .int .i64 0, .int .i64 0, .int .i64 0, .int .i64 0, .int .i64 0, .slice none 0 0] 30) from Bk.up KB.out h) rfl)
  have S1 : w.heap.size < W1.heap.size := Bk.lt KB.out
  have HW1 := hide hW1
  clear hW1 hv hN hT
  by_cases h1 : l.length = 1
  · have h1' : (l.length : Int) = 1 := by omega
    obtain ⟨f, hf⟩ : ∃ f, l[0]? = some f := ⟨_, List.getElem?_eq_getElem (by omega)⟩
    replace EP := hide (show pkF mx l = f by
      rw [EP.out, if_pos h1]
      match l, h1, hf with
      | [g], _, hf => exact Option.some.inj hf)
    rw [EP.out]
    obtain ⟨m, b, o, c', fu, hnm, hv', hb, hus', hrg, hpm⟩ := fm_rangeN HV.out hf
    obtain ⟨rfl, rfl⟩ : a = some ⟨b, o, none⟩ ∧ c = c' := by cases hv'; exact ⟨rfl, rfl⟩
    rw [Nat.zero_mul, Nat.add_zero] at hrg
    have lA := fo_len hus' fu
    have OA := hide (us_one (us := f.us) (pm_one hpm))
    have RG := hide (show W1.rangeAt b o (usL f.us ++ [fu]) from fun j v hj => (B0.out.cell (p := ⟨b, o + j, none⟩) hb).trans (hrg j v hj))
    have PM1 := hide (fun (W : World) (h : Below w.heap.size w W) => show PM W n fu f.ps from pm_le (by omega) (PM.low h hpm))
    have EF := hide (show foV f.us fu = .agg (usL f.us ++ [fu]).toArray from rfl)
    rw [h1]
    have HI5 := hide (fi5 hus'.1 fu)
    have HI6 := hide (show (Tryd.prog.info? 30).map (·.size) = some (usL f.us ++ [fu]).length by have := fi5 hus'.1 fu; rwa [List.size_toArray] at this)
    clear hf hrg hpm hus' hus h7s EP HV HN HT KB
    (try clear hv')
    generalize usL f.us ++ [fu] = A at *
    have sA : A.toArray.size = 15 := by rw [List.size_toArray]; exact lA
    have TH := hide (show W1.there w.heap.size 0 A.toArray.size by rw [sA]; exact TH0.out W1 (Below.refl _ _))
    go_enter Tryd.func30, Tryd.ntmps30
    go_upto_region 1 with fail
    rw [HW1.out]
    clear HW1
    go_upto_region 2 with fail
    refine wp_region_list ?_
    go_wp2_with (first
      | (refine wpList_load_mid rfl 30 (.tmp 13) rfl b o rfl A _ RG.out Tryd.underlying30 rfl HI6.out ?_)
      | (refine wpList_store_mid rfl 30 (.tmp 4) (.tmp 14) rfl w.heap.size 0 A.toArray rfl rfl TH.out HI5.out (all_oneCell_toArray OA.out) ?_))
    (try rw [show A.toArray.toList = A from rfl])
    have BW := hide (show Below w.heap.size w (W1.setCells w.heap.size 0 A) from B0.out.grown (setCells_grown _ _ _ _) B0.out.size (fun k hk => by cases hk; exact Nat.le_refl _))
    have RA := World.rangeAt_setCells_same W1 w.heap.size 0 A (by have := TH.out; rwa [List.size_toArray] at this)
    refine ret_cell (b := w.heap.size) (cs := A) Tryd.results30 rfl RA Tryd.underlying30 rfl HI6.out rfl ?_
    exact PkPost.mk fu (by rw [EF.out]) (PM1.out _ BW.out) BW.out
  · have h1' : ((l.length : Int) == 1) = false := by simp; omega
    have CZ := hide (fun (W : World) (h : Below w.heap.size w W) => zero_any W (HN.out.low h))
    rw [show foV z01 nilS = .agg #[.int .i64 0, .int .i64 1, .int .i64 0, .int .i64 1, .int .i64 0, .int .i64 1, .int .i64 0, .int .i64 1, .int .i64 0, .int .i64 1, .int .i64 0, .int .i64 1, .int .i64 0, .int .i64 1, .slice none 0 0] from rfl] at CZ
    have CU := hide (fun (W : World) (h : Below w.heap.size w W) => usedPlain_any n l (.slice a l.length c) W (HN.out.low h) (FM.low h HV.out))
    rw [upT_zero h7s] at CU
    rw [if_neg h1] at EP
    have ML := maskN_lt h7s
    have M0 := maskN_bit0 l
    cases hp : plainL l
    · rw [hp] at CU EP
      replace CU := hide (show ∀ (W : World), Below w.heap.size w W → Calls Tryd.prog 48 #[.slice a l.length c] W fun e w' => e = .returned (.tuple #[.int .i64 0, .bool false]) ∧ Below W.heap.size W w' from CU.out)
      replace EP := hide (show pkF mx l = .mk z01 [(mx, l)] by rw [EP.out, if_pos (.inl rfl)])
      rw [EP.out]
      clear EP
      go_enter Tryd.func30, Tryd.ntmps30
      go_upto_region 1 with fail
      rw [HW1.out]
      clear HW1
      go_upto_region 6 with (first
        | (go_at_call 48; refine (CU.out _ B0.out).mono ?_; rintro e wu ⟨rfl, BU⟩; replace BU := hide BU)
        | (go_at_call 21; refine (CZ.out _ (bto B0.out BU.out)).mono ?_; rintro e wz ⟨rfl, BZ⟩; replace BZ := hide (bto BU.out BZ)))
      obtain ⟨W2, hW2⟩ : ∃ W2, wz.alloc (.cells #[.int .i64 0, .int .i64 1, .int .i64 0, .int .i64 1, .int .i64 0, .int .i64 1, .int .i64 0, .int .i64 1, .int .i64 0, .int .i64 1, .int .i64 0, .int .i64 1, .int .i64 0, .int .i64 1, .slice none 0 0] 30) = W2 := ⟨_, rfl⟩
      have FZ := hide (show Bk W2 wz.heap.size 30 (usL z01 ++ [nilS]) by rw [← hW2]; exact Bk.new wz _ (usL z01 ++ [nilS]))
      have B2 := hide (show Below W1.heap.size W1 W2 by rw [← hW2]; exact bplus BZ.out _)
      have htb : W1.heap.size ≤ wz.heap.size := BZ.out.size
      rw [hW2]
      clear hW2 BZ BU CZ CU
      generalize wz.heap.size = tb at *
      have c14 : W2.cell? ⟨tb, 14, none⟩ = some (.slice none 0 0) := Bk.cell FZ.out 14
      have z14 := Bk.fz FZ.out 14
      have tb2 : tb < W2.heap.size := Bk.lt FZ.out
      have tbn : tb ≠ W2.heap.size := by omega
      go_upto_region 7 with fail
      obtain ⟨W3, hW3⟩ : ∃ W3, (W2.setCell ⟨tb, 14, none⟩ (.slice (some ⟨W2.heap.size, 0, none⟩) 1 1)).alloc (.cells #[.bool mx, .slice a l.length c] 51) = W3 := ⟨_, rfl⟩
      have FZ3 := hide (show Bk W3 tb 30 (usL z01 ++ [.slice (some ⟨W2.heap.size, 0, none⟩) 1 1]) by rw [← hW3]; exact Bk.more (Bk.put FZ.out 14 _) _)
      have PB3 := hide (show Bk W3 W2.heap.size 51 [.bool mx, .slice a l.length c] by rw [← hW3]; have q := Bk.new (W2.setCell ⟨tb, 14, none⟩ (.slice (some ⟨W2.heap.size, 0, none⟩) 1 1)) 51 [.bool mx, .slice a l.length c]; rwa [show (W2.setCell ⟨tb, 14, none⟩ (.slice (some ⟨W2.heap.size, 0, none⟩) 1 1)).heap.size = W2.heap.size by simp] at q)
      have B3 := hide (show Below W1.heap.size W1 W3 by rw [← hW3]; exact bplus (B2.out.setCell htb _) _)
      rw [hW3]
      clear hW3 c14 z14
      generalize W2.heap.size = pb at *
      obtain ⟨A, hA⟩ : ∃ A : List Value, usL z01 ++ [Value.slice (some ⟨pb, 0, none⟩) 1 1] = A := ⟨_, rfl⟩
      have lA : A.length = 15 := by rw [← hA]; rfl
      have EF := hide (show foV z01 (.slice (some ⟨pb, 0, none⟩) 1 1) = .agg A.toArray by rw [← hA]; rfl)
      have OA := hide (show ∀ v ∈ A, v.oneCell' = true by rw [← hA]; exact us_one rfl)
      rw [hA] at FZ3
      clear hA FZ
      have HI6 := hide (show (Tryd.prog.info? 30).map (·.size) = some A.length by rw [lA]; kernel_rfl)
      have RG := hide (range_blk FZ3.out)
      have sA : A.toArray.size = 15 := by rw [List.size_toArray]; exact lA
      have TH := hide (show W3.there w.heap.size 0 A.toArray.size by rw [sA]; exact TH0.out W3 B3.out)
      refine wp_region_list ?_
      refine wpList_load_mid rfl 30 (.tmp 7) rfl tb 0 rfl A _ RG.out Tryd.underlying30 rfl HI6.out ?_
      refine wpList_store_mid rfl 30 (.tmp 4) (.tmp 34) rfl w.heap.size 0 A.toArray rfl rfl TH.out (by rw [List.size_toArray]; exact HI6.out) (all_oneCell_toArray OA.out) ?_
      (try rw [show A.toArray.toList = A from rfl])
      have BW := hide (show Below w.heap.size w (W3.setCells w.heap.size 0 A) from (bto B0.out B3.out).grown (setCells_grown _ _ _ _) (bto B0.out B3.out).size (fun k hk => by cases hk; exact Nat.le_refl _))
      have RA := World.rangeAt_setCells_same W3 w.heap.size 0 A (by have := TH.out; rwa [List.size_toArray] at this)
      have PB4 := hide (show Bk (W3.setCells w.heap.size 0 A) pb 51 [.bool mx, .slice a l.length c] from (setCells_far pb w.heap.size 0 (by omega) A 0 W3).trans PB3.out)
      go_wp2_with fail
      refine ret_cell (b := w.heap.size) (cs := A) Tryd.results30 rfl RA Tryd.underlying30 rfl HI6.out rfl ?_
      exact PkPost.mk (f := .mk z01 [(mx, l)]) _ (by show _ = Ending.returned (foV z01 _); rw [EF.out]) (one_part PB4.out (FM.low BW.out HV.out)) BW.out
    · rw [hp] at CU EP
      have CO := hide (fun (W : World) => ones_any (maskN l) ML W)
      have P1 := pop_one _ ML M0
      obtain ⟨M, hM⟩ : ∃ M, maskN l = M := ⟨_, rfl⟩
      rw [hM] at CU EP CO P1 ML
      replace CU := hide (show ∀ (W : World), Below w.heap.size w W → Calls Tryd.prog 48 #[.slice a l.length c] W fun e w' => e = .returned (.tuple #[.int .i64 M, .bool true]) ∧ Below W.heap.size W w' from CU.out)
      have g1 : (0 : Int) ≤ M := by omega
      have g2 : (M : Int) < 256 := by omega
      obtain ⟨pp, hpp⟩ : ∃ pp, popM M = pp := ⟨_, rfl⟩
      rw [hpp] at CO EP P1
      by_cases h2 : 1 < pp
      · have h2' : (1 : Int) < pp := by omega
        replace EP := hide (show pkF mx l = .mk z01 [(mx, l)] by rw [EP.out, if_pos (.inr h2)])
        clear P1
        rw [EP.out]
        clear EP
        go_enter Tryd.func30, Tryd.ntmps30
        go_upto_region 1 with fail
        rw [HW1.out]
        clear HW1
        go_upto_region 6 with (first
          | (go_at_call 48; refine (CU.out _ B0.out).mono ?_; rintro e wu ⟨rfl, BU⟩; replace BU := hide BU)
          | (go_at_call 49; refine (CO.out _).mono ?_; rintro e wo ⟨rfl, rfl⟩)
          | (go_at_call 21; refine (CZ.out _ (bto B0.out BU.out)).mono ?_; rintro e wz ⟨rfl, BZ⟩; replace BZ := hide (bto BU.out BZ)))
        obtain ⟨W2, hW2⟩ : ∃ W2, wz.alloc (.cells #[.int .i64 0, .int .i64 1, .int .i64 0, .int .i64 1, .int .i64 0, .int .i64 1, .int .i64 0, .int .i64 1, .int .i64 0, .int .i64 1, .int .i64 0, .int .i64 1, .int .i64 0, .int .i64 1, .slice none 0 0] 30) = W2 := ⟨_, rfl⟩
        have FZ := hide (show Bk W2 wz.heap.size 30 (usL z01 ++ [nilS]) by rw [← hW2]; exact Bk.new wz _ (usL z01 ++ [nilS]))
        have B2 := hide (show Below W1.heap.size W1 W2 by rw [← hW2]; exact bplus BZ.out _)
        have htb : W1.heap.size ≤ wz.heap.size := BZ.out.size
        rw [hW2]
        clear hW2 BZ BU CZ CU
        generalize wz.heap.size = tb at *
        have c14 : W2.cell? ⟨tb, 14, none⟩ = some (.slice none 0 0) := Bk.cell FZ.out 14
        have z14 := Bk.fz FZ.out 14
        have tb2 : tb < W2.heap.size := Bk.lt FZ.out
        have tbn : tb ≠ W2.heap.size := by omega
        go_upto_region 7 with fail
        obtain ⟨W3, hW3⟩ : ∃ W3, (W2.setCell ⟨tb, 14, none⟩ (.slice (some ⟨W2.heap.size, 0, none⟩) 1 1)).alloc (.cells #[.bool mx, .slice a l.length c] 51) = W3 := ⟨_, rfl⟩
        have FZ3 := hide (show Bk W3 tb 30 (usL z01 ++ [.slice (some ⟨W2.heap.size, 0, none⟩) 1 1]) by rw [← hW3]; exact Bk.more (Bk.put FZ.out 14 _) _)
        have PB3 := hide (show Bk W3 W2.heap.size 51 [.bool mx, .slice a l.length c] by rw [← hW3]; have q := Bk.new (W2.setCell ⟨tb, 14, none⟩ (.slice (some ⟨W2.heap.size, 0, none⟩) 1 1)) 51 [.bool mx, .slice a l.length c]; rwa [show (W2.setCell ⟨tb, 14, none⟩ (.slice (some ⟨W2.heap.size, 0, none⟩) 1 1)).heap.size = W2.heap.size by simp] at q)
        have B3 := hide (show Below W1.heap.size W1 W3 by rw [← hW3]; exact bplus (B2.out.setCell htb _) _)
        rw [hW3]
        clear hW3 c14 z14
        generalize W2.heap.size = pb at *
        obtain ⟨A, hA⟩ : ∃ A : List Value, usL z01 ++ [Value.slice (some ⟨pb, 0, none⟩) 1 1] = A := ⟨_, rfl⟩
        have lA : A.length = 15 := by rw [← hA]; rfl
        have EF := hide (show foV z01 (.slice (some ⟨pb, 0, none⟩) 1 1) = .agg A.toArray by rw [← hA]; rfl)
        have OA := hide (show ∀ v ∈ A, v.oneCell' = true by rw [← hA]; exact us_one rfl)
        rw [hA] at FZ3
        clear hA FZ
        have HI6 := hide (show (Tryd.prog.info? 30).map (·.size) = some A.length by rw [lA]; kernel_rfl)
        have RG := hide (range_blk FZ3.out)
        have sA : A.toArray.size = 15 := by rw [List.size_toArray]; exact lA
        have TH := hide (show W3.there w.heap.size 0 A.toArray.size by rw [sA]; exact TH0.out W3 B3.out)
        refine wp_region_list ?_
        refine wpList_load_mid rfl 30 (.tmp 7) rfl tb 0 rfl A _ RG.out Tryd.underlying30 rfl HI6.out ?_
        refine wpList_store_mid rfl 30 (.tmp 4) (.tmp 34) rfl w.heap.size 0 A.toArray rfl rfl TH.out (by rw [List.size_toArray]; exact HI6.out) (all_oneCell_toArray OA.out) ?_
        (try rw [show A.toArray.toList = A from rfl])
        have BW := hide (show Below w.heap.size w (W3.setCells w.heap.size 0 A) from (bto B0.out B3.out).grown (setCells_grown _ _ _ _) (bto B0.out B3.out).size (fun k hk => by cases hk; exact Nat.le_refl _))
        have RA := World.rangeAt_setCells_same W3 w.heap.size 0 A (by have := TH.out; rwa [List.size_toArray] at this)
        have PB4 := hide (show Bk (W3.setCells w.heap.size 0 A) pb 51 [.bool mx, .slice a l.length c] from (setCells_far pb w.heap.size 0 (by omega) A 0 W3).trans PB3.out)
        go_wp2_with fail
        refine ret_cell (b := w.heap.size) (cs := A) Tryd.results30 rfl RA Tryd.underlying30 rfl HI6.out rfl ?_
        exact PkPost.mk (f := .mk z01 [(mx, l)]) _ (by show _ = Ending.returned (foV z01 _); rw [EF.out]) (one_part PB4.out (FM.low BW.out HV.out)) BW.out
      · have h2' : ¬ (1 : Int) < pp := by omega
        rw [if_neg (by intro h; rcases h with h | h; · cases h
                       · exact h2 h)] at EP
        by_cases h3 : M = 0
        · subst h3
          rw [if_pos rfl] at EP
          rw [EP.out]
          go_enter Tryd.func30, Tryd.ntmps30
          go_upto_region 1 with fail
          rw [HW1.out]
          clear HW1
          have OA := hide (show ∀ v ∈ usL z01 ++ [nilS], v.oneCell' = true from us_one rfl)
          have HI5 := hide (fi5 (us := z01) rfl nilS)
          go_wp2_with (first
            | (go_at_call 48; refine (CU.out _ B0.out).mono ?_; rintro e wu ⟨rfl, BU⟩; replace BU := hide BU)
            | (go_at_call 49; refine (CO.out _).mono ?_; rintro e wo ⟨rfl, rfl⟩)
            | (go_at_call 21; refine (CZ.out _ (bto B0.out BU.out)).mono ?_; rintro e wz ⟨rfl, BZ⟩; replace BZ := hide (bto BU.out BZ); have TH := hide (show wz.there w.heap.size 0 (usL z01 ++ [nilS]).toArray.size from TH0.out wz BZ.out))
            | (refine wpList_store_mid rfl 30 (.tmp 4) (.tmp 37) rfl w.heap.size 0 (usL z01 ++ [nilS]).toArray rfl rfl TH.out HI5.out (all_oneCell_toArray OA.out) ?_))
          have BW := hide (show Below w.heap.size w (wz.setCells w.heap.size 0 (usL z01 ++ [nilS])) from (bto B0.out BZ.out).grown (setCells_grown _ _ _ _) (bto B0.out BZ.out).size (fun k hk => by cases hk; exact Nat.le_refl _))
          have RA := World.rangeAt_setCells_same wz w.heap.size 0 (usL z01 ++ [nilS]) (TH0.out wz BZ.out)
          refine ret_cell (b := w.heap.size) (cs := usL z01 ++ [nilS]) Tryd.results30 rfl RA Tryd.underlying30 rfl (by kernel_rfl) rfl ?_
          exact PkPost.mk (f := .mk z01 []) nilS rfl (.inl ⟨_, _, rfl, rfl⟩) BW.out
        · rw [if_neg h3] at EP
          obtain ⟨e1, u1, u7⟩ := P1 (by omega) h3
          have h3' : ((M : Int) == 0) = false := by simp; omega
          obtain ⟨u, hu⟩ : ∃ u, M.log2 = u := ⟨_, rfl⟩
          rw [hu] at EP e1 u1 u7
          have CT := hide (fun (W : World) (h : Below w.heap.size w W) => tzM_any u u1 u7 W (HT.out.low h))
          rw [← e1] at CT
          have CP := hide (fun (W : World) (h : Below w.heap.size w W) => pickOf_any u u1 u7 mx n l (.slice a l.length c) W (FM.low h HV.out))
          obtain ⟨x1, x2⟩ := ut_64 (if mx then 1 else -1) (amU_64 u1 u7 hus)
          obtain ⟨r, hr⟩ : ∃ r, wk.utAll (if mx then 1 else -1) (amU u l) = r := ⟨_, rfl⟩
          rw [hr] at EP CP x1 x2
          have CN := hide (fun (W : World) (h : Below w.heap.size w W) => oneF_any u r.1 r.2 W (HN.out.low h) ⟨by omega, by omega⟩ x1 x2)
          have UO := hide (one_us u r.1 r.2 x1 x2)
          rw [show ((r.1, r.2) : Int × Int) = r from rfl] at CN UO
          rw [EP.out]
          clear EP
          obtain ⟨OU, hOU⟩ : ∃ x, oneU (u : Int) r = x := ⟨_, rfl⟩
          rw [hOU] at CN UO ⊢
          rw [show foV OU nilS = .agg (usL OU ++ [nilS]).toArray from rfl] at CN
          have OA := hide (show ∀ v ∈ usL OU ++ [nilS], v.oneCell' = true from us_one rfl)
          have HI5 := hide (fi5 UO.out.1 nilS)
          have lA := fo_len UO.out nilS
          have EF := hide (show foV OU nilS = .agg (usL OU ++ [nilS]).toArray from rfl)
          unfold ratV at CP
          clear hOU hr x1 x2 UO hu e1 CZ
          generalize usL OU ++ [nilS] = A at *
          have lA2 : A.toArray.size = 15 := by rw [List.size_toArray]; exact lA
          go_enter Tryd.func30, Tryd.ntmps30
          go_upto_region 1 with fail
          rw [HW1.out]
          clear HW1
          go_wp2_with (first
            | (go_at_call 48; refine (CU.out _ B0.out).mono ?_; rintro e wu ⟨rfl, BU⟩; replace BU := hide BU)
            | (go_at_call 49; refine (CO.out _).mono ?_; rintro e wo ⟨rfl, rfl⟩)
            | (go_at_call 50; refine (CT.out _ (bto B0.out BU.out)).mono ?_; rintro e wt ⟨rfl, rfl⟩)
            | (go_at_call 51; refine (CP.out _ (bto B0.out BU.out)).mono ?_; rintro e wp ⟨rfl, BP⟩; replace BP := hide (bto BU.out BP))
            | (go_at_call 32; refine (CN.out _ (bto B0.out BP.out)).mono ?_; rintro e wz ⟨rfl, BZ⟩; replace BZ := hide (bto BP.out BZ); have TH := hide (show wz.there w.heap.size 0 A.toArray.size from (by rw [lA2]; exact TH0.out wz BZ.out)))
            | (refine wpList_store_mid rfl 30 (.tmp 4) (.tmp 46) rfl w.heap.size 0 A.toArray rfl rfl TH.out HI5.out (all_oneCell_toArray OA.out) ?_))
          (try rw [show A.toArray.toList = A from rfl])
          have BW := hide (show Below w.heap.size w (wz.setCells w.heap.size 0 A) from (bto B0.out BZ.out).grown (setCells_grown _ _ _ _) (bto B0.out BZ.out).size (fun k hk => by cases hk; exact Nat.le_refl _))
          have RA := World.rangeAt_setCells_same wz w.heap.size 0 A (by rw [lA]; exact TH0.out wz BZ.out)
          refine ret_cell (b := w.heap.size) (cs := A) Tryd.results30 rfl RA Tryd.underlying30 rfl (by have := HI5.out; rwa [List.size_toArray] at this) rfl ?_
          exact PkPost.mk (f := .mk OU []) nilS (by show _ = Ending.returned (foV OU nilS); rw [EF.out]) (.inl ⟨_, _, rfl, rfl⟩) BW.out
end Go.Proofs.YtlhmecagijdinaaDoor.nm
set_option linter.unusedVariables false
set_option linter.unusedSimpArgs false
namespace Go.Proofs.YtlhmecagijdinaaDoor.nm
open Go.RowKit cc

/-- A pick's answer, in any world that sees what the elder one sees, and keeps the blocks that the call has made. -/
def PkSost (n : Nat) (f : Fo) (w0 w : World) (e : Ending) (w' : World) : Prop := ∃ fu, e = .returned (foV f.us fu) ∧ (∀ W : World, Sees w0 W → (∀ b, w.heap.size ≤ b → b < w'.heap.size → W.heap[b]? = w'.heap[b]?) → PM W n fu f.ps) ∧ Below w.heap.size w w'
theorem PkSost.mk {n : Nat} {f : Fo} {w0 w w' : World} {e : Ending} (fu : Value) (h1 : e = .returned (foV f.us fu)) (h2 : ∀ W : World, Sees w0 W → (∀ b, w.heap.size ≤ b → b < w'.heap.size → W.heap[b]? = w'.heap[b]?) → PM W n fu f.ps) (h3 : Below w.heap.size w w') : PkSost n f w0 w e w' := ⟨fu, h1, h2, h3⟩
set_option maxRecDepth 100000 in
set_option maxHeartbeats 16000000 in
theorem pickE_any (n : Nat) (mx : Bool) (l : List Fo) (v : Value) (w0 w : World) (hN : Nth w) (hT : TabD w) (hv0 : FM w0 n v l) (hs0 : Sees w0 w) : Calls Tryd.prog 30 #[.bool mx, v] w (PkSost n (pkF mx l) w0 w) := by
  obtain ⟨a, c, rfl, hl9⟩ := hv0.shape
  have hv := fm_sees hs0 hv0
  have HV := hide hv
  have HV0 := hide hv0
  have HS0 := hide hs0
  have HN := hide hN
  have HT := hide hT
  have hus := fm_us hv
  have h7s := fun f hf => (hus f hf).1
  have EP := hide (show pkF mx l = if l.length = 1 then l.headD (.mk z01 []) else if plainL l = false ∨ 1 < popM (maskN l) then .mk z01 [(mx, l)] else if maskN l = 0 then .mk z01 [] else .mk (oneU ((maskN l).log2 : Nat) (wk.utAll (if mx then 1 else -1) (amU (maskN l).log2 l))) [] from rfl)
  obtain ⟨W1, hW1⟩ : ∃ W1, w.alloc (.cells #[.int .i64 0, .int .i64 0, .int .i64 0, .int .i64 0, .int .i64 0, .int .i64 0, .int .i64 0, .int .i64 0, .int .i64 0, .int .i64 0, .int .i64 0, .int .i64 0, .int .i64 0, .int .i64 0, .slice none 0 0] 30) = W1 := ⟨_, rfl⟩
  have B0 := hide (show Below w.heap.size w W1 by rw [← hW1]; exact bplus (Below.refl _ _) _)
  have KB := hide (show Bk W1 w.heap.size 30 [.int .i64 0, .int .i64 0, .int .i64 0, .int .i64 0, .int .i64 0, .int .i64 0, .int .i64 0, .int .i64 0, .int .i64 0, .int .i64 0, .int .i64 0, .int .i64 0, .int .i64 0, .int .i64 0, .slice none 0 0] by rw [← hW1]; exact Bk.new w _ _)
  have TH0 := hide (fun (W : World) (h : Below W1.heap.size W1 W) => there_blk (n := 15) (show W.heap[w.heap.size]? = some (.cells #[.int .i64 0, .int .i64 0, .int .i64 0, .int .i64 0, .int .i64 0, .int .i64 0, .int .i64 0, .int .i64 0, .int .i64 0, .int .i64 0, .int .i64 0, .int .i64 0, .int .i64 0, .int .i64 0, .slice none 0 0] 30) from Bk.up KB.out h) rfl)
  have S1 : w.heap.size < W1.heap.size := Bk.lt KB.out
  have HW1 := hide hW1
  clear hW1 hv hN hT hv0 hs0
  by_cases h1 : l.length = 1
  · have h1' : (l.length : Int) = 1 := by omega
    obtain ⟨f, hf⟩ : ∃ f, l[0]? = some f := ⟨_, List.getElem?_eq_getElem (by omega)⟩
    replace EP := hide (show pkF mx l = f by
      rw [EP.out, if_pos h1]
      match l, h1, hf with
      | [g], _, hf => exact Option.some.inj hf)
    rw [EP.out]
    obtain ⟨m, b, o, c', fu, hnm, hv', hb0, hus', hrg0, hpm⟩ := fm_rangeN HV0.out hf
    have hb : b < w.heap.size := Nat.lt_of_lt_of_le hb0 HS0.out.1
    have hrg : w.rangeAt b (o + 0 * 15) (usL f.us ++ [fu]) := fun j v hj => HS0.out.2 _ _ _ (hrg0 j v hj)
    obtain ⟨rfl, rfl⟩ : a = some ⟨b, o, none⟩ ∧ c = c' := by cases hv'; exact ⟨rfl, rfl⟩
    rw [Nat.zero_mul, Nat.add_zero] at hrg
    have lA := fo_len hus' fu
    have OA := hide (us_one (us := f.us) (pm_one hpm))
    have RG := hide (show W1.rangeAt b o (usL f.us ++ [fu]) from fun j v hj => (B0.out.cell (p := ⟨b, o + j, none⟩) hb).trans (hrg j v hj))
    have PM1 := hide (fun (W : World) (h : Sees w0 W) => show PM W n fu f.ps from pm_le (by omega) (pm_sees h hpm))
    have EF := hide (show foV f.us fu = .agg (usL f.us ++ [fu]).toArray from rfl)
    rw [h1]
    have HI5 := hide (fi5 hus'.1 fu)
    have HI6 := hide (show (Tryd.prog.info? 30).map (·.size) = some (usL f.us ++ [fu]).length by have := fi5 hus'.1 fu; rwa [List.size_toArray] at this)
    clear hf hrg hrg0 hb0 hpm hus' hus h7s EP HV HN HT KB
    (try clear hv')
    generalize usL f.us ++ [fu] = A at *
    have sA : A.toArray.size = 15 := by rw [List.size_toArray]; exact lA
    have TH := hide (show W1.there w.heap.size 0 A.toArray.size by rw [sA]; exact TH0.out W1 (Below.refl _ _))
    go_enter Tryd.func30, Tryd.ntmps30
    go_upto_region 1 with fail
    rw [HW1.out]
    clear HW1
    go_upto_region 2 with fail
    refine wp_region_list ?_
    go_wp2_with (first
      | (refine wpList_load_mid rfl 30 (.tmp 13) rfl b o rfl A _ RG.out Tryd.underlying30 rfl HI6.out ?_)
      | (refine wpList_store_mid rfl 30 (.tmp 4) (.tmp 14) rfl w.heap.size 0 A.toArray rfl rfl TH.out HI5.out (all_oneCell_toArray OA.out) ?_))
    (try rw [show A.toArray.toList = A from rfl])
    have BW := hide (show Below w.heap.size w (W1.setCells w.heap.size 0 A) from B0.out.grown (setCells_grown _ _ _ _) B0.out.size (fun k hk => by cases hk; exact Nat.le_refl _))
    have RA := World.rangeAt_setCells_same W1 w.heap.size 0 A (by have := TH.out; rwa [List.size_toArray] at this)
    refine ret_cell (b := w.heap.size) (cs := A) Tryd.results30 rfl RA Tryd.underlying30 rfl HI6.out rfl ?_
    exact PkSost.mk fu (by rw [EF.out]) (fun W h _ => PM1.out W h) BW.out
  · have h1' : ((l.length : Int) == 1) = false := by simp; omega
    have CZ := hide (fun (W : World) (h : Below w.heap.size w W) => zero_any W (HN.out.low h))
    rw [show foV z01 nilS = .agg #[.int .i64 0, .int .i64 1, .int .i64 0, .int .i64 1, .int .i64 0, .int .i64 1, .int .i64 0, .int .i64 1, .int .i64 0, .int .i64 1, .int .i64 0, .int .i64 1, .int .i64 0, .int .i64 1, .slice none 0 0] from rfl] at CZ
    have CU := hide (fun (W : World) (h : Below w.heap.size w W) => usedPlain_any n l (.slice a l.length c) W (HN.out.low h) (FM.low h HV.out))
    rw [upT_zero h7s] at CU
    rw [if_neg h1] at EP
    have ML := maskN_lt h7s
    have M0 := maskN_bit0 l
    cases hp : plainL l
    · rw [hp] at CU EP
      replace CU := hide (show ∀ (W : World), Below w.heap.size w W → Calls Tryd.prog 48 #[.slice a l.length c] W fun e w' => e = .returned (.tuple #[.int .i64 0, .bool false]) ∧ Below W.heap.size W w' from CU.out)
      replace EP := hide (show pkF mx l = .mk z01 [(mx, l)] by rw [EP.out, if_pos (.inl rfl)])
      rw [EP.out]
      clear EP
      go_enter Tryd.func30, Tryd.ntmps30
      go_upto_region 1 with fail
      rw [HW1.out]
      clear HW1
      go_upto_region 6 with (first
        | (go_at_call 48; refine (CU.out _ B0.out).mono ?_; rintro e wu ⟨rfl, BU⟩; replace BU := hide BU)
        | (go_at_call 21; refine (CZ.out _ (bto B0.out BU.out)).mono ?_; rintro e wz ⟨rfl, BZ⟩; replace BZ := hide (bto BU.out BZ)))
      obtain ⟨W2, hW2⟩ : ∃ W2, wz.alloc (.cells #[.int .i64 0, .int .i64 1, .int .i64 0, .int .i64 1, .int .i64 0, .int .i64 1, .int .i64 0, .int .i64 1, .int .i64 0, .int .i64 1, .int .i64 0, .int .i64 1, .int .i64 0, .int .i64 1, .slice none 0 0] 30) = W2 := ⟨_, rfl⟩
      have FZ := hide (show Bk W2 wz.heap.size 30 (usL z01 ++ [nilS]) by rw [← hW2]; exact Bk.new wz _ (usL z01 ++ [nilS]))
      have B2 := hide (show Below W1.heap.size W1 W2 by rw [← hW2]; exact bplus BZ.out _)
      have htb : W1.heap.size ≤ wz.heap.size := BZ.out.size
      rw [hW2]
      clear hW2 BZ BU CZ CU
      generalize wz.heap.size = tb at *
      have c14 : W2.cell? ⟨tb, 14, none⟩ = some (.slice none 0 0) := Bk.cell FZ.out 14
      have z14 := Bk.fz FZ.out 14
      have tb2 : tb < W2.heap.size := Bk.lt FZ.out
      have tbn : tb ≠ W2.heap.size := by omega
      go_upto_region 7 with fail
      obtain ⟨W3, hW3⟩ : ∃ W3, (W2.setCell ⟨tb, 14, none⟩ (.slice (some ⟨W2.heap.size, 0, none⟩) 1 1)).alloc (.cells #[.bool mx, .slice a l.length c] 51) = W3 := ⟨_, rfl⟩
      have FZ3 := hide (show Bk W3 tb 30 (usL z01 ++ [.slice (some ⟨W2.heap.size, 0, none⟩) 1 1]) by rw [← hW3]; exact Bk.more (Bk.put FZ.out 14 _) _)
      have PB3 := hide (show Bk W3 W2.heap.size 51 [.bool mx, .slice a l.length c] by rw [← hW3]; have q := Bk.new (W2.setCell ⟨tb, 14, none⟩ (.slice (some ⟨W2.heap.size, 0, none⟩) 1 1)) 51 [.bool mx, .slice a l.length c]; rwa [show (W2.setCell ⟨tb, 14, none⟩ (.slice (some ⟨W2.heap.size, 0, none⟩) 1 1)).heap.size = W2.heap.size by simp] at q)
      have B3 := hide (show Below W1.heap.size W1 W3 by rw [← hW3]; exact bplus (B2.out.setCell htb _) _)
      rw [hW3]
      clear hW3 c14 z14
      generalize W2.heap.size = pb at *
      obtain ⟨A, hA⟩ : ∃ A : List Value, usL z01 ++ [Value.slice (some ⟨pb, 0, none⟩) 1 1] = A := ⟨_, rfl⟩
      have lA : A.length = 15 := by rw [← hA]; rfl
      have EF := hide (show foV z01 (.slice (some ⟨pb, 0, none⟩) 1 1) = .agg A.toArray by rw [← hA]; rfl)
      have OA := hide (show ∀ v ∈ A, v.oneCell' = true by rw [← hA]; exact us_one rfl)
      rw [hA] at FZ3
      clear hA FZ
      have HI6 := hide (show (Tryd.prog.info? 30).map (·.size) = some A.length by rw [lA]; kernel_rfl)
      have RG := hide (range_blk FZ3.out)
      have sA : A.toArray.size = 15 := by rw [List.size_toArray]; exact lA
      have TH := hide (show W3.there w.heap.size 0 A.toArray.size by rw [sA]; exact TH0.out W3 B3.out)
      refine wp_region_list ?_
      refine wpList_load_mid rfl 30 (.tmp 7) rfl tb 0 rfl A _ RG.out Tryd.underlying30 rfl HI6.out ?_
      refine wpList_store_mid rfl 30 (.tmp 4) (.tmp 34) rfl w.heap.size 0 A.toArray rfl rfl TH.out (by rw [List.size_toArray]; exact HI6.out) (all_oneCell_toArray OA.out) ?_
      (try rw [show A.toArray.toList = A from rfl])
      have BW := hide (show Below w.heap.size w (W3.setCells w.heap.size 0 A) from (bto B0.out B3.out).grown (setCells_grown _ _ _ _) (bto B0.out B3.out).size (fun k hk => by cases hk; exact Nat.le_refl _))
      have RA := World.rangeAt_setCells_same W3 w.heap.size 0 A (by have := TH.out; rwa [List.size_toArray] at this)
      have PB4 := hide (show Bk (W3.setCells w.heap.size 0 A) pb 51 [.bool mx, .slice a l.length c] from (setCells_far pb w.heap.size 0 (by omega) A 0 W3).trans PB3.out)
      go_wp2_with fail
      refine ret_cell (b := w.heap.size) (cs := A) Tryd.results30 rfl RA Tryd.underlying30 rfl HI6.out rfl ?_
      exact PkSost.mk (f := .mk z01 [(mx, l)]) _ (by show _ = Ending.returned (foV z01 _); rw [EF.out]) (fun W h1 h2 => one_part ((h2 pb (by omega) (Bk.lt PB4.out)).trans PB4.out) (fm_sees h1 HV0.out)) BW.out
    · rw [hp] at CU EP
      have CO := hide (fun (W : World) => ones_any (maskN l) ML W)
      have P1 := pop_one _ ML M0
      obtain ⟨M, hM⟩ : ∃ M, maskN l = M := ⟨_, rfl⟩
      rw [hM] at CU EP CO P1 ML
      replace CU := hide (show ∀ (W : World), Below w.heap.size w W → Calls Tryd.prog 48 #[.slice a l.length c] W fun e w' => e = .returned (.tuple #[.int .i64 M, .bool true]) ∧ Below W.heap.size W w' from CU.out)
      have g1 : (0 : Int) ≤ M := by omega
      have g2 : (M : Int) < 256 := by omega
      obtain ⟨pp, hpp⟩ : ∃ pp, popM M = pp := ⟨_, rfl⟩
      rw [hpp] at CO EP P1
      by_cases h2 : 1 < pp
      · have h2' : (1 : Int) < pp := by omega
        replace EP := hide (show pkF mx l = .mk z01 [(mx, l)] by rw [EP.out, if_pos (.inr h2)])
        clear P1
        rw [EP.out]
        clear EP
        go_enter Tryd.func30, Tryd.ntmps30
        go_upto_region 1 with fail
        rw [HW1.out]
        clear HW1
        go_upto_region 6 with (first
          | (go_at_call 48; refine (CU.out _ B0.out).mono ?_; rintro e wu ⟨rfl, BU⟩; replace BU := hide BU)
          | (go_at_call 49; refine (CO.out _).mono ?_; rintro e wo ⟨rfl, rfl⟩)
          | (go_at_call 21; refine (CZ.out _ (bto B0.out BU.out)).mono ?_; rintro e wz ⟨rfl, BZ⟩; replace BZ := hide (bto BU.out BZ)))
        obtain ⟨W2, hW2⟩ : ∃ W2, wz.alloc (.cells #[.int .i64 0, .int .i64 1, .int .i64 0, .int .i64 1, .int .i64 0, .int .i64 1, .int .i64 0, .int .i64 1, .int .i64 0, .int .i64 1, .int .i64 0, .int .i64 1, .int .i64 0, .int .i64 1, .slice none 0 0] 30) = W2 := ⟨_, rfl⟩
        have FZ := hide (show Bk W2 wz.heap.size 30 (usL z01 ++ [nilS]) by rw [← hW2]; exact Bk.new wz _ (usL z01 ++ [nilS]))
        have B2 := hide (show Below W1.heap.size W1 W2 by rw [← hW2]; exact bplus BZ.out _)
        have htb : W1.heap.size ≤ wz.heap.size := BZ.out.size
        rw [hW2]
        clear hW2 BZ BU CZ CU
        generalize wz.heap.size = tb at *
        have c14 : W2.cell? ⟨tb, 14, none⟩ = some (.slice none 0 0) := Bk.cell FZ.out 14
        have z14 := Bk.fz FZ.out 14
        have tb2 : tb < W2.heap.size := Bk.lt FZ.out
        have tbn : tb ≠ W2.heap.size := by omega
        go_upto_region 7 with fail
        obtain ⟨W3, hW3⟩ : ∃ W3, (W2.setCell ⟨tb, 14, none⟩ (.slice (some ⟨W2.heap.size, 0, none⟩) 1 1)).alloc (.cells #[.bool mx, .slice a l.length c] 51) = W3 := ⟨_, rfl⟩
        have FZ3 := hide (show Bk W3 tb 30 (usL z01 ++ [.slice (some ⟨W2.heap.size, 0, none⟩) 1 1]) by rw [← hW3]; exact Bk.more (Bk.put FZ.out 14 _) _)
        have PB3 := hide (show Bk W3 W2.heap.size 51 [.bool mx, .slice a l.length c] by rw [← hW3]; have q := Bk.new (W2.setCell ⟨tb, 14, none⟩ (.slice (some ⟨W2.heap.size, 0, none⟩) 1 1)) 51 [.bool mx, .slice a l.length c]; rwa [show (W2.setCell ⟨tb, 14, none⟩ (.slice (some ⟨W2.heap.size, 0, none⟩) 1 1)).heap.size = W2.heap.size by simp] at q)
        have B3 := hide (show Below W1.heap.size W1 W3 by rw [← hW3]; exact bplus (B2.out.setCell htb _) _)
        rw [hW3]
        clear hW3 c14 z14
        generalize W2.heap.size = pb at *
        obtain ⟨A, hA⟩ : ∃ A : List Value, usL z01 ++ [Value.slice (some ⟨pb, 0, none⟩) 1 1] = A := ⟨_, rfl⟩
        have lA : A.length = 15 := by rw [← hA]; rfl
        have EF := hide (show foV z01 (.slice (some ⟨pb, 0, none⟩) 1 1) = .agg A.toArray by rw [← hA]; rfl)
        have OA := hide (show ∀ v ∈ A, v.oneCell' = true by rw [← hA]; exact us_one rfl)
        rw [hA] at FZ3
        clear hA FZ
        have HI6 := hide (show (Tryd.prog.info? 30).map (·.size) = some A.length by rw [lA]; kernel_rfl)
        have RG := hide (range_blk FZ3.out)
        have sA : A.toArray.size = 15 := by rw [List.size_toArray]; exact lA
        have TH := hide (show W3.there w.heap.size 0 A.toArray.size by rw [sA]; exact TH0.out W3 B3.out)
        refine wp_region_list ?_
        refine wpList_load_mid rfl 30 (.tmp 7) rfl tb 0 rfl A _ RG.out Tryd.underlying30 rfl HI6.out ?_
        refine wpList_store_mid rfl 30 (.tmp 4) (.tmp 34) rfl w.heap.size 0 A.toArray rfl rfl TH.out (by rw [List.size_toArray]; exact HI6.out) (all_oneCell_toArray OA.out) ?_
        (try rw [show A.toArray.toList = A from rfl])
        have BW := hide (show Below w.heap.size w (W3.setCells w.heap.size 0 A) from (bto B0.out B3.out).grown (setCells_grown _ _ _ _) (bto B0.out B3.out).size (fun k hk => by cases hk; exact Nat.le_refl _))
        have RA := World.rangeAt_setCells_same W3 w.heap.size 0 A (by have := TH.out; rwa [List.size_toArray] at this)
        have PB4 := hide (show Bk (W3.setCells w.heap.size 0 A) pb 51 [.bool mx, .slice a l.length c] from (setCells_far pb w.heap.size 0 (by omega) A 0 W3).trans PB3.out)
        go_wp2_with fail
        refine ret_cell (b := w.heap.size) (cs := A) Tryd.results30 rfl RA Tryd.underlying30 rfl HI6.out rfl ?_
        exact PkSost.mk (f := .mk z01 [(mx, l)]) _ (by show _ = Ending.returned (foV z01 _); rw [EF.out]) (fun W h1 h2 => one_part ((h2 pb (by omega) (Bk.lt PB4.out)).trans PB4.out) (fm_sees h1 HV0.out)) BW.out
      · have h2' : ¬ (1 : Int) < pp := by omega
        rw [if_neg (by intro h; rcases h with h | h; · cases h
                       · exact h2 h)] at EP
        by_cases h3 : M = 0
        · subst h3
          rw [if_pos rfl] at EP
          rw [EP.out]
          go_enter Tryd.func30, Tryd.ntmps30
          go_upto_region 1 with fail
          rw [HW1.out]
          clear HW1
          have OA := hide (show ∀ v ∈ usL z01 ++ [nilS], v.oneCell' = true from us_one rfl)
          have HI5 := hide (fi5 (us := z01) rfl nilS)
          go_wp2_with (first
            | (go_at_call 48; refine (CU.out _ B0.out).mono ?_; rintro e wu ⟨rfl, BU⟩; replace BU := hide BU)
            | (go_at_call 49; refine (CO.out _).mono ?_; rintro e wo ⟨rfl, rfl⟩)
            | (go_at_call 21; refine (CZ.out _ (bto B0.out BU.out)).mono ?_; rintro e wz ⟨rfl, BZ⟩; replace BZ := hide (bto BU.out BZ); have TH := hide (show wz.there w.heap.size 0 (usL z01 ++ [nilS]).toArray.size from TH0.out wz BZ.out))
            | (refine wpList_store_mid rfl 30 (.tmp 4) (.tmp 37) rfl w.heap.size 0 (usL z01 ++ [nilS]).toArray rfl rfl TH.out HI5.out (all_oneCell_toArray OA.out) ?_))
          have BW := hide (show Below w.heap.size w (wz.setCells w.heap.size 0 (usL z01 ++ [nilS])) from (bto B0.out BZ.out).grown (setCells_grown _ _ _ _) (bto B0.out BZ.out).size (fun k hk => by cases hk; exact Nat.le_refl _))
          have RA := World.rangeAt_setCells_same wz w.heap.size 0 (usL z01 ++ [nilS]) (TH0.out wz BZ.out)
          refine ret_cell (b := w.heap.size) (cs := usL z01 ++ [nilS]) Tryd.results30 rfl RA Tryd.underlying30 rfl (by kernel_rfl) rfl ?_
          exact PkSost.mk (f := .mk z01 []) nilS rfl (fun W _ _ => .inl ⟨_, _, rfl, rfl⟩) BW.out
        · rw [if_neg h3] at EP
          obtain ⟨e1, u1, u7⟩ := P1 (by omega) h3
          have h3' : ((M : Int) == 0) = false := by simp; omega
          obtain ⟨u, hu⟩ : ∃ u, M.log2 = u := ⟨_, rfl⟩
          rw [hu] at EP e1 u1 u7
          have CT := hide (fun (W : World) (h : Below w.heap.size w W) => tzM_any u u1 u7 W (HT.out.low h))
          rw [← e1] at CT
          have CP := hide (fun (W : World) (h : Below w.heap.size w W) => pickOf_any u u1 u7 mx n l (.slice a l.length c) W (FM.low h HV.out))
          obtain ⟨x1, x2⟩ := ut_64 (if mx then 1 else -1) (amU_64 u1 u7 hus)
          obtain ⟨r, hr⟩ : ∃ r, wk.utAll (if mx then 1 else -1) (amU u l) = r := ⟨_, rfl⟩
          rw [hr] at EP CP x1 x2
          have CN := hide (fun (W : World) (h : Below w.heap.size w W) => oneF_any u r.1 r.2 W (HN.out.low h) ⟨by omega, by omega⟩ x1 x2)
          have UO := hide (one_us u r.1 r.2 x1 x2)
          rw [show ((r.1, r.2) : Int × Int) = r from rfl] at CN UO
          rw [EP.out]
          clear EP
          obtain ⟨OU, hOU⟩ : ∃ x, oneU (u : Int) r = x := ⟨_, rfl⟩
          rw [hOU] at CN UO ⊢
          rw [show foV OU nilS = .agg (usL OU ++ [nilS]).toArray from rfl] at CN
          have OA := hide (show ∀ v ∈ usL OU ++ [nilS], v.oneCell' = true from us_one rfl)
          have HI5 := hide (fi5 UO.out.1 nilS)
          have lA := fo_len UO.out nilS
          have EF := hide (show foV OU nilS = .agg (usL OU ++ [nilS]).toArray from rfl)
          unfold ratV at CP
          clear hOU hr x1 x2 UO hu e1 CZ
          generalize usL OU ++ [nilS] = A at *
          have lA2 : A.toArray.size = 15 := by rw [List.size_toArray]; exact lA
          go_enter Tryd.func30, Tryd.ntmps30
          go_upto_region 1 with fail
          rw [HW1.out]
          clear HW1
          go_wp2_with (first
            | (go_at_call 48; refine (CU.out _ B0.out).mono ?_; rintro e wu ⟨rfl, BU⟩; replace BU := hide BU)
            | (go_at_call 49; refine (CO.out _).mono ?_; rintro e wo ⟨rfl, rfl⟩)
            | (go_at_call 50; refine (CT.out _ (bto B0.out BU.out)).mono ?_; rintro e wt ⟨rfl, rfl⟩)
            | (go_at_call 51; refine (CP.out _ (bto B0.out BU.out)).mono ?_; rintro e wp ⟨rfl, BP⟩; replace BP := hide (bto BU.out BP))
            | (go_at_call 32; refine (CN.out _ (bto B0.out BP.out)).mono ?_; rintro e wz ⟨rfl, BZ⟩; replace BZ := hide (bto BP.out BZ); have TH := hide (show wz.there w.heap.size 0 A.toArray.size from (by rw [lA2]; exact TH0.out wz BZ.out)))
            | (refine wpList_store_mid rfl 30 (.tmp 4) (.tmp 46) rfl w.heap.size 0 A.toArray rfl rfl TH.out HI5.out (all_oneCell_toArray OA.out) ?_))
          (try rw [show A.toArray.toList = A from rfl])
          have BW := hide (show Below w.heap.size w (wz.setCells w.heap.size 0 A) from (bto B0.out BZ.out).grown (setCells_grown _ _ _ _) (bto B0.out BZ.out).size (fun k hk => by cases hk; exact Nat.le_refl _))
          have RA := World.rangeAt_setCells_same wz w.heap.size 0 A (by rw [lA]; exact TH0.out wz BZ.out)
          refine ret_cell (b := w.heap.size) (cs := A) Tryd.results30 rfl RA Tryd.underlying30 rfl (by have := HI5.out; rwa [List.size_toArray] at this) rfl ?_
          exact PkSost.mk (f := .mk OU []) nilS (by show _ = Ending.returned (foV OU nilS); rw [EF.out]) (fun W _ _ => .inl ⟨_, _, rfl, rfl⟩) BW.out
end Go.Proofs.YtlhmecagijdinaaDoor.nm
set_option linter.unusedVariables false
set_option linter.unusedSimpArgs false
namespace Go.Proofs.YtlhmecagijdinaaDoor.nm
open Go.RowKit cc

theorem ut_isV (k : Int) : ∀ (rs : List (Int × Int)) (o : Option (Int × Int)) (z : Int × Int), rs ≠ [] → rs.foldl (wk.utS k) o = some z → wk.isV z.1 z.2 = true := by
  intro rs
  induction rs with
  | nil => intro o z h; exact absurd rfl h
  | cons x l ih =>
    intro o z _ h
    by_cases hl : l = []
    · subst hl
      have h2 : wk.utS k o x = some z := h
      unfold wk.utS at h2
      cases o with
      | none => cases h2
      | some b =>
        simp only [Option.bind_some] at h2
        split at h2
        · rename_i hv
          simp only [Bool.and_eq_true] at hv
          simp only [Option.some.injEq] at h2
          split at h2
          · subst h2; exact hv.1
          · subst h2; exact hv.2
        · cases h2
    · exact ih _ z hl h
theorem ut_may (k : Int) (rs : List (Int × Int)) : mayB (wk.utAll k rs).1 (wk.utAll k rs).2 = true := by
  cases rs with
  | nil => show mayB 0 0 = true; decide
  | cons x l =>
    show mayB ((wk.utF k (x :: l) x).getD (0, 0)).1 ((wk.utF k (x :: l) x).getD (0, 0)).2 = true
    cases hq : wk.utF k (x :: l) x with
    | none => show mayB 0 0 = true; decide
    | some z =>
      have hv := ut_isV k (x :: l) (some x) z (by simp) hq
      show mayB z.1 z.2 = true
      rw [show mayB z.1 z.2 = wk.mayB z.1 z.2 from rfl]
      unfold wk.mayB
      rw [show (wk.isV z.1 z.2) = true from hv]
      simp
theorem ut_ct (k : Int) (rs : List (Int × Int)) : ctR (wk.utAll k rs) = wk.utAll k rs := by unfold ctR; rw [if_pos (ut_may k rs)]
/-- The scan of one form's units: the unit that was met last, and is there but one. -/
def scU : Int → Bool → List (Int × Int) → Nat → Int × Bool
  | u, p, [], _ => (u, p)
  | u, p, r :: rs, k => if r = (0, 1) then scU u p rs (k + 1) else scU k (if 0 ≤ u ∧ u ≠ k then false else p) rs (k + 1)
def scL : Int → Bool → List Fo → Int × Bool
  | u, p, [] => (u, p)
  | u, p, f :: l => scL (scU u (p && f.ps.isEmpty) f.us 0).1 (scU u (p && f.ps.isEmpty) f.us 0).2 l
def mOf (u : Int) : Nat := if u < 0 then 0 else 2 ^ (u.toNat + 1)
/-- What the scan has found. -/
def ScI (u : Int) (p : Bool) (pl : Bool) (M : Nat) : Prop := -1 ≤ u ∧ u ≤ 6 ∧ M < 256 ∧ (p = true → pl = true ∧ M = mOf u) ∧ (p = false → pl = false ∨ 2 ≤ popM M)
theorem pop_mono : ∀ M, M < 256 → ∀ k, k < 7 → 2 ≤ popM M → 2 ≤ popM (M ||| 2 ^ (k + 1)) := by decide +kernel
theorem pop_two : ∀ a, a < 7 → ∀ k, k < 7 → a ≠ k → 2 ≤ popM (2 ^ (a + 1) ||| 2 ^ (k + 1)) := by decide +kernel
theorem pop_mOf : ∀ a, a < 7 → popM (2 ^ (a + 1)) = 1 ∧ (2 ^ (a + 1)).log2 = a + 1 := by decide +kernel
theorem sc_step {u : Int} {p pl : Bool} {M k : Nat} (h : ScI u p pl M) (hk : k < 7) : ScI k (if 0 ≤ u ∧ u ≠ k then false else p) pl (M ||| 2 ^ (k + 1)) := by
  obtain ⟨h1, h2, h3, h4, h5⟩ := h
  refine ⟨by omega, by omega, or_lt256 h3 (pow_lt256 (by omega)), ?_, ?_⟩
  · intro hp
    split at hp
    · cases hp
    · rename_i hc
      obtain ⟨a, b⟩ := h4 hp
      refine ⟨a, ?_⟩
      rw [b]
      have e2 : mOf (k : Int) = 2 ^ (k + 1) := by unfold mOf; rw [if_neg (by omega), Int.toNat_natCast]
      rw [e2]
      by_cases hu : u < 0
      · have : mOf u = 0 := by unfold mOf; rw [if_pos hu]
        rw [this, Nat.zero_or]
      · have hu2 : u = k := by
          refine Classical.byContradiction fun hn => hc ⟨by omega, hn⟩
        rw [hu2, e2, Nat.or_self]
  · intro hp
    by_cases hpt : p = true
    · obtain ⟨a, b⟩ := h4 hpt
      right
      have hc : 0 ≤ u ∧ u ≠ k := by
        refine Classical.byContradiction fun hn => ?_
        rw [if_neg hn] at hp
        rw [hpt] at hp; cases hp
      obtain ⟨q, rfl⟩ : ∃ q : Nat, u = q := ⟨u.toNat, by omega⟩
      rw [b, show mOf (q : Int) = 2 ^ (q + 1) by unfold mOf; rw [if_neg (by omega), Int.toNat_natCast]]
      exact pop_two q (by omega) k hk (fun e => hc.2 (by rw [e]))
    · rcases h5 (by simpa using hpt) with h | h
      · exact .inl h
      · exact .inr (pop_mono M h3 k hk h)
theorem sc_units : ∀ (us : List (Int × Int)) (k : Nat) (u : Int) (p pl : Bool) (M : Nat), k + us.length ≤ 7 → ScI u p pl M → ScI (scU u p us k).1 (scU u p us k).2 pl (M ||| usedN us k) := by
  intro us
  induction us with
  | nil => intro k u p pl M _ h; rw [usedN, Nat.or_zero]; exact h
  | cons r rs ih =>
    intro k u p pl M hk h
    rw [List.length_cons] at hk
    rw [scU, usedN]
    by_cases hr : r = (0, 1)
    · rw [if_pos hr, if_pos hr, Nat.zero_or]
      exact ih (k + 1) u p pl M (by omega) h
    · rw [if_neg hr, if_neg hr, ← Nat.or_assoc]
      exact ih (k + 1) _ _ pl _ (by omega) (sc_step h (by omega))
theorem sc_forms : ∀ (l : List Fo) (u : Int) (p pl : Bool) (M : Nat), (∀ f ∈ l, f.us.length = 7) → ScI u p pl M → ScI (scL u p l).1 (scL u p l).2 (pl && plainL l) (M ||| maskN l) := by
  intro l
  induction l with
  | nil => intro u p pl M _ h; rw [maskN, Nat.or_zero]; show ScI u p (pl && true) M; rw [Bool.and_true]; exact h
  | cons f l ih =>
    intro u p pl M hl h
    have h0 : ScI u (p && f.ps.isEmpty) (pl && f.ps.isEmpty) M := by
      obtain ⟨h1, h2, h3, h4, h5⟩ := h
      refine ⟨h1, h2, h3, ?_, ?_⟩
      · intro hp
        simp only [Bool.and_eq_true] at hp
        obtain ⟨a, b⟩ := h4 hp.1
        exact ⟨by rw [a, hp.2]; rfl, b⟩
      · intro hp
        cases he : f.ps.isEmpty with
        | false => exact .inl (Bool.and_false _)
        | true =>
          rw [he, Bool.and_true] at hp
          rcases h5 hp with h | h
          · left; rw [h]; rfl
          · exact .inr h
    have h1 := sc_units f.us 0 u _ _ M (by rw [hl f (by simp)]; decide) h0
    have h2 := ih _ _ _ _ (fun g hg => hl g (by simp [hg])) h1
    rw [scL, maskN, ← Nat.or_assoc]
    rw [show plainL (f :: l) = (f.ps.isEmpty && plainL l) from rfl, ← Bool.and_assoc]
    exact h2
/-- The pick by the scan. -/
def pkS (mx : Bool) (l : List Fo) (s : Int × Bool) : Fo :=
  if s.2 = false then .mk z01 [(mx, l)] else if s.1 < 0 then .mk z01 [] else .mk (z01.set s.1.toNat (wk.utAll (if mx then 1 else -1) (amU (s.1.toNat + 1) l))) []
theorem pkS_eq {mx : Bool} {l : List Fo} (h : ∀ f ∈ l, f.us.length = 7) (h1 : ¬ l.length = 1) : pkF mx l = pkS mx l (scL (-1) true l) := by
  have hI := sc_forms l (-1) true true 0 h ⟨by omega, by omega, by decide, fun _ => ⟨rfl, rfl⟩, fun h => by cases h⟩
  rw [Bool.true_and, Nat.zero_or] at hI
  generalize scL (-1) true l = s at *
  obtain ⟨a1, a2, a3, a4, a5⟩ := hI
  unfold pkF pkS
  rw [if_neg h1]
  cases hs : s.2 with
  | false =>
    rw [if_pos rfl]
    rcases a5 hs with h | h
    · rw [if_pos (.inl h)]
    · rw [if_pos (.inr (by omega))]
  | true =>
    obtain ⟨b1, b2⟩ := a4 hs
    have n0 : ¬ (true = false) := by simp
    by_cases hu : s.1 < 0
    · have e0 : maskN l = 0 := by rw [b2]; unfold mOf; rw [if_pos hu]
      have n1 : ¬ (plainL l = false ∨ 1 < popM (maskN l)) := by rw [b1, e0, pop_zero]; simp
      rw [if_neg n1, if_pos e0, if_neg n0, if_pos hu]
    · obtain ⟨q, hq⟩ : ∃ q : Nat, s.1 = q := ⟨s.1.toNat, by omega⟩
      have hq7 : q < 7 := by omega
      obtain ⟨c1, c2⟩ := pop_mOf q hq7
      have e0 : maskN l = 2 ^ (q + 1) := by rw [b2, hq]; unfold mOf; rw [if_neg (by omega), Int.toNat_natCast]
      have n1 : ¬ (plainL l = false ∨ 1 < popM (maskN l)) := by rw [b1, e0, c1]; simp
      have n2 : ¬ maskN l = 0 := by rw [e0]; exact Nat.ne_of_gt (Nat.two_pow_pos _)
      rw [if_neg n1, if_neg n2, if_neg n0, if_neg hu, e0, c2, hq, Int.toNat_natCast]
      unfold oneU
      rw [if_pos ⟨by omega, by omega⟩, show (((q + 1 : Nat) : Int) - 1).toNat = q by omega, ut_ct]
end Go.Proofs.YtlhmecagijdinaaDoor.nm
