/-
  The law of fractions as texts.
-/
import Derived.Test.YtakkblmcmlkjmaaDoorTxtG
import Derived.Test.YtakkblmcmlkjmaaDoorTxtH
import Derived.Deep.RegionHeld3
set_option linter.unusedVariables false
set_option linter.unusedSimpArgs false
namespace Go.Proofs.YtakkblmcmlkjmaaDoor
open Go.RowKit Go.Shelf

theorem cnt_nil : cnt [] = none := by decide
set_option maxRecDepth 100000 in
set_option maxHeartbeats 2000000 in
theorem parseR_nil (w : World) : Calls Tryd.prog 7 #[.string ⟨#[]⟩] w fun e w' => PostPs ⟨#[]⟩ w e w' := by
  have R0 := hide (RB.start w 23)
  have FIN := hide (show PS ((⟨#[]⟩ : ByteArray).data.toList) 0 0 3 by
    have := ps_rp [] (by decide)
    rw [show rp [] = none from by rw [rp_eq]; show rpC (cnt []) _ _ _ = none; rw [cnt_nil]; rfl] at this
    exact this)
  have B1 := hide (bplus (Below.refl w.heap.size w) (.cells #[.int .i64 0, .int .i64 0] 23))
  have R := R0
  obtain ⟨z, m0, m1, f0, f1⟩ := R.out
  go_enter Tryd.func7, Tryd.ntmps7
  go_wp2
  refine wp_loop_rounds 1 ?_
  rw [rounds_succ]
  go_wp2_with fail
  go_at_call 14
  refine (count_any ⟨#[]⟩ _ (by decide)).mono ?_
  rintro e w2 ⟨v1, b1, rfl, H1, B2⟩
  obtain rfl : b1 = false := by have := H1.out; unfold CN at this; rw [show (⟨#[]⟩ : ByteArray).data.toList = [] from rfl, cnt_nil] at this; exact this
  clear z m0 m1 f0 f1
  replace R := hide (R.out.below B2)
  obtain ⟨z, m0, m1, f0, f1⟩ := R.out
  replace B1 := hide (bto B1.out B2)
  go_wp2_with (first
    | (go_at_call 14; refine (count_any ⟨#[49]⟩ _ (by decide)).mono ?_; rintro e w3 ⟨v2, b2, rfl, H2, B3⟩; clear z m0 m1 f0 f1; replace R := hide (R.out.below B3); obtain ⟨z, m0, m1, f0, f1⟩ := R.out; replace B1 := hide (bto B1.out B3))
    | (go_at_call 13; refine (overB_any _).mono ?_; rintro e w7 ⟨rfl, B7⟩; clear z m0 m1 f0 f1; replace R := hide (R.out.below B7); obtain ⟨z, m0, m1, f0, f1⟩ := R.out; replace B1 := hide (bto B1.out B7)))
  refine bodyPost_ret (v := .tuple #[.agg #[.int .i64 0, .int .i64 0], .int .i64 3]) (by simp [results, Tryd.results7, go_sem, m0, m1, z]) rfl ?_
  exact ⟨0, 0, 3, rfl, FIN.out, (by repeat (first | (with_reducible exact B1.out) | (with_reducible refine Below.setCell ?_ (by first | (simp; done) | (simp; omega) | omega) _) | (with_reducible refine bplus ?_ _)))⟩
set_option maxRecDepth 100000 in
set_option maxHeartbeats 2000000 in
theorem parseR_ovr (w : World) : Calls Tryd.prog 7 #[.string ⟨#[111, 118, 101, 114]⟩] w fun e w' => PostPs ⟨#[111, 118, 101, 114]⟩ w e w' := by
  have R0 := hide (RB.start w 23)
  have FIN := hide (show PS ((⟨#[111, 118, 101, 114]⟩ : ByteArray).data.toList) 0 0 0 from .inl ⟨rfl, rfl, rfl, rfl⟩)
  have B1 := hide (bplus (Below.refl w.heap.size w) (.cells #[.int .i64 0, .int .i64 0] 23))
  have R := R0
  obtain ⟨z, m0, m1, f0, f1⟩ := R.out
  go_enter Tryd.func7, Tryd.ntmps7
  go_wp2_with (go_at_call 13; refine (overB_any _).mono ?_; rintro e w7 ⟨rfl, B7⟩; clear z m0 m1 f0 f1; replace R := hide (R.out.below B7); obtain ⟨z, m0, m1, f0, f1⟩ := R.out; replace B1 := hide (bto B1.out B7))
  refine bodyPost_ret (v := .tuple #[.agg #[.int .i64 0, .int .i64 0], .int .i64 0]) (by simp [results, Tryd.results7, go_sem, m0, m1, z]) rfl ?_
  exact ⟨0, 0, 0, rfl, FIN.out, (by repeat (first | (with_reducible exact B1.out) | (with_reducible refine Below.setCell ?_ (by first | (simp; done) | (simp; omega) | omega) _) | (with_reducible refine bplus ?_ _)))⟩
theorem cut1_list (s : ByteArray) : (s.extract 1 s.size).data.toList = s.data.toList.drop 1 := by
  rw [ByteArray.data_extract, Array.toList_extract, List.extract_eq_take_drop]
  rw [List.take_of_length_le]
  rw [List.length_drop, Array.length_toList]
  show s.size - 1 ≤ s.size - 1
  exact Nat.le_refl _
/-- The reference's answer. -/
theorem parseR_any (s : ByteArray) (w : World) (hs : s.size ≤ 140737488355328) : Calls Tryd.prog 7 #[.string s] w fun e w' => PostPs s w e w' := by
  by_cases hne : s.data.toList = ovr
  · obtain rfl : s = ⟨#[111, 118, 101, 114]⟩ := data_ext hne
    exact parseR_ovr w
  by_cases h0 : s.size = 0
  · obtain rfl : s = ⟨#[]⟩ := data_ext (by
      have : s.data.toList.length = s.size := by rw [Array.length_toList]; rfl
      rw [List.eq_nil_of_length_eq_zero (this.trans h0)])
    exact parseR_nil w
  have hp : 0 < s.size := by omega
  have hh := head_at s hp
  by_cases h45 : s[0].toNat = 45
  · have hng : ngt s.data.toList = true := by
      unfold ngt; rw [hh]
      have : s[0] = 45 := UInt8.toNat_inj.1 (by rw [h45]; rfl)
      rw [this]; rfl
    have hb : bdy s.data.toList = s.data.toList.drop 1 := by unfold bdy; rw [hng]; rfl
    have e45 : ((s[0].toNat : Int) == 45) = true := by rw [h45]; rfl
    have hz : (s.extract 1 s.size).size = s.size - 1 := by simp
    by_cases hsl : (47 : UInt8) ∈ bdy s.data.toList
    · exact parseR_negS s (s.extract 1 s.size) w hs (by omega) hne (emp_f hp) hp e45 (by omega) (by omega) rfl hz hng (by rw [hb, cut1_list]) hsl
    · exact parseR_negN s (s.extract 1 s.size) w hs (by omega) hne (emp_f hp) hp e45 (by omega) (by omega) rfl hz hng (by rw [hb, cut1_list]) hsl
  · have hng : ngt s.data.toList = false := by
      unfold ngt; rw [hh]
      have : ¬ s[0] = 45 := fun g => h45 (by rw [g]; rfl)
      simpa using this
    have hb : bdy s.data.toList = s.data.toList := by unfold bdy; rw [hng]; rfl
    have e45 : ((s[0].toNat : Int) == 45) = false := by rw [beq_eq_false_iff_ne]; omega
    by_cases hsl : (47 : UInt8) ∈ bdy s.data.toList
    · exact parseR_posS s s w hs hs hne (emp_f hp) hp e45 hng (by rw [hb]) hsl
    · exact parseR_posN s s w hs hs hne (emp_f hp) hp e45 hng (by rw [hb]) hsl
def cnN (n d : Int) : Int := if isV n d = true then n else 0
def cnD (n d : Int) : Int := if isV n d = true then d else 0
set_option maxRecDepth 100000 in
set_option maxHeartbeats 1000000 in
theorem clean_any (n d : Int) (w : World) (n1 : -9223372036854775808 ≤ n) (n2 : n ≤ 9223372036854775807) (d1 : -9223372036854775808 ≤ d) (d2 : d ≤ 9223372036854775807) :
    Calls Tryd.prog 8 #[.agg #[.int .i64 n, .int .i64 d]] w fun e w' => e = .returned (.agg #[.int .i64 (cnN n d), .int .i64 (cnD n d)]) ∧ Below w.heap.size w w' := by
  have U0 := hide (bplus (bplus (Below.refl w.heap.size w) (.cells #[.int .i64 n, .int .i64 d] 23)) (.cells #[.int .i64 0, .int .i64 0] 23))
  have CM := hide (rmay_any n d ((w.alloc (.cells #[.int .i64 n, .int .i64 d] 23)).alloc (.cells #[.int .i64 0, .int .i64 0] 23)) n1 n2 d1 d2)
  cases hm : mayB n d with
  | true =>
    have E := hide (show cnN n d = n ∧ cnD n d = d by
      unfold cnN cnD
      by_cases hv : isV n d = true
      · rw [if_pos hv, if_pos hv]; exact ⟨rfl, rfl⟩
      · have h0 : isV n d = false := by simpa using hv
        have := isV_of_may hm
        rw [h0] at this
        have h2 : n = 0 ∧ d = 0 := by simpa using this.symm
        rw [if_neg hv, if_neg hv]; exact ⟨h2.1.symm, h2.2.symm⟩)
    rw [E.out.1, E.out.2]
    replace hm := hide hm
    go_enter Tryd.func8, Tryd.ntmps8
    go_wp2_with (go_at_call 15; refine CM.out.mono ?_; rintro e w1 ⟨rfl, U1⟩; rw [hm.out]; have z1 := U1.size; simp at z1; have k0 : w1.cell? ⟨w.heap.size, 0, none⟩ = some (.int .i64 n) := (by rw [U1.cell _ _ (by simp; omega)]; simp [go_sem]); have k1 : w1.cell? ⟨w.heap.size, 1, none⟩ = some (.int .i64 d) := (by rw [U1.cell _ _ (by simp; omega)]; simp [go_sem]); have m0 : w1.cell? ⟨w.heap.size + 1, 0, none⟩ = some (.int .i64 0) := (by rw [U1.cell _ _ (by simp)]; simp [go_sem]); have m1 : w1.cell? ⟨w.heap.size + 1, 1, none⟩ = some (.int .i64 0) := (by rw [U1.cell _ _ (by simp)]; simp [go_sem]); have f0 : w1.frozen? ⟨w.heap.size + 1, 0, none⟩ = false := (by rw [U1.2]; simp [go_sem]); have f1 : w1.frozen? ⟨w.heap.size + 1, 1, none⟩ = false := (by rw [U1.2]; simp [go_sem]); replace U1 := hide (show Below w.heap.size w w1 from bto U0.out U1.1))
    refine bodyPost_ret (v := .agg #[.int .i64 n, .int .i64 d]) (by simp [results, Tryd.results8, go_sem, m0, m1]) rfl ?_
    exact ⟨rfl, by repeat (first | (with_reducible exact U1.out) | (with_reducible refine Below.setCell ?_ (by simp) _))⟩
  | false =>
    have E := hide (show cnN n d = 0 ∧ cnD n d = 0 by unfold cnN cnD; rw [isV_of_not hm]; exact ⟨rfl, rfl⟩)
    rw [E.out.1, E.out.2]
    replace hm := hide hm
    go_enter Tryd.func8, Tryd.ntmps8
    go_wp2_with (first
      | (go_at_call 15; refine CM.out.mono ?_; rintro e w1 ⟨rfl, U1⟩; rw [hm.out]; have z1 : w.heap.size + 1 < w1.heap.size := (by have := U1.size; simp at this; omega); have m0 : w1.cell? ⟨w.heap.size + 1, 0, none⟩ = some (.int .i64 0) := (by rw [U1.cell _ _ (by simp)]; simp [go_sem]); have m1 : w1.cell? ⟨w.heap.size + 1, 1, none⟩ = some (.int .i64 0) := (by rw [U1.cell _ _ (by simp)]; simp [go_sem]); have f0 : w1.frozen? ⟨w.heap.size + 1, 0, none⟩ = false := (by rw [U1.2]; simp [go_sem]); have f1 : w1.frozen? ⟨w.heap.size + 1, 1, none⟩ = false := (by rw [U1.2]; simp [go_sem]); replace U1 := hide (show Below w.heap.size w w1 from bto U0.out U1.1))
      | (go_at_call 13; refine (overB_any _).mono ?_; rintro e w7 ⟨rfl, B7⟩; replace m0 := (B7.cell (p := ⟨w.heap.size + 1, 0, none⟩) z1).trans m0; replace m1 := (B7.cell (p := ⟨w.heap.size + 1, 1, none⟩) z1).trans m1; replace f0 := (B7.frozen (p := ⟨w.heap.size + 1, 0, none⟩) z1).trans f0; replace f1 := (B7.frozen (p := ⟨w.heap.size + 1, 1, none⟩) z1).trans f1; replace U1 := hide (bto U1.out B7)))
    refine bodyPost_ret (v := .agg #[.int .i64 0, .int .i64 0]) (by simp [results, Tryd.results8, go_sem, m0, m1]) rfl ?_
    exact ⟨rfl, by repeat (first | (with_reducible exact U1.out) | (with_reducible refine Below.setCell ?_ (by simp) _))⟩
end Go.Proofs.YtakkblmcmlkjmaaDoor
