/-
  The two quotients of fractions, and the walk of the statement RatDivs.
-/
import Derived.Test.YthnkaimhmldjoaaDoorWalksK
set_option linter.unusedVariables false
namespace Go.Proofs.YthnkaimhmldjoaaDoor
open Go.RowKit

theorem low_I64 (neg : Bool) {n d : Int} (n0 : 0 ≤ n) (d0 : 0 ≤ d) : I64 (lowN neg n d) ∧ I64 (lowD n d) := by
  by_cases h : fits n d = true
  · have k := h
    simp [fits] at k
    have g0 : 0 < gc n d := by rw [gc_comm]; exact gc_pos k.1.1
    obtain ⟨x0, x1⟩ := quo_bd n0 g0
    obtain ⟨y0, y1⟩ := quo_bd d0 g0
    simp only [lowN, lowD, h, if_true]
    refine ⟨?_, by unfold I64; omega⟩
    cases neg <;> (unfold I64; simp; omega)
  · have k : fits n d = false := by simpa using h
    simp [lowN, lowD, k, I64]
def divN (n d m e : Int) : Int := if isV n d && isV m e && (m != 0) then lowN (ng n m) (ab n * e) (d * ab m) else 0
def divD (n d m e : Int) : Int := if isV n d && isV m e && (m != 0) then lowD (ab n * e) (d * ab m) else 0
theorem div_no {n d m e : Int} (h : (isV n d && isV m e && (m != 0)) = false) : divN n d m e = 0 ∧ divD n d m e = 0 := by simp [divN, divD, h]
theorem gc_one_quo {n d : Int} (h : gc n d = 1) : n / gc n d = n ∧ d / gc n d = d := by rw [h]; simp
theorem ab_flip (m e : Int) (he : 1 ≤ e) : ab (if m < 0 then -e else e) = e := by unfold ab; split <;> split <;> omega
theorem flip {m e : Int} (hm : I64 m) (he : I64 e) (v : isV m e = true) (hz : m ≠ 0) :
    lowN (ng e m) (ab e) (ab m) = (if m < 0 then -e else e) ∧ lowD (ab e) (ab m) = ab m ∧ isV (if m < 0 then -e else e) (ab m) = true := by
  have h1 := isV_den v
  have h2 := isV_num v
  have h3 := isV_gcd v
  obtain ⟨m1, m2⟩ := hm; obtain ⟨e1, e2⟩ := he
  have ae : ab e = e := ab_pos (by omega)
  have am : 0 < ab m ∧ ab m ≤ 9223372036854775807 := by unfold ab; split <;> omega
  rw [gc_comm] at h3
  obtain ⟨q1, q2⟩ := gc_one_quo h3
  have f : fits e (ab m) = true := by simp [fits, q1, q2]; omega
  have hng : ng e m = decide (m < 0) := by
    have : decide (e < 0) = false := by simp; omega
    unfold ng; rw [this]; cases decide (m < 0) <;> rfl
  refine ⟨?_, ?_, ?_⟩
  · rw [ae, hng]; simp [lowN, f, q1]
  · rw [ae]; simp [lowD, f, q2]
  · unfold isV
    rw [ab_flip m e h1, h3]
    have : (if m < 0 then -e else e) ≠ -9223372036854775808 := by split <;> omega
    simp [this]; omega
theorem ng_flip (n m e : Int) (he : 1 ≤ e) : ng n (if m < 0 then -e else e) = ng n m := by
  unfold ng
  have : decide ((if m < 0 then -e else e) < 0) = decide (m < 0) := by rw [decide_eq_decide]; split <;> omega
  rw [this]
theorem div_eq {n d m e : Int} (hm : I64 m) (he : I64 e) (v : isV m e = true) :
    mulN n d (lowN (ng e m) (ab e) (ab m)) (lowD (ab e) (ab m)) = divN n d m e ∧ mulD n d (lowN (ng e m) (ab e) (ab m)) (lowD (ab e) (ab m)) = divD n d m e := by
  by_cases hz : m = 0
  · subst hz
    have e1 : lowN (ng e 0) (ab e) (ab 0) = 0 := by simp [lowN, fits, ab]
    have e2 : lowD (ab e) (ab 0) = 0 := by simp [lowD, fits, ab]
    rw [e1, e2]
    have h0 : isV 0 0 = false := by decide
    simp [mulN, mulD, divN, divD, h0]
  · obtain ⟨f1, f2, f3⟩ := flip hm he v hz
    have hz' : (m != 0) = true := by simpa using hz
    rw [f1, f2]
    unfold mulN mulD divN divD
    rw [f3, v, hz', ng_flip n m e (isV_den v), ab_flip m e (isV_den v)]
    simp
attribute [local go_sem ↓] Go.wp_at_zero Go.wp_at_succ
set_option maxHeartbeats 4000000 in
theorem divP_any (n d m e : Int) (w : World) (hn : I64 n) (hd : I64 d) (hm : I64 m) (he : I64 e) :
    Calls Tryd.prog 10 #[.agg #[.int .i64 n, .int .i64 d], .agg #[.int .i64 m, .int .i64 e]] w fun x w' => x = .returned (.agg #[.int .i64 (divN n d m e), .int .i64 (divD n d m e)]) ∧ Up w w' := by
  have s0 := S2.start w n d m e
  by_cases vb : isV m e = true
  rotate_left
  · have vb' : isV m e = false := by simpa using vb
    obtain ⟨e1, e2⟩ := div_no (n := n) (d := d) (m := m) (e := e) (by simp [vb'])
    rw [e1, e2]
    go_enter Tryd.func10, Tryd.ntmps10
    go_wp2_with (go_at_call 14; refine (isValue64 _ _ _ (by assumption) (by assumption)).mono ?_; rintro _ wa ⟨rfl, ha⟩; have sa := s0.up ha; obtain ⟨c0, c1, c2, c3, c4, c5, c6, c7⟩ := id sa; have f := sa.fz; simp only [vb'])
    exact bodyPost_ret (v := .agg #[.int .i64 0, .int .i64 0]) (by simp [results, Tryd.results10, go_sem, *]) rfl ⟨rfl, (sa.1.setCell (by simp; omega) _).setCell (by simp; omega) _⟩
  obtain ⟨E1, E2⟩ := div_eq (n := n) (d := d) hm he vb
  rw [← E1, ← E2]
  clear E1 E2
  obtain ⟨m1, m2⟩ := id hm; obtain ⟨e1, e2⟩ := id he
  obtain ⟨i1, i2⟩ := low_I64 (ng e m) (n := ab e) (d := ab m) (ab_bd e1 e2).1 (ab_bd m1 m2).1
  go_enter Tryd.func10, Tryd.ntmps10
  go_wp2_with (go_at_call 14; refine (isValue64 _ _ _ (by assumption) (by assumption)).mono ?_; rintro _ wb ⟨rfl, hb⟩; have sb := s0.up hb; simp only [vb])
  clear s0 hb
  obtain ⟨t0, t1, t2, t3, t4, t5, t6, t7⟩ := id sb
  have f1 := sb.fz
  go_region_held3 (fun w' => w'.cell? ⟨w.heap.size, 0, none⟩ = some (.int .i64 n) ∧ w'.cell? ⟨w.heap.size, 1, none⟩ = some (.int .i64 d) ∧ w'.cell? ⟨w.heap.size + 1, 0, none⟩ = some (.int .i64 m) ∧ w'.cell? ⟨w.heap.size + 1, 1, none⟩ = some (.int .i64 e))
    (first | (refine (sb.up ?_).cells; (repeat (first | exact Up.refl _ | apply Up.drewN | apply Up.drew | (refine Up.trans ?_ (by assumption)))); done) | (simp [go_sem, *]; done))
    (first
      | (go_at_call 15; refine (of_all _ _ _ e1 e2 m1 m2).mono ?_; rintro _ wl ⟨rfl, hl⟩)
      | (go_at_call 13; refine (times_any _ _ _ _ _ hn hd i1 i2).mono ?_; rintro _ wl ⟨rfl, hl⟩; have sl := sb.up (show Up wb wl by repeat (first | exact Up.refl _ | apply Up.drewN | apply Up.drew | (refine Up.trans ?_ (by assumption)))); have f2 := sl.fz; obtain ⟨v0, v1, v2, v3, v4, v5, v6, v7⟩ := id sl; clear v0))
  all_goals
    go_wp2
    refine bodyPost_ret (v := .agg #[.int .i64 (mulN n d (lowN (ng e m) (ab e) (ab m)) (lowD (ab e) (ab m))), .int .i64 (mulD n d (lowN (ng e m) (ab e) (ab m)) (lowD (ab e) (ab m)))]) (by simp [results, Tryd.results10, go_sem, *]) rfl ⟨rfl, ?_⟩
    repeat (first | exact sl.1 | apply Up.drewN | apply Up.drew | (refine Up.setCell ?_ (by simp; omega) _))
theorem div_half : divN 1 1 2 1 = 1 ∧ divD 1 1 2 1 = 2 := by decide
end Go.Proofs.YthnkaimhmldjoaaDoor
