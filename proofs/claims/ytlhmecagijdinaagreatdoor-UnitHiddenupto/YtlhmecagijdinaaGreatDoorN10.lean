/-
  The reference's sum of two fractions.
-/
import Derived.Test.YtlhmecagijdinaaGreatDoorN09
import Derived.Deep.RegionHeld3
import Derived.Deep.DrawnRows
import Derived.Deep.DeepCutAuto
set_option linter.unusedVariables false
namespace Go.Proofs.YtlhmecagijdinaaGreatDoor.wk
open Go.RowKit

theorem radd_up (a b : Int) (w : World) (a0 : 0 ≤ a) (b0 : 0 ≤ b) (h : a + b < 340282366920938463463374607431768211456) :
    Calls Tryz.prog 71 #[.agg #[.int .u64 (hi a), .int .u64 (lo a)], .agg #[.int .u64 (hi b), .int .u64 (lo b)]] w fun e w' => e = .returned (.agg #[.int .u64 (hi (a + b)), .int .u64 (lo (a + b))]) ∧ Up w w' := by
  obtain ⟨p1, p2⟩ := hi_bd (v := a) (by omega) (by omega)
  obtain ⟨q1, q2⟩ := hi_bd (v := b) b0 (by omega)
  obtain ⟨r1, r2⟩ := lo_bd a
  obtain ⟨s1, s2⟩ := lo_bd b
  have c0 : 0 ≤ hi (lo a + lo b) := by unfold hi; omega
  have c1 : hi (lo a + lo b) ≤ 1 := by unfold hi; omega
  have E1 : Hid _ := add_lo a b
  have E2 : Hid _ := add_hi a b a0 b0 h
  go_enter Tryz.func71, Tryz.ntmps71
  go_wp2_with (first | simp only [add64_0 _ _ r1 s1] | simp only [add64 _ _ _ p1 q1 c0 c1])
  rw [E1.out, E2.out]
  exact bodyPost_ret (v := .agg #[.int .u64 (hi (a + b)), .int .u64 (lo (a + b))]) (by simp [results, Tryz.results71, go_sem]) rfl ⟨rfl, (((Up.refl _).alloc _ _).alloc _ _).alloc _ _⟩
def Sy (w wr : World) (n d m e : Int) (bp bq : Nat) (X Y : Int) : Prop := S2 w wr n d m e ∧ w.heap.size + 1 + 1 < bp ∧ w.heap.size + 1 + 1 < bq ∧ bp < wr.heap.size ∧ bq < wr.heap.size ∧
  wr.cell? ⟨bp, 0, none⟩ = some (.int .u64 (hi X)) ∧ wr.cell? ⟨bp, 1, none⟩ = some (.int .u64 (lo X)) ∧ wr.cell? ⟨bq, 0, none⟩ = some (.int .u64 (hi Y)) ∧ wr.cell? ⟨bq, 1, none⟩ = some (.int .u64 (lo Y))
theorem Sy.up {w wr wl : World} {n d m e : Int} {bp bq : Nat} {X Y : Int} (s : Sy w wr n d m e bp bq X Y) (h : Up wr wl) : Sy w wl n d m e bp bq X Y := by
  obtain ⟨s0, s1, s2, s3, s4, s5, s6, s7, s8⟩ := s
  exact ⟨s0.up h, s1, s2, Nat.lt_of_lt_of_le s3 h.size, Nat.lt_of_lt_of_le s4 h.size, (h.cell _ _ (by omega)).trans s5, (h.cell _ _ (by omega)).trans s6, (h.cell _ _ (by omega)).trans s7, (h.cell _ _ (by omega)).trans s8⟩
def Sz (w wr : World) (n d m e : Int) (bp bq bd : Nat) (X Y D : Int) : Prop := Sy w wr n d m e bp bq X Y ∧ w.heap.size + 1 + 1 < bd ∧ bd < wr.heap.size ∧
  wr.cell? ⟨bd, 0, none⟩ = some (.int .u64 (hi D)) ∧ wr.cell? ⟨bd, 1, none⟩ = some (.int .u64 (lo D))
theorem Sz.up {w wr wl : World} {n d m e : Int} {bp bq bd : Nat} {X Y D : Int} (s : Sz w wr n d m e bp bq bd X Y D) (h : Up wr wl) : Sz w wl n d m e bp bq bd X Y D := by
  obtain ⟨s0, s1, s2, s3, s4⟩ := s
  exact ⟨s0.up h, s1, Nat.lt_of_lt_of_le s2 h.size, (h.cell _ _ (by omega)).trans s3, (h.cell _ _ (by omega)).trans s4⟩
theorem Sz.cells {w wr : World} {n d m e : Int} {bp bq bd : Nat} {X Y D : Int} (s : Sz w wr n d m e bp bq bd X Y D) :
    wr.cell? ⟨bp, 0, none⟩ = some (.int .u64 (hi X)) ∧ wr.cell? ⟨bp, 1, none⟩ = some (.int .u64 (lo X)) ∧ wr.cell? ⟨bq, 0, none⟩ = some (.int .u64 (hi Y)) ∧ wr.cell? ⟨bq, 1, none⟩ = some (.int .u64 (lo Y)) ∧ wr.cell? ⟨bd, 0, none⟩ = some (.int .u64 (hi D)) ∧ wr.cell? ⟨bd, 1, none⟩ = some (.int .u64 (lo D)) :=
  ⟨s.1.2.2.2.2.2.1, s.1.2.2.2.2.2.2.1, s.1.2.2.2.2.2.2.2.1, s.1.2.2.2.2.2.2.2.2, s.2.2.2.1, s.2.2.2.2⟩
attribute [local go_sem ↓] Go.wp_at_zero Go.wp_at_succ
set_option maxHeartbeats 8000000 in
theorem add2_any (n d m e : Int) (w : World) (hn : I64 n) (hd : I64 d) (hm : I64 m) (he : I64 e) :
    Calls Tryz.prog 44 #[.agg #[.int .i64 n, .int .i64 d], .agg #[.int .i64 m, .int .i64 e]] w fun x w' => x = .returned (.agg #[.int .i64 (addN n d m e), .int .i64 (addD n d m e)]) ∧ Up w w' := by
  have s0 := S2.start w n d m e
  by_cases va : isV n d = true
  rotate_left
  · have va' : isV n d = false := by simpa using va
    obtain ⟨e1, e2⟩ := add_no (n := n) (d := d) (m := m) (e := e) (by simp [va'])
    rw [e1, e2]
    go_enter Tryz.func44, Tryz.ntmps44
    go_wp2_with (first
      | (go_at_call 67; refine (is64 _ _ _ (by assumption) (by assumption)).mono ?_; rintro _ wa ⟨rfl, ha⟩; have sa := s0.up ha; obtain ⟨c0, c1, c2, c3, c4, c5, c6, c7⟩ := id sa; have f := sa.fz; simp only [va'])
      | (go_at_call 57; refine (over_up _).mono ?_; rintro _ wo ⟨rfl, ho⟩; have so := sa.up ho; obtain ⟨v0, v1, v2, v3, v4, v5, v6, v7⟩ := id so; have f2 := so.fz))
    exact bodyPost_ret (v := .agg #[.int .i64 0, .int .i64 0]) (by simp [results, Tryz.results44, go_sem, *]) rfl ⟨rfl, (so.1.setCell (by simp; omega) _).setCell (by simp; omega) _⟩
  by_cases vb : isV m e = true
  rotate_left
  · have vb' : isV m e = false := by simpa using vb
    obtain ⟨e1, e2⟩ := add_no (n := n) (d := d) (m := m) (e := e) (by simp [vb'])
    rw [e1, e2]
    go_enter Tryz.func44, Tryz.ntmps44
    go_wp2_with (first
      | (go_at_call_of 67 (Value.agg #[.int .i64 n, .int .i64 d]); refine (is64 _ _ _ (by assumption) (by assumption)).mono ?_; rintro _ wa ⟨rfl, ha⟩; have sa := s0.up ha; obtain ⟨c0, c1, c2, c3, c4, c5, c6, c7⟩ := id sa; have f := sa.fz; simp only [va])
      | (go_at_call 67; refine (is64 _ _ _ (by assumption) (by assumption)).mono ?_; rintro _ wb ⟨rfl, hb⟩; have sb := sa.up hb; obtain ⟨t0, t1, t2, t3, t4, t5, t6, t7⟩ := id sb; have f1 := sb.fz; simp only [vb'])
      | (go_at_call 57; refine (over_up _).mono ?_; rintro _ wo ⟨rfl, ho⟩; have so := sb.up ho; obtain ⟨v0, v1, v2, v3, v4, v5, v6, v7⟩ := id so; have f2 := so.fz))
    exact bodyPost_ret (v := .agg #[.int .i64 0, .int .i64 0]) (by simp [results, Tryz.results44, go_sem, *]) rfl ⟨rfl, (so.1.setCell (by simp; omega) _).setCell (by simp; omega) _⟩
  obtain ⟨n1, n2⟩ := id hn; obtain ⟨d1, d2⟩ := id hd; obtain ⟨m1, m2⟩ := id hm; obtain ⟨e1, e2⟩ := id he
  have hd0 := isV_den va
  have he0 := isV_den vb
  obtain ⟨p1, p2⟩ := ab_bd' n1 n2 (isV_num va)
  obtain ⟨q1, q2⟩ := ab_bd' m1 m2 (isV_num vb)
  obtain ⟨x0, x1⟩ := small_prod p1 (by omega) (by omega : 0 ≤ e) (by omega)
  obtain ⟨y0, y1⟩ := small_prod q1 (by omega) (by omega : 0 ≤ d) (by omega)
  obtain ⟨z0, z1⟩ := small_prod (x := d) (y := e) (by omega) (by omega) (by omega) (by omega)
  rw [show addN n d m e = lowN (belw n m (ab n * e) (ab m * d)) (mg n m (ab n * e) (ab m * d)) (d * e) by simp [addN, va, vb], show addD n d m e = lowD (mg n m (ab n * e) (ab m * d)) (d * e) by simp [addD, va, vb]]
  have we : IntKind.u64.wrap e = e := by rw [IntKind.wrap_u64]; omega
  have wd : IntKind.u64.wrap d = d := by rw [IntKind.wrap_u64]; omega
  go_enter Tryz.func44, Tryz.ntmps44
  go_wp2_with (first
      | (go_at_call_of 67 (Value.agg #[.int .i64 n, .int .i64 d]); refine (is64 _ _ _ (by assumption) (by assumption)).mono ?_; rintro _ wa ⟨rfl, ha⟩; have sa := s0.up ha; obtain ⟨c0, c1, c2, c3, c4, c5, c6, c7⟩ := id sa; simp only [va])
      | (go_at_call 67; refine (is64 _ _ _ (by assumption) (by assumption)).mono ?_; rintro _ wb ⟨rfl, hb⟩; have sb := sa.up hb; simp only [vb]))
  clear c0 c1 c2 c3 c4 c5 c6 c7 sa ha hb s0
  obtain ⟨t0, t1, t2, t3, t4, t5, t6, t7⟩ := id sb
  clear t0 t6 t7
  have l0 : w.heap.size < wb.heap.size := by omega
  have l1 : w.heap.size + 1 < wb.heap.size := by omega
  go_cut [5, 6] (fun p q wx => ∃ bp bq : Nat, p = .pointer (some ⟨bp, 0, none⟩) ∧ q = .pointer (some ⟨bq, 0, none⟩) ∧ Sy w wx n d m e bp bq (ab n * e) (ab m * d))
  case first =>
    go_region_held3 (fun w' => w'.cell? ⟨w.heap.size, 0, none⟩ = some (.int .i64 n) ∧ w'.cell? ⟨w.heap.size, 1, none⟩ = some (.int .i64 d) ∧ w'.cell? ⟨w.heap.size + 1, 0, none⟩ = some (.int .i64 m) ∧ w'.cell? ⟨w.heap.size + 1, 1, none⟩ = some (.int .i64 e))
      (exact keep4 (wa := wb) (by repeat (first | exact Up.refl _ | apply Up.alloc | apply Up.drewN | apply Up.drew | (refine Up.setCell ?_ (by simp) _))) l0 l1 t2 t3 t4 t5)
      (first
        | (go_at_call 69; refine (mag_any _ _ (by assumption) (by assumption)).mono ?_; rintro _ _ ⟨rfl, rfl⟩)
        | (go_at_call 68; (try simp only [we, wd]); refine (mul_any _ _ _ (by omega) (by omega) (by omega) (by omega)).mono ?_; rintro _ _ ⟨rfl, c1, rfl⟩))
    all_goals
      go_wp2_with fail
      go_meet
      exact ⟨_, _, rfl, rfl, sb.up (by repeat (first | exact Up.refl _ | apply Up.alloc | apply Up.drewN | apply Up.drew)), by omega, by omega, by simp; try omega, by simp; try omega, by simp [go_sem], by simp [go_sem], by simp [go_sem], by simp [go_sem]⟩
  case rest =>
    obtain ⟨bp, bq, rfl, rfl, s⟩ := hcut
    clear t1 t2 t3 t4 t5 l0 l1 sb
    obtain ⟨⟨t0, t1, t2, t3, t4, t5, t6, t7⟩, k1, k2, k3, k4, k5, k6, k7, k8⟩ := id s
    go_upto_region 5 with (go_at_call 68; (try simp only [we, wd]); refine (mul_up _ _ _ (by omega) (by omega) (by omega) (by omega)).mono ?_; rintro _ wl ⟨rfl, hl⟩; have sl := s.up hl)
    have sz : Sz w (wl.alloc (.cells #[.int .u64 (hi (d * e)), .int .u64 (lo (d * e))] 87)) n d m e bp bq wl.heap.size (ab n * e) (ab m * d) (d * e) := by
      refine ⟨sl.up ((Up.refl _).alloc _ _), ?_, by simp, by simp [go_sem], by simp [go_sem]⟩
      have := sl.2.1
      have := sl.2.2.2.1
      omega
    revert sz
    generalize wl.alloc (.cells #[.int .u64 (hi (d * e)), .int .u64 (lo (d * e))] 87) = wz
    generalize wl.heap.size = bd
    intro sz
    clear t0 t1 t2 t3 t4 t5 t6 t7 k1 k2 k3 k4 k5 k6 k7 k8 s hl sl
    obtain ⟨⟨⟨t0, t1, t2, t3, t4, t5, t6, t7⟩, k1, k2, k3, k4, k5, k6, k7, k8⟩, k9, ka, kb, kc⟩ := id sz
    have n1' : ¬ w.heap.size + 1 + 1 = bp := by omega
    have n2' : ¬ w.heap.size + 1 + 1 = bq := by omega
    have n3' : ¬ w.heap.size + 1 + 1 = bd := by omega
    by_cases hs : (decide (n < 0) == decide (m < 0)) = true
    · have B : Hid (belw n m (ab n * e) (ab m * d) = decide (n < 0)) := if_pos hs
      have M : Hid (mg n m (ab n * e) (ab m * d) = ab n * e + ab m * d) := if_pos hs
      go_quiet (fail)
      go_wp2_with fail
      have sv := sz.up ((Up.refl _).drewN nq)
      revert sv
      generalize wz.drewN nq = wv
      intro sv
      clear t0 t1 t2 t3 t4 t5 t6 t7 k3 k4 k5 k6 k7 k8 ka kb kc sz
      obtain ⟨⟨⟨t0, t1, t2, t3, t4, t5, t6, t7⟩, _, _, k3, k4, k5, k6, k7, k8⟩, _, ka, kb, kc⟩ := id sv
      have f1 := sv.1.1.fz
      clear t0
      go_region_held3 (fun w' => w'.cell? ⟨bp, 0, none⟩ = some (.int .u64 (hi (ab n * e))) ∧ w'.cell? ⟨bp, 1, none⟩ = some (.int .u64 (lo (ab n * e))) ∧ w'.cell? ⟨bq, 0, none⟩ = some (.int .u64 (hi (ab m * d))) ∧ w'.cell? ⟨bq, 1, none⟩ = some (.int .u64 (lo (ab m * d))) ∧ w'.cell? ⟨bd, 0, none⟩ = some (.int .u64 (hi (d * e))) ∧ w'.cell? ⟨bd, 1, none⟩ = some (.int .u64 (lo (d * e))))
        (first | (refine (sv.up ?_).cells; (repeat (first | exact Up.refl _ | apply Up.drewN | apply Up.drew | (refine Up.trans ?_ (by assumption)))); done) | (simp [go_sem, *]; done))
        (first
          | (go_at_call 71; refine (radd_up _ _ _ x0 y0 (by omega)).mono ?_; rintro _ wl ⟨rfl, hl⟩)
          | (go_at_call 70; refine (rmade_any _ _ _ _ (by omega) (by omega) (by omega) (by omega)).mono ?_; rintro _ wl ⟨rfl, hl⟩; have sl := sv.up (show Up wv wl by repeat (first | exact Up.refl _ | apply Up.drewN | apply Up.drew | (refine Up.trans ?_ (by assumption)))); have f2 := sl.1.1.fz; obtain ⟨⟨⟨v0, v1, v2, v3, v4, v5, v6, v7⟩, _, _, _, _, j5, j6, j7, j8⟩, _, _, jb, jc⟩ := id sl; clear v0))
      all_goals
        go_wp2
        refine bodyPost_ret (v := .agg #[.int .i64 (lowN (decide (n < 0)) (ab n * e + ab m * d) (d * e)), .int .i64 (lowD (ab n * e + ab m * d) (d * e))]) (by simp [results, Tryz.results44, go_sem, *]) rfl ⟨by rw [B.out, M.out], ?_⟩
        repeat (first | exact sl.1.1.1 | apply Up.drewN | apply Up.drew | (refine Up.setCell ?_ (by simp; omega) _))
    · have hs' : (decide (n < 0) == decide (m < 0)) = false := by simpa using hs
      have hdm : decide (m < 0) = !decide (n < 0) := by
        cases h1 : decide (n < 0) <;> cases h2 : decide (m < 0) <;> simp [h1, h2] at hs' ⊢
      by_cases hlt : ab n * e < ab m * d
      · have B : Hid (belw n m (ab n * e) (ab m * d) = decide (m < 0)) := by rw [Hid, hdm]; simp [belw, hs', hlt]
        have M : Hid (mg n m (ab n * e) (ab m * d) = ab m * d - ab n * e) := by simp [Hid, mg, hs', hlt]
        have bl : decide (ab n * e < ab m * d) = true := by simpa using hlt
        clear hs hdm
        go_quiet (fail)
        go_wp2_with (go_at_call 72; refine (less_up _ _ _).mono ?_; rintro _ wv ⟨rfl, hv⟩; simp only [bl])
        have sv := (sz.up ((Up.refl _).drewN nq)).up hv
        clear hv
        clear t0 t1 t2 t3 t4 t5 t6 t7 k3 k4 k5 k6 k7 k8 ka kb kc sz
        obtain ⟨⟨⟨t0, t1, t2, t3, t4, t5, t6, t7⟩, _, _, k3, k4, k5, k6, k7, k8⟩, _, ka, kb, kc⟩ := id sv
        have f1 := sv.1.1.fz
        clear t0
        go_region_held3 (fun w' => w'.cell? ⟨bp, 0, none⟩ = some (.int .u64 (hi (ab n * e))) ∧ w'.cell? ⟨bp, 1, none⟩ = some (.int .u64 (lo (ab n * e))) ∧ w'.cell? ⟨bq, 0, none⟩ = some (.int .u64 (hi (ab m * d))) ∧ w'.cell? ⟨bq, 1, none⟩ = some (.int .u64 (lo (ab m * d))) ∧ w'.cell? ⟨bd, 0, none⟩ = some (.int .u64 (hi (d * e))) ∧ w'.cell? ⟨bd, 1, none⟩ = some (.int .u64 (lo (d * e))))
          (first | (refine (sv.up ?_).cells; (repeat (first | exact Up.refl _ | apply Up.drewN | apply Up.drew | (refine Up.trans ?_ (by assumption)))); done) | (simp [go_sem, *]; done))
          (first
            | (go_at_call 73; refine (sub_up _ _ _ (by omega) (by omega) (by omega)).mono ?_; rintro _ wl ⟨rfl, hl⟩)
            | (go_at_call 70; refine (rmade_any _ _ _ _ (by omega) (by omega) (by omega) (by omega)).mono ?_; rintro _ wl ⟨rfl, hl⟩; have sl := sv.up (show Up wv wl by repeat (first | exact Up.refl _ | apply Up.drewN | apply Up.drew | (refine Up.trans ?_ (by assumption)))); have f2 := sl.1.1.fz; obtain ⟨⟨⟨v0, v1, v2, v3, v4, v5, v6, v7⟩, _, _, _, _, j5, j6, j7, j8⟩, _, _, jb, jc⟩ := id sl; clear v0))
        all_goals
          go_wp2
          refine bodyPost_ret (v := .agg #[.int .i64 (lowN (decide (m < 0)) (ab m * d - ab n * e) (d * e)), .int .i64 (lowD (ab m * d - ab n * e) (d * e))]) (by simp [results, Tryz.results44, go_sem, *]) rfl ⟨by rw [B.out, M.out], ?_⟩
          repeat (first | exact sl.1.1.1 | apply Up.drewN | apply Up.drew | (refine Up.setCell ?_ (by simp; omega) _))
      · have B : Hid (belw n m (ab n * e) (ab m * d) = decide (n < 0)) := by simp [Hid, belw, hs', hlt]
        have M : Hid (mg n m (ab n * e) (ab m * d) = ab n * e - ab m * d) := by simp [Hid, mg, hs', hlt]
        have bl : decide (ab n * e < ab m * d) = false := by simpa using hlt
        clear hs hdm
        go_quiet (fail)
        go_wp2_with (go_at_call 72; refine (less_up _ _ _).mono ?_; rintro _ wv ⟨rfl, hv⟩; simp only [bl])
        have sv := (sz.up ((Up.refl _).drewN nq)).up hv
        clear hv
        clear t0 t1 t2 t3 t4 t5 t6 t7 k3 k4 k5 k6 k7 k8 ka kb kc sz
        obtain ⟨⟨⟨t0, t1, t2, t3, t4, t5, t6, t7⟩, _, _, k3, k4, k5, k6, k7, k8⟩, _, ka, kb, kc⟩ := id sv
        have f1 := sv.1.1.fz
        clear t0
        go_region_held3 (fun w' => w'.cell? ⟨bp, 0, none⟩ = some (.int .u64 (hi (ab n * e))) ∧ w'.cell? ⟨bp, 1, none⟩ = some (.int .u64 (lo (ab n * e))) ∧ w'.cell? ⟨bq, 0, none⟩ = some (.int .u64 (hi (ab m * d))) ∧ w'.cell? ⟨bq, 1, none⟩ = some (.int .u64 (lo (ab m * d))) ∧ w'.cell? ⟨bd, 0, none⟩ = some (.int .u64 (hi (d * e))) ∧ w'.cell? ⟨bd, 1, none⟩ = some (.int .u64 (lo (d * e))))
          (first | (refine (sv.up ?_).cells; (repeat (first | exact Up.refl _ | apply Up.drewN | apply Up.drew | (refine Up.trans ?_ (by assumption)))); done) | (simp [go_sem, *]; done))
          (first
            | (go_at_call 73; refine (sub_up _ _ _ (by omega) (by omega) (by omega)).mono ?_; rintro _ wl ⟨rfl, hl⟩)
            | (go_at_call 70; refine (rmade_any _ _ _ _ (by omega) (by omega) (by omega) (by omega)).mono ?_; rintro _ wl ⟨rfl, hl⟩; have sl := sv.up (show Up wv wl by repeat (first | exact Up.refl _ | apply Up.drewN | apply Up.drew | (refine Up.trans ?_ (by assumption)))); have f2 := sl.1.1.fz; obtain ⟨⟨⟨v0, v1, v2, v3, v4, v5, v6, v7⟩, _, _, _, _, j5, j6, j7, j8⟩, _, _, jb, jc⟩ := id sl; clear v0))
        all_goals
          go_wp2
          refine bodyPost_ret (v := .agg #[.int .i64 (lowN (decide (n < 0)) (ab n * e - ab m * d) (d * e)), .int .i64 (lowD (ab n * e - ab m * d) (d * e))]) (by simp [results, Tryz.results44, go_sem, *]) rfl ⟨by rw [B.out, M.out], ?_⟩
          repeat (first | exact sl.1.1.1 | apply Up.drewN | apply Up.drew | (refine Up.setCell ?_ (by simp; omega) _))
end Go.Proofs.YtlhmecagijdinaaGreatDoor.wk
