/-
  The contract of the reference's comparison of fractions.
-/
import Derived.Test.YtpcdhdllclenaaaWkD
import Derived.Deep.RegionHeld3
import Derived.Deep.DrawnRows
import Derived.Deep.DeepCutAuto
set_option linter.unusedVariables false
namespace Go.Proofs.Ytpcdhdllclenaaa.wk
open Go.RowKit

attribute [local go_sem ↓] Go.wp_at_zero Go.wp_at_succ
set_option maxHeartbeats 4000000 in
theorem rcmp_any (n d m e : Int) (w : World) (hn : I64 n) (hd : I64 d) (hm : I64 m) (he : I64 e) :
    Calls Try.prog 8 #[.agg #[.int .i64 n, .int .i64 d], .agg #[.int .i64 m, .int .i64 e]] w fun x w' => x = .returned (cmpR n d m e) ∧ Up w w' := by
  obtain ⟨n1, n2⟩ := hn; obtain ⟨d1, d2⟩ := hd; obtain ⟨m1, m2⟩ := hm; obtain ⟨e1, e2⟩ := he
  by_cases va : isV n d = true
  rotate_left
  · have va' : isV n d = false := by simpa using va
    rw [show cmpR n d m e = .tuple #[.int .i64 0, .bool false] by simp [cmpR, va']]
    go_enter Try.func8, Try.ntmps8
    go_wp2_with (go_at_call 15; refine (is_any n d _ n1 n2 d1 d2).mono ?_; rintro _ wa ⟨rfl, ha⟩; have hca := ha.cell; simp only [va'])
    go_ret2
    exact ⟨rfl, (((Up.refl _).alloc _ _).alloc _ _).trans ha⟩
  by_cases vb : isV m e = true
  rotate_left
  · have vb' : isV m e = false := by simpa using vb
    rw [show cmpR n d m e = .tuple #[.int .i64 0, .bool false] by simp [cmpR, vb']]
    go_enter Try.func8, Try.ntmps8
    go_wp2_with (go_at_call 15; refine (is_any _ _ _ (by assumption) (by assumption) (by assumption) (by assumption)).mono ?_; rintro _ wa ⟨rfl, ha⟩; have hca := ha.cell; have hza := ha.size; simp only [va, vb'])
    go_ret2
    exact ⟨rfl, by repeat (first | exact Up.refl _ | apply Up.alloc | apply Up.drewN | apply Up.drew | (refine Up.trans ?_ (by assumption)))⟩
  have hd0 := isV_den va
  have he0 := isV_den vb
  obtain ⟨p1, p2⟩ := ab_bd n1 n2
  obtain ⟨q1, q2⟩ := ab_bd m1 m2
  rw [show cmpR n d m e = .tuple #[.int .i64 (cq n d m e), .bool true] by simp [cmpR, va, vb]]
  go_enter Try.func8, Try.ntmps8
  go_wp2_with (go_at_call 15; refine (is_any _ _ _ (by assumption) (by assumption) (by assumption) (by assumption)).mono ?_; rintro _ wa ⟨rfl, ha⟩; have hca := ha.cell; have hza := ha.past (k := w.heap.size + 1) (by first | assumption | (simp; done) | (simp; omega)); have hzb := ha.past (k := w.heap.size) (by first | assumption | (simp; done) | (simp; omega)); simp only [va, vb])
  have hu : Up w wa := by repeat (first | exact Up.refl _ | apply Up.alloc | apply Up.drewN | apply Up.drew | (refine Up.trans ?_ (by assumption)))
  have k0 : wa.cell? ⟨w.heap.size, 0, none⟩ = some (.int .i64 n) := by simp [*, go_sem]
  have k1 : wa.cell? ⟨w.heap.size, 1, none⟩ = some (.int .i64 d) := by simp [*, go_sem]
  have k2 : wa.cell? ⟨w.heap.size + 1, 0, none⟩ = some (.int .i64 m) := by simp [*, go_sem]
  have k3 : wa.cell? ⟨w.heap.size + 1, 1, none⟩ = some (.int .i64 e) := by simp [*, go_sem]
  clear hca ha
  clear hca ha
  have we : IntKind.u64.wrap e = e := by rw [IntKind.wrap_u64]; omega
  have wd : IntKind.u64.wrap d = d := by rw [IntKind.wrap_u64]; omega
  go_cut [6, 7] (fun p q wx => ∃ bp bq : Nat, p = .pointer (some ⟨bp, 0, none⟩) ∧ q = .pointer (some ⟨bq, 0, none⟩) ∧ wx.cell? ⟨bp, 0, none⟩ = some (.int .u64 (hi (ab n * e))) ∧ wx.cell? ⟨bp, 1, none⟩ = some (.int .u64 (lo (ab n * e))) ∧
      wx.cell? ⟨bq, 0, none⟩ = some (.int .u64 (hi (ab m * d))) ∧ wx.cell? ⟨bq, 1, none⟩ = some (.int .u64 (lo (ab m * d))) ∧ wx.frozen? ⟨bp, 0, none⟩ = false ∧ wx.frozen? ⟨bp, 1, none⟩ = false ∧ wx.frozen? ⟨bq, 0, none⟩ = false ∧ wx.frozen? ⟨bq, 1, none⟩ = false ∧
      bp ≠ bq ∧ w.heap.size ≤ bp ∧ w.heap.size ≤ bq ∧ bp < wx.heap.size ∧ bq < wx.heap.size ∧ wx.cell? ⟨w.heap.size, 0, none⟩ = some (.int .i64 n) ∧ wx.cell? ⟨w.heap.size + 1, 0, none⟩ = some (.int .i64 m) ∧ Up w wx)
  case first =>
    go_region_held3 (fun w' => w'.cell? ⟨w.heap.size, 0, none⟩ = some (.int .i64 n) ∧ w'.cell? ⟨w.heap.size, 1, none⟩ = some (.int .i64 d) ∧ w'.cell? ⟨w.heap.size + 1, 0, none⟩ = some (.int .i64 m) ∧ w'.cell? ⟨w.heap.size + 1, 1, none⟩ = some (.int .i64 e)) (exact keep4 (wa := wa) (by repeat (first | exact Up.refl _ | apply Up.alloc | apply Up.drewN | apply Up.drew | (refine Up.setCell ?_ (by simp) _))) hzb hza k0 k1 k2 k3)
      (first
        | (go_at_call 17; refine (mag_any _ _ (by assumption) (by assumption)).mono ?_; rintro _ _ ⟨rfl, rfl⟩)
        | (go_at_call 16; (try simp only [we, wd]); refine (mul_any _ _ _ (by omega) (by omega) (by omega) (by omega)).mono ?_; rintro _ _ ⟨rfl, c1, rfl⟩))
    all_goals
      go_wp2_with fail
      go_meet
      exact ⟨_, _, rfl, rfl, by simp [go_sem], by simp [go_sem], by simp [go_sem], by simp [go_sem], by simp [go_sem], by simp [go_sem], by simp [go_sem], by simp [go_sem], by omega, by omega, by omega, by simp; try omega, by simp; try omega,
        (Up.cell (w := wa) (by repeat (first | exact Up.refl _ | apply Up.alloc | apply Up.drewN | apply Up.drew)) _ _ hzb).trans k0, (Up.cell (w := wa) (by repeat (first | exact Up.refl _ | apply Up.alloc | apply Up.drewN | apply Up.drew)) _ _ hza).trans k2, hu.trans (by repeat (first | exact Up.refl _ | apply Up.alloc | apply Up.drewN | apply Up.drew))⟩
  case rest =>
    obtain ⟨bp, bq, rfl, rfl, c0, c1, c2, c3, f0, f1, f2, f3, hne, l0, l1, s0, s1, k5, k6, hu2⟩ := hcut
    have E1 := cq_nn (n := n) (m := m) (d := d) (e := e)
    have E2 := cq_bb (n := n) (m := m) (d := d) (e := e)
    have E3 := cq_bn (n := n) (m := m) (d := d) (e := e) (by omega) (by omega)
    have E4 := cq_nb (n := n) (m := m) (d := d) (e := e) (by omega) (by omega)
    clear k0 k1 k2 k3 hu we wd hza hzb
    clear hza hzb
    go_wp2_with fail
    by_cases hx : n < 0
    · by_cases hy : m < 0
      · have G : Hid _ := E2 hx hy
        clear E1 E2 E3 E4
        have hx' : decide (n < 0) = true := by simpa using hx
        have hy' : decide (m < 0) = true := by simpa using hy
        go_quiet (fail)
        by_cases h1 : ab m * d < ab n * e
        · have b1 : decide (ab m * d < ab n * e) = true := by simpa using h1
          have G2 := G.out.trans (cm_lt h1)
          have G3 : Hid _ := G2
          clear G2 h1
          go_wp2_with (go_at_call 18; refine (less_any _ _ _).mono ?_; rintro _ _ ⟨rfl, ca, cb, rfl⟩; simp only [b1])
          go_ret2
          exact ⟨fin_cmp G3.out.symm, by repeat (first | exact hu2 | apply Up.alloc | apply Up.drewN | apply Up.drew | (refine Up.setCell ?_ (by simpa using by omega) _))⟩
        · have b1 : decide (ab m * d < ab n * e) = false := by simpa using h1
          by_cases h2 : ab n * e < ab m * d
          · have b2 : decide (ab n * e < ab m * d) = true := by simpa using h2
            have G2 := G.out.trans (cm_gt h2)
            have G3 : Hid _ := G2
            clear G2 h1 h2
            go_wp2_with (go_at_call 18; refine (less_any _ _ _).mono ?_; rintro _ _ ⟨rfl, ca, cb, rfl⟩; simp only [b1, b2])
            go_ret2
            exact ⟨fin_cmp G3.out.symm, by repeat (first | exact hu2 | apply Up.alloc | apply Up.drewN | apply Up.drew | (refine Up.setCell ?_ (by simpa using by omega) _))⟩
          · have b2 : decide (ab n * e < ab m * d) = false := by simpa using h2
            have G2 := G.out.trans (show cm (ab m * d) (ab n * e) = 0 by unfold cm; rw [if_neg h1, if_neg h2])
            have G3 : Hid _ := G2
            clear G2 h1 h2
            go_wp2_with (go_at_call 18; refine (less_any _ _ _).mono ?_; rintro _ _ ⟨rfl, ca, cb, rfl⟩; simp only [b1, b2])
            go_ret2
            exact ⟨fin_cmp G3.out.symm, by repeat (first | exact hu2 | apply Up.alloc | apply Up.drewN | apply Up.drew | (refine Up.setCell ?_ (by simpa using by omega) _))⟩
      · have G : Hid _ := E3 hx (by omega)
        clear E1 E2 E3 E4
        have hx' : decide (n < 0) = true := by simpa using hx
        have hy' : decide (m < 0) = false := by simpa using hy
        go_quiet (fail)
        go_wp2
        go_ret2
        exact ⟨fin_cmp G.out.symm, hu2.drewN _⟩
    · by_cases hy : m < 0
      · have G : Hid _ := E4 (by omega) hy
        clear E1 E2 E3 E4
        have hx' : decide (n < 0) = false := by simpa using hx
        have hy' : decide (m < 0) = true := by simpa using hy
        go_quiet (fail)
        go_wp2
        go_ret2
        exact ⟨fin_cmp G.out.symm, hu2.drewN _⟩
      · have G : Hid _ := E1 (by omega) (by omega)
        clear E1 E2 E3 E4
        have hx' : decide (n < 0) = false := by simpa using hx
        have hy' : decide (m < 0) = false := by simpa using hy
        go_quiet (fail)
        by_cases h1 : ab n * e < ab m * d
        · have b1 : decide (ab n * e < ab m * d) = true := by simpa using h1
          have G2 := G.out.trans (cm_lt h1)
          have G3 : Hid _ := G2
          clear G2 h1
          go_wp2_with (go_at_call 18; refine (less_up _ _ _).mono ?_; rintro _ wl ⟨rfl, hl⟩; simp only [b1])
          go_ret2
          exact ⟨fin_cmp G3.out.symm, by repeat (first | exact hu2 | apply Up.alloc | apply Up.drewN | apply Up.drew | (refine Up.trans ?_ (by assumption)))⟩
        · have b1 : decide (ab n * e < ab m * d) = false := by simpa using h1
          by_cases h2 : ab m * d < ab n * e
          · have b2 : decide (ab m * d < ab n * e) = true := by simpa using h2
            have G2 := G.out.trans (cm_gt h2)
            have G3 : Hid _ := G2
            clear G2 h1 h2
            go_wp2_with (first | (go_at_call 18; refine (less_up _ _ _).mono ?_; rintro _ wl ⟨rfl, hl⟩; have g0 := (hl.cell _ 0 s0).trans c0; have g1 := (hl.cell _ 1 s0).trans c1; have g2 := (hl.cell _ 0 s1).trans c2; have g3 := (hl.cell _ 1 s1).trans c3; simp only [b1]) | (go_at_call 18; refine (less_up _ _ _).mono ?_; rintro _ wm ⟨rfl, hm⟩; simp only [b2]))
            go_ret2
            exact ⟨fin_cmp G3.out.symm, by repeat (first | exact hu2 | apply Up.alloc | apply Up.drewN | apply Up.drew | (refine Up.trans ?_ (by assumption)))⟩
          · have b2 : decide (ab m * d < ab n * e) = false := by simpa using h2
            have G2 := G.out.trans (show cm (ab n * e) (ab m * d) = 0 by unfold cm; rw [if_neg h1, if_neg h2])
            have G3 : Hid _ := G2
            clear G2 h1 h2
            go_wp2_with (first | (go_at_call 18; refine (less_up _ _ _).mono ?_; rintro _ wl ⟨rfl, hl⟩; have g0 := (hl.cell _ 0 s0).trans c0; have g1 := (hl.cell _ 1 s0).trans c1; have g2 := (hl.cell _ 0 s1).trans c2; have g3 := (hl.cell _ 1 s1).trans c3; simp only [b1]) | (go_at_call 18; refine (less_up _ _ _).mono ?_; rintro _ wm ⟨rfl, hm⟩; simp only [b2]))
            go_ret2
            exact ⟨fin_cmp G3.out.symm, by repeat (first | exact hu2 | apply Up.alloc | apply Up.drewN | apply Up.drew | (refine Up.trans ?_ (by assumption)))⟩
end Go.Proofs.Ytpcdhdllclenaaa.wk
