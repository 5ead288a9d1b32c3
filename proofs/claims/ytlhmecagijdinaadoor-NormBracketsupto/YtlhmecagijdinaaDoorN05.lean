/-
  The two makers of fractions.
  The program's maker of fractions, and the fraction of two numbers.
-/
import Derived.Test.YtlhmecagijdinaaDoorN04
import Derived.Deep.RegionWith
import Derived.Deep.DrawnRows
set_option linter.unusedVariables false
namespace Go.Proofs.YtlhmecagijdinaaDoor.wk
open Go.RowKit

/-- n over d in lowest terms: has it room? -/
def fits (n d : Int) : Bool := decide (0 < d) && decide (n / gc n d ≤ 9223372036854775807) && decide (d / gc n d ≤ 9223372036854775807)
def lowN (neg : Bool) (n d : Int) : Int := if fits n d then (if neg then -(n / gc n d) else n / gc n d) else 0
def lowD (n d : Int) : Int := if fits n d then d / gc n d else 0
theorem gc_dvd_l (n d : Int) : gc n d ∣ n := by unfold gc; exact Int.gcd_dvd_left _ _
theorem gc_dvd_r (n d : Int) : gc n d ∣ d := by unfold gc; exact Int.gcd_dvd_right _ _
theorem quo_bd {n g : Int} (h : 0 ≤ n) (hg : 0 < g) : 0 ≤ n / g ∧ n / g ≤ n := ⟨Int.ediv_nonneg h (Int.le_of_lt hg), Int.ediv_le_self _ h⟩
theorem gcd_up (a b : Int) (w : World) (a0 : 0 ≤ a) (a1 : a < 340282366920938463463374607431768211456) (b0 : 0 < b) (b1 : b < 340282366920938463463374607431768211456) :
    Calls Tryd.prog 64 #[.agg #[.int .u64 (hi a), .int .u64 (lo a)], .agg #[.int .u64 (hi b), .int .u64 (lo b)]] w fun e w' => e = .returned (.agg #[.int .u64 (hi (gc a b)), .int .u64 (lo (gc a b))]) ∧ Up w w' := gcd_any a b w a0 a1 b0 b1
attribute [local go_sem ↓] Go.wp_at_zero Go.wp_at_succ
/-- The reference's fraction. -/
theorem rmade_zero (neg : Bool) (n : Int) (w : World) :
    Calls Tryd.prog 44 #[.bool neg, .agg #[.int .u64 (hi n), .int .u64 (lo n)], .agg #[.int .u64 (hi 0), .int .u64 (lo 0)]] w fun e w' => e = .returned (.agg #[.int .i64 (lowN neg n 0), .int .i64 (lowD n 0)]) ∧ Up w w' := by
  have e1 : lowN neg n 0 = 0 := by simp [lowN, fits]
  have e2 : lowD n 0 = 0 := by simp [lowD, fits]
  rw [e1, e2]
  have z0 : ((0 : Int) == 0) = true := rfl
  go_enter Tryd.func44, Tryd.ntmps44
  go_wp2_with (first | (go_at_call 63; refine (none_any 0 _).mono ?_; rintro _ _ ⟨rfl, ca, rfl⟩; simp only [z0]) | (go_at_call 42; refine (over_any _).mono ?_; rintro _ _ ⟨rfl, cb, rfl⟩))
  refine bodyPost_ret (v := .agg #[.int .i64 0, .int .i64 0]) (by simp [results, Tryd.results44, go_sem]) rfl ⟨rfl, ?_⟩
  repeat (first | exact Up.refl _ | apply Up.alloc)
def Sm (w wr : World) (b : Nat) (n d g : Int) : Prop := Up w wr ∧ w.heap.size + 1 + 1 < b ∧ b < wr.heap.size ∧
  wr.cell? ⟨w.heap.size, 0, none⟩ = some (.int .u64 (hi n)) ∧ wr.cell? ⟨w.heap.size, 1, none⟩ = some (.int .u64 (lo n)) ∧
  wr.cell? ⟨w.heap.size + 1, 0, none⟩ = some (.int .u64 (hi d)) ∧ wr.cell? ⟨w.heap.size + 1, 1, none⟩ = some (.int .u64 (lo d)) ∧
  wr.cell? ⟨w.heap.size + 1 + 1, 0, none⟩ = some (.int .i64 0) ∧ wr.cell? ⟨w.heap.size + 1 + 1, 1, none⟩ = some (.int .i64 0) ∧
  wr.cell? ⟨b, 0, none⟩ = some (.int .u64 (hi g)) ∧ wr.cell? ⟨b, 1, none⟩ = some (.int .u64 (lo g))
theorem Sm.up {w wr wl : World} {b : Nat} {n d g : Int} (s : Sm w wr b n d g) (h : Up wr wl) : Sm w wl b n d g := by
  obtain ⟨s0, s1, s2, s3, s4, s5, s6, s7, s8, s9, sa⟩ := s
  exact ⟨s0.trans h, s1, Nat.lt_of_lt_of_le s2 h.size, (h.cell _ _ (by omega)).trans s3, (h.cell _ _ (by omega)).trans s4, (h.cell _ _ (by omega)).trans s5, (h.cell _ _ (by omega)).trans s6, (h.cell _ _ (by omega)).trans s7, (h.cell _ _ (by omega)).trans s8, (h.cell _ _ (by omega)).trans s9, (h.cell _ _ (by omega)).trans sa⟩
theorem Sm.fz {w wr : World} {b : Nat} {n d g : Int} (s : Sm w wr b n d g) : wr.frozen? ⟨w.heap.size, 0, none⟩ = false ∧ wr.frozen? ⟨w.heap.size, 1, none⟩ = false ∧ wr.frozen? ⟨w.heap.size + 1, 0, none⟩ = false ∧ wr.frozen? ⟨w.heap.size + 1, 1, none⟩ = false ∧ wr.frozen? ⟨w.heap.size + 1 + 1, 0, none⟩ = false ∧ wr.frozen? ⟨w.heap.size + 1 + 1, 1, none⟩ = false :=
  ⟨s.1.fz 0 (by omega), s.1.fz 1 (by omega), s.1.fz 0 (by omega), s.1.fz 1 (by omega), s.1.fz 0 (by omega), s.1.fz 1 (by omega)⟩
theorem Sm.setA {w wr : World} {b : Nat} {n d g : Int} (s : Sm w wr b n d g) (z : Int) : Sm w ((wr.setCell ⟨w.heap.size, 0, none⟩ (.int .u64 (hi z))).setCell ⟨w.heap.size, 1, none⟩ (.int .u64 (lo z))) b z d g := by
  obtain ⟨s0, s1, s2, s3, s4, s5, s6, s7, s8, s9, sa⟩ := s
  have h1 : ¬ w.heap.size = b := by omega
  refine ⟨(s0.setCell (by simp) _).setCell (by simp) _, s1, by rw [size_set, size_set]; exact s2, ?_, ?_, ?_, ?_, ?_, ?_, ?_, ?_⟩ <;> simp [go_sem, *]
theorem Sm.setB {w wr : World} {b : Nat} {n d g : Int} (s : Sm w wr b n d g) (z : Int) : Sm w ((wr.setCell ⟨w.heap.size + 1, 0, none⟩ (.int .u64 (hi z))).setCell ⟨w.heap.size + 1, 1, none⟩ (.int .u64 (lo z))) b n z g := by
  obtain ⟨s0, s1, s2, s3, s4, s5, s6, s7, s8, s9, sa⟩ := s
  have h1 : ¬ w.heap.size + 1 = b := by omega
  refine ⟨(s0.setCell (by simp) _).setCell (by simp) _, s1, by rw [size_set, size_set]; exact s2, ?_, ?_, ?_, ?_, ?_, ?_, ?_, ?_⟩ <;> simp [go_sem, *]
set_option maxHeartbeats 4000000 in
theorem rmade_any (neg : Bool) (n d : Int) (w : World) (n0 : 0 ≤ n) (n1 : n < 340282366920938463463374607431768211456) (d0 : 0 ≤ d) (d1 : d < 170141183460469231731687303715884105728) :
    Calls Tryd.prog 44 #[.bool neg, .agg #[.int .u64 (hi n), .int .u64 (lo n)], .agg #[.int .u64 (hi d), .int .u64 (lo d)]] w fun e w' => e = .returned (.agg #[.int .i64 (lowN neg n d), .int .i64 (lowD n d)]) ∧ Up w w' := by
  by_cases hd : d = 0
  · subst hd; exact rmade_zero neg n w
  have z0 : (d == 0) = false := by simpa using hd
  have g0 : 0 < gc n d := by rw [gc_comm]; exact gc_pos (by omega)
  have g1 : gc n d ≤ d := gc_le_r (by omega)
  obtain ⟨x0, x1⟩ := quo_bd n0 g0
  obtain ⟨y0, y1⟩ := quo_bd d0 g0
  go_enter Tryd.func44, Tryd.ntmps44
  go_wp2_with (first
    | (go_at_call 63; refine (none_up d _).mono ?_; rintro _ wa ⟨rfl, ha⟩; have hca := ha.cell; have l0 := ha.past (k := w.heap.size) (by simp; omega); have l1 := ha.past (k := w.heap.size + 1) (by simp); have l2 := ha.past (k := w.heap.size + 1 + 1) (by simp); simp only [z0])
    | (go_at_call 64; refine (gcd_up n d _ (by omega) (by omega) (by omega) (by omega)).mono ?_; rintro _ wb ⟨rfl, hb⟩; have hcb := hb.cell))
  have s : Sm w (wb.alloc (.cells #[.int .u64 (hi (gc n d)), .int .u64 (lo (gc n d))] 74)) wb.heap.size n d (gc n d) := by
    have k0 : Up w wb := ((((Up.refl w).alloc _ _).alloc _ _).alloc _ _).trans ha |>.trans hb
    have k1 := hb.past l2
    have k2 := hb.past l1
    have k3 := hb.past l0
    refine ⟨k0.alloc _ _, k1, by simp, ?_, ?_, ?_, ?_, ?_, ?_, ?_, ?_⟩ <;> simp [go_sem, *]
  revert s
  generalize wb.alloc (.cells #[.int .u64 (hi (gc n d)), .int .u64 (lo (gc n d))] 74) = wr
  generalize wb.heap.size = gb
  intro s
  clear hb hcb ha hca l0 l1 l2
  obtain ⟨q0, q1, q2, q3, q4, q5, q6, q7, q8, q9, qa⟩ := id s
  go_cut [] (fun wx => Sm w wx gb (n / gc n d) (d / gc n d) (gc n d))
  case first =>
    have g2 : gc n d < 170141183460469231731687303715884105728 := by omega
    have d2 : d < 340282366920938463463374607431768211456 := by omega
    clear x0 x1 y0 y1 q7 q8 d1 z0 hd g1
    go_region_with
      (first | (go_at_call 65; refine (div_any _ _ _ (by omega) (by omega) (by omega) (by omega)).mono ?_; rintro _ wl ⟨rfl, hl⟩; have sg := s.up (show Up wr wl by repeat (first | exact Up.refl _ | apply Up.drewN | apply Up.drew | (refine Up.trans ?_ (by assumption)))); obtain ⟨m0, m1, m2, m3, _, _⟩ := sg.fz; obtain ⟨t0, _, _, t3, t4, t5, t6, _, _, t9, ta⟩ := sg; clear t0))
    all_goals
      go_wp2_with fail
      go_meet
      exact ((s.up (show Up wr wl by repeat (first | exact Up.refl _ | apply Up.drewN | apply Up.drew | (refine Up.trans ?_ (by assumption))))).setA _).setB _
  case rest =>
    have s2 : Sm w wc gb (n / gc n d) (d / gc n d) (gc n d) := hcut
    have hup := s2.1
    obtain ⟨m0, m1, m2, m3, m4, m5⟩ := s2.fz
    obtain ⟨_, t1, t2, t3, t4, t5, t6, t7, t8, _, _⟩ := s2
    have l2 : w.heap.size + 1 + 1 < wc.heap.size := by omega
    have hX := hl (n / gc n d)
    have hY := hl (d / gc n d)
    have bX := lo_bd (n / gc n d)
    have bY := lo_bd (d / gc n d)
    have dp : decide (0 < d) = true := by simp; omega
    obtain ⟨hX0, hX1⟩ := hi_bd (v := n / gc n d) (by omega) (by omega)
    obtain ⟨hY0, hY1⟩ := hi_bd (v := d / gc n d) (by omega) (by omega)
    have lN : Hid (fits n d = (decide (n / gc n d ≤ 9223372036854775807) && decide (d / gc n d ≤ 9223372036854775807))) := by simp [Hid, fits, dp]
    have over : ¬ (n / gc n d ≤ 9223372036854775807 ∧ d / gc n d ≤ 9223372036854775807) → Hid (lowN neg n d = 0 ∧ lowD n d = 0) := fun h => by
      have : fits n d = false := by rw [lN.out, Bool.and_eq_false_iff]; simp; omega
      simp [Hid, lowN, lowD, this]
    have room : n / gc n d ≤ 9223372036854775807 → d / gc n d ≤ 9223372036854775807 → Hid (lowN neg n d = (if neg then -lo (n / gc n d) else lo (n / gc n d)) ∧ lowD n d = lo (d / gc n d)) := fun h k => by
      have : fits n d = true := by rw [lN.out]; simp [h, k]
      have e1 : lo (n / gc n d) = n / gc n d := by unfold lo; omega
      have e2 : lo (d / gc n d) = d / gc n d := by unfold lo; omega
      simp [Hid, lowN, lowD, this, e1, e2]
    clear q0 q1 q2 q3 q4 q5 q6 q7 q8 q9 qa s hcut lN dp n0 n1 d0 d1 hd z0 g0 g1
    by_cases h1 : 0 < hi (n / gc n d)
    · have F := over (by omega)
      clear over room hX hY x0 x1 y0 y1
      go_wp2_with (go_at_call 42; refine (over_any _).mono ?_; rintro _ _ ⟨rfl, cb, rfl⟩)
      refine bodyPost_ret (v := .agg #[.int .i64 0, .int .i64 0]) (by simp [results, Tryd.results44, go_sem, *]) rfl ⟨by rw [F.out.1, F.out.2], ?_⟩
      repeat (first | exact hup | apply Up.alloc | (refine Up.setCell ?_ (by simp; omega) _))
    by_cases h2 : 0 < hi (d / gc n d)
    · have F := over (by omega)
      clear over room hX hY x0 x1 y0 y1
      go_wp2_with (go_at_call 42; refine (over_any _).mono ?_; rintro _ _ ⟨rfl, cb, rfl⟩)
      refine bodyPost_ret (v := .agg #[.int .i64 0, .int .i64 0]) (by simp [results, Tryd.results44, go_sem, *]) rfl ⟨by rw [F.out.1, F.out.2], ?_⟩
      repeat (first | exact hup | apply Up.alloc | (refine Up.setCell ?_ (by simp; omega) _))
    by_cases h3 : 9223372036854775807 < lo (n / gc n d)
    · have F := over (by omega)
      clear over room hX hY x0 x1 y0 y1
      go_wp2_with (go_at_call 42; refine (over_any _).mono ?_; rintro _ _ ⟨rfl, cb, rfl⟩)
      refine bodyPost_ret (v := .agg #[.int .i64 0, .int .i64 0]) (by simp [results, Tryd.results44, go_sem, *]) rfl ⟨by rw [F.out.1, F.out.2], ?_⟩
      repeat (first | exact hup | apply Up.alloc | (refine Up.setCell ?_ (by simp; omega) _))
    by_cases h4 : 9223372036854775807 < lo (d / gc n d)
    · have F := over (by omega)
      clear over room hX hY x0 x1 y0 y1
      go_wp2_with (go_at_call 42; refine (over_any _).mono ?_; rintro _ _ ⟨rfl, cb, rfl⟩)
      refine bodyPost_ret (v := .agg #[.int .i64 0, .int .i64 0]) (by simp [results, Tryd.results44, go_sem, *]) rfl ⟨by rw [F.out.1, F.out.2], ?_⟩
      repeat (first | exact hup | apply Up.alloc | (refine Up.setCell ?_ (by simp; omega) _))
    have F := room (by omega) (by omega)
    clear over room hX hY x0 x1 y0 y1
    cases neg
    · go_wp2
      refine bodyPost_ret (v := .agg #[.int .i64 (lo (n / gc n d)), .int .i64 (lo (d / gc n d))]) (by simp [results, Tryd.results44, go_sem, *]) rfl ⟨by rw [F.out.1, F.out.2]; rfl, ?_⟩
      repeat (first | exact hup | apply Up.alloc | (refine Up.setCell ?_ (by simp; omega) _))
    · go_wp2
      refine bodyPost_ret (v := .agg #[.int .i64 (-lo (n / gc n d)), .int .i64 (lo (d / gc n d))]) (by simp [results, Tryd.results44, go_sem, *]) rfl ⟨by rw [F.out.1, F.out.2]; rfl, ?_⟩
      repeat (first | exact hup | apply Up.alloc | (refine Up.setCell ?_ (by simp; omega) _))
end Go.Proofs.YtlhmecagijdinaaDoor.wk
set_option linter.unusedVariables false
namespace Go.Proofs.YtlhmecagijdinaaDoor.wk
open Go.RowKit

/-- What the program's maker tells of two magnitudes. -/
def mkN (neg : Bool) (n d : Int) : Int := if n ≤ 9223372036854775807 ∧ d ≤ 9223372036854775807 then (if neg then -n else n) else 0
def mkD (n d : Int) : Int := if n ≤ 9223372036854775807 ∧ d ≤ 9223372036854775807 then d else 0
theorem made_any (neg : Bool) (n d : Int) (w : World) (n0 : 0 ≤ n) (n1 : n < 18446744073709551616) (d0 : 0 ≤ d) (d1 : d < 18446744073709551616) :
    Calls Tryd.prog 59 #[.bool neg, .int .u64 n, .int .u64 d] w fun e w' => e = .returned (.agg #[.int .i64 (mkN neg n d), .int .i64 (mkD n d)]) ∧ ∃ c, w' = w.alloc (.cells c 23) := by
  by_cases hn : n ≤ 9223372036854775807
  · by_cases hd : d ≤ 9223372036854775807
    · have e1 : mkN neg n d = if neg then -n else n := if_pos ⟨hn, hd⟩
      have e2 : mkD n d = d := if_pos ⟨hn, hd⟩
      rw [e1, e2]; clear e1 e2
      cases neg
      all_goals
        go_enter Tryd.func59, Tryd.ntmps59
        go_wp2
        first
          | exact bodyPost_ret (v := .agg #[.int .i64 n, .int .i64 d]) (by simp [results, Tryd.results59, go_sem]) rfl ⟨rfl, _, rfl⟩
          | exact bodyPost_ret (v := .agg #[.int .i64 (-n), .int .i64 d]) (by simp [results, Tryd.results59, go_sem]) rfl ⟨rfl, _, rfl⟩
    · have e1 : mkN neg n d = 0 := if_neg (by omega)
      have e2 : mkD n d = 0 := if_neg (by omega)
      rw [e1, e2]; clear e1 e2
      go_enter Tryd.func59, Tryd.ntmps59
      go_wp2
      exact bodyPost_ret (v := .agg #[.int .i64 0, .int .i64 0]) (by simp [results, Tryd.results59, go_sem]) rfl ⟨rfl, _, rfl⟩
  · have e1 : mkN neg n d = 0 := if_neg (by omega)
    have e2 : mkD n d = 0 := if_neg (by omega)
    rw [e1, e2]; clear e1 e2
    go_enter Tryd.func59, Tryd.ntmps59
    go_wp2
    exact bodyPost_ret (v := .agg #[.int .i64 0, .int .i64 0]) (by simp [results, Tryd.results59, go_sem]) rfl ⟨rfl, _, rfl⟩
/-- The sign of a quotient. -/
def ng (n d : Int) : Bool := !(decide (n < 0) == decide (d < 0))
theorem of_zero (n : Int) (w : World) :
    Calls Tryd.prog 34 #[.int .i64 n, .int .i64 0] w fun e w' => e = .returned (.agg #[.int .i64 0, .int .i64 0]) ∧ Up w w' := by
  go_enter Tryd.func34, Tryd.ntmps34
  go_wp2
  exact bodyPost_ret (v := .agg #[.int .i64 0, .int .i64 0]) (by simp [results, Tryd.results34, go_sem]) rfl ⟨rfl, (Up.refl _).alloc _ _⟩
theorem wrap_quo {x g : Int} (h0 : 0 ≤ x) (h1 : x < 18446744073709551616) : IntKind.u64.wrap (x.tdiv g) = x / g ∨ g ≤ 0 := by
  by_cases hg : 0 < g
  · left
    rw [Int.tdiv_eq_ediv_of_nonneg h0, IntKind.wrap_u64]
    have := Int.ediv_nonneg h0 (Int.le_of_lt hg)
    have := Int.ediv_le_self g h0
    omega
  · right; omega
set_option maxHeartbeats 1000000 in
theorem of_any (n d : Int) (w : World) (n1 : -9223372036854775808 ≤ n) (n2 : n ≤ 9223372036854775807) (d1 : -9223372036854775808 ≤ d) (d2 : d ≤ 9223372036854775807) (hd : ¬ d = 0) :
    Calls Tryd.prog 34 #[.int .i64 n, .int .i64 d] w fun e w' => e = .returned (.agg #[.int .i64 (mkN (ng n d) (ab n / gc (ab n) (ab d)) (ab d / gc (ab n) (ab d))), .int .i64 (mkD (ab n / gc (ab n) (ab d)) (ab d / gc (ab n) (ab d)))]) ∧ Up w w' := by
  obtain ⟨p1, p2⟩ := ab_bd n1 n2
  obtain ⟨q1, q2⟩ := ab_bd d1 d2
  have q3 : 0 < ab d := by unfold ab; split <;> omega
  have z0 : (d == 0) = false := by simpa using hd
  have g0 : 0 < gc (ab n) (ab d) := by rw [gc_comm]; exact gc_pos q3
  have g1 : ¬ gc (ab n) (ab d) = 0 := by omega
  have x0 : 0 ≤ ab n / gc (ab n) (ab d) := Int.ediv_nonneg p1 (Int.le_of_lt g0)
  have x1 : ab n / gc (ab n) (ab d) < 18446744073709551616 := Int.lt_of_le_of_lt (Int.ediv_le_self _ p1) p2
  have y0 : 0 ≤ ab d / gc (ab n) (ab d) := Int.ediv_nonneg q1 (Int.le_of_lt g0)
  have y1 : ab d / gc (ab n) (ab d) < 18446744073709551616 := Int.lt_of_le_of_lt (Int.ediv_le_self _ q1) q2
  have T1 : Hid _ := (wrap_quo (g := gc (ab n) (ab d)) p1 p2).resolve_right (by omega)
  have T2 : Hid _ := (wrap_quo (g := gc (ab n) (ab d)) q1 q2).resolve_right (by omega)
  clear hd
  go_enter Tryd.func34, Tryd.ntmps34
  go_wp2_with (first
    | (go_at_call 57; refine (magnitude_any _ _ (by omega) (by omega)).mono ?_; rintro _ _ ⟨rfl, rfl⟩)
    | (go_at_call 58; refine (divisor_any _ _ _ p1 p2 q1 q2).mono ?_; rintro _ _ ⟨rfl, k, rfl⟩))
  go_region_with (first | (go_at_call 59; rw [T1.out, T2.out]; refine (made_any _ _ _ _ x0 x1 y0 y1).mono ?_; rintro _ _ ⟨rfl, c, rfl⟩))
  go_wp2
  refine bodyPost_ret (v := .agg #[.int .i64 (mkN (ng n d) (ab n / gc (ab n) (ab d)) (ab d / gc (ab n) (ab d))), .int .i64 (mkD (ab n / gc (ab n) (ab d)) (ab d / gc (ab n) (ab d)))]) (by simp [results, Tryd.results34, go_sem, ng]) rfl ⟨rfl, ?_⟩
  repeat (first | exact Up.refl _ | apply Up.alloc | apply Up.drewN | apply Up.drew | (refine Up.setCell ?_ (by simp) _))
end Go.Proofs.YtlhmecagijdinaaDoor.wk
