/-
  The reference's greatest common divisor of two numbers of 128 bits, by halving: it is the greatest common divisor.
  The reference's quotient of two numbers of 128 bits, bit by bit: it is the quotient.
-/
import Derived.Test.YtlhmecagijdinaaDoorN02
import Derived.Deep.LoopGhost
import Derived.Deep.RegionHeld3
import Derived.Deep.DrawnRows
import Derived.Deep.DeepCutAuto
set_option linter.unusedVariables false
namespace Go.Proofs.YtlhmecagijdinaaDoor.wk
open Go.RowKit

/-! ### Plain numbers -/
theorem gc_nat (x y : Nat) : gc x y = (Nat.gcd x y : Nat) := by unfold gc; rw [Int.gcd_natCast_natCast]
theorem gc_comm (x y : Int) : gc x y = gc y x := by unfold gc; rw [Int.gcd_comm]
theorem gc_zero {x : Int} (h : 0 ≤ x) : gc x 0 = x := by unfold gc; rw [Int.gcd_zero_right]; omega
theorem gc_nonneg (x y : Int) : 0 ≤ gc x y := by unfold gc; omega
theorem gc_pos {x y : Int} (h : 0 < x) : 0 < gc x y := by
  unfold gc
  have : 0 < Int.gcd x y := Int.gcd_pos_of_ne_zero_left _ (by omega)
  omega
theorem gc_le_r {x y : Int} (h : 0 < y) : gc x y ≤ y := by
  unfold gc
  exact Int.le_of_dvd h (Int.gcd_dvd_right _ _)
theorem gc_both {x y : Int} (x0 : 0 ≤ x) (y0 : 0 ≤ y) (hx : x % 2 = 0) (hy : y % 2 = 0) : gc x y = 2 * gc (x / 2) (y / 2) := by
  obtain ⟨a, ha⟩ : ∃ a : Nat, x = 2 * a := ⟨(x / 2).toNat, by omega⟩
  obtain ⟨b, hb⟩ : ∃ b : Nat, y = 2 * b := ⟨(y / 2).toNat, by omega⟩
  have e1 : x / 2 = a := by omega
  have e2 : y / 2 = b := by omega
  rw [e1, e2, gc_nat, show x = ((2 * a : Nat) : Int) by omega, show y = ((2 * b : Nat) : Int) by omega, gc_nat, Nat.gcd_mul_left]
  omega
theorem gc_left {x y : Int} (x0 : 0 ≤ x) (y0 : 0 ≤ y) (hx : x % 2 = 0) (hy : y % 2 = 1) : gc (x / 2) y = gc x y := by
  obtain ⟨a, ha⟩ : ∃ a : Nat, x = 2 * a := ⟨(x / 2).toNat, by omega⟩
  obtain ⟨b, rfl⟩ := Int.eq_ofNat_of_zero_le y0
  have e1 : x / 2 = a := by omega
  have hc : Nat.Coprime 2 b := by
    rw [Nat.coprime_iff_gcd_eq_one, Nat.gcd_rec, show b % 2 = 1 by omega]
    rfl
  rw [e1, gc_nat, show x = ((2 * a : Nat) : Int) by omega, gc_nat, hc.gcd_mul_left_cancel]
theorem gc_right {x y : Int} (x0 : 0 ≤ x) (y0 : 0 ≤ y) (hx : x % 2 = 1) (hy : y % 2 = 0) : gc x (y / 2) = gc x y := by
  rw [gc_comm, gc_left y0 x0 hy hx, gc_comm]
theorem gc_sub {x y : Int} (x0 : 0 ≤ x) (h : x ≤ y) : gc x (y - x) = gc x y := by
  obtain ⟨a, rfl⟩ := Int.eq_ofNat_of_zero_le x0
  obtain ⟨b, rfl⟩ := Int.eq_ofNat_of_zero_le (Int.le_trans x0 h)
  rw [show (b : Int) - a = ((b - a : Nat) : Int) by omega, gc_nat, gc_nat, Nat.gcd_sub_self_right (by omega)]

theorem pow_bd {g G : Int} {k : Nat} (h : g * 2 ^ k = G) (h1 : 1 ≤ g) (h2 : G < 340282366920938463463374607431768211456) : k < 128 := by
  refine Nat.lt_of_not_le fun hk => ?_
  have p : (2 : Nat) ^ 128 ≤ 2 ^ k := Nat.pow_le_pow_right (by decide) hk
  have p2 : ((2 ^ k : Nat) : Int) = (2 : Int) ^ k := by simp
  have p3 : (340282366920938463463374607431768211456 : Int) ≤ (2 : Int) ^ k := by rw [← p2]; omega
  have p4 : 1 * (2 : Int) ^ k ≤ g * 2 ^ k := Int.mul_le_mul_of_nonneg_right h1 (by omega)
  omega
theorem pow_half {g G : Int} {k i : Nat} (h : g * 2 ^ k = G) (h0 : 0 ≤ g) (hi : i < k) (h2 : G < 340282366920938463463374607431768211456) : 0 ≤ g * 2 ^ i ∧ g * 2 ^ i < 170141183460469231731687303715884105728 := by
  obtain ⟨j, rfl⟩ : ∃ j, k = i + 1 + j := ⟨k - i - 1, by omega⟩
  have e1 : g * 2 ^ (i + 1 + j) = (g * 2 ^ i) * 2 * 2 ^ j := by rw [Int.pow_add, Int.pow_succ]; simp only [Int.mul_assoc]
  have p0 : (0 : Int) ≤ g * 2 ^ i := Int.mul_nonneg h0 (Int.le_of_lt (Int.pow_pos (by omega)))
  have p1 : (1 : Int) ≤ 2 ^ j := Int.pow_pos (by omega)
  have p2 : (g * 2 ^ i) * 2 * 1 ≤ (g * 2 ^ i) * 2 * 2 ^ j := Int.mul_le_mul_of_nonneg_left p1 (by omega)
  omega

/-! ### The three variables in memory -/
theorem frozen_new (w : World) (b o : Nat) (h : w.heap.size ≤ b) : w.frozen? ⟨b, o, none⟩ = false := by
  unfold World.frozen?
  rw [Array.getElem?_eq_none (by simpa using h)]
theorem Up.fz {w wr : World} (h : Up w wr) {b : Nat} (o : Nat) (hb : w.heap.size ≤ b) : wr.frozen? ⟨b, o, none⟩ = false := by rw [h.2]; exact frozen_new w b o hb
def St (w wr : World) (x y : Int) : Prop := Up w wr ∧ w.heap.size + 1 + 1 < wr.heap.size ∧
  wr.cell? ⟨w.heap.size, 0, none⟩ = some (.int .u64 (hi x)) ∧ wr.cell? ⟨w.heap.size, 1, none⟩ = some (.int .u64 (lo x)) ∧
  wr.cell? ⟨w.heap.size + 1, 0, none⟩ = some (.int .u64 (hi y)) ∧ wr.cell? ⟨w.heap.size + 1, 1, none⟩ = some (.int .u64 (lo y)) ∧
  wr.cell? ⟨w.heap.size + 1 + 1, 0, none⟩ = some (.int .u64 0) ∧ wr.cell? ⟨w.heap.size + 1 + 1, 1, none⟩ = some (.int .u64 0)
theorem St.up {w wr wl : World} {x y : Int} (s : St w wr x y) (h : Up wr wl) : St w wl x y := by
  obtain ⟨s0, s1, s2, s3, s4, s5, s6, s7⟩ := s
  exact ⟨s0.trans h, Nat.lt_of_lt_of_le s1 h.size, (h.cell _ _ (by omega)).trans s2, (h.cell _ _ (by omega)).trans s3, (h.cell _ _ (by omega)).trans s4, (h.cell _ _ (by omega)).trans s5, (h.cell _ _ (by omega)).trans s6, (h.cell _ _ (by omega)).trans s7⟩
theorem size_set (w : World) (a : Addr) (v : Value) : (w.setCell a v).heap.size = w.heap.size := by simp [World.setCell]
theorem St.setA {w wr : World} {x y : Int} (s : St w wr x y) (z : Int) : St w ((wr.setCell ⟨w.heap.size, 0, none⟩ (.int .u64 (hi z))).setCell ⟨w.heap.size, 1, none⟩ (.int .u64 (lo z))) z y := by
  obtain ⟨s0, s1, s2, s3, s4, s5, s6, s7⟩ := s
  refine ⟨(s0.setCell (by simp) _).setCell (by simp) _, by rw [size_set, size_set]; exact s1, ?_, ?_, ?_, ?_, ?_, ?_⟩ <;> simp [go_sem, *]
theorem St.setB {w wr : World} {x y : Int} (s : St w wr x y) (z : Int) : St w ((wr.setCell ⟨w.heap.size + 1, 0, none⟩ (.int .u64 (hi z))).setCell ⟨w.heap.size + 1, 1, none⟩ (.int .u64 (lo z))) x z := by
  obtain ⟨s0, s1, s2, s3, s4, s5, s6, s7⟩ := s
  refine ⟨(s0.setCell (by simp) _).setCell (by simp) _, by rw [size_set, size_set]; exact s1, ?_, ?_, ?_, ?_, ?_, ?_⟩ <;> simp [go_sem, *]
theorem none_up (v : Int) (w : World) :
    Calls Tryd.prog 63 #[.agg #[.int .u64 (hi v), .int .u64 (lo v)]] w fun e w' => e = .returned (.bool (v == 0)) ∧ Up w w' :=
  (none_any v w).mono fun _ _ ⟨h, c, k⟩ => ⟨h, k ▸ (Up.refl _).alloc _ _⟩
theorem half_up (v : Int) (w : World) (h0 : 0 ≤ v) (h1 : v < 340282366920938463463374607431768211456) :
    Calls Tryd.prog 82 #[.agg #[.int .u64 (hi v), .int .u64 (lo v)]] w fun e w' => e = .returned (.agg #[.int .u64 (hi (v / 2)), .int .u64 (lo (v / 2))]) ∧ Up w w' :=
  (half_any v w h0 h1).mono fun _ _ ⟨h, c, d, k⟩ => ⟨h, k ▸ ((Up.refl _).alloc _ _).alloc _ _⟩
theorem twice_up (v : Int) (w : World) (h0 : 0 ≤ v) (h1 : v < 170141183460469231731687303715884105728) :
    Calls Tryd.prog 85 #[.agg #[.int .u64 (hi v), .int .u64 (lo v)]] w fun e w' => e = .returned (.agg #[.int .u64 (hi (2 * v)), .int .u64 (lo (2 * v))]) ∧ Up w w' :=
  (twice_any v w h0 h1).mono fun _ _ ⟨h, c, d, k⟩ => ⟨h, k ▸ ((Up.refl _).alloc _ _).alloc _ _⟩
theorem sub_up (a b : Int) (w : World) (b0 : 0 ≤ b) (h : b ≤ a) (a1 : a < 340282366920938463463374607431768211456) :
    Calls Tryd.prog 84 #[.agg #[.int .u64 (hi a), .int .u64 (lo a)], .agg #[.int .u64 (hi b), .int .u64 (lo b)]] w fun e w' => e = .returned (.agg #[.int .u64 (hi (a - b)), .int .u64 (lo (a - b))]) ∧ Up w w' :=
  (sub_any a b w b0 h a1).mono fun _ _ ⟨h, c, d, e, k⟩ => ⟨h, k ▸ (((Up.refl _).alloc _ _).alloc _ _).alloc _ _⟩
theorem lo_even {v : Int} (h : v % 2 = 0) : (bits .and .u64 (lo v) 1 == 0) = true := by
  obtain ⟨b1, b2⟩ := lo_bd v
  rw [u64_and _ _ b1 b2 (by omega) (by omega), show (1 : Int).toNat = 1 from rfl, nat_mask1]
  simp; unfold lo at *; omega
theorem lo_odd {v : Int} (h : v % 2 = 1) : (bits .and .u64 (lo v) 1 == 0) = false := by
  obtain ⟨b1, b2⟩ := lo_bd v
  rw [u64_and _ _ b1 b2 (by omega) (by omega), show (1 : Int).toNat = 1 from rfl, nat_mask1]
  simp; unfold lo at *; omega
theorem keep8 {w wa w' : World} {b : Nat} {x0 x1 x2 x3 : Option Value} (hq : Up wa w') (hw : Up w wa) (hb : w.heap.size ≤ b) (h0 : b < wa.heap.size) (h1 : b + 1 < wa.heap.size) (k0 : wa.cell? ⟨b, 0, none⟩ = x0) (k1 : wa.cell? ⟨b, 1, none⟩ = x1) (k2 : wa.cell? ⟨b + 1, 0, none⟩ = x2) (k3 : wa.cell? ⟨b + 1, 1, none⟩ = x3) :
    w'.cell? ⟨b, 0, none⟩ = x0 ∧ w'.cell? ⟨b, 1, none⟩ = x1 ∧ w'.cell? ⟨b + 1, 0, none⟩ = x2 ∧ w'.cell? ⟨b + 1, 1, none⟩ = x3 ∧ w'.frozen? ⟨b, 0, none⟩ = false ∧ w'.frozen? ⟨b, 1, none⟩ = false ∧ w'.frozen? ⟨b + 1, 0, none⟩ = false ∧ w'.frozen? ⟨b + 1, 1, none⟩ = false :=
  ⟨(hq.cell _ _ h0).trans k0, (hq.cell _ _ h0).trans k1, (hq.cell _ _ h1).trans k2, (hq.cell _ _ h1).trans k3, (hw.trans hq).fz _ hb, (hw.trans hq).fz _ hb, (hw.trans hq).fz _ (by omega), (hw.trans hq).fz _ (by omega)⟩
attribute [local go_sem ↓] Go.wp_at_zero Go.wp_at_succ
set_option maxHeartbeats 4000000 in
theorem gcd_any (a b : Int) (w : World) (a0 : 0 ≤ a) (a1 : a < 340282366920938463463374607431768211456) (b0 : 0 < b) (b1 : b < 340282366920938463463374607431768211456) :
    Calls Tryd.prog 64 #[.agg #[.int .u64 (hi a), .int .u64 (lo a)], .agg #[.int .u64 (hi b), .int .u64 (lo b)]] w fun e w' => e = .returned (.agg #[.int .u64 (hi (gc a b)), .int .u64 (lo (gc a b))]) ∧ Up w w' := by
  by_cases hz : a = 0
  · subst hz
    rw [gc_comm, gc_zero (by omega)]
    have z0 : ((0 : Int) == 0) = true := rfl
    go_enter Tryd.func64, Tryd.ntmps64
    go_wp2_with (go_at_call 63; refine (none_any 0 _).mono ?_; rintro _ _ ⟨rfl, ca, rfl⟩; simp only [z0])
    refine bodyPost_ret (v := .agg #[.int .u64 (hi b), .int .u64 (lo b)]) (by simp [results, Tryd.results64, go_sem]) rfl ⟨rfl, ?_⟩
    exact ((((Up.refl _).alloc _ _).alloc _ _).alloc _ _).alloc _ _
  have z0 : (a == 0) = false := by simpa using hz
  go_enter Tryd.func64, Tryd.ntmps64
  go_wp2_with (go_at_call 63; refine (none_up a _).mono ?_; rintro _ w1 ⟨rfl, hw1⟩; simp only [z0])
  have s0 : St w w1 a b := by
    refine St.up ⟨((((Up.refl w).alloc _ _).alloc _ _).alloc _ _), ?_, ?_, ?_, ?_, ?_, ?_, ?_⟩ hw1 <;> simp [go_sem]
  clear hw1
  go_loopg [5] 128 (fun g n wr => ∃ (x y : Int) (k : Nat), n = .int .i64 k ∧ k + g = 128 ∧ 0 < x ∧ 0 < y ∧ x < 340282366920938463463374607431768211456 ∧ y < 340282366920938463463374607431768211456 ∧ Hid (gc x y * 2 ^ k = gc a b) ∧ St w wr x y)
  case atStart => exact ⟨a, b, 0, rfl, rfl, by omega, b0, a1, b1, by simp [Hid], s0⟩
  case round =>
    obtain ⟨x, y, k, rfl, hk, x0, y0, x1, y1, hg, s⟩ := hrel
    clear s0
    obtain ⟨q0, q1, q2, q3, q4, q5, q6, q7⟩ := id s
    have hk2 : (k : Int) ≤ 128 := by omega
    by_cases hb : x % 2 = 0 ∧ y % 2 = 0
    · obtain ⟨hx, hy⟩ := hb
      have bx := lo_even hx
      have by' := lo_even hy
      have l0 : w.heap.size < wr.heap.size := by omega
      have l1 : w.heap.size + 1 < wr.heap.size := by omega
      have f0 := q0.fz (b := w.heap.size) 0 (by omega)
      have f1 := q0.fz (b := w.heap.size) 1 (by omega)
      have f2 := q0.fz (b := w.heap.size + 1) 0 (by omega)
      have f3 := q0.fz (b := w.heap.size + 1) 1 (by omega)
      have hk3 := pow_bd hg.out (by have := gc_pos (y := y) x0; omega) (by have := gc_le_r (x := a) b0; omega)
      have hg2 : Hid (gc (x / 2) (y / 2) * 2 ^ (k + 1) = gc a b) := by
        rw [Hid, ← hg.out, gc_both (by omega) (by omega) hx hy, Int.pow_succ]
        rw [Int.mul_comm 2, Int.mul_assoc, Int.mul_comm 2]
      go_wp2_with fail
      go_region_with
        (first | (go_at_call 82; refine (half_up _ _ (by omega) (by omega)).mono ?_; rintro _ wl ⟨rfl, hl⟩; have sg := s.up (show Up wr wl by repeat (first | exact Up.refl _ | apply Up.drewN | apply Up.drew | (refine Up.trans ?_ (by assumption)))); obtain ⟨t0, t1, t2, t3, t4, t5, t6, t7⟩ := sg; have m0 := t0.fz (b := w.heap.size) 0 (by omega); have m1 := t0.fz (b := w.heap.size) 1 (by omega); have m2 := t0.fz (b := w.heap.size + 1) 0 (by omega); have m3 := t0.fz (b := w.heap.size + 1) 1 (by omega); clear t0))
      all_goals
        go_wp2_with fail
        go_roundg (gk - 1)
        case measure => omega
        case rel => exact ⟨x / 2, y / 2, k + 1, by go_num, by omega, by omega, by omega, by omega, by omega, hg2, ((s.up (show Up wr wl by repeat (first | exact Up.refl _ | apply Up.drewN | apply Up.drew | (refine Up.trans ?_ (by assumption))))).setA _).setB _⟩
    · have hodd : x % 2 = 1 ∨ y % 2 = 1 := by omega
      have hex : (bits .and .u64 (lo x) 1 == 0) = true ∧ (bits .and .u64 (lo y) 1 == 0) = false ∨ (bits .and .u64 (lo x) 1 == 0) = false := by
        by_cases h : x % 2 = 0
        · exact Or.inl ⟨lo_even h, lo_odd (by omega)⟩
        · exact Or.inr (lo_odd (by omega))
      clear hb hk
      rcases hex with ⟨bx, by'⟩ | bx
      all_goals
        go_wp2_with fail
        go_loopg [] x.toNat (fun g wr => ∃ z : Int, 0 < z ∧ z < 340282366920938463463374607431768211456 ∧ g = z.toNat ∧ (z % 2 = 1 ∨ y % 2 = 1) ∧ Hid (gc z y = gc x y) ∧ St w wr z y)
        case atStart => exact ⟨x, x0, x1, rfl, by omega, rfl, s⟩
        case round =>
          obtain ⟨z, z0, z1, hgz, hodd, hG, s2⟩ := hrel
          clear q0 q1 q2 q3 q4 q5 q6 q7 s
          have s := s2
          clear s2
          obtain ⟨q0, q1, q2, q3, q4, q5, q6, q7⟩ := id s
          by_cases hz2 : z % 2 = 0
          · have bz := lo_even hz2
            go_wp2_with (go_at_call 82; refine (half_up _ _ (by omega) (by omega)).mono ?_; rintro _ wl ⟨rfl, hl⟩; have sl := s.up hl; obtain ⟨t0, t1, t2, t3, t4, t5, t6, t7⟩ := id sl; have m0 := t0.fz (b := w.heap.size) 0 (by omega); have m1 := t0.fz (b := w.heap.size) 1 (by omega); have m2 := t0.fz (b := w.heap.size + 1) 0 (by omega); have m3 := t0.fz (b := w.heap.size + 1) 1 (by omega))
            go_roundg (z / 2).toNat
            case measure => omega
            case rel => exact ⟨z / 2, by omega, by omega, rfl, by omega, (gc_left (by omega) (by omega) hz2 (by omega)).trans hG, sl.setA _⟩
          · have bz := lo_odd (v := z) (by omega)
            have hz3 : z % 2 = 1 := by omega
            clear hz2 hodd hgz
            go_wp2_with fail
            go_loopg [] (z + y).toNat (fun g wr => ∃ p q : Int, 0 < p ∧ 0 ≤ q ∧ p % 2 = 1 ∧ p < 340282366920938463463374607431768211456 ∧ q < 340282366920938463463374607431768211456 ∧ g = (p + q).toNat ∧ Hid (gc p q = gc x y) ∧ St w wr p q)
            case atStart => exact ⟨z, y, z0, by omega, hz3, z1, y1, rfl, hG, s⟩
            case round =>
              obtain ⟨p, q, p0, r0, hp, p1, r1, hgp, hG2, s2⟩ := hrel
              clear q0 q1 q2 q3 q4 q5 q6 q7 s bz
              have s := s2
              clear s2
              obtain ⟨q0, q1, q2, q3, q4, q5, q6, q7⟩ := id s
              by_cases hq0 : q = 0
              · have bq : (q == 0) = true := by simpa using hq0
                have hfin : Hid (p * 2 ^ k = gc a b) := by
                  rw [Hid, ← hg.out, ← hG2.out, hq0, gc_zero (by omega)]
                have hGb : gc a b < 340282366920938463463374607431768211456 := by have := gc_le_r (x := a) b0; omega
                go_wp2_with (go_at_call 63; refine (none_up _ _).mono ?_; rintro _ wn ⟨rfl, hn⟩)
                have sn := s.up hn
                clear q0 q1 q2 q3 q4 q5 q6 q7 s hn hg hG2 hG
                go_loopg [49] k (fun g j wr => ∃ i : Nat, j = .int .i64 i ∧ i + g = k ∧ St w wr (p * 2 ^ i) q)
                case atStart => exact ⟨0, rfl, by omega, by simpa using sn⟩
                case round =>
                  obtain ⟨i, rfl, hi2, s⟩ := hrel
                  clear sn
                  obtain ⟨q0, q1, q2, q3, q4, q5, q6, q7⟩ := id s
                  by_cases hik : i < k
                  · have hik2 : (i : Int) < (k : Int) := by omega
                    obtain ⟨ph0, ph1⟩ := pow_half hfin.out (by omega) hik hGb
                    have e2 : Hid (2 * (p * 2 ^ i) = p * 2 ^ (i + 1)) := by rw [Hid, Int.pow_succ, ← Int.mul_assoc p]; exact Int.mul_comm _ _
                    go_wp2_with (go_at_call 85; refine (twice_up _ _ ph0 ph1).mono ?_; rintro _ wl ⟨rfl, hl⟩; have sl := s.up hl; obtain ⟨t0, t1, t2, t3, t4, t5, t6, t7⟩ := id sl; have m0 := t0.fz (b := w.heap.size) 0 (by omega); have m1 := t0.fz (b := w.heap.size) 1 (by omega); have m2 := t0.fz (b := w.heap.size + 1) 0 (by omega); have m3 := t0.fz (b := w.heap.size + 1) 1 (by omega))
                    go_roundg (gk - 1)
                    case measure => omega
                    case rel => exact ⟨i + 1, by go_num, by omega, e2.out ▸ sl.setA _⟩
                  · have hik2 : ¬ (i : Int) < (k : Int) := by omega
                    have hik3 : i = k := by omega
                    have f0 := q0.fz (b := w.heap.size + 1 + 1) 0 (by omega)
                    have f1 := q0.fz (b := w.heap.size + 1 + 1) 1 (by omega)
                    have hfin2 : Hid (gc a b = p * 2 ^ i) := by rw [Hid, hik3]; exact hfin.out.symm
                    clear hik hik3
                    go_wp2
                    refine bodyPost_ret (v := .agg #[.int .u64 (hi (p * 2 ^ i)), .int .u64 (lo (p * 2 ^ i))]) (by simp [results, Tryd.results64, go_sem, *]) rfl ⟨by rw [hfin2.out], (q0.setCell (by simp; omega) _).setCell (by simp; omega) _⟩
              · have bq : (q == 0) = false := by simpa using hq0
                go_wp2_with (go_at_call 63; refine (none_up _ _).mono ?_; rintro _ wn ⟨rfl, hn⟩; simp only [bq])
                have sn := s.up hn
                clear q0 q1 q2 q3 q4 q5 q6 q7 s hn
                go_loopg [] q.toNat (fun g wr => ∃ r : Int, 0 < r ∧ r ≤ q ∧ g = r.toNat ∧ Hid (gc p r = gc x y) ∧ St w wr p r)
                case atStart => exact ⟨q, by omega, by omega, rfl, hG2, sn⟩
                case round =>
                  obtain ⟨r, r2, r3, hgr, hG3, s⟩ := hrel
                  clear sn
                  obtain ⟨q0, q1, q2, q3, q4, q5, q6, q7⟩ := id s
                  by_cases hr : r % 2 = 0
                  · have br := lo_even hr
                    go_wp2_with (go_at_call 82; refine (half_up _ _ (by omega) (by omega)).mono ?_; rintro _ wl ⟨rfl, hl⟩; have sl := s.up hl; obtain ⟨t0, t1, t2, t3, t4, t5, t6, t7⟩ := id sl; have m0 := t0.fz (b := w.heap.size) 0 (by omega); have m1 := t0.fz (b := w.heap.size) 1 (by omega); have m2 := t0.fz (b := w.heap.size + 1) 0 (by omega); have m3 := t0.fz (b := w.heap.size + 1) 1 (by omega))
                    go_roundg (r / 2).toNat
                    case measure => omega
                    case rel => exact ⟨r / 2, by omega, by omega, rfl, (gc_right (by omega) (by omega) hp hr).trans hG3, sl.setB _⟩
                  · have br := lo_odd (v := r) (by omega)
                    clear hgr
                    by_cases hlt : r < p
                    · have bl : decide (r < p) = true := by simpa using hlt
                      go_wp2_with (first | (go_at_call 83; refine (less_up _ _ _).mono ?_; rintro _ wl ⟨rfl, hl⟩; have sl := s.up hl; obtain ⟨t0, t1, t2, t3, t4, t5, t6, t7⟩ := id sl; have m0 := t0.fz (b := w.heap.size) 0 (by omega); have m1 := t0.fz (b := w.heap.size) 1 (by omega); have m2 := t0.fz (b := w.heap.size + 1) 0 (by omega); have m3 := t0.fz (b := w.heap.size + 1) 1 (by omega); simp only [bl]) | (go_at_call 84; refine (sub_up _ _ _ (by omega) (by omega) (by omega)).mono ?_; rintro _ wm ⟨rfl, hm⟩; have sm := ((sl.setA r).setB p).up hm; obtain ⟨v0, v1, v2, v3, v4, v5, v6, v7⟩ := id sm; have n0 := v0.fz (b := w.heap.size) 0 (by omega); have n1 := v0.fz (b := w.heap.size) 1 (by omega); have n2 := v0.fz (b := w.heap.size + 1) 0 (by omega); have n3 := v0.fz (b := w.heap.size + 1) 1 (by omega)))
                      go_roundg (r + (p - r)).toNat
                      case measure => omega
                      case rel => exact ⟨r, p - r, by omega, by omega, by omega, by omega, by omega, rfl, (gc_sub (by omega) (by omega)).trans ((gc_comm _ _).trans hG3), sm.setB _⟩
                    · have bl : decide (r < p) = false := by simpa using hlt
                      go_wp2_with (first | (go_at_call 83; refine (less_up _ _ _).mono ?_; rintro _ wl ⟨rfl, hl⟩; have sl := s.up hl; obtain ⟨t0, t1, t2, t3, t4, t5, t6, t7⟩ := id sl; have m0 := t0.fz (b := w.heap.size) 0 (by omega); have m1 := t0.fz (b := w.heap.size) 1 (by omega); have m2 := t0.fz (b := w.heap.size + 1) 0 (by omega); have m3 := t0.fz (b := w.heap.size + 1) 1 (by omega); simp only [bl]) | (go_at_call 84; refine (sub_up _ _ _ (by omega) (by omega) (by omega)).mono ?_; rintro _ wm ⟨rfl, hm⟩; have sm := sl.up hm; obtain ⟨v0, v1, v2, v3, v4, v5, v6, v7⟩ := id sm; have n0 := v0.fz (b := w.heap.size) 0 (by omega); have n1 := v0.fz (b := w.heap.size) 1 (by omega); have n2 := v0.fz (b := w.heap.size + 1) 0 (by omega); have n3 := v0.fz (b := w.heap.size + 1) 1 (by omega)))
                      go_roundg (p + (r - p)).toNat
                      case measure => omega
                      case rel => exact ⟨p, r - p, by omega, by omega, by omega, by omega, by omega, rfl, (gc_sub (by omega) (by omega)).trans hG3, sm.setB _⟩
end Go.Proofs.YtlhmecagijdinaaDoor.wk
set_option linter.unusedVariables false
namespace Go.Proofs.YtlhmecagijdinaaDoor.wk
open Go.RowKit

def Sd (w wr : World) (a b q r : Int) : Prop := Up w wr ∧ w.heap.size + 1 + 1 + 1 + 1 < wr.heap.size ∧
  wr.cell? ⟨w.heap.size, 0, none⟩ = some (.int .u64 (hi a)) ∧ wr.cell? ⟨w.heap.size, 1, none⟩ = some (.int .u64 (lo a)) ∧
  wr.cell? ⟨w.heap.size + 1, 0, none⟩ = some (.int .u64 (hi b)) ∧ wr.cell? ⟨w.heap.size + 1, 1, none⟩ = some (.int .u64 (lo b)) ∧
  wr.cell? ⟨w.heap.size + 1 + 1, 0, none⟩ = some (.int .u64 0) ∧ wr.cell? ⟨w.heap.size + 1 + 1, 1, none⟩ = some (.int .u64 0) ∧
  wr.cell? ⟨w.heap.size + 1 + 1 + 1, 0, none⟩ = some (.int .u64 (hi q)) ∧ wr.cell? ⟨w.heap.size + 1 + 1 + 1, 1, none⟩ = some (.int .u64 (lo q)) ∧
  wr.cell? ⟨w.heap.size + 1 + 1 + 1 + 1, 0, none⟩ = some (.int .u64 (hi r)) ∧ wr.cell? ⟨w.heap.size + 1 + 1 + 1 + 1, 1, none⟩ = some (.int .u64 (lo r))
theorem Sd.up {w wr wl : World} {a b q r : Int} (s : Sd w wr a b q r) (h : Up wr wl) : Sd w wl a b q r := by
  obtain ⟨s0, s1, s2, s3, s4, s5, s6, s7, s8, s9, sa, sb⟩ := s
  exact ⟨s0.trans h, Nat.lt_of_lt_of_le s1 h.size, (h.cell _ _ (by omega)).trans s2, (h.cell _ _ (by omega)).trans s3, (h.cell _ _ (by omega)).trans s4, (h.cell _ _ (by omega)).trans s5, (h.cell _ _ (by omega)).trans s6, (h.cell _ _ (by omega)).trans s7, (h.cell _ _ (by omega)).trans s8, (h.cell _ _ (by omega)).trans s9, (h.cell _ _ (by omega)).trans sa, (h.cell _ _ (by omega)).trans sb⟩
theorem Sd.setQ {w wr : World} {a b q r : Int} (s : Sd w wr a b q r) (z : Int) : Sd w ((wr.setCell ⟨w.heap.size + 1 + 1 + 1, 0, none⟩ (.int .u64 (hi z))).setCell ⟨w.heap.size + 1 + 1 + 1, 1, none⟩ (.int .u64 (lo z))) a b z r := by
  obtain ⟨s0, s1, s2, s3, s4, s5, s6, s7, s8, s9, sa, sb⟩ := s
  refine ⟨(s0.setCell (by simp; omega) _).setCell (by simp; omega) _, by rw [size_set, size_set]; exact s1, ?_, ?_, ?_, ?_, ?_, ?_, ?_, ?_, ?_, ?_⟩ <;> simp [go_sem, *]
theorem Sd.setR {w wr : World} {a b q r : Int} (s : Sd w wr a b q r) (z : Int) : Sd w ((wr.setCell ⟨w.heap.size + 1 + 1 + 1 + 1, 0, none⟩ (.int .u64 (hi z))).setCell ⟨w.heap.size + 1 + 1 + 1 + 1, 1, none⟩ (.int .u64 (lo z))) a b q z := by
  obtain ⟨s0, s1, s2, s3, s4, s5, s6, s7, s8, s9, sa, sb⟩ := s
  refine ⟨(s0.setCell (by simp; omega) _).setCell (by simp; omega) _, by rw [size_set, size_set]; exact s1, ?_, ?_, ?_, ?_, ?_, ?_, ?_, ?_, ?_, ?_⟩ <;> simp [go_sem, *]
theorem Sd.setQlo {w wr : World} {a b q r : Int} (s : Sd w wr a b q r) (z : Int) (h : hi z = hi q) : Sd w (wr.setCell ⟨w.heap.size + 1 + 1 + 1, 1, none⟩ (.int .u64 (lo z))) a b z r := by
  obtain ⟨s0, s1, s2, s3, s4, s5, s6, s7, s8, s9, sa, sb⟩ := s
  refine ⟨s0.setCell (by simp; omega) _, by rw [size_set]; exact s1, ?_, ?_, ?_, ?_, ?_, ?_, ?_, ?_, ?_, ?_⟩ <;> simp [go_sem, *]
theorem Sd.setRlo {w wr : World} {a b q r : Int} (s : Sd w wr a b q r) (z : Int) (h : hi z = hi r) : Sd w (wr.setCell ⟨w.heap.size + 1 + 1 + 1 + 1, 1, none⟩ (.int .u64 (lo z))) a b q z := by
  obtain ⟨s0, s1, s2, s3, s4, s5, s6, s7, s8, s9, sa, sb⟩ := s
  refine ⟨s0.setCell (by simp; omega) _, by rw [size_set]; exact s1, ?_, ?_, ?_, ?_, ?_, ?_, ?_, ?_, ?_, ?_⟩ <;> simp [go_sem, *]
/-- What the walk wants of the state. -/
theorem Sd.fzQ {w wr : World} {a b q r : Int} (s : Sd w wr a b q r) (o : Nat) : wr.frozen? ⟨w.heap.size + 1 + 1 + 1, o, none⟩ = false := s.1.fz o (by omega)
theorem Sd.fzR {w wr : World} {a b q r : Int} (s : Sd w wr a b q r) (o : Nat) : wr.frozen? ⟨w.heap.size + 1 + 1 + 1 + 1, o, none⟩ = false := s.1.fz o (by omega)
theorem Sd.fzO {w wr : World} {a b q r : Int} (s : Sd w wr a b q r) (o : Nat) : wr.frozen? ⟨w.heap.size + 1 + 1, o, none⟩ = false := s.1.fz o (by omega)
theorem bit_lo_nat (a i : Nat) (h : i < 64) : a % 18446744073709551616 / 2 ^ i % 2 = a / 2 ^ i % 2 := by
  have e : 18446744073709551616 = 2 ^ i * 2 ^ (64 - i) := by rw [← Nat.pow_add, show i + (64 - i) = 64 by omega]
  have d : 2 ∣ 2 ^ (64 - i) := by rw [show 64 - i = (63 - i) + 1 by omega, Nat.pow_succ]; exact Nat.dvd_mul_left _ _
  rw [e, Nat.mod_mul_right_div_self, Nat.mod_mod_of_dvd _ d]
theorem bit_hi_nat (a i : Nat) (h : 64 ≤ i) : a / 18446744073709551616 / 2 ^ (i - 64) % 2 = a / 2 ^ i % 2 := by
  rw [Nat.div_div_eq_div_mul, show 18446744073709551616 = 2 ^ 64 from rfl, ← Nat.pow_add, show 64 + (i - 64) = i by omega]
theorem bit_lo {a : Int} (a0 : 0 ≤ a) {i : Nat} (h : i < 64) : lo a / 2 ^ i % 2 = a / 2 ^ i % 2 := by
  obtain ⟨a, rfl⟩ := Int.eq_ofNat_of_zero_le a0
  have := bit_lo_nat a i h
  rw [show lo (a : Int) = ((a % 18446744073709551616 : Nat) : Int) by unfold lo; omega]
  generalize a % 18446744073709551616 = m at this ⊢
  exact_mod_cast this
theorem bit_hi {a : Int} (a0 : 0 ≤ a) {i : Nat} (h : 64 ≤ i) : hi a / 2 ^ (i - 64) % 2 = a / 2 ^ i % 2 := by
  obtain ⟨a, rfl⟩ := Int.eq_ofNat_of_zero_le a0
  have := bit_hi_nat a i h
  rw [show hi (a : Int) = ((a / 18446744073709551616 : Nat) : Int) by unfold hi; omega]
  generalize a / 18446744073709551616 = m at this ⊢
  exact_mod_cast this
theorem and_one {X : Int} (h0 : 0 ≤ X) (h1 : X < 18446744073709551616) : bits .and .u64 X 1 = X % 2 := by
  rw [u64_and _ _ h0 h1 (by omega) (by omega), show (1 : Int).toNat = 1 from rfl, nat_mask1]; omega
theorem or_bit {r t : Int} (t0 : 0 ≤ t) (t1 : t < 2) : bits .or .u64 (lo (2 * r)) t = lo (2 * r + t) := by
  obtain ⟨b1, b2⟩ := lo_bd (2 * r)
  rw [or_join' t (lo (2 * r)) 1 t0 (by omega) b1 b2 (by omega) (by unfold lo; omega)]
  unfold lo; omega
theorem shr_bd {x : Int} (h0 : 0 ≤ x) (h1 : x < 18446744073709551616) (k : Nat) : 0 ≤ x / 2 ^ k ∧ x / 2 ^ k < 18446744073709551616 := by
  refine ⟨Int.ediv_nonneg h0 (Int.le_of_lt (Int.pow_pos (by omega))), ?_⟩
  exact Int.lt_of_le_of_lt (Int.ediv_le_self _ h0) h1
/-- The bit of a that comes next. -/
def bt (a : Int) (i : Nat) : Int := a / 2 ^ i % 2
theorem bt_bd (a : Int) (i : Nat) : 0 ≤ bt a i ∧ bt a i < 2 := by unfold bt; omega
theorem step_hi {a r : Int} (a0 : 0 ≤ a) (a1 : a < 340282366920938463463374607431768211456) {i : Nat} (h : 64 ≤ i) : bits .or .u64 (lo (2 * r)) (bits .and .u64 (hi a / 2 ^ (i - 64)) 1) = lo (2 * r + bt a i) := by
  obtain ⟨b1, b2⟩ := hi_bd a0 a1
  obtain ⟨c1, c2⟩ := shr_bd b1 b2 (i - 64)
  rw [and_one c1 c2, bit_hi a0 h]
  exact or_bit (bt_bd a i).1 (bt_bd a i).2
theorem step_lo {a r : Int} (a0 : 0 ≤ a) {i : Nat} (h : i < 64) : bits .or .u64 (lo (2 * r)) (bits .and .u64 (lo a / 2 ^ i) 1) = lo (2 * r + bt a i) := by
  obtain ⟨b1, b2⟩ := lo_bd a
  obtain ⟨c1, c2⟩ := shr_bd b1 b2 i
  rw [and_one c1 c2, bit_lo a0 h]
  exact or_bit (bt_bd a i).1 (bt_bd a i).2
theorem next_bit {a : Int} (g : Nat) (hg : 0 < g) : a / 2 ^ (g - 1) = 2 * (a / 2 ^ g) + bt a (g - 1) := by
  have e : a / 2 ^ g = a / 2 ^ (g - 1) / 2 := by
    rw [Int.ediv_ediv_of_nonneg (Int.le_of_lt (Int.pow_pos (by omega))), ← Int.pow_succ, show (g - 1).succ = g by omega]
  rw [e]; unfold bt; omega
theorem hi_next {r t : Int} (t0 : 0 ≤ t) (t1 : t < 2) : hi (2 * r + t) = hi (2 * r) := by unfold hi; omega
set_option maxHeartbeats 4000000 in
theorem div_any (a b : Int) (w : World) (a0 : 0 ≤ a) (a1 : a < 340282366920938463463374607431768211456) (b0 : 0 < b) (b1 : b < 170141183460469231731687303715884105728) :
    Calls Tryd.prog 65 #[.agg #[.int .u64 (hi a), .int .u64 (lo a)], .agg #[.int .u64 (hi b), .int .u64 (lo b)]] w fun e w' => e = .returned (.agg #[.int .u64 (hi (a / b)), .int .u64 (lo (a / b))]) ∧ Up w w' := by
  go_enter Tryd.func65, Tryd.ntmps65
  go_wp2_with fail
  go_loopg [7] 128 (fun g n wr => ∃ (q r : Int) , n = .int .i64 ((g : Int) - 1) ∧ g ≤ 128 ∧ 0 ≤ r ∧ r < b ∧ 0 ≤ q ∧ Hid (a / 2 ^ g = q * b + r) ∧ Sd w wr a b q r)
  case atStart =>
    refine ⟨0, 0, rfl, by omega, by omega, b0, by omega, ?_, ?_⟩
    · rw [Hid, Int.ediv_eq_zero_of_lt a0 (by simpa using a1)]; simp
    · refine ⟨by repeat (first | exact Up.refl _ | apply Up.alloc), ?_, ?_, ?_, ?_, ?_, ?_, ?_, ?_, ?_, ?_, ?_⟩ <;> simp [go_sem, hi, lo]
  case round =>
    obtain ⟨q, r, rfl, hg, r0, r1, q0, hq, s⟩ := hrel
    obtain ⟨c0, c1, c2, c3, c4, c5, c6, c7, c8, c9, ca, cb⟩ := id s
    have hf0 := s.fzQ
    have hf1 := s.fzR
    by_cases hg0 : gk = 0
    · subst hg0
      have hfin : Hid (a / b = q) := by
        have e := hq.out
        rw [Int.pow_zero, Int.ediv_one] at e
        rw [Hid, e, Int.add_comm, Int.add_mul_ediv_right _ _ (by omega), Int.ediv_eq_zero_of_lt r0 r1, Int.zero_add]
      have hfo := s.fzO
      clear hq
      go_wp2
      refine bodyPost_ret (v := .agg #[.int .u64 (hi q), .int .u64 (lo q)]) (by simp [results, Tryd.results65, go_sem, *]) rfl ⟨by rw [hfin.out], (c0.setCell (by simp; omega) _).setCell (by simp; omega) _⟩
    · have hg1 : 0 < gk := by omega
      have hn1 := next_bit (a := a) gk hg1
      rw [hq.out] at hn1
      obtain ⟨b2, b3⟩ := bt_bd a (gk - 1)
      have hh := hi_next (r := r) b2 b3
      have hh2 : hi (2 * q + 1) = hi (2 * q) := hi_next (by omega) (by omega)
      have q1 : q < 170141183460469231731687303715884105728 := by
        have e1 : q * 1 ≤ q * b := Int.mul_le_mul_of_nonneg_left (by omega) q0
        have e2 : a / 2 ^ (gk - 1) ≤ a := Int.ediv_le_self _ a0
        omega
      have HN : Hid _ := hn1
      have HH : Hid _ := hh
      have HH2 : Hid _ := hh2
      have hq5 : Hid (bits .or .u64 (lo (2 * q)) 1 = lo (2 * q + 1)) := or_bit (by omega) (by omega)
      clear hn1 hq hh hh2
      have hgi : (1 : Int) ≤ (gk : Int) := by omega
      have hsplit : (∃ (_ : 64 < gk), Hid (bits .or .u64 (lo (2 * r)) (bits .and .u64 (hi a / 2 ^ (gk - 1 - 64)) 1) = lo (2 * r + bt a (gk - 1)))) ∨ (∃ (_ : ¬ 64 < gk), Hid (bits .or .u64 (lo (2 * r)) (bits .and .u64 (lo a / 2 ^ (gk - 1)) 1) = lo (2 * r + bt a (gk - 1)))) := by
        by_cases h : 64 < gk
        · exact Or.inl ⟨h, step_hi a0 a1 (by omega)⟩
        · exact Or.inr ⟨h, step_lo a0 (by omega)⟩
      rcases hsplit with ⟨h64, E⟩ | ⟨h64, E⟩
      all_goals
        by_cases hlt : 2 * r + bt a (gk - 1) < b
        · have bl : decide (2 * r + bt a (gk - 1) < b) = true := by simpa using hlt
          go_wp2_with (first | (go_at_call 85; rw [E.out]; refine (twice_up _ _ q0 q1).mono ?_; rintro _ wm ⟨rfl, hm⟩; have sm := ((sl.setR (2 * r)).setRlo (2 * r + bt a (gk - 1)) HH).up hm; obtain ⟨t0, t1, t2, t3, t4, t5, t6, t7, t8, t9, ta, tb⟩ := id sm; have hf2 := sm.fzQ; have hf3 := sm.fzR) | (go_at_call 85; refine (twice_up _ _ (by omega) (by omega)).mono ?_; rintro _ wl ⟨rfl, hl⟩; have sl := s.up hl; obtain ⟨t0, t1, t2, t3, t4, t5, t6, t7, t8, t9, ta, tb⟩ := id sl; have hf2 := sl.fzQ; have hf3 := sl.fzR) | (go_at_call 83; refine (less_up _ _ _).mono ?_; rintro _ wn ⟨rfl, hn⟩; have sn := (sm.setQ (2 * q)).up hn; obtain ⟨t0, t1, t2, t3, t4, t5, t6, t7, t8, t9, ta, tb⟩ := id sn; have hf2 := sn.fzQ; have hf3 := sn.fzR; simp only [bl]))
          go_roundg (gk - 1)
          case measure => omega
          case rel => exact ⟨2 * q, 2 * r + bt a (gk - 1), by go_num, by omega, by omega, hlt, by omega, by rw [Hid, HN.out, Int.mul_assoc]; omega, sn⟩
        · have bl : decide (2 * r + bt a (gk - 1) < b) = false := by simpa using hlt
          go_wp2_with (first | (go_at_call 85; rw [E.out]; refine (twice_up _ _ q0 q1).mono ?_; rintro _ wm ⟨rfl, hm⟩; have sm := ((sl.setR (2 * r)).setRlo (2 * r + bt a (gk - 1)) HH).up hm; obtain ⟨t0, t1, t2, t3, t4, t5, t6, t7, t8, t9, ta, tb⟩ := id sm; have hf2 := sm.fzQ; have hf3 := sm.fzR) | (go_at_call 85; refine (twice_up _ _ (by omega) (by omega)).mono ?_; rintro _ wl ⟨rfl, hl⟩; have sl := s.up hl; obtain ⟨t0, t1, t2, t3, t4, t5, t6, t7, t8, t9, ta, tb⟩ := id sl; have hf2 := sl.fzQ; have hf3 := sl.fzR) | (go_at_call 83; refine (less_up _ _ _).mono ?_; rintro _ wn ⟨rfl, hn⟩; have sn := (sm.setQ (2 * q)).up hn; obtain ⟨t0, t1, t2, t3, t4, t5, t6, t7, t8, t9, ta, tb⟩ := id sn; have hf2 := sn.fzQ; have hf3 := sn.fzR; simp only [bl]) | (go_at_call 84; refine (sub_up _ _ _ (by omega) (by omega) (by omega)).mono ?_; rintro _ wo ⟨rfl, ho⟩; have so := sn.up ho; obtain ⟨t0, t1, t2, t3, t4, t5, t6, t7, t8, t9, ta, tb⟩ := id so; have hf2 := so.fzQ; have hf3 := so.fzR))
          rw [hq5.out]
          go_roundg (gk - 1)
          case measure => omega
          case rel => exact ⟨2 * q + 1, 2 * r + bt a (gk - 1) - b, by go_num, by omega, by omega, by omega, by omega, by rw [Hid, HN.out, Int.add_mul, Int.mul_assoc]; omega, (so.setR _).setQlo _ HH2⟩
end Go.Proofs.YtlhmecagijdinaaDoor.wk
