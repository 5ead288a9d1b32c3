/-
  The reference's greatest common divisor of two numbers of 128 bits, by halving: it is the greatest common divisor.
  The reference's quotient of two numbers of 128 bits, bit by bit: it is the quotient.
-/
import Derived.Test.YtdnnidnghaifgaaDoorN02
import Derived.Deep.LoopGhost
import Derived.Deep.RegionHeld3
import Derived.Deep.DrawnRows
import Derived.Deep.DeepCutAuto
set_option linter.unusedVariables false
namespace Go.Proofs.YtdnnidnghaifgaaDoor.wk
open Go.RowKit

/-! ### Plain numbers -/
theorem gc_nat (x y : Nat) : gc x y = (Nat.gcd x y : Nat) := by unfold gc; rw [Int.gcd_natCast_natCast]
theorem gc_comm (x y : Int) : gc x y = gc y x := by unfold gc; rw [Int.gcd_comm]
theorem gc_zero {x : Int} (h : 0 ≤ x) : gc x 0 = x := by unfold gc; rw [Int.gcd_zero_right]; omega
theorem gc_nonneg (x y : Int) : 0 ≤ gc x y := by unfold gc; omega
theorem gc_pos {x y : Int} (h : 0 < x) : 0 < gc x y := by
  unfold gc
  have : 0 < Int.gcd x y := Int.gcd_pos_of_ne_zero_left _ (by omega)
  omega
theorem gc_le_r {x y : Int} (h : 0 < y) : gc x y ≤ y := by
  unfold gc
  exact Int.le_of_dvd h (Int.gcd_dvd_right _ _)
theorem gc_both {x y : Int} (x0 : 0 ≤ x) (y0 : 0 ≤ y) (hx : x % 2 = 0) (hy : y % 2 = 0) : gc x y = 2 * gc (x / 2) (y / 2) := by
  obtain ⟨a, ha⟩ : ∃ a : Nat, x = 2 * a := ⟨(x / 2).toNat, by omega⟩
  obtain ⟨b, hb⟩ : ∃ b : Nat, y = 2 * b := ⟨(y / 2).toNat, by omega⟩
  have e1 : x / 2 = a := by omega
  have e2 : y / 2 = b := by omega
  rw [e1, e2, gc_nat, show x = ((2 * a : Nat) : Int) by omega, show y = ((2 * b : Nat) : Int) by omega, gc_nat, Nat.gcd_mul_left]
  omega
theorem gc_left {x y : Int} (x0 : 0 ≤ x) (y0 : 0 ≤ y) (hx : x % 2 = 0) (hy : y % 2 = 1) : gc (x / 2) y = gc x y := by
  obtain ⟨a, ha⟩ : ∃ a : Nat, x = 2 * a := ⟨(x / 2).toNat, by omega⟩
  obtain ⟨b, rfl⟩ := Int.eq_ofNat_of_zero_le y0
  have e1 : x / 2 = a := by omega
  have hc : Nat.Coprime 2 b := by
    rw [Nat.coprime_iff_gcd_eq_one, Nat.gcd_rec, show b % 2 = 1 by omega]
    rfl
  rw [e1, gc_nat, show x = ((2 * a : Nat) : Int) by omega, gc_nat, hc.gcd_mul_left_cancel]
theorem gc_right {x y : Int} (x0 : 0 ≤ x) (y0 : 0 ≤ y) (hx : x % 2 = 1) (hy : y % 2 = 0) : gc x (y / 2) = gc x y := by
  rw [gc_comm, gc_left y0 x0 hy hx, gc_comm]
theorem gc_sub {x y : Int} (x0 : 0 ≤ x) (h : x ≤ y) : gc x (y - x) = gc x y := by
  obtain ⟨a, rfl⟩ := Int.eq_ofNat_of_zero_le x0
  obtain ⟨b, rfl⟩ := Int.eq_ofNat_of_zero_le (Int.le_trans x0 h)
  rw [show (b : Int) - a = ((b - a : Nat) : Int) by omega, gc_nat, gc_nat, Nat.gcd_sub_self_right (by omega)]

theorem pow_bd {g G : Int} {k : Nat} (h : g * 2 ^ k = G) (h1 : 1 ≤ g) (h2 : G < 340282366920938463463374607431768211456) : k < 128 := by
  refine Nat.lt_of_not_le fun hk => ?_
  have p : (2 : Nat) ^ 128 ≤ 2 ^ k := Nat.pow_le_pow_right (by decide) hk
  have p2 : ((2 ^ k : Nat) : Int) = (2 : Int) ^ k := by simp
  have p3 : (340282366920938463463374607431768211456 : Int) ≤ (2 : Int) ^ k := by rw [← p2]; omega
  have p4 : 1 * (2 : Int) ^ k ≤ g * 2 ^ k := Int.mul_le_mul_of_nonneg_right h1 (by omega)
  omega
theorem pow_half {g G : Int} {k i : Nat} (h : g * 2 ^ k = G) (h0 : 0 ≤ g) (hi : i < k) (h2 : G < 340282366920938463463374607431768211456) : 0 ≤ g * 2 ^ i ∧ g * 2 ^ i < 170141183460469231731687303715884105728 := by
  obtain ⟨j, rfl⟩ : ∃ j, k = i + 1 + j := ⟨k - i - 1, by omega⟩
  have e1 : g * 2 ^ (i + 1 + j) = (g * 2 ^ i) * 2 * 2 ^ j := by rw [Int.pow_add, Int.pow_succ]; simp only [Int.mul_assoc]
  have p0 : (0 : Int) ≤ g * 2 ^ i := Int.mul_nonneg h0 (Int.le_of_lt (Int.pow_pos (by omega)))
  have p1 : (1 : Int) ≤ 2 ^ j := Int.pow_pos (by omega)
  have p2 : (g * 2 ^ i) * 2 * 1 ≤ (g * 2 ^ i) * 2 * 2 ^ j := Int.mul_le_mul_of_nonneg_left p1 (by omega)
  omega

/-! ### The three variables in memory -/
theorem frozen_new (w : World) (b o : Nat) (h : w.heap.size ≤ b) : w.frozen? ⟨b, o, none⟩ = false := by
  unfold World.frozen?
  rw [Array.getElem?_eq_none (by simpa using h)]
theorem Up.fz {w wr : World} (h : Up w wr) {b : Nat} (o : Nat) (hb : w.heap.size ≤ b) : wr.frozen? ⟨b, o, none⟩ = false := by rw [h.2]; exact frozen_new w b o hb
def St (w wr : World) (x y : Int) : Prop := Up w wr ∧ w.heap.size + 1 + 1 < wr.heap.size ∧
  wr.cell? ⟨w.heap.size, 0, none⟩ = some (.int .u64 (hi x)) ∧ wr.cell? ⟨w.heap.size, 1, none⟩ = some (.int .u64 (lo x)) ∧
  wr.cell? ⟨w.heap.size + 1, 0, none⟩ = some (.int .u64 (hi y)) ∧ wr.cell? ⟨w.heap.size + 1, 1, none⟩ = some (.int .u64 (lo y)) ∧
  wr.cell? ⟨w.heap.size + 1 + 1, 0, none⟩ = some (.int .u64 0) ∧ wr.cell? ⟨w.heap.size + 1 + 1, 1, none⟩ = some (.int .u64 0)
theorem St.up {w wr wl : World} {x y : Int} (s : St w wr x y) (h : Up wr wl) : St w wl x y := by
  obtain ⟨s0, s1, s2, s3, s4, s5, s6, s7⟩ := s
  exact ⟨s0.trans h, Nat.lt_of_lt_of_le s1 h.size, (h.cell _ _ (by omega)).trans s2, (h.cell _ _ (by omega)).trans s3, (h.cell _ _ (by omega)).trans s4, (h.cell _ _ (by omega)).trans s5, (h.cell _ _ (by omega)).trans s6, (h.cell _ _ (by omega)).trans s7⟩
theorem size_set (w : World) (a : Addr) (v : Value) : (w.setCell a v).heap.size = w.heap.size := by simp [World.setCell]
theorem St.setA {w wr : World} {x y : Int} (s : St w wr x y) (z : Int) : St w ((wr.setCell ⟨w.heap.size, 0, none⟩ (.int .u64 (hi z))).setCell ⟨w.heap.size, 1, none⟩ (.int .u64 (lo z))) z y := by
  obtain ⟨s0, s1, s2, s3, s4, s5, s6, s7⟩ := s
  refine ⟨(s0.setCell (by simp) _).setCell (by simp) _, by rw [size_set, size_set]; exact s1, ?_, ?_, ?_, ?_, ?_, ?_⟩ <;> simp [go_sem, *]
theorem St.setB {w wr : World} {x y : Int} (s : St w wr x y) (z : Int) : St w ((wr.setCell ⟨w.heap.size + 1, 0, none⟩ (.int .u64 (hi z))).setCell ⟨w.heap.size + 1, 1, none⟩ (.int .u64 (lo z))) x z := by
  obtain ⟨s0, s1, s2, s3, s4, s5, s6, s7⟩ := s
  refine ⟨(s0.setCell (by simp) _).setCell (by simp) _, by rw [size_set, size_set]; exact s1, ?_, ?_, ?_, ?_, ?_, ?_⟩ <;> simp [go_sem, *]
theorem lo_even {v : Int} (h : v % 2 = 0) : (bits .and .u64 (lo v) 1 == 0) = true := by
  obtain ⟨b1, b2⟩ := lo_bd v
  rw [u64_and _ _ b1 b2 (by omega) (by omega), show (1 : Int).toNat = 1 from rfl, nat_mask1]
  simp; unfold lo at *; omega
theorem lo_odd {v : Int} (h : v % 2 = 1) : (bits .and .u64 (lo v) 1 == 0) = false := by
  obtain ⟨b1, b2⟩ := lo_bd v
  rw [u64_and _ _ b1 b2 (by omega) (by omega), show (1 : Int).toNat = 1 from rfl, nat_mask1]
  simp; unfold lo at *; omega
theorem keep8 {w wa w' : World} {b : Nat} {x0 x1 x2 x3 : Option Value} (hq : Up wa w') (hw : Up w wa) (hb : w.heap.size ≤ b) (h0 : b < wa.heap.size) (h1 : b + 1 < wa.heap.size) (k0 : wa.cell? ⟨b, 0, none⟩ = x0) (k1 : wa.cell? ⟨b, 1, none⟩ = x1) (k2 : wa.cell? ⟨b + 1, 0, none⟩ = x2) (k3 : wa.cell? ⟨b + 1, 1, none⟩ = x3) :
    w'.cell? ⟨b, 0, none⟩ = x0 ∧ w'.cell? ⟨b, 1, none⟩ = x1 ∧ w'.cell? ⟨b + 1, 0, none⟩ = x2 ∧ w'.cell? ⟨b + 1, 1, none⟩ = x3 ∧ w'.frozen? ⟨b, 0, none⟩ = false ∧ w'.frozen? ⟨b, 1, none⟩ = false ∧ w'.frozen? ⟨b + 1, 0, none⟩ = false ∧ w'.frozen? ⟨b + 1, 1, none⟩ = false :=
  ⟨(hq.cell _ _ h0).trans k0, (hq.cell _ _ h0).trans k1, (hq.cell _ _ h1).trans k2, (hq.cell _ _ h1).trans k3, (hw.trans hq).fz _ hb, (hw.trans hq).fz _ hb, (hw.trans hq).fz _ (by omega), (hw.trans hq).fz _ (by omega)⟩
attribute [local go_sem ↓] Go.wp_at_zero Go.wp_at_succ
end Go.Proofs.YtdnnidnghaifgaaDoor.wk
set_option linter.unusedVariables false
namespace Go.Proofs.YtdnnidnghaifgaaDoor.wk
open Go.RowKit

def Sd (w wr : World) (a b q r : Int) : Prop := Up w wr ∧ w.heap.size + 1 + 1 + 1 + 1 < wr.heap.size ∧
  wr.cell? ⟨w.heap.size, 0, none⟩ = some (.int .u64 (hi a)) ∧ wr.cell? ⟨w.heap.size, 1, none⟩ = some (.int .u64 (lo a)) ∧
  wr.cell? ⟨w.heap.size + 1, 0, none⟩ = some (.int .u64 (hi b)) ∧ wr.cell? ⟨w.heap.size + 1, 1, none⟩ = some (.int .u64 (lo b)) ∧
  wr.cell? ⟨w.heap.size + 1 + 1, 0, none⟩ = some (.int .u64 0) ∧ wr.cell? ⟨w.heap.size + 1 + 1, 1, none⟩ = some (.int .u64 0) ∧
  wr.cell? ⟨w.heap.size + 1 + 1 + 1, 0, none⟩ = some (.int .u64 (hi q)) ∧ wr.cell? ⟨w.heap.size + 1 + 1 + 1, 1, none⟩ = some (.int .u64 (lo q)) ∧
  wr.cell? ⟨w.heap.size + 1 + 1 + 1 + 1, 0, none⟩ = some (.int .u64 (hi r)) ∧ wr.cell? ⟨w.heap.size + 1 + 1 + 1 + 1, 1, none⟩ = some (.int .u64 (lo r))
theorem Sd.up {w wr wl : World} {a b q r : Int} (s : Sd w wr a b q r) (h : Up wr wl) : Sd w wl a b q r := by
  obtain ⟨s0, s1, s2, s3, s4, s5, s6, s7, s8, s9, sa, sb⟩ := s
  exact ⟨s0.trans h, Nat.lt_of_lt_of_le s1 h.size, (h.cell _ _ (by omega)).trans s2, (h.cell _ _ (by omega)).trans s3, (h.cell _ _ (by omega)).trans s4, (h.cell _ _ (by omega)).trans s5, (h.cell _ _ (by omega)).trans s6, (h.cell _ _ (by omega)).trans s7, (h.cell _ _ (by omega)).trans s8, (h.cell _ _ (by omega)).trans s9, (h.cell _ _ (by omega)).trans sa, (h.cell _ _ (by omega)).trans sb⟩
theorem Sd.setQ {w wr : World} {a b q r : Int} (s : Sd w wr a b q r) (z : Int) : Sd w ((wr.setCell ⟨w.heap.size + 1 + 1 + 1, 0, none⟩ (.int .u64 (hi z))).setCell ⟨w.heap.size + 1 + 1 + 1, 1, none⟩ (.int .u64 (lo z))) a b z r := by
  obtain ⟨s0, s1, s2, s3, s4, s5, s6, s7, s8, s9, sa, sb⟩ := s
  refine ⟨(s0.setCell (by simp; omega) _).setCell (by simp; omega) _, by rw [size_set, size_set]; exact s1, ?_, ?_, ?_, ?_, ?_, ?_, ?_, ?_, ?_, ?_⟩ <;> simp [go_sem, *]
theorem Sd.setR {w wr : World} {a b q r : Int} (s : Sd w wr a b q r) (z : Int) : Sd w ((wr.setCell ⟨w.heap.size + 1 + 1 + 1 + 1, 0, none⟩ (.int .u64 (hi z))).setCell ⟨w.heap.size + 1 + 1 + 1 + 1, 1, none⟩ (.int .u64 (lo z))) a b q z := by
  obtain ⟨s0, s1, s2, s3, s4, s5, s6, s7, s8, s9, sa, sb⟩ := s
  refine ⟨(s0.setCell (by simp; omega) _).setCell (by simp; omega) _, by rw [size_set, size_set]; exact s1, ?_, ?_, ?_, ?_, ?_, ?_, ?_, ?_, ?_, ?_⟩ <;> simp [go_sem, *]
theorem Sd.setQlo {w wr : World} {a b q r : Int} (s : Sd w wr a b q r) (z : Int) (h : hi z = hi q) : Sd w (wr.setCell ⟨w.heap.size + 1 + 1 + 1, 1, none⟩ (.int .u64 (lo z))) a b z r := by
  obtain ⟨s0, s1, s2, s3, s4, s5, s6, s7, s8, s9, sa, sb⟩ := s
  refine ⟨s0.setCell (by simp; omega) _, by rw [size_set]; exact s1, ?_, ?_, ?_, ?_, ?_, ?_, ?_, ?_, ?_, ?_⟩ <;> simp [go_sem, *]
theorem Sd.setRlo {w wr : World} {a b q r : Int} (s : Sd w wr a b q r) (z : Int) (h : hi z = hi r) : Sd w (wr.setCell ⟨w.heap.size + 1 + 1 + 1 + 1, 1, none⟩ (.int .u64 (lo z))) a b q z := by
  obtain ⟨s0, s1, s2, s3, s4, s5, s6, s7, s8, s9, sa, sb⟩ := s
  refine ⟨s0.setCell (by simp; omega) _, by rw [size_set]; exact s1, ?_, ?_, ?_, ?_, ?_, ?_, ?_, ?_, ?_, ?_⟩ <;> simp [go_sem, *]
/-- What the walk wants of the state. -/
theorem Sd.fzQ {w wr : World} {a b q r : Int} (s : Sd w wr a b q r) (o : Nat) : wr.frozen? ⟨w.heap.size + 1 + 1 + 1, o, none⟩ = false := s.1.fz o (by omega)
theorem Sd.fzR {w wr : World} {a b q r : Int} (s : Sd w wr a b q r) (o : Nat) : wr.frozen? ⟨w.heap.size + 1 + 1 + 1 + 1, o, none⟩ = false := s.1.fz o (by omega)
theorem Sd.fzO {w wr : World} {a b q r : Int} (s : Sd w wr a b q r) (o : Nat) : wr.frozen? ⟨w.heap.size + 1 + 1, o, none⟩ = false := s.1.fz o (by omega)
theorem bit_lo_nat (a i : Nat) (h : i < 64) : a % 18446744073709551616 / 2 ^ i % 2 = a / 2 ^ i % 2 := by
  have e : 18446744073709551616 = 2 ^ i * 2 ^ (64 - i) := by rw [← Nat.pow_add, show i + (64 - i) = 64 by omega]
  have d : 2 ∣ 2 ^ (64 - i) := by rw [show 64 - i = (63 - i) + 1 by omega, Nat.pow_succ]; exact Nat.dvd_mul_left _ _
  rw [e, Nat.mod_mul_right_div_self, Nat.mod_mod_of_dvd _ d]
theorem bit_hi_nat (a i : Nat) (h : 64 ≤ i) : a / 18446744073709551616 / 2 ^ (i - 64) % 2 = a / 2 ^ i % 2 := by
  rw [Nat.div_div_eq_div_mul, show 18446744073709551616 = 2 ^ 64 from rfl, ← Nat.pow_add, show 64 + (i - 64) = i by omega]
theorem bit_lo {a : Int} (a0 : 0 ≤ a) {i : Nat} (h : i < 64) : lo a / 2 ^ i % 2 = a / 2 ^ i % 2 := by
  obtain ⟨a, rfl⟩ := Int.eq_ofNat_of_zero_le a0
  have := bit_lo_nat a i h
  rw [show lo (a : Int) = ((a % 18446744073709551616 : Nat) : Int) by unfold lo; omega]
  generalize a % 18446744073709551616 = m at this ⊢
  exact_mod_cast this
theorem bit_hi {a : Int} (a0 : 0 ≤ a) {i : Nat} (h : 64 ≤ i) : hi a / 2 ^ (i - 64) % 2 = a / 2 ^ i % 2 := by
  obtain ⟨a, rfl⟩ := Int.eq_ofNat_of_zero_le a0
  have := bit_hi_nat a i h
  rw [show hi (a : Int) = ((a / 18446744073709551616 : Nat) : Int) by unfold hi; omega]
  generalize a / 18446744073709551616 = m at this ⊢
  exact_mod_cast this
theorem and_one {X : Int} (h0 : 0 ≤ X) (h1 : X < 18446744073709551616) : bits .and .u64 X 1 = X % 2 := by
  rw [u64_and _ _ h0 h1 (by omega) (by omega), show (1 : Int).toNat = 1 from rfl, nat_mask1]; omega
theorem or_bit {r t : Int} (t0 : 0 ≤ t) (t1 : t < 2) : bits .or .u64 (lo (2 * r)) t = lo (2 * r + t) := by
  obtain ⟨b1, b2⟩ := lo_bd (2 * r)
  rw [or_join' t (lo (2 * r)) 1 t0 (by omega) b1 b2 (by omega) (by unfold lo; omega)]
  unfold lo; omega
theorem shr_bd {x : Int} (h0 : 0 ≤ x) (h1 : x < 18446744073709551616) (k : Nat) : 0 ≤ x / 2 ^ k ∧ x / 2 ^ k < 18446744073709551616 := by
  refine ⟨Int.ediv_nonneg h0 (Int.le_of_lt (Int.pow_pos (by omega))), ?_⟩
  exact Int.lt_of_le_of_lt (Int.ediv_le_self _ h0) h1
/-- The bit of a that comes next. -/
def bt (a : Int) (i : Nat) : Int := a / 2 ^ i % 2
theorem bt_bd (a : Int) (i : Nat) : 0 ≤ bt a i ∧ bt a i < 2 := by unfold bt; omega
theorem step_hi {a r : Int} (a0 : 0 ≤ a) (a1 : a < 340282366920938463463374607431768211456) {i : Nat} (h : 64 ≤ i) : bits .or .u64 (lo (2 * r)) (bits .and .u64 (hi a / 2 ^ (i - 64)) 1) = lo (2 * r + bt a i) := by
  obtain ⟨b1, b2⟩ := hi_bd a0 a1
  obtain ⟨c1, c2⟩ := shr_bd b1 b2 (i - 64)
  rw [and_one c1 c2, bit_hi a0 h]
  exact or_bit (bt_bd a i).1 (bt_bd a i).2
theorem step_lo {a r : Int} (a0 : 0 ≤ a) {i : Nat} (h : i < 64) : bits .or .u64 (lo (2 * r)) (bits .and .u64 (lo a / 2 ^ i) 1) = lo (2 * r + bt a i) := by
  obtain ⟨b1, b2⟩ := lo_bd a
  obtain ⟨c1, c2⟩ := shr_bd b1 b2 i
  rw [and_one c1 c2, bit_lo a0 h]
  exact or_bit (bt_bd a i).1 (bt_bd a i).2
theorem next_bit {a : Int} (g : Nat) (hg : 0 < g) : a / 2 ^ (g - 1) = 2 * (a / 2 ^ g) + bt a (g - 1) := by
  have e : a / 2 ^ g = a / 2 ^ (g - 1) / 2 := by
    rw [Int.ediv_ediv_of_nonneg (Int.le_of_lt (Int.pow_pos (by omega))), ← Int.pow_succ, show (g - 1).succ = g by omega]
  rw [e]; unfold bt; omega
theorem hi_next {r t : Int} (t0 : 0 ≤ t) (t1 : t < 2) : hi (2 * r + t) = hi (2 * r) := by unfold hi; omega
end Go.Proofs.YtdnnidnghaifgaaDoor.wk
