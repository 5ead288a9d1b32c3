/-
  The reference's quotient of two numbers of 128 bits, bit by bit: it is the quotient.
-/
import Derived.Test.YthnkaimhmldjoaaDoorWalksE
set_option linter.unusedVariables false
namespace Go.Proofs.YthnkaimhmldjoaaDoor
open Go.RowKit

def Sd (w wr : World) (a b q r : Int) : Prop := Up w wr ∧ w.heap.size + 1 + 1 + 1 + 1 < wr.heap.size ∧
  wr.cell? ⟨w.heap.size, 0, none⟩ = some (.int .u64 (hi a)) ∧ wr.cell? ⟨w.heap.size, 1, none⟩ = some (.int .u64 (lo a)) ∧
  wr.cell? ⟨w.heap.size + 1, 0, none⟩ = some (.int .u64 (hi b)) ∧ wr.cell? ⟨w.heap.size + 1, 1, none⟩ = some (.int .u64 (lo b)) ∧
  wr.cell? ⟨w.heap.size + 1 + 1, 0, none⟩ = some (.int .u64 0) ∧ wr.cell? ⟨w.heap.size + 1 + 1, 1, none⟩ = some (.int .u64 0) ∧
  wr.cell? ⟨w.heap.size + 1 + 1 + 1, 0, none⟩ = some (.int .u64 (hi q)) ∧ wr.cell? ⟨w.heap.size + 1 + 1 + 1, 1, none⟩ = some (.int .u64 (lo q)) ∧
  wr.cell? ⟨w.heap.size + 1 + 1 + 1 + 1, 0, none⟩ = some (.int .u64 (hi r)) ∧ wr.cell? ⟨w.heap.size + 1 + 1 + 1 + 1, 1, none⟩ = some (.int .u64 (lo r))
theorem Sd.up {w wr wl : World} {a b q r : Int} (s : Sd w wr a b q r) (h : Up wr wl) : Sd w wl a b q r := by
  obtain ⟨s0, s1, s2, s3, s4, s5, s6, s7, s8, s9, sa, sb⟩ := s
  exact ⟨s0.trans h, Nat.lt_of_lt_of_le s1 h.size, (h.cell _ _ (by omega)).trans s2, (h.cell _ _ (by omega)).trans s3, (h.cell _ _ (by omega)).trans s4, (h.cell _ _ (by omega)).trans s5, (h.cell _ _ (by omega)).trans s6, (h.cell _ _ (by omega)).trans s7, (h.cell _ _ (by omega)).trans s8, (h.cell _ _ (by omega)).trans s9, (h.cell _ _ (by omega)).trans sa, (h.cell _ _ (by omega)).trans sb⟩
theorem Sd.setQ {w wr : World} {a b q r : Int} (s : Sd w wr a b q r) (z : Int) : Sd w ((wr.setCell ⟨w.heap.size + 1 + 1 + 1, 0, none⟩ (.int .u64 (hi z))).setCell ⟨w.heap.size + 1 + 1 + 1, 1, none⟩ (.int .u64 (lo z))) a b z r := by
  obtain ⟨s0, s1, s2, s3, s4, s5, s6, s7, s8, s9, sa, sb⟩ := s
  refine ⟨(s0.setCell (by simp; omega) _).setCell (by simp; omega) _, by rw [size_set, size_set]; exact s1, ?_, ?_, ?_, ?_, ?_, ?_, ?_, ?_, ?_, ?_⟩ <;> simp [go_sem, *]
theorem Sd.setR {w wr : World} {a b q r : Int} (s : Sd w wr a b q r) (z : Int) : Sd w ((wr.setCell ⟨w.heap.size + 1 + 1 + 1 + 1, 0, none⟩ (.int .u64 (hi z))).setCell ⟨w.heap.size + 1 + 1 + 1 + 1, 1, none⟩ (.int .u64 (lo z))) a b q z := by
  obtain ⟨s0, s1, s2, s3, s4, s5, s6, s7, s8, s9, sa, sb⟩ := s
  refine ⟨(s0.setCell (by simp; omega) _).setCell (by simp; omega) _, by rw [size_set, size_set]; exact s1, ?_, ?_, ?_, ?_, ?_, ?_, ?_, ?_, ?_, ?_⟩ <;> simp [go_sem, *]
theorem Sd.setQlo {w wr : World} {a b q r : Int} (s : Sd w wr a b q r) (z : Int) (h : hi z = hi q) : Sd w (wr.setCell ⟨w.heap.size + 1 + 1 + 1, 1, none⟩ (.int .u64 (lo z))) a b z r := by
  obtain ⟨s0, s1, s2, s3, s4, s5, s6, s7, s8, s9, sa, sb⟩ := s
  refine ⟨s0.setCell (by simp; omega) _, by rw [size_set]; exact s1, ?_, ?_, ?_, ?_, ?_, ?_, ?_, ?_, ?_, ?_⟩ <;> simp [go_sem, *]
theorem Sd.setRlo {w wr : World} {a b q r : Int} (s : Sd w wr a b q r) (z : Int) (h : hi z = hi r) : Sd w (wr.setCell ⟨w.heap.size + 1 + 1 + 1 + 1, 1, none⟩ (.int .u64 (lo z))) a b q z := by
  obtain ⟨s0, s1, s2, s3, s4, s5, s6, s7, s8, s9, sa, sb⟩ := s
  refine ⟨s0.setCell (by simp; omega) _, by rw [size_set]; exact s1, ?_, ?_, ?_, ?_, ?_, ?_, ?_, ?_, ?_, ?_⟩ <;> simp [go_sem, *]
/-- What the walk wants of the state. -/
theorem Sd.fzQ {w wr : World} {a b q r : Int} (s : Sd w wr a b q r) (o : Nat) : wr.frozen? ⟨w.heap.size + 1 + 1 + 1, o, none⟩ = false := s.1.fz o (by omega)
theorem Sd.fzR {w wr : World} {a b q r : Int} (s : Sd w wr a b q r) (o : Nat) : wr.frozen? ⟨w.heap.size + 1 + 1 + 1 + 1, o, none⟩ = false := s.1.fz o (by omega)
theorem Sd.fzO {w wr : World} {a b q r : Int} (s : Sd w wr a b q r) (o : Nat) : wr.frozen? ⟨w.heap.size + 1 + 1, o, none⟩ = false := s.1.fz o (by omega)
theorem bit_lo_nat (a i : Nat) (h : i < 64) : a % 18446744073709551616 / 2 ^ i % 2 = a / 2 ^ i % 2 := by
  have e : 18446744073709551616 = 2 ^ i * 2 ^ (64 - i) := by rw [← Nat.pow_add, show i + (64 - i) = 64 by omega]
  have d : 2 ∣ 2 ^ (64 - i) := by rw [show 64 - i = (63 - i) + 1 by omega, Nat.pow_succ]; exact Nat.dvd_mul_left _ _
  rw [e, Nat.mod_mul_right_div_self, Nat.mod_mod_of_dvd _ d]
theorem bit_hi_nat (a i : Nat) (h : 64 ≤ i) : a / 18446744073709551616 / 2 ^ (i - 64) % 2 = a / 2 ^ i % 2 := by
  rw [Nat.div_div_eq_div_mul, show 18446744073709551616 = 2 ^ 64 from rfl, ← Nat.pow_add, show 64 + (i - 64) = i by omega]
theorem bit_lo {a : Int} (a0 : 0 ≤ a) {i : Nat} (h : i < 64) : lo a / 2 ^ i % 2 = a / 2 ^ i % 2 := by
  obtain ⟨a, rfl⟩ := Int.eq_ofNat_of_zero_le a0
  have := bit_lo_nat a i h
  rw [show lo (a : Int) = ((a % 18446744073709551616 : Nat) : Int) by unfold lo; omega]
  generalize a % 18446744073709551616 = m at this ⊢
  exact_mod_cast this
theorem bit_hi {a : Int} (a0 : 0 ≤ a) {i : Nat} (h : 64 ≤ i) : hi a / 2 ^ (i - 64) % 2 = a / 2 ^ i % 2 := by
  obtain ⟨a, rfl⟩ := Int.eq_ofNat_of_zero_le a0
  have := bit_hi_nat a i h
  rw [show hi (a : Int) = ((a / 18446744073709551616 : Nat) : Int) by unfold hi; omega]
  generalize a / 18446744073709551616 = m at this ⊢
  exact_mod_cast this
theorem and_one {X : Int} (h0 : 0 ≤ X) (h1 : X < 18446744073709551616) : bits .and .u64 X 1 = X % 2 := by
  rw [u64_and _ _ h0 h1 (by omega) (by omega), show (1 : Int).toNat = 1 from rfl, nat_mask1]; omega
theorem or_bit {r t : Int} (t0 : 0 ≤ t) (t1 : t < 2) : bits .or .u64 (lo (2 * r)) t = lo (2 * r + t) := by
  obtain ⟨b1, b2⟩ := lo_bd (2 * r)
  rw [or_join' t (lo (2 * r)) 1 t0 (by omega) b1 b2 (by omega) (by unfold lo; omega)]
  unfold lo; omega
theorem shr_bd {x : Int} (h0 : 0 ≤ x) (h1 : x < 18446744073709551616) (k : Nat) : 0 ≤ x / 2 ^ k ∧ x / 2 ^ k < 18446744073709551616 := by
  refine ⟨Int.ediv_nonneg h0 (Int.le_of_lt (Int.pow_pos (by omega))), ?_⟩
  exact Int.lt_of_le_of_lt (Int.ediv_le_self _ h0) h1
/-- The bit of a that comes next. -/
def bt (a : Int) (i : Nat) : Int := a / 2 ^ i % 2
theorem bt_bd (a : Int) (i : Nat) : 0 ≤ bt a i ∧ bt a i < 2 := by unfold bt; omega
theorem step_hi {a r : Int} (a0 : 0 ≤ a) (a1 : a < 340282366920938463463374607431768211456) {i : Nat} (h : 64 ≤ i) : bits .or .u64 (lo (2 * r)) (bits .and .u64 (hi a / 2 ^ (i - 64)) 1) = lo (2 * r + bt a i) := by
  obtain ⟨b1, b2⟩ := hi_bd a0 a1
  obtain ⟨c1, c2⟩ := shr_bd b1 b2 (i - 64)
  rw [and_one c1 c2, bit_hi a0 h]
  exact or_bit (bt_bd a i).1 (bt_bd a i).2
theorem step_lo {a r : Int} (a0 : 0 ≤ a) {i : Nat} (h : i < 64) : bits .or .u64 (lo (2 * r)) (bits .and .u64 (lo a / 2 ^ i) 1) = lo (2 * r + bt a i) := by
  obtain ⟨b1, b2⟩ := lo_bd a
  obtain ⟨c1, c2⟩ := shr_bd b1 b2 i
  rw [and_one c1 c2, bit_lo a0 h]
  exact or_bit (bt_bd a i).1 (bt_bd a i).2
theorem next_bit {a : Int} (g : Nat) (hg : 0 < g) : a / 2 ^ (g - 1) = 2 * (a / 2 ^ g) + bt a (g - 1) := by
  have e : a / 2 ^ g = a / 2 ^ (g - 1) / 2 := by
    rw [Int.ediv_ediv_of_nonneg (Int.le_of_lt (Int.pow_pos (by omega))), ← Int.pow_succ, show (g - 1).succ = g by omega]
  rw [e]; unfold bt; omega
theorem hi_next {r t : Int} (t0 : 0 ≤ t) (t1 : t < 2) : hi (2 * r + t) = hi (2 * r) := by unfold hi; omega
end Go.Proofs.YthnkaimhmldjoaaDoor
