/-
  The reference's quotient of two numbers of 128 bits, bit by bit: it is the quotient.
-/
import Derived.Test.YtlgbagcgfoejhaaWalksE
set_option linter.unusedVariables false
namespace Go.Proofs.Ytlgbagcgfoejhaa
open Go.RowKit

def Sd (w wr : World) (a b q r : Int) : Prop := Up w wr ∧ w.heap.size + 1 + 1 + 1 + 1 < wr.heap.size ∧
  wr.cell? ⟨w.heap.size, 0, none⟩ = some (.int .u64 (hi a)) ∧ wr.cell? ⟨w.heap.size, 1, none⟩ = some (.int .u64 (lo a)) ∧
  wr.cell? ⟨w.heap.size + 1, 0, none⟩ = some (.int .u64 (hi b)) ∧ wr.cell? ⟨w.heap.size + 1, 1, none⟩ = some (.int .u64 (lo b)) ∧
  wr.cell? ⟨w.heap.size + 1 + 1, 0, none⟩ = some (.int .u64 0) ∧ wr.cell? ⟨w.heap.size + 1 + 1, 1, none⟩ = some (.int .u64 0) ∧
  wr.cell? ⟨w.heap.size + 1 + 1 + 1, 0, none⟩ = some (.int .u64 (hi q)) ∧ wr.cell? ⟨w.heap.size + 1 + 1 + 1, 1, none⟩ = some (.int .u64 (lo q)) ∧
  wr.cell? ⟨w.heap.size + 1 + 1 + 1 + 1, 0, none⟩ = some (.int .u64 (hi r)) ∧ wr.cell? ⟨w.heap.size + 1 + 1 + 1 + 1, 1, none⟩ = some (.int .u64 (lo r))
theorem Sd.up {w wr wl : World} {a b q r : Int} (s : Sd w wr a b q r) (h : Up wr wl) : Sd w wl a b q r := by
  obtain ⟨s0, s1, s2, s3, s4, s5, s6, s7, s8, s9, sa, sb⟩ := s
  exact ⟨s0.trans h, Nat.lt_of_lt_of_le s1 h.size, (h.cell _ _ (by omega)).trans s2, (h.cell _ _ (by omega)).trans s3, (h.cell _ _ (by omega)).trans s4, (h.cell _ _ (by omega)).trans s5, (h.cell _ _ (by omega)).trans s6, (h.cell _ _ (by omega)).trans s7, (h.cell _ _ (by omega)).trans s8, (h.cell _ _ (by omega)).trans s9, (h.cell _ _ (by omega)).trans sa, (h.cell _ _ (by omega)).trans sb⟩
theorem Sd.setQ {w wr : World} {a b q r : Int} (s : Sd w wr a b q r) (z : Int) : Sd w ((wr.setCell ⟨w.heap.size + 1 + 1 + 1, 0, none⟩ (.int .u64 (hi z))).setCell ⟨w.heap.size + 1 + 1 + 1, 1, none⟩ (.int .u64 (lo z))) a b z r := by
  obtain ⟨s0, s1, s2, s3, s4, s5, s6, s7, s8, s9, sa, sb⟩ := s
  refine ⟨(s0.setCell (by simp; omega) _).setCell (by simp; omega) _, by rw [size_set, size_set]; exact s1, ?_, ?_, ?_, ?_, ?_, ?_, ?_, ?_, ?_, ?_⟩ <;> simp [go_sem, *]
theorem Sd.setR {w wr : World} {a b q r : Int} (s : Sd w wr a b q r) (z : Int) : Sd w ((wr.setCell ⟨w.heap.size + 1 + 1 + 1 + 1, 0, none⟩ (.int .u64 (hi z))).setCell ⟨w.heap.size + 1 + 1 + 1 + 1, 1, none⟩ (.int .u64 (lo z))) a b q z := by
  obtain ⟨s0, s1, s2, s3, s4, s5, s6, s7, s8, s9, sa, sb⟩ := s
  refine ⟨(s0.setCell (by simp; omega) _).setCell (by simp; omega) _, by rw [size_set, size_set]; exact s1, ?_, ?_, ?_, ?_, ?_, ?_, ?_, ?_, ?_, ?_⟩ <;> simp [go_sem, *]
theorem Sd.setQlo {w wr : World} {a b q r : Int} (s : Sd w wr a b q r) (z : Int) (h : hi z = hi q) : Sd w (wr.setCell ⟨w.heap.size + 1 + 1 + 1, 1, none⟩ (.int .u64 (lo z))) a b z r := by
  obtain ⟨s0, s1, s2, s3, s4, s5, s6, s7, s8, s9, sa, sb⟩ := s
  refine ⟨s0.setCell (by simp; omega) _, by rw [size_set]; exact s1, ?_, ?_, ?_, ?_, ?_, ?_, ?_, ?_, ?_, ?_⟩ <;> simp [go_sem, *]
theorem Sd.setRlo {w wr : World} {a b q r : Int} (s : Sd w wr a b q r) (z : Int) (h : hi z = hi r) : Sd w (wr.setCell ⟨w.heap.size + 1 + 1 + 1 + 1, 1, none⟩ (.int .u64 (lo z))) a b q z := by
  obtain ⟨s0, s1, s2, s3, s4, s5, s6, s7, s8, s9, sa, sb⟩ := s
  refine ⟨s0.setCell (by simp; omega) _, by rw [size_set]; exact s1, ?_, ?_, ?_, ?_, ?_, ?_, ?_, ?_, ?_, ?_⟩ <;> simp [go_sem, *]
/-- What the walk wants of the state. -/
theorem Sd.fzQ {w wr : World} {a b q r : Int} (s : Sd w wr a b q r) (o : Nat) : wr.frozen? ⟨w.heap.size + 1 + 1 + 1, o, none⟩ = false := s.1.fz o (by omega)
theorem Sd.fzR {w wr : World} {a b q r : Int} (s : Sd w wr a b q r) (o : Nat) : wr.frozen? ⟨w.heap.size + 1 + 1 + 1 + 1, o, none⟩ = false := s.1.fz o (by omega)
theorem Sd.fzO {w wr : World} {a b q r : Int} (s : Sd w wr a b q r) (o : Nat) : wr.frozen? ⟨w.heap.size + 1 + 1, o, none⟩ = false := s.1.fz o (by omega)
theorem bit_lo_nat (a i : Nat) (h : i < 64) : a % 18446744073709551616 / 2 ^ i % 2 = a / 2 ^ i % 2 := by
  have e : 18446744073709551616 = 2 ^ i * 2 ^ (64 - i) := by rw [← Nat.pow_add, show i + (64 - i) = 64 by omega]
  have d : 2 ∣ 2 ^ (64 - i) := by rw [show 64 - i = (63 - i) + 1 by omega, Nat.pow_succ]; exact Nat.dvd_mul_left _ _
  rw [e, Nat.mod_mul_right_div_self, Nat.mod_mod_of_dvd _ d]
theorem bit_hi_nat (a i : Nat) (h : 64 ≤ i) : a / 18446744073709551616 / 2 ^ (i - 64) % 2 = a / 2 ^ i % 2 := by
  rw [Nat.div_div_eq_div_mul, show 18446744073709551616 = 2 ^ 64 from rfl, ← Nat.pow_add, show 64 + (i - 64) = i by omega]
theorem bit_lo {a : Int} (a0 : 0 ≤ a) {i : Nat} (h : i < 64) : lo a / 2 ^ i % 2 = a / 2 ^ i % 2 := by
  obtain ⟨a, rfl⟩ := Int.eq_ofNat_of_zero_le a0
  have := bit_lo_nat a i h
  rw [show lo (a : Int) = ((a % 18446744073709551616 : Nat) : Int) by unfold lo; omega]
  generalize a % 18446744073709551616 = m at this ⊢
  exact_mod_cast this
theorem bit_hi {a : Int} (a0 : 0 ≤ a) {i : Nat} (h : 64 ≤ i) : hi a / 2 ^ (i - 64) % 2 = a / 2 ^ i % 2 := by
  obtain ⟨a, rfl⟩ := Int.eq_ofNat_of_zero_le a0
  have := bit_hi_nat a i h
  rw [show hi (a : Int) = ((a / 18446744073709551616 : Nat) : Int) by unfold hi; omega]
  generalize a / 18446744073709551616 = m at this ⊢
  exact_mod_cast this
theorem and_one {X : Int} (h0 : 0 ≤ X) (h1 : X < 18446744073709551616) : bits .and .u64 X 1 = X % 2 := by
  rw [u64_and _ _ h0 h1 (by omega) (by omega), show (1 : Int).toNat = 1 from rfl, nat_mask1]; omega
theorem or_bit {r t : Int} (t0 : 0 ≤ t) (t1 : t < 2) : bits .or .u64 (lo (2 * r)) t = lo (2 * r + t) := by
  obtain ⟨b1, b2⟩ := lo_bd (2 * r)
  rw [or_join' t (lo (2 * r)) 1 t0 (by omega) b1 b2 (by omega) (by unfold lo; omega)]
  unfold lo; omega
theorem shr_bd {x : Int} (h0 : 0 ≤ x) (h1 : x < 18446744073709551616) (k : Nat) : 0 ≤ x / 2 ^ k ∧ x / 2 ^ k < 18446744073709551616 := by
  refine ⟨Int.ediv_nonneg h0 (Int.le_of_lt (Int.pow_pos (by omega))), ?_⟩
  exact Int.lt_of_le_of_lt (Int.ediv_le_self _ h0) h1
/-- The bit of a that comes next. -/
def bt (a : Int) (i : Nat) : Int := a / 2 ^ i % 2
theorem bt_bd (a : Int) (i : Nat) : 0 ≤ bt a i ∧ bt a i < 2 := by unfold bt; omega
theorem step_hi {a r : Int} (a0 : 0 ≤ a) (a1 : a < 340282366920938463463374607431768211456) {i : Nat} (h : 64 ≤ i) : bits .or .u64 (lo (2 * r)) (bits .and .u64 (hi a / 2 ^ (i - 64)) 1) = lo (2 * r + bt a i) := by
  obtain ⟨b1, b2⟩ := hi_bd a0 a1
  obtain ⟨c1, c2⟩ := shr_bd b1 b2 (i - 64)
  rw [and_one c1 c2, bit_hi a0 h]
  exact or_bit (bt_bd a i).1 (bt_bd a i).2
theorem step_lo {a r : Int} (a0 : 0 ≤ a) {i : Nat} (h : i < 64) : bits .or .u64 (lo (2 * r)) (bits .and .u64 (lo a / 2 ^ i) 1) = lo (2 * r + bt a i) := by
  obtain ⟨b1, b2⟩ := lo_bd a
  obtain ⟨c1, c2⟩ := shr_bd b1 b2 i
  rw [and_one c1 c2, bit_lo a0 h]
  exact or_bit (bt_bd a i).1 (bt_bd a i).2
theorem next_bit {a : Int} (g : Nat) (hg : 0 < g) : a / 2 ^ (g - 1) = 2 * (a / 2 ^ g) + bt a (g - 1) := by
  have e : a / 2 ^ g = a / 2 ^ (g - 1) / 2 := by
    rw [Int.ediv_ediv_of_nonneg (Int.le_of_lt (Int.pow_pos (by omega))), ← Int.pow_succ, show (g - 1).succ = g by omega]
  rw [e]; unfold bt; omega
theorem hi_next {r t : Int} (t0 : 0 ≤ t) (t1 : t < 2) : hi (2 * r + t) = hi (2 * r) := by unfold hi; omega
set_option maxHeartbeats 4000000 in
theorem div_any (a b : Int) (w : World) (a0 : 0 ≤ a) (a1 : a < 340282366920938463463374607431768211456) (b0 : 0 < b) (b1 : b < 170141183460469231731687303715884105728) :
    Calls Try.prog 50 #[.agg #[.int .u64 (hi a), .int .u64 (lo a)], .agg #[.int .u64 (hi b), .int .u64 (lo b)]] w fun e w' => e = .returned (.agg #[.int .u64 (hi (a / b)), .int .u64 (lo (a / b))]) ∧ Up w w' := by
  go_enter Try.func50, Try.ntmps50
  go_wp2_with fail
  go_loopg [7] 128 (fun g n wr => ∃ (q r : Int) , n = .int .i64 ((g : Int) - 1) ∧ g ≤ 128 ∧ 0 ≤ r ∧ r < b ∧ 0 ≤ q ∧ Hid (a / 2 ^ g = q * b + r) ∧ Sd w wr a b q r)
  case atStart =>
    refine ⟨0, 0, rfl, by omega, by omega, b0, by omega, ?_, ?_⟩
    · rw [Hid, Int.ediv_eq_zero_of_lt a0 (by simpa using a1)]; simp
    · refine ⟨by repeat (first | exact Up.refl _ | apply Up.alloc), ?_, ?_, ?_, ?_, ?_, ?_, ?_, ?_, ?_, ?_, ?_⟩ <;> simp [go_sem, hi, lo]
  case round =>
    obtain ⟨q, r, rfl, hg, r0, r1, q0, hq, s⟩ := hrel
    obtain ⟨c0, c1, c2, c3, c4, c5, c6, c7, c8, c9, ca, cb⟩ := id s
    have hf0 := s.fzQ
    have hf1 := s.fzR
    by_cases hg0 : gk = 0
    · subst hg0
      have hfin : Hid (a / b = q) := by
        have e := hq.out
        rw [Int.pow_zero, Int.ediv_one] at e
        rw [Hid, e, Int.add_comm, Int.add_mul_ediv_right _ _ (by omega), Int.ediv_eq_zero_of_lt r0 r1, Int.zero_add]
      have hfo := s.fzO
      clear hq
      go_wp2
      refine bodyPost_ret (v := .agg #[.int .u64 (hi q), .int .u64 (lo q)]) (by simp [results, Try.results50, go_sem, *]) rfl ⟨by rw [hfin.out], (c0.setCell (by simp; omega) _).setCell (by simp; omega) _⟩
    · have hg1 : 0 < gk := by omega
      have hn1 := next_bit (a := a) gk hg1
      rw [hq.out] at hn1
      obtain ⟨b2, b3⟩ := bt_bd a (gk - 1)
      have hh := hi_next (r := r) b2 b3
      have hh2 : hi (2 * q + 1) = hi (2 * q) := hi_next (by omega) (by omega)
      have q1 : q < 170141183460469231731687303715884105728 := by
        have e1 : q * 1 ≤ q * b := Int.mul_le_mul_of_nonneg_left (by omega) q0
        have e2 : a / 2 ^ (gk - 1) ≤ a := Int.ediv_le_self _ a0
        omega
      have HN : Hid _ := hn1
      have HH : Hid _ := hh
      have HH2 : Hid _ := hh2
      have hq5 : Hid (bits .or .u64 (lo (2 * q)) 1 = lo (2 * q + 1)) := or_bit (by omega) (by omega)
      clear hn1 hq hh hh2
      have hgi : (1 : Int) ≤ (gk : Int) := by omega
      have hsplit : (∃ (_ : 64 < gk), Hid (bits .or .u64 (lo (2 * r)) (bits .and .u64 (hi a / 2 ^ (gk - 1 - 64)) 1) = lo (2 * r + bt a (gk - 1)))) ∨ (∃ (_ : ¬ 64 < gk), Hid (bits .or .u64 (lo (2 * r)) (bits .and .u64 (lo a / 2 ^ (gk - 1)) 1) = lo (2 * r + bt a (gk - 1)))) := by
        by_cases h : 64 < gk
        · exact Or.inl ⟨h, step_hi a0 a1 (by omega)⟩
        · exact Or.inr ⟨h, step_lo a0 (by omega)⟩
      rcases hsplit with ⟨h64, E⟩ | ⟨h64, E⟩
      all_goals
        by_cases hlt : 2 * r + bt a (gk - 1) < b
        · have bl : decide (2 * r + bt a (gk - 1) < b) = true := by simpa using hlt
          go_wp2_with (first | (go_at_call 60; rw [E.out]; refine (twice_up _ _ q0 q1).mono ?_; rintro _ wm ⟨rfl, hm⟩; have sm := ((sl.setR (2 * r)).setRlo (2 * r + bt a (gk - 1)) HH).up hm; obtain ⟨t0, t1, t2, t3, t4, t5, t6, t7, t8, t9, ta, tb⟩ := id sm; have hf2 := sm.fzQ; have hf3 := sm.fzR) | (go_at_call 60; refine (twice_up _ _ (by omega) (by omega)).mono ?_; rintro _ wl ⟨rfl, hl⟩; have sl := s.up hl; obtain ⟨t0, t1, t2, t3, t4, t5, t6, t7, t8, t9, ta, tb⟩ := id sl; have hf2 := sl.fzQ; have hf3 := sl.fzR) | (go_at_call 47; refine (less_up _ _ _).mono ?_; rintro _ wn ⟨rfl, hn⟩; have sn := (sm.setQ (2 * q)).up hn; obtain ⟨t0, t1, t2, t3, t4, t5, t6, t7, t8, t9, ta, tb⟩ := id sn; have hf2 := sn.fzQ; have hf3 := sn.fzR; simp only [bl]))
          go_roundg (gk - 1)
          case measure => omega
          case rel => exact ⟨2 * q, 2 * r + bt a (gk - 1), by go_num, by omega, by omega, hlt, by omega, by rw [Hid, HN.out, Int.mul_assoc]; omega, sn⟩
        · have bl : decide (2 * r + bt a (gk - 1) < b) = false := by simpa using hlt
          go_wp2_with (first | (go_at_call 60; rw [E.out]; refine (twice_up _ _ q0 q1).mono ?_; rintro _ wm ⟨rfl, hm⟩; have sm := ((sl.setR (2 * r)).setRlo (2 * r + bt a (gk - 1)) HH).up hm; obtain ⟨t0, t1, t2, t3, t4, t5, t6, t7, t8, t9, ta, tb⟩ := id sm; have hf2 := sm.fzQ; have hf3 := sm.fzR) | (go_at_call 60; refine (twice_up _ _ (by omega) (by omega)).mono ?_; rintro _ wl ⟨rfl, hl⟩; have sl := s.up hl; obtain ⟨t0, t1, t2, t3, t4, t5, t6, t7, t8, t9, ta, tb⟩ := id sl; have hf2 := sl.fzQ; have hf3 := sl.fzR) | (go_at_call 47; refine (less_up _ _ _).mono ?_; rintro _ wn ⟨rfl, hn⟩; have sn := (sm.setQ (2 * q)).up hn; obtain ⟨t0, t1, t2, t3, t4, t5, t6, t7, t8, t9, ta, tb⟩ := id sn; have hf2 := sn.fzQ; have hf3 := sn.fzR; simp only [bl]) | (go_at_call 55; refine (sub_up _ _ _ (by omega) (by omega) (by omega)).mono ?_; rintro _ wo ⟨rfl, ho⟩; have so := sn.up ho; obtain ⟨t0, t1, t2, t3, t4, t5, t6, t7, t8, t9, ta, tb⟩ := id so; have hf2 := so.fzQ; have hf3 := so.fzR))
          rw [hq5.out]
          go_roundg (gk - 1)
          case measure => omega
          case rel => exact ⟨2 * q + 1, 2 * r + bt a (gk - 1) - b, by go_num, by omega, by omega, by omega, by omega, by rw [Hid, HN.out, Int.add_mul, Int.mul_assoc]; omega, (so.setR _).setQlo _ HH2⟩
end Go.Proofs.Ytlgbagcgfoejhaa
