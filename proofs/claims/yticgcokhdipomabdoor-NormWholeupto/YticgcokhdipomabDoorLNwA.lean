/-
  Whole small numbers, few of them: plain.
-/
import Derived.Test.YticgcokhdipomabDoorLNuB
set_option linter.unusedVariables false
set_option linter.unusedSimpArgs false
namespace Go.Proofs.YticgcokhdipomabDoor.nm
open Go.RowKit cc

theorem gc_one (n : Int) : wk.gc n 1 = 1 := by unfold wk.gc; simp
theorem isV_one {z : Int} (h1 : -9223372036854775808 < z) : wk.isV z 1 = true := by
  unfold wk.isV
  rw [gc_one]
  simp
  omega
theorem low_one (neg : Bool) {n : Int} (h : n ≤ 9223372036854775807) : wk.lowN neg n 1 = (if neg then -n else n) ∧ wk.lowD n 1 = 1 := by
  have hf : wk.fits n 1 = true := by
    unfold wk.fits
    rw [gc_one]
    simp
    exact h
  unfold wk.lowN wk.lowD
  rw [hf, gc_one]
  simp
theorem ab_abs (z : Int) : wk.ab z = (z.natAbs : Int) := by unfold wk.ab; split <;> omega
theorem mul_one {a b : Int} (ha : a.natAbs < 9223372036854775808) (hb : b.natAbs < 9223372036854775808) (h : (a * b).natAbs < 9223372036854775808) : wk.mulN a 1 b 1 = a * b ∧ wk.mulD a 1 b 1 = 1 := by
  have hab : wk.ab a * wk.ab b = ((a * b).natAbs : Int) := by rw [ab_abs, ab_abs, Int.natAbs_mul]; simp
  obtain ⟨e1, e2⟩ := low_one (wk.ng a b) (n := ((a * b).natAbs : Int)) (by omega)
  unfold wk.mulN wk.mulD
  rw [isV_one (z := a) (by omega), isV_one (z := b) (by omega), hab]
  simp only [Bool.and_self, if_true, Int.mul_one]
  rw [e1, e2]
  refine ⟨?_, rfl⟩
  unfold wk.ng
  by_cases h1 : a < 0
  · by_cases h2 : b < 0
    · have := Int.mul_pos_of_neg_of_neg h1 h2
      simp [h1, h2]
      omega
    · by_cases h3 : b = 0
      · subst h3; simp
      · have := Int.mul_neg_of_neg_of_pos h1 (show 0 < b by omega)
        simp [h1, h2]
        omega
  · by_cases h2 : b < 0
    · by_cases h3 : a = 0
      · subst h3; simp
      · have := Int.mul_neg_of_pos_of_neg (show 0 < a by omega) h2
        simp [h1, h2]
        omega
    · have := Int.mul_nonneg (show 0 ≤ a by omega) (show 0 ≤ b by omega)
      simp [h1, h2]
      omega
theorem add_one {a b : Int} (ha : a.natAbs < 4611686018427387904) (hb : b.natAbs < 4611686018427387904) : wk.addN a 1 b 1 = a + b ∧ wk.addD a 1 b 1 = 1 := by
  have hm : wk.mg a b (wk.ab a * 1) (wk.ab b * 1) ≤ 9223372036854775807 := by
    rw [ab_abs, ab_abs]
    unfold wk.mg
    split <;> (try split) <;> omega
  obtain ⟨e1, e2⟩ := low_one (wk.belw a b (wk.ab a * 1) (wk.ab b * 1)) hm
  unfold wk.addN wk.addD
  rw [isV_one (z := a) (by omega), isV_one (z := b) (by omega)]
  simp only [Bool.and_self, if_true, Int.mul_one] at e1 e2 ⊢
  rw [e1, e2]
  refine ⟨?_, rfl⟩
  rw [ab_abs, ab_abs]
  unfold wk.belw wk.mg
  by_cases h1 : a < 0 <;> by_cases h2 : b < 0 <;> simp [h1, h2]
  · omega
  · split <;> (try simp) <;> omega
  · split <;> (try simp) <;> omega
  · omega
/-- A whole number that is less than 1024 to the power c. -/
def Wh (r : Int × Int) (c : Nat) : Prop := ∃ z : Int, r = (z, 1) ∧ z.natAbs < 1024 ^ c
theorem pow_six {c : Nat} (h : c ≤ 6) : 1024 ^ c ≤ 1152921504606846976 := Nat.le_trans (Nat.pow_le_pow_right (by decide) h) (by decide)
theorem Wh.mono {r : Int × Int} {c d : Nat} (h : Wh r c) (hc : c ≤ d) : Wh r d := by
  obtain ⟨z, h1, h2⟩ := h
  exact ⟨z, h1, Nat.lt_of_lt_of_le h2 (Nat.pow_le_pow_right (by decide) hc)⟩
theorem nat_two {a b A B : Nat} (h1 : a < A) (h2 : b < B) : a + b < A * B ∧ a * b < A * B := by
  obtain ⟨x, rfl⟩ : ∃ x, A = x + 1 := ⟨A - 1, by omega⟩
  obtain ⟨y, rfl⟩ : ∃ y, B = y + 1 := ⟨B - 1, by omega⟩
  have e : (x + 1) * (y + 1) = x * y + x + y + 1 := by rw [Nat.add_mul, Nat.mul_add]; omega
  have hm : a * b ≤ x * y := Nat.mul_le_mul (by omega) (by omega)
  rw [e]
  omega
theorem Wh.add {r s : Int × Int} {c d : Nat} (h : Wh r c) (k : Wh s d) (h6 : c + d ≤ 6) : Wh (wk.addN r.1 r.2 s.1 s.2, wk.addD r.1 r.2 s.1 s.2) (c + d) := by
  obtain ⟨a, rfl, ha⟩ := h
  obtain ⟨b, rfl, hb⟩ := k
  have pa := pow_six (c := c) (by omega)
  have pb := pow_six (c := d) (by omega)
  obtain ⟨e1, e2⟩ := add_one (a := a) (b := b) (by omega) (by omega)
  refine ⟨a + b, by rw [e1, e2], ?_⟩
  rw [Nat.pow_add]
  exact Nat.lt_of_le_of_lt (Int.natAbs_add_le a b) (nat_two ha hb).1
theorem Wh.mul {r s : Int × Int} {c d : Nat} (h : Wh r c) (k : Wh s d) (h6 : c + d ≤ 6) : Wh (wk.mulN r.1 r.2 s.1 s.2, wk.mulD r.1 r.2 s.1 s.2) (c + d) := by
  obtain ⟨a, rfl, ha⟩ := h
  obtain ⟨b, rfl, hb⟩ := k
  have pa := pow_six (c := c) (by omega)
  have pb := pow_six (c := d) (by omega)
  have pc := pow_six h6
  have hm : (a * b).natAbs < 1024 ^ (c + d) := by rw [Int.natAbs_mul, Nat.pow_add]; exact (nat_two ha hb).2
  obtain ⟨e1, e2⟩ := mul_one (a := a) (b := b) (by omega) (by omega) (by omega)
  exact ⟨a * b, by rw [e1, e2], hm⟩
theorem Wh.neg {r : Int × Int} {c : Nat} (h : Wh r c) (h6 : c ≤ 6) : Wh (ngR r) c := by
  obtain ⟨a, rfl, ha⟩ := h
  have pa := pow_six h6
  unfold ngR wk.ngN wk.ngD
  rw [isV_one (z := a) (by omega)]
  exact ⟨-a, rfl, by rw [Int.natAbs_neg]; exact ha⟩
theorem Wh.val {r : Int × Int} {c : Nat} (h : Wh r c) (h6 : c ≤ 6) : wk.isV r.1 r.2 = true := by
  obtain ⟨a, rfl, ha⟩ := h
  have pa := pow_six h6
  exact isV_one (by omega)
/-- How many they are together. -/
def smC (l : List ((Int × Int) × Nat)) : Nat := (l.map Prod.snd).sum
theorem smC_cons (p : (Int × Int) × Nat) (l : List ((Int × Int) × Nat)) : smC (p :: l) = p.2 + smC l := rfl
theorem fold_wh (f : Int × Int → Int × Int → Int × Int) (hf : ∀ r s c d, Wh r c → Wh s d → c + d ≤ 6 → Wh (f r s) (c + d)) : ∀ (l : List ((Int × Int) × Nat)) (r : Int × Int) (c : Nat), (∀ p ∈ l, Wh p.1 p.2) → Wh r c → c + smC l ≤ 6 → Wh ((l.map Prod.fst).foldl f r) (c + smC l) := by
  intro l
  induction l with
  | nil => intro r c _ hr _; exact hr
  | cons p l ih =>
    intro r c hl hr h6
    rw [smC_cons] at h6 ⊢
    have := ih (f r p.1) (c + p.2) (fun q hq => hl q (by simp [hq])) (hf r p.1 c p.2 hr (hl p (by simp)) (by omega)) (by omega)
    rwa [show c + (p.2 + smC l) = c + p.2 + smC l by omega]
theorem add_wh (l : List ((Int × Int) × Nat)) (h : ∀ p ∈ l, Wh p.1 p.2) (h6 : smC l ≤ 6) : Wh (wk.addAll (l.map Prod.fst)) (smC l) := by
  have := fold_wh (fun p r => (wk.addN p.1 p.2 r.1 r.2, wk.addD p.1 p.2 r.1 r.2)) (fun r s c d hr hs hc => hr.add hs hc) l (0, 1) 0 h ⟨0, rfl, by decide⟩ (by omega)
  rwa [Nat.zero_add] at this
theorem mul_wh (p : (Int × Int) × Nat) (l : List ((Int × Int) × Nat)) (h : ∀ q ∈ p :: l, Wh q.1 q.2) (h6 : smC (p :: l) ≤ 6) : Wh (wk.mulAll ((p :: l).map Prod.fst)) (smC (p :: l)) := by
  rw [smC_cons] at h6 ⊢
  have h1 : (fun (q r : Int × Int) => (wk.mulN q.1 q.2 r.1 r.2, wk.mulD q.1 q.2 r.1 r.2)) (1, 1) p.1 = p.1 := by
    obtain ⟨z, hz, hb⟩ := h p (by simp)
    have pa := pow_six (c := p.2) (by omega)
    obtain ⟨e1, e2⟩ := mul_one (a := 1) (b := z) (by decide) (by omega) (by rw [Int.one_mul]; omega)
    show (wk.mulN 1 1 p.1.1 p.1.2, wk.mulD 1 1 p.1.1 p.1.2) = p.1
    rw [hz]
    show (wk.mulN 1 1 z 1, wk.mulD 1 1 z 1) = (z, 1)
    rw [e1, e2, Int.one_mul]
  have := fold_wh (fun p r => (wk.mulN p.1 p.2 r.1 r.2, wk.mulD p.1 p.2 r.1 r.2)) (fun r s c d hr hs hc => hr.mul hs hc) l p.1 p.2 (fun q hq => h q (by simp [hq])) (h p (by simp)) h6
  unfold wk.mulAll
  rw [List.map_cons, List.foldl_cons]
  rw [show (wk.mulN ((1 : Int), (1 : Int)).1 ((1 : Int), (1 : Int)).2 p.1.1 p.1.2, wk.mulD ((1 : Int), (1 : Int)).1 ((1 : Int), (1 : Int)).2 p.1.1 p.1.2) = p.1 from h1]
  exact this
theorem ut_mem (k : Int) : ∀ (l : List (Int × Int)) (b : Int × Int), (∀ r ∈ l, wk.isV r.1 r.2 = true) → wk.isV b.1 b.2 = true → ∃ z, l.foldl (wk.utS k) (some b) = some z ∧ (z = b ∨ z ∈ l) := by
  intro l
  induction l with
  | nil => intro b _ _; exact ⟨b, rfl, .inl rfl⟩
  | cons x l ih =>
    intro b hl hb
    have hx := hl x (by simp)
    rw [List.foldl_cons]
    have e : wk.utS k (some b) x = some (if wk.cq x.1 x.2 b.1 b.2 = k then x else b) := by
      unfold wk.utS
      simp only [Option.bind_some, hx, hb, Bool.and_self, if_true]
    rw [e]
    obtain ⟨z, h1, h2⟩ := ih (if wk.cq x.1 x.2 b.1 b.2 = k then x else b) (fun r hr => hl r (by simp [hr])) (by split <;> assumption)
    refine ⟨z, h1, ?_⟩
    rcases h2 with h2 | h2
    · rw [h2]
      split
      · exact .inr (by simp)
      · exact .inl rfl
    · exact .inr (by simp [h2])
theorem ut_in (k : Int) (x : Int × Int) (l : List (Int × Int)) (h : ∀ r ∈ x :: l, wk.isV r.1 r.2 = true) : wk.utAll k (x :: l) ∈ x :: l := by
  obtain ⟨z, h1, h2⟩ := ut_mem k (x :: l) x h (h x (by simp))
  have e : wk.utAll k (x :: l) = ((x :: l).foldl (wk.utS k) (some x)).getD (0, 0) := rfl
  rw [e, h1]
  show z ∈ x :: l
  rcases h2 with h2 | h2
  · rw [h2]; simp
  · exact h2
theorem smC_mem {l : List ((Int × Int) × Nat)} {p : (Int × Int) × Nat} (h : p ∈ l) : p.2 ≤ smC l := by
  induction l with
  | nil => cases h
  | cons q l ih =>
    rw [smC_cons]
    rcases List.mem_cons.1 h with rfl | h
    · omega
    · have := ih h; omega
theorem ut_wh (k : Int) (p : (Int × Int) × Nat) (l : List ((Int × Int) × Nat)) (h : ∀ q ∈ p :: l, Wh q.1 q.2) (h6 : smC (p :: l) ≤ 6) : Wh (wk.utAll k ((p :: l).map Prod.fst)) (smC (p :: l)) := by
  have hm := ut_in k p.1 (l.map Prod.fst) (fun r hr => by
    rw [← List.map_cons (f := Prod.fst)] at hr
    obtain ⟨q, hq, rfl⟩ := List.mem_map.1 hr
    exact (h q hq).val (Nat.le_trans (smC_mem hq) h6))
  rw [List.map_cons]
  rw [← List.map_cons (f := Prod.fst)] at hm
  obtain ⟨q, hq, he⟩ := List.mem_map.1 hm
  rw [← List.map_cons (f := Prod.fst), ← he]
  exact (h q hq).mono (smC_mem hq)
end Go.Proofs.YticgcokhdipomabDoor.nm
