/-
  The kind of an expression: by the reference; the law of kinds.
-/
import Derived.Test.YticgcokhdipomabDoorN20
set_option linter.unusedVariables false
set_option linter.unusedSimpArgs false
namespace Go.Proofs.YticgcokhdipomabDoor.cc
open Go.RowKit

/-- How many have this kind. -/
def cnK (l : List Nat) (k : Nat) : Nat := l.countP (fun x => x == k)
theorem cnK_snoc (l : List Nat) (x k : Nat) : cnK (l ++ [x]) k = cnK l k + if x = k then 1 else 0 := by
  unfold cnK
  rw [List.countP_append, List.countP_singleton]
  simp
theorem cnK_le (l : List Nat) (k : Nat) : cnK l k ≤ l.length := List.countP_le_length
theorem pr_cnt (l : List Nat) (h : ∀ x ∈ l, x ≤ 2) : ∀ p, (p = 1 ∨ p = 2) → prK l p = if cnK l 0 > 0 then 0 else if cnK l 2 + (p - 1) = 1 then 2 else if cnK l 1 = l.length ∧ p = 1 then 1 else 0 := by
  induction l with
  | nil => intro p hp; rcases hp with rfl | rfl <;> rfl
  | cons x r ih =>
    intro p hp
    have hx := h x (by simp)
    have ihr := ih (fun y hy => h y (by simp [hy]))
    have l1 := cnK_le r 1
    have hc : ∀ k, cnK (x :: r) k = cnK r k + if x = k then 1 else 0 := fun k => by
      unfold cnK; rw [List.countP_cons]; simp
    rw [prK, hc 0, hc 1, hc 2, List.length_cons]
    rcases (show x = 0 ∨ x = 1 ∨ x = 2 by omega) with rfl | rfl | rfl
    · simp
    · rw [if_pos rfl, ihr p hp]
      simp
    · rw [if_neg (by omega)]
      rcases hp with rfl | rfl
      · rw [if_pos ⟨rfl, rfl⟩, ihr 2 (.inr rfl)]
        by_cases g0 : cnK r 0 > 0
        · simp [g0]
        · by_cases g2 : cnK r 2 = 0
          · simp [g0, g2]
          · have : ¬ cnK r 2 + 1 = 1 := by omega
            simp [g0, g2]
            omega
      · rw [if_neg (by omega)]
        by_cases g0 : cnK r 0 > 0
        · simp [g0]
        · simp [g0]
theorem all_cnt (k : Nat) (r : List Nat) : r.all (fun x => x == k) = decide (cnK r k = r.length) := by
  unfold cnK
  induction r with
  | nil => rfl
  | cons x r ih =>
    rw [List.all_cons, ih, List.countP_cons, List.length_cons]
    have := List.countP_le_length (p := fun x => x == k) (l := r)
    by_cases hx : x = k
    · subst hx; simp
    · rw [show (x == k) = false by simpa using hx]
      simp only [Bool.false_and, Bool.false_eq_true, if_false, Nat.add_zero]
      symm
      rw [decide_eq_false_iff_not]
      omega
theorem co_cnt (l : List Nat) (h : ∀ x ∈ l, x ≤ 2) (h0 : 0 < l.length) : coK l = if cnK l 0 > 0 then 0 else if cnK l 1 = l.length then 1 else if cnK l 2 = l.length then 2 else 0 := by
  cases l with
  | nil => simp at h0
  | cons x r =>
    have hx := h x (by simp)
    have hc : ∀ k, cnK (x :: r) k = cnK r k + if x = k then 1 else 0 := fun k => by
      unfold cnK; rw [List.countP_cons]; simp
    rw [coK, all_cnt, hc 0, hc 1, hc 2, List.length_cons]
    have l0 := cnK_le r 0
    have l1 := cnK_le r 1
    have l2 := cnK_le r 2
    have hs : cnK r 0 + cnK r 1 + cnK r 2 = r.length := by
      have : ∀ l : List Nat, (∀ x ∈ l, x ≤ 2) → cnK l 0 + cnK l 1 + cnK l 2 = l.length := by
        intro l
        induction l with
        | nil => intro _; rfl
        | cons y r ih =>
          intro hl
          have hy := hl y (by simp)
          have := ih (fun z hz => hl z (by simp [hz]))
          have hc : ∀ k, cnK (y :: r) k = cnK r k + if y = k then 1 else 0 := fun k => by
            unfold cnK; rw [List.countP_cons]; simp
          rw [hc 0, hc 1, hc 2, List.length_cons]
          rcases (show y = 0 ∨ y = 1 ∨ y = 2 by omega) with rfl | rfl | rfl <;> simp <;> omega
      exact this r (fun y hy => h y (by simp [hy]))
    rcases (show x = 0 ∨ x = 1 ∨ x = 2 by omega) with rfl | rfl | rfl
    · simp
    · by_cases g : cnK r 1 = r.length
      · have : cnK r 0 = 0 := by omega
        simp [g, this]
      · simp [g]
        intro _ _
        omega
    · by_cases g : cnK r 2 = r.length
      · have g0 : cnK r 0 = 0 := by omega
        have g1 : ¬ cnK r 1 = r.length + 1 := by omega
        simp [g, g0]
        omega
      · simp [g]
        intro _ _
        omega
/-- As the reference tells it: by how many have which kind. -/
def rfK (k : Int) (a0 a1 a2 n : Nat) : Nat := if 0 < a0 then 0 else if k = 4 ∧ a2 = 1 then 2 else if a1 = n then 1 else if a2 = n ∧ ¬ k = 4 ∧ ¬ k = 5 then 2 else 0
theorem kd_le2 (l : List Ex) : ∀ x ∈ l.map kdE, x ≤ 2 := fun x hx => by
  rw [List.mem_map] at hx
  obtain ⟨e, _, rfl⟩ := hx
  exact kdE_le _ e (Nat.le_refl _)
theorem cnK_one (x k : Nat) : cnK [x] k = if x = k then 1 else 0 := by unfold cnK; rw [List.countP_singleton]; simp
theorem kd_rf {k n d u : Int} {ks : List Ex} {j : Nat} (h : exM (.mk k n d u ks) j = true) (hk : ¬ k = 1) : kdE (.mk k n d u ks) = rfK k (cnK (ks.map kdE) 0) (cnK (ks.map kdE) 1) (cnK (ks.map kdE) 2) ks.length := by
  have hl := (exM_kids h hk).2
  simp only [Ex.ks] at hl
  rw [kdE_mk, if_neg hk]
  unfold rfK
  by_cases k4 : k = 4
  · rw [if_pos k4, pr_cnt _ (kd_le2 ks) 1 (.inl rfl), List.length_map]
    simp only [k4, gt_iff_lt, Nat.sub_self, Nat.add_zero, true_and, and_true, not_true, false_and, and_false, if_false]
  · rw [if_neg k4]
    by_cases k5 : k = 5
    · rw [if_pos k5]
      have h1 : ks.length = 1 := by
        rw [exM_eq, Bool.and_eq_true, if_neg (show ¬ (Ex.mk k n d u ks).k = 1 from hk), Bool.and_eq_true, Bool.and_eq_true] at h
        have := cnt_true h.2.1.2
        simp only [Ex.k, Ex.ks] at this
        omega
      obtain ⟨y, rfl⟩ : ∃ y, ks = [y] := by
        match ks, h1 with
        | [y], _ => exact ⟨y, rfl⟩
      have hy := kd_le2 [y] (kdE y) (by simp)
      simp only [List.map_cons, List.map_nil, List.head?_cons, Option.some.injEq, cnK_one, List.length_cons, List.length_nil, k5]
      rcases (show kdE y = 0 ∨ kdE y = 1 ∨ kdE y = 2 by omega) with h | h | h <;> simp [h]
    · rw [if_neg k5, co_cnt _ (kd_le2 ks) (by rw [List.length_map]; omega), List.length_map]
      simp only [k4, k5, gt_iff_lt, false_and, if_false, not_false_eq_true, and_true]
end Go.Proofs.YticgcokhdipomabDoor.cc
