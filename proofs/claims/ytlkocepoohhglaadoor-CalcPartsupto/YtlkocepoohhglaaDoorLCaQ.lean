/-
  The law of parts.
-/
import Derived.Test.YtlkocepoohhglaaDoorLCaP
set_option linter.unusedVariables false
set_option linter.unusedSimpArgs false
namespace Go.Proofs.YtlkocepoohhglaaDoor.cc
open Go.RowKit

theorem kdT_yes {x : Ex} {j : Nat} (h : exM x 340 = true) : kdT x = kdE x ∧ kdX x = if kdE x = 0 then 4 else 0 := by unfold kdT kdX; rw [if_pos h, if_pos h]; exact ⟨rfl, rfl⟩
theorem exMs_mono (l : List Ex) : ∀ n, (∀ x ∈ l, ∀ n m, n ≤ m → exM x n = true → exM x m = true) → ∀ m, n ≤ m → exMs l n = true → exMs l m = true := by
  induction l with
  | nil => intro n _ m _ _; exact exMs_nil m
  | cons x r ih =>
    intro n hx m hm h
    rw [exMs_cons, Bool.and_eq_true] at h ⊢
    exact ⟨hx x (by simp) n m hm h.1, ih n (fun y hy => hx y (by simp [hy])) m hm h.2⟩
theorem exM_mono (N : Nat) : ∀ x, szE x ≤ N → ∀ n m, n ≤ m → exM x n = true → exM x m = true := by
  induction N with
  | zero => intro x h; rw [szE_ks] at h; omega
  | succ N ih =>
    intro x hz n m hm h
    rw [szE_ks] at hz
    rw [exM_eq, Bool.and_eq_true] at h ⊢
    obtain ⟨h1, h2⟩ := h
    have h1' : 0 < n := by simpa using h1
    refine ⟨by simp; omega, ?_⟩
    by_cases hk : x.k = 1
    · rw [if_pos hk] at h2 ⊢; exact h2
    · rw [if_neg hk, Bool.and_eq_true] at h2 ⊢
      refine ⟨h2.1, exMs_mono x.ks (n - 1) (fun y hy => ih y ?_) (m - 1) (by omega) h2.2⟩
      obtain ⟨i, hi, rfl⟩ := List.mem_iff_getElem.1 hy
      have := szEs_at (List.getElem?_eq_getElem hi)
      omega
/-- Of one that has a kind: each kid may be and has a kind. -/
theorem kids_kind {x y : Ex} {i : Nat} (hm : exM x 340 = true) (hk : ¬ kdE x = 0) (h1 : ¬ x.k = 1) (hy : x.ks[i]? = some y) : exM y 340 = true ∧ (kdE y = 1 ∨ kdE y = 2) ∧ (¬ x.k = 4 → kdE y = kdE x) ∧ (x.k = 5 → kdE y = 1) := by
  obtain ⟨hms, hl⟩ := exM_kids hm h1
  have hy0 := exMs_at hms hy
  have hle := kdE_le _ y (Nat.le_refl _)
  refine ⟨exM_mono _ y (Nat.le_refl _) _ _ (by omega) hy0, ?_⟩
  have hmem : kdE y ∈ x.ks.map kdE := List.mem_map.2 ⟨y, List.mem_of_getElem? hy, rfl⟩
  rw [kdE_eq, if_neg h1] at hk
  by_cases h4 : x.k = 4
  · rw [if_pos h4] at hk
    have key : ∀ (l : List Nat) (p : Nat), ¬ prK l p = 0 → ∀ z ∈ l, z = 1 ∨ z = 2 := by
      intro l
      induction l with
      | nil => intro p _ z hz; cases hz
      | cons k r ih =>
        intro p hp z hz
        rw [prK] at hp
        rcases List.mem_cons.1 hz with rfl | hz
        · by_cases a : z = 1
          · exact .inl a
          · rw [if_neg a] at hp
            by_cases b : z = 2 ∧ p = 1
            · exact .inr b.1
            · rw [if_neg b] at hp; exact absurd rfl hp
        · by_cases a : k = 1
          · rw [if_pos a] at hp; exact ih p hp z hz
          · rw [if_neg a] at hp
            by_cases b : k = 2 ∧ p = 1
            · rw [if_pos b] at hp; exact ih 2 hp z hz
            · rw [if_neg b] at hp; exact absurd rfl hp
    exact ⟨key _ _ hk _ hmem, fun h => absurd h4 h, fun h => by omega⟩
  · rw [if_neg h4] at hk
    by_cases h5 : x.k = 5
    · rw [if_pos h5] at hk
      have hc : x.ks.length = 1 := by
        rw [exM_eq, Bool.and_eq_true, if_neg h1, Bool.and_eq_true, Bool.and_eq_true] at hm
        have := cnt_true hm.2.1.2
        omega
      obtain ⟨z, hz⟩ : ∃ z, x.ks = [z] := by
        match hks : x.ks, hc with
        | [z], _ => exact ⟨z, rfl⟩
      rw [hz] at hk hy
      have hiz : z = y := by
        cases i with
        | zero => simpa using hy
        | succ i => simp at hy
      subst hiz
      have h11 : kdE z = 1 := by
        by_cases a : kdE z = 1
        · exact a
        · simp [a] at hk
      refine ⟨.inl h11, fun _ => ?_, fun _ => h11⟩
      rw [kdE_eq x, if_neg h1, if_neg h4, if_pos h5, hz]
      simp [h11]
    · rw [if_neg h5] at hk
      have hx : kdE x = coK (x.ks.map kdE) := by rw [kdE_eq x, if_neg h1, if_neg h4, if_neg h5]
      cases hks : x.ks with
      | nil => rw [hks] at hy; simp at hy
      | cons a r =>
        rw [hks] at hk hx hmem
        simp only [List.map_cons, coK] at hk hx
        by_cases ha : (r.map kdE).all (fun z => z == kdE a) = true
        · rw [if_pos ha] at hk hx
          have : kdE y = kdE a := by
            rcases List.mem_cons.1 hmem with h | h
            · exact h
            · have := List.all_eq_true.1 ha _ h
              simpa using this
          exact ⟨by omega, fun _ => by omega, fun h => absurd h h5⟩
        · rw [if_neg ha] at hk; exact absurd rfl hk
/-- Of a product that has a kind: how many lengths it has. -/
theorem prod_lens {x : Ex} (hm : exM x 340 = true) (hk : ¬ kdE x = 0) (h4 : x.k = 4) : (kdE x = 1 ∧ cnK (x.ks.map kdE) 2 = 0) ∨ (kdE x = 2 ∧ cnK (x.ks.map kdE) 2 = 1) := by
  have h1 : ¬ x.k = 1 := by omega
  have e : kdE x = prK (x.ks.map kdE) 1 := by rw [kdE_eq x, if_neg h1, if_pos h4]
  rw [pr_cnt _ (kd_le2 x.ks) 1 (.inl rfl), List.length_map] at e
  by_cases g0 : cnK (x.ks.map kdE) 0 > 0
  · rw [if_pos g0] at e; exact absurd e hk
  · rw [if_neg g0] at e
    by_cases g2 : cnK (x.ks.map kdE) 2 + (1 - 1) = 1
    · rw [if_pos g2] at e; exact .inr ⟨e, by omega⟩
    · rw [if_neg g2] at e
      by_cases g1 : cnK (x.ks.map kdE) 1 = x.ks.length ∧ 1 = 1
      · rw [if_pos g1] at e
        refine .inl ⟨e, ?_⟩
        have : ∀ l : List Nat, cnK l 1 + cnK l 2 ≤ l.length := by
          intro l
          induction l with
          | nil => exact Nat.le_refl _
          | cons y r ih =>
            have hc : ∀ k, cnK (y :: r) k = cnK r k + if y = k then 1 else 0 := fun k => by
              unfold cnK; rw [List.countP_cons]; simp
            rw [hc 1, hc 2, List.length_cons]
            by_cases a : y = 1
            · subst a; simp; omega
            · by_cases b : y = 2
              · subst b; simp; omega
              · simp [a, b]; omega
        have := this (x.ks.map kdE)
        rw [List.length_map] at this
        omega
      · rw [if_neg g1] at e; exact absurd e hk
end Go.Proofs.YtlkocepoohhglaaDoor.cc
