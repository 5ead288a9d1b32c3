/-
  The kind does not hang on numbers, nor on orders: the law.
-/
import Derived.Test.YtlkocepoohhglaaDoorLCaV
set_option linter.unusedVariables false
set_option linter.unusedSimpArgs false
namespace Go.Proofs.YtlkocepoohhglaaDoor.cc
open Go.RowKit

theorem exMs_all (l : List Ex) (n : Nat) : exMs l n = l.all (fun y => exM y n) := by
  induction l with
  | nil => rw [exMs_nil]; rfl
  | cons x r ih => rw [exMs_cons, ih]; rfl
theorem all_congr {α : Type} {l : List α} {f g : α → Bool} (h : ∀ x ∈ l, f x = g x) : l.all f = l.all g := by
  induction l with
  | nil => rfl
  | cons x r ih => rw [List.all_cons, List.all_cons, h x (by simp), ih (fun y hy => h y (by simp [hy]))]
theorem mem_sz {l : List Ex} {y : Ex} (h : y ∈ l) : szE y ≤ szEs l := by
  obtain ⟨i, hi, rfl⟩ := List.mem_iff_getElem.1 h
  exact szEs_at (List.getElem?_eq_getElem hi)
theorem exM_tu (N : Nat) : ∀ x, szE x ≤ N → ∀ j n, exM (tuE x j) n = exM x n := by
  induction N with
  | zero => intro x h; rw [szE_ks] at h; omega
  | succ N ih =>
    intro x hz j n
    rw [szE_ks] at hz
    obtain ⟨k, nn, d, u, ks⟩ := x
    simp only [Ex.ks] at hz
    rw [tuE_mk]
    split
    · rfl
    rw [exM, exM]
    have e1 : ((ks.map (fun y => tuE y (j + 1))).reverse).isEmpty = ks.isEmpty := by simp
    have e2 : ((ks.map (fun y => tuE y (j + 1))).reverse).length = ks.length := by simp
    have e3 : exMs ((ks.map (fun y => tuE y (j + 1))).reverse) (n - 1) = exMs ks (n - 1) := by
      rw [exMs_all, exMs_all, List.all_reverse, List.all_map]
      exact all_congr fun y hy => ih y (by have := mem_sz hy; omega) (j + 1) (n - 1)
    rw [e1, e2, e3]
theorem cnK_rev (l : List Nat) (k : Nat) : cnK l.reverse k = cnK l k := by unfold cnK; rw [List.countP_reverse]
theorem kdE_tu (N : Nat) : ∀ x, szE x ≤ N → ∀ j n, exM x n = true → kdE (tuE x j) = kdE x := by
  induction N with
  | zero => intro x h; rw [szE_ks] at h; omega
  | succ N ih =>
    intro x hz j n hm
    have hm2 := hm
    rw [← exM_tu _ x (Nat.le_refl _) j n] at hm2
    rw [szE_ks] at hz
    obtain ⟨k, nn, d, u, ks⟩ := x
    simp only [Ex.ks] at hz
    rw [tuE_mk] at hm2 ⊢
    split at hm2
    · rename_i h; rw [if_pos h]
    · rename_i h
      rw [if_neg h]
      by_cases hk : k = 1
      · rw [kdE_mk, kdE_mk, if_pos hk, if_pos hk]
      · rw [kd_rf hm2 hk, kd_rf hm hk]
        have e : ((ks.map (fun y => tuE y (j + 1))).reverse).map kdE = (ks.map kdE).reverse := by
          rw [List.map_reverse, List.map_map]
          congr 1
          refine List.map_congr_left fun y hy => ?_
          have hms := (exM_kids hm hk).1
          obtain ⟨i, hi, rfl⟩ := List.mem_iff_getElem.1 hy
          exact ih _ (by have := mem_sz hy; omega) (j + 1) (n - 1) (exMs_at hms (List.getElem?_eq_getElem hi))
        rw [e, cnK_rev, cnK_rev, cnK_rev]
        simp
theorem kdT_tu (x : Ex) : kdT (tuE x 0) = kdT x ∧ kdX (tuE x 0) = kdX x := by
  unfold kdT kdX
  rw [exM_tu _ x (Nat.le_refl _) 0 340]
  by_cases h : exM x 340 = true
  · rw [if_pos h, if_pos h, if_pos h, if_pos h, kdE_tu _ x (Nat.le_refl _) 0 340 h]
    exact ⟨rfl, rfl⟩
  · rw [if_neg h, if_neg h, if_neg h, if_neg h]
    exact ⟨rfl, rfl⟩
theorem kdE_nu (rn rd : Int) (N : Nat) : ∀ x, szE x ≤ N → ∀ j, kdE (nuE rn rd x j) = kdE x := by
  induction N with
  | zero => intro x h; rw [szE_ks] at h; omega
  | succ N ih =>
    intro x hz j
    rw [szE_ks] at hz
    obtain ⟨k, nn, d, u, ks⟩ := x
    simp only [Ex.ks] at hz
    rw [nuE_mk]
    split
    · rfl
    · rw [kdE_mk, kdE_mk]
      have e : (ks.map (fun y => nuE rn rd y (j + 1))).map kdE = ks.map kdE := by
        rw [List.map_map]
        exact List.map_congr_left fun y hy => ih y (by have := mem_sz hy; omega) (j + 1)
      rw [e]
theorem exM_nu (rn rd : Int) (hr : mayB rn rd = true) (N : Nat) : ∀ x, szE x ≤ N → ∀ j n, exM x n = true → exM (nuE rn rd x j) n = true := by
  induction N with
  | zero => intro x h; rw [szE_ks] at h; omega
  | succ N ih =>
    intro x hz j n hm
    rw [szE_ks] at hz
    obtain ⟨k, nn, d, u, ks⟩ := x
    simp only [Ex.ks] at hz
    rw [nuE_mk]
    split
    · exact hm
    rw [exM, Bool.and_eq_true] at hm ⊢
    refine ⟨hm.1, ?_⟩
    by_cases hk : k = 1
    · rw [if_pos hk] at hm ⊢
      rw [if_pos hk, if_pos hk, hr]
      have h2 := hm.2
      rw [Bool.and_eq_true, Bool.and_eq_true] at h2
      rw [h2.1.2]
      simp at h2
      simp [h2.2]
    · rw [if_neg hk] at hm ⊢
      rw [if_neg hk, if_neg hk, List.length_map]
      rw [Bool.and_eq_true] at hm ⊢
      refine ⟨hm.2.1, ?_⟩
      have h3 := hm.2.2
      rw [exMs_all, List.all_eq_true] at h3 ⊢
      intro z hz'
      obtain ⟨y, hy, rfl⟩ := List.mem_map.1 hz'
      exact ih y (by have := mem_sz hy; omega) (j + 1) (n - 1) (h3 y hy)
theorem kdT_nu (rn rd : Int) (hr : mayB rn rd = true) (x : Ex) (h : exM x 340 = true) : kdT (nuE rn rd x 0) = kdT x ∧ kdX (nuE rn rd x 0) = kdX x := by
  unfold kdT kdX
  have h2 := exM_nu rn rd hr _ x (Nat.le_refl _) 0 340 h
  rw [if_pos h, if_pos h, if_pos h2, if_pos h2, kdE_nu rn rd _ x (Nat.le_refl _) 0]
  exact ⟨rfl, rfl⟩
theorem exM_num (rn rd : Int) : exM (.mk 1 rn rd 0 []) 340 = mayB rn rd := by rw [exM]; simp
end Go.Proofs.YtlkocepoohhglaaDoor.cc
