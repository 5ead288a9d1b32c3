/-
  How many numbers, and whether all are whole and small: plain.
-/
import Derived.Test.YticgcokhdipomabDoorLNwA
set_option linter.unusedVariables false
set_option linter.unusedSimpArgs false
namespace Go.Proofs.YticgcokhdipomabDoor.nm
open Go.RowKit cc

mutual
/-- How many numbers, and whether all are whole and small and nothing is divided. -/
def fwE : Ex → Nat → Nat × Bool
  | .mk k n d u ks, j => if k = 5 ∨ 300 < j then (0, false) else if k = 1 then (1, (d == 1) && decide (-1024 < n) && decide (n < 1024)) else
      match fwEs ks (j + 1) with
      | some m => (m, exM (.mk k n d u ks) 340)
      | none => (0, false)
def fwEs : List Ex → Nat → Option Nat
  | [], _ => some 0
  | e :: es, j => if (fwE e j).2 = true then (match fwEs es j with | some m => some ((fwE e j).1 + m) | none => none) else none
end
theorem fwE_mk (k n d u : Int) (ks : List Ex) (j : Nat) : fwE (.mk k n d u ks) j = if k = 5 ∨ 300 < j then (0, false) else if k = 1 then (1, (d == 1) && decide (-1024 < n) && decide (n < 1024)) else
      match fwEs ks (j + 1) with
      | some m => (m, exM (.mk k n d u ks) 340)
      | none => (0, false) := by rw [fwE]
theorem fwEs_nil (j : Nat) : fwEs [] j = some 0 := by rw [fwEs]
theorem fwEs_cons (e : Ex) (es : List Ex) (j : Nat) : fwEs (e :: es) j = if (fwE e j).2 = true then (match fwEs es j with | some m => some ((fwE e j).1 + m) | none => none) else none := by rw [fwEs]
/-- The numbers of a list, one by one. -/
def fwC (l : List Ex) (j : Nat) : Nat := (l.map fun y => (fwE y j).1).sum
theorem fwEs_some {l : List Ex} {j m : Nat} (h : fwEs l j = some m) : (∀ y ∈ l, (fwE y j).2 = true) ∧ m = fwC l j := by
  induction l generalizing m with
  | nil => rw [fwEs_nil] at h; exact ⟨fun y hy => (by cases hy), (Option.some.inj h).symm⟩
  | cons x r ih =>
    rw [fwEs_cons] at h
    by_cases hx : (fwE x j).2 = true
    · rw [if_pos hx] at h
      cases hr : fwEs r j with
      | none => rw [hr] at h; cases h
      | some q =>
        rw [hr] at h
        obtain ⟨h1, h2⟩ := ih hr
        refine ⟨fun y hy => ?_, ?_⟩
        · rcases List.mem_cons.1 hy with rfl | hy
          · exact hx
          · exact h1 y hy
        · have := Option.some.inj h
          rw [← this, h2]; rfl
    · rw [if_neg hx] at h; cases h
theorem fwEs_all {l : List Ex} {j : Nat} (h : ∀ y ∈ l, (fwE y j).2 = true) : fwEs l j = some (fwC l j) := by
  induction l with
  | nil => rw [fwEs_nil]; rfl
  | cons x r ih =>
    rw [fwEs_cons, if_pos (h x (by simp)), ih (fun y hy => h y (by simp [hy]))]
    rfl
theorem fwEs_no {l : List Ex} {j : Nat} {y : Ex} (hy : y ∈ l) (h : (fwE y j).2 = false) : fwEs l j = none := by
  cases hq : fwEs l j with
  | none => rfl
  | some m => have := (fwEs_some hq).1 y hy; rw [h] at this; cases this
theorem fw_le (N : Nat) : ∀ (x : Ex) (j : Nat), szE x ≤ N → (fwE x j).1 ≤ szE x := by
  induction N with
  | zero => intro x j h; rw [szE_ks] at h; omega
  | succ N ih =>
    intro x j h
    obtain ⟨k, n, d, u, ks⟩ := x
    have hz := szE_ks (.mk k n d u ks)
    simp only [Ex.ks] at hz
    rw [fwE_mk]
    split
    · simp
    split
    · show 1 ≤ _; omega
    split
    · rename_i m hm
      obtain ⟨-, rfl⟩ := fwEs_some hm
      show fwC ks (j + 1) ≤ _
      have key : ∀ l : List Ex, (∀ y ∈ l, szE y ≤ N) → fwC l (j + 1) ≤ szEs l := by
        intro l
        induction l with
        | nil => intro _; exact Nat.zero_le _
        | cons y r ihr =>
          intro hl
          have h1 := ih y (j + 1) (hl y (by simp))
          have h2 := ihr (fun z hz => hl z (by simp [hz]))
          have e : fwC (y :: r) (j + 1) = (fwE y (j + 1)).1 + fwC r (j + 1) := rfl
          have hy := szE_ks y
          rw [e, szEs_cons]
          omega
      have := key ks (fun y hy => by
        obtain ⟨i, hi⟩ := List.mem_iff_getElem?.1 hy
        have := szEs_at hi
        omega)
      omega
    · simp
theorem fwC_le (l : List Ex) (j : Nat) : fwC l j ≤ szEs l := by
  induction l with
  | nil => exact Nat.zero_le _
  | cons y r ih =>
    have h1 := fw_le (szE y) y j (Nat.le_refl _)
    have e : fwC (y :: r) j = (fwE y j).1 + fwC r j := rfl
    have hy := szE_ks y
    rw [e, szEs_cons]
    omega
/-- Few whole small numbers come to a whole number. -/
theorem few_wh (sz : Int → Int × Int) (N : Nat) : ∀ (x : Ex) (jj j : Nat), szE x ≤ N → exM x jj = true → kdE x = 1 → (fwE x j).2 = true → 1 ≤ (fwE x j).1 ∧ ((fwE x j).1 ≤ 6 → Wh (rkE sz x) (fwE x j).1) := by
  induction N with
  | zero => intro x jj j h; rw [szE_ks] at h; omega
  | succ N ih =>
    intro x jj j hN hm hk hf
    have KN := fun h => kids_num hm h hk
    have KL := fun h => kids_len hm h
    have KM := fun h => exMs_mem (exM_kids hm h).1
    have hz := szE_ks x
    obtain ⟨k, n, d, u, ks⟩ := x
    simp only [Ex.k, Ex.ks] at KN KL KM hz
    rw [fwE_mk] at hf ⊢
    by_cases h5 : k = 5 ∨ 300 < j
    · rw [if_pos h5] at hf; cases hf
    rw [if_neg h5] at hf ⊢
    by_cases k1 : k = 1
    · subst k1
      obtain rfl := num_unit hk
      rw [if_pos rfl] at hf ⊢
      refine ⟨Nat.le_refl _, fun _ => ?_⟩
      rw [rkE_mk, if_pos rfl, if_pos rfl]
      simp only [Bool.and_eq_true, beq_iff_eq, decide_eq_true_eq] at hf
      obtain ⟨⟨h1, h2⟩, h3⟩ := hf
      subst h1
      exact ⟨n, rfl, by show n.natAbs < 1024 ^ 1; omega⟩
    · rw [if_neg k1] at hf ⊢
      replace KN := KN k1
      replace KM := KM k1
      obtain ⟨hkk, hl1, h83⟩ := KL k1
      cases hq : fwEs ks (j + 1) with
      | none => rw [hq] at hf; cases hf
      | some m =>
        obtain ⟨ha, rfl⟩ := fwEs_some hq
        have each : ∀ y ∈ ks, 1 ≤ (fwE y (j + 1)).1 ∧ ((fwE y (j + 1)).1 ≤ 6 → Wh (rkE sz y) (fwE y (j + 1)).1) := fun y hy => by
          obtain ⟨i, hi⟩ := List.mem_iff_getElem?.1 hy
          have := szEs_at hi
          exact ih y (jj - 1) (j + 1) (by omega) (KM y hy) (KN y hy) (ha y hy)
        obtain ⟨pl, hpl⟩ : ∃ pl : List ((Int × Int) × Nat), pl = ks.map (fun y => (rkE sz y, (fwE y (j + 1)).1)) := ⟨_, rfl⟩
        have hfst : pl.map Prod.fst = ks.map (rkE sz) := by rw [hpl, List.map_map]; rfl
        have hsm : smC pl = fwC ks (j + 1) := by unfold smC fwC; rw [hpl, List.map_map]; rfl
        have hlen : pl.length = ks.length := by rw [hpl, List.length_map]
        have hone : ∀ q ∈ pl, 1 ≤ q.2 := fun q hq => by
          rw [hpl] at hq
          obtain ⟨y, hy, rfl⟩ := List.mem_map.1 hq
          exact (each y hy).1
        have hwh : smC pl ≤ 6 → ∀ q ∈ pl, Wh q.1 q.2 := fun h6 q hq => by
          have hle := smC_mem hq
          rw [hpl] at hq
          obtain ⟨y, hy, rfl⟩ := List.mem_map.1 hq
          exact (each y hy).2 (Nat.le_trans hle h6)
        show 1 ≤ fwC ks (j + 1) ∧ (fwC ks (j + 1) ≤ 6 → _)
        rw [← hsm]
        obtain ⟨p, l, hcons⟩ : ∃ p l, pl = p :: l := by
          cases pl with
          | nil => simp at hlen; omega
          | cons p l => exact ⟨p, l, rfl⟩
        refine ⟨Nat.le_trans (hone p (by rw [hcons]; simp)) (smC_mem (by rw [hcons]; simp)), fun h6 => ?_⟩
        have hw := hwh h6
        rw [rkE_mk, if_neg k1, ← hfst]
        subst hcons
        have hp := hw p (by simp)
        have hp6 : p.2 ≤ smC (p :: l) := smC_mem (by simp)
        unfold rkK
        rcases hkk with rfl | rfl | rfl | rfl | rfl | rfl | rfl
        · exact add_wh _ hw h6
        · show Wh (ngR p.1) _
          exact (hp.neg (by omega)).mono hp6
        · exact mul_wh p l hw h6
        · exact absurd (.inl rfl) h5
        · exact ut_wh _ p l hw h6
        · exact ut_wh _ p l hw h6
        · have hl3 : (p :: l).length = 3 := by rw [hlen]; exact h83 rfl
          match l, hl3 with
          | [q, r], _ =>
            have hq := hw q (by simp)
            have hr := hw r (by simp)
            have e : smC [p, q, r] = p.2 + (q.2 + (r.2 + 0)) := rfl
            rw [e] at h6 ⊢
            show Wh (wk.utAll 1 [p.1, wk.utAll (-1) [q.1, r.1]]) _
            have h1 : Wh (wk.utAll (-1) [q.1, r.1]) (q.2 + (r.2 + 0)) := ut_wh (-1) q [r] (fun z hz => by simp at hz; rcases hz with rfl | rfl <;> assumption) (by show q.2 + (r.2 + 0) ≤ 6; omega)
            exact ut_wh 1 p [(wk.utAll (-1) [q.1, r.1], q.2 + (r.2 + 0))] (fun z hz => by simp at hz; rcases hz with rfl | rfl <;> assumption) (by show p.2 + ((q.2 + (r.2 + 0)) + 0) ≤ 6; omega)
end Go.Proofs.YticgcokhdipomabDoor.nm
