/-
  What an expression comes to: plain.
-/
import Derived.Test.YticgcokhdipomabDoorLCaO
import Derived.Test.YticgcokhdipomabDoorLNoH
set_option linter.unusedVariables false
set_option linter.unusedSimpArgs false
namespace Go.Proofs.YticgcokhdipomabDoor.nm
open Go.RowKit cc

/-- An expression whose numbers are of 64 bits, however deep they stand. -/
inductive OkX : Ex → Prop
  | mk (k n d u : Int) (ks : List Ex) (h1 : (Ex.mk k n d u ks).Ok) (h2 : ∀ y, y ∈ ks → OkX y) : OkX (.mk k n d u ks)
theorem OkX.ok {x : Ex} (h : OkX x) : x.Ok := by cases h; assumption
theorem OkX.kids {x : Ex} (h : OkX x) : ∀ y ∈ x.ks, OkX y := by cases h; assumption
theorem em_okx {w : World} {v : Value} {l : List Ex} (h : EM w v l) : ∀ y ∈ l, OkX y := by
  induction h with
  | nil a c => intro y hy; cases hy
  | row b o c l u h0 hb hc hn hm hx ht hu hk ih =>
    intro y hy
    obtain ⟨i, hi⟩ := List.mem_iff_getElem?.1 hy
    obtain ⟨k, n, d, q, ks⟩ := y
    exact .mk k n d q ks (hx i _ hi) (ih i _ hi)
/-- The place i, or over. -/
def rAt (rs : List (Int × Int)) (i : Nat) : Int × Int := rs.getD i (0, 0)
def ngR (r : Int × Int) : Int × Int := (wk.ngN r.1 r.2, wk.ngD r.1 r.2)
def dvR (r s : Int × Int) : Int × Int := (wk.divN r.1 r.2 s.1 s.2, wk.divD r.1 r.2 s.1 s.2)
/-- What a node comes to, by what its kids come to. -/
def rkK (k : Int) (rs : List (Int × Int)) : Int × Int :=
  if k = 2 then wk.addAll rs else if k = 3 then ngR (rAt rs 0) else if k = 4 then wk.mulAll rs else if k = 5 then dvR (1, 1) (rAt rs 0) else if k = 6 then wk.utAll (-1) rs else if k = 7 then wk.utAll 1 rs else wk.utAll 1 [rAt rs 0, wk.utAll (-1) [rAt rs 1, rAt rs 2]]
mutual
/-- What an expression comes to; sz: the units' sizes. -/
def rkE (sz : Int → Int × Int) : Ex → Int × Int
  | .mk k n d u ks => if k = 1 then (if u = 0 then (n, d) else wk.mulAll [(n, d), sz u]) else rkK k (rkEs sz ks)
def rkEs (sz : Int → Int × Int) : List Ex → List (Int × Int)
  | [] => []
  | e :: es => rkE sz e :: rkEs sz es
end
theorem rkEs_map (sz : Int → Int × Int) (l : List Ex) : rkEs sz l = l.map (rkE sz) := by
  induction l with
  | nil => rw [rkEs]; rfl
  | cons x r ih => rw [rkEs, ih]; rfl
theorem rkE_mk (sz : Int → Int × Int) (k n d u : Int) (ks : List Ex) : rkE sz (.mk k n d u ks) = if k = 1 then (if u = 0 then (n, d) else wk.mulAll [(n, d), sz u]) else rkK k (ks.map (rkE sz)) := by rw [rkE, rkEs_map]
def R64 (r : Int × Int) : Prop := i64 r.1 ∧ i64 r.2
theorem r64_zero : R64 (0, 0) := ⟨⟨by decide, by decide⟩, ⟨by decide, by decide⟩⟩
theorem rAt_64 {rs : List (Int × Int)} (h : ∀ r ∈ rs, R64 r) (i : Nat) : R64 (rAt rs i) := by
  unfold rAt
  rw [List.getD_eq_getElem?_getD]
  cases hi : rs[i]? with
  | none => exact r64_zero
  | some r => exact h r (List.mem_of_getElem? hi)
theorem utF_64 (k : Int) : ∀ (rs : List (Int × Int)) (o : Option (Int × Int)), (∀ r ∈ rs, R64 r) → (∀ r, o = some r → R64 r) → ∀ r, rs.foldl (wk.utS k) o = some r → R64 r := by
  intro rs
  induction rs with
  | nil => intro o _ ho r hr; exact ho r hr
  | cons x l ih =>
    intro o hl ho r hr
    refine ih (wk.utS k o x) (fun y hy => hl y (by simp [hy])) (fun y hy => ?_) r hr
    unfold wk.utS at hy
    cases o with
    | none => simp at hy
    | some b =>
      simp only [Option.bind_some] at hy
      split at hy
      · simp only [Option.some.injEq] at hy
        split at hy
        · subst hy; exact hl _ (by simp)
        · subst hy; exact ho _ rfl
      · simp at hy
theorem ut_64 (k : Int) {rs : List (Int × Int)} (h : ∀ r ∈ rs, R64 r) : R64 (wk.utAll k rs) := by
  cases rs with
  | nil => exact r64_zero
  | cons x l =>
    show R64 ((wk.utF k (x :: l) x).getD (0, 0))
    cases hq : wk.utF k (x :: l) x with
    | none => exact r64_zero
    | some r => exact utF_64 k (x :: l) (some x) h (fun y hy => by cases hy; exact h x (by simp)) r hq
theorem ng_64 {r : Int × Int} (h : R64 r) : R64 (ngR r) := wk.ng_I64 h.1 h.2
theorem dv_64 {r s : Int × Int} (h : R64 s) : R64 (dvR r s) := by
  unfold dvR
  by_cases v : wk.isV s.1 s.2 = true
  · obtain ⟨e1, e2⟩ := wk.div_eq (n := r.1) (d := r.2) h.1 h.2 v
    rw [← e1, ← e2]
    exact wk.mul_I64' _ _ _ _
  · have v' : wk.isV s.1 s.2 = false := by simpa using v
    obtain ⟨e1, e2⟩ := wk.div_no (n := r.1) (d := r.2) (m := s.1) (e := s.2) (by simp [v'])
    rw [e1, e2]
    exact r64_zero
theorem rkK_64 (k : Int) {rs : List (Int × Int)} (h : ∀ r ∈ rs, R64 r) : R64 (rkK k rs) := by
  unfold rkK
  have h0 := rAt_64 h 0
  have h1 := rAt_64 h 1
  have h2 := rAt_64 h 2
  split
  · exact wk.addAll_I64 rs
  split
  · exact ng_64 h0
  split
  · exact wk.mulAll_I64 rs
  split
  · exact dv_64 h0
  split
  · exact ut_64 _ h
  split
  · exact ut_64 _ h
  · refine ut_64 _ (fun r hr => ?_)
    simp at hr
    rcases hr with rfl | rfl
    · exact h0
    · refine ut_64 _ (fun r hr => ?_)
      simp at hr
      rcases hr with rfl | rfl
      · exact h1
      · exact h2
theorem rk_64 (sz : Int → Int × Int) {x : Ex} (h : OkX x) : R64 (rkE sz x) := by
  induction h with
  | mk k n d u ks h1 h2 ih =>
    rw [rkE_mk]
    split
    · split
      · exact ⟨h1.2.1, h1.2.2.1⟩
      · exact wk.mulAll_I64 _
    · refine rkK_64 k (fun r hr => ?_)
      obtain ⟨y, hy, rfl⟩ := List.mem_map.1 hr
      exact ih y hy
/-- Kids of an expression of numbers are such. -/
theorem kids_num {x : Ex} {j : Nat} (h : exM x j = true) (hk : ¬ x.k = 1) (h1 : kdE x = 1) : ∀ y ∈ x.ks, kdE y = 1 := by
  obtain ⟨k, n, d, u, ks⟩ := x
  rw [kd_rf h hk] at h1
  unfold rfK at h1
  have ha : cnK (ks.map kdE) 1 = ks.length := by
    split at h1
    · omega
    split at h1
    · omega
    split at h1
    · assumption
    split at h1 <;> omega
  have hb := all_cnt 1 (ks.map kdE)
  rw [List.length_map, ha] at hb
  simp only [decide_true, List.all_eq_true, beq_iff_eq] at hb
  intro y hy
  exact hb (kdE y) (List.mem_map.2 ⟨y, hy, rfl⟩)
theorem num_unit {n d u : Int} {ks : List Ex} (h : kdE (.mk 1 n d u ks) = 1) : u = 0 := by
  rw [kdE_mk, if_pos rfl] at h
  by_cases e : u = 0
  · exact e
  · rw [if_neg e] at h; omega
/-- How many kids. -/
theorem kids_len {x : Ex} {j : Nat} (h : exM x j = true) (hk : ¬ x.k = 1) : (x.k = 2 ∨ x.k = 3 ∨ x.k = 4 ∨ x.k = 5 ∨ x.k = 6 ∨ x.k = 7 ∨ x.k = 8) ∧ 1 ≤ x.ks.length ∧ (x.k = 8 → x.ks.length = 3) := by
  have h0 := exM_kids h hk
  rw [exM_eq, Bool.and_eq_true, if_neg hk, Bool.and_eq_true, Bool.and_eq_true] at h
  have hc := h.2.1.2
  unfold cntM at hc
  refine ⟨?_, h0.2, ?_⟩
  · split at hc
    · omega
    split at hc
    · omega
    split at hc
    · omega
    · cases hc
  · intro h8
    rw [h8] at hc
    simpa using hc
theorem exMs_mem {l : List Ex} {j : Nat} (h : exMs l j = true) : ∀ y ∈ l, exM y j = true := by
  induction l with
  | nil => intro y hy; cases hy
  | cons x r ih =>
    rw [exMs_cons, Bool.and_eq_true] at h
    intro y hy
    rcases List.mem_cons.1 hy with rfl | hy
    · exact h.1
    · exact ih h.2 y hy
end Go.Proofs.YticgcokhdipomabDoor.nm
