/-
  The normal form of an expression: plain.
  Is an expression that has a kind a length? By the program.
-/
import Derived.Test.YtlhmecagijdinaaDoorH16
import Derived.Test.YtlhmecagijdinaaDoorK10
import Derived.Test.YtlhmecagijdinaaDoorJ05
set_option linter.unusedVariables false
set_option linter.unusedSimpArgs false
namespace Go.Proofs.YtlhmecagijdinaaDoor.nm
open Go.RowKit cc

/-- The numbers among expressions. -/
def nmE (l : List Ex) : List (Int × Int) := (l.filter fun y => kdE y == 1).map (rkE z0R)
/-- The place i, or nothing. -/
def foAt (l : List Fo) (i : Nat) : Fo := l.getD i (.mk z01 [])
/-- What a node's form is, by its kids' forms; m: the product of its numbers. -/
def fmK (D : Nat) (k : Int) (m : Int × Int) (l : List Fo) : Fo :=
  if k = 2 then .mk (ssU l) (ssP l) else if k = 3 then scF (-1, 1) D (foAt l 0) else if k = 4 then scF m D (foAt l 0) else if k = 6 then pkF false l else if k = 7 then pkF true l else pkF true [foAt l 0, pkF false [foAt l 1, foAt l 2]]
mutual
/-- The form of an expression that may nest j deep. -/
def fmE : Ex → Nat → Fo
  | .mk k n d u ks, j => if k = 1 then .mk (oneU u (n, d)) [] else fmK (2 * (j - 1)) k (wk.mulAll (nmE ks)) (fmEs ks (j - 1))
/-- The forms of the lengths among expressions. -/
def fmEs : List Ex → Nat → List Fo
  | [], _ => []
  | e :: es, j => if kdE e = 2 then fmE e j :: fmEs es j else fmEs es j
end
theorem fmE_mk (k n d u : Int) (ks : List Ex) (j : Nat) : fmE (.mk k n d u ks) j = if k = 1 then .mk (oneU u (n, d)) [] else fmK (2 * (j - 1)) k (wk.mulAll (nmE ks)) (fmEs ks (j - 1)) := by rw [fmE]
theorem fmEs_nil (j : Nat) : fmEs [] j = [] := by rw [fmEs]
theorem fmEs_cons (e : Ex) (es : List Ex) (j : Nat) : fmEs (e :: es) j = if kdE e = 2 then fmE e j :: fmEs es j else fmEs es j := by rw [fmEs]
theorem fmEs_app (a b : List Ex) (j : Nat) : fmEs (a ++ b) j = fmEs a j ++ fmEs b j := by
  induction a with
  | nil => rw [fmEs_nil]; rfl
  | cons e r ih =>
    rw [List.cons_append, fmEs_cons, fmEs_cons, ih]
    split <;> rfl
theorem fmEs_mem {l : List Ex} {j : Nat} {f : Fo} (h : f ∈ fmEs l j) : ∃ y ∈ l, kdE y = 2 ∧ f = fmE y j := by
  induction l with
  | nil => rw [fmEs_nil] at h; cases h
  | cons e r ih =>
    rw [fmEs_cons] at h
    split at h
    · rename_i hk
      rcases List.mem_cons.1 h with rfl | h
      · exact ⟨e, by simp, hk, rfl⟩
      · obtain ⟨y, h1, h2, h3⟩ := ih h; exact ⟨y, by simp [h1], h2, h3⟩
    · obtain ⟨y, h1, h2, h3⟩ := ih h; exact ⟨y, by simp [h1], h2, h3⟩
theorem fmEs_all {l : List Ex} (j : Nat) (h : ∀ y ∈ l, kdE y = 2) : fmEs l j = l.map fun y => fmE y j := by
  induction l with
  | nil => rw [fmEs_nil]; rfl
  | cons e r ih => rw [fmEs_cons, if_pos (h e (by simp)), ih (fun y hy => h y (by simp [hy]))]; rfl
theorem fmEs_len (l : List Ex) (j : Nat) : (fmEs l j).length = cnK (l.map kdE) 2 := by
  induction l with
  | nil => rw [fmEs_nil]; rfl
  | cons e r ih =>
    have hc : cnK ((e :: r).map kdE) 2 = cnK (r.map kdE) 2 + if kdE e = 2 then 1 else 0 := by
      unfold cnK; rw [List.map_cons, List.countP_cons]; simp
    rw [fmEs_cons, hc]
    split
    · rw [List.length_cons, ih]
    · rw [ih, Nat.add_zero]
theorem fmEs_step {l : List Ex} {m : Nat} {y : Ex} (h : l[m]? = some y) (j : Nat) : fmEs (l.take (m + 1)) j = fmEs (l.take m) j ++ if kdE y = 2 then [fmE y j] else [] := by
  rw [List.take_add_one, h, fmEs_app]
  show _ ++ fmEs [y] j = _
  rw [fmEs_cons, fmEs_nil]
theorem nmE_step {l : List Ex} {m : Nat} {y : Ex} (h : l[m]? = some y) : nmE (l.take (m + 1)) = nmE (l.take m) ++ if kdE y = 1 then [rkE z0R y] else [] := by
  rw [List.take_add_one, h]
  unfold nmE
  rw [List.filter_append, List.map_append]
  congr 1
  show (([y].filter fun y => kdE y == 1).map (rkE z0R)) = _
  rw [List.filter_cons, List.filter_nil]
  by_cases e : kdE y = 1
  · rw [if_pos e, if_pos (by simpa using e)]; rfl
  · rw [if_neg e, if_neg (by simpa using e)]; rfl
theorem nmE_64 {l : List Ex} (h : ∀ y ∈ l, OkX y) : ∀ r ∈ nmE l, R64 r := by
  intro r hr
  obtain ⟨y, hy, rfl⟩ := List.mem_map.1 hr
  exact rk_64 z0R (h y (List.mem_filter.1 hy).1)
theorem nmE_le (l : List Ex) : (nmE l).length ≤ l.length := by
  unfold nmE
  rw [List.length_map]
  exact List.length_filter_le _ _
/-! ### Kinds -/
theorem cn_zero {l : List Nat} {k : Nat} (h : cnK l k = 0) : ∀ x ∈ l, x ≠ k := by
  intro x hx e
  unfold cnK at h
  rw [List.countP_eq_zero] at h
  exact h x hx (by simpa using e)
theorem cn_all {l : List Nat} {k : Nat} (h : cnK l k = l.length) : ∀ x ∈ l, x = k := by
  have := all_cnt k l
  rw [h] at this
  simp only [decide_true, List.all_eq_true, beq_iff_eq] at this
  exact this
/-- Kids of an expression that has a kind. -/
theorem kids_kind {x : Ex} {j : Nat} (h : exM x j = true) (hk : ¬ x.k = 1) (h0 : ¬ kdE x = 0) :
    (∀ y ∈ x.ks, kdE y = 1 ∨ kdE y = 2) ∧ (¬ x.k = 4 → ∀ y ∈ x.ks, kdE y = kdE x) ∧ (x.k = 4 → (kdE x = 1 → ∀ y ∈ x.ks, kdE y = 1) ∧ (kdE x = 2 → cnK (x.ks.map kdE) 2 = 1)) ∧ (kdE x = 2 → ¬ x.k = 5) := by
  obtain ⟨k, n, d, u, ks⟩ := x
  simp only [Ex.k, Ex.ks] at *
  have e := kd_rf h hk
  have hle := kd_le2 ks
  have hlen := (exM_kids h hk).2
  simp only [Ex.ks] at hlen
  generalize kdE (.mk k n d u ks) = kx at *
  unfold rfK at e
  have hz : cnK (ks.map kdE) 0 = 0 := by
    by_cases g : 0 < cnK (ks.map kdE) 0
    · rw [if_pos g] at e; exact absurd e h0
    · omega
  rw [if_neg (by omega)] at e
  have m : ∀ {y}, y ∈ ks → kdE y ∈ ks.map kdE := fun hy => List.mem_map.2 ⟨_, hy, rfl⟩
  have nz : ∀ y ∈ ks, kdE y = 1 ∨ kdE y = 2 := fun y hy => by
    have h1 := cn_zero hz _ (m hy)
    have h2 := hle _ (m hy)
    omega
  have a1 : cnK (ks.map kdE) 1 = ks.length → ∀ y ∈ ks, kdE y = 1 := fun g y hy => cn_all (by rw [g, List.length_map]) _ (m hy)
  have a2 : cnK (ks.map kdE) 2 = ks.length → ∀ y ∈ ks, kdE y = 2 := fun g y hy => cn_all (by rw [g, List.length_map]) _ (m hy)
  refine ⟨nz, ?_, ?_, ?_⟩
  · intro k4
    rw [if_neg (fun g => k4 g.1)] at e
    split at e
    · rename_i g; subst e; exact a1 g
    · split at e
      · rename_i g; subst e; exact a2 g.1
      · exact absurd e h0
  · intro k4
    refine ⟨fun e1 => ?_, fun e2 => ?_⟩
    · split at e
      · omega
      · split at e
        · rename_i g; exact a1 g
        · split at e
          · omega
          · omega
    · split at e
      · rename_i g; exact g.2
      · split at e
        · omega
        · split at e
          · rename_i g; exact absurd k4 g.2.1
          · omega
  · intro e2 k5
    rw [if_neg (by omega)] at e
    split at e
    · omega
    · rw [if_neg (fun g => g.2.2 k5)] at e
      omega
/-- A product is a length if one of its kids is. -/
theorem prod_any {x : Ex} {j : Nat} (h : exM x j = true) (hk : x.k = 4) (h0 : ¬ kdE x = 0) : (kdE x == 2) = x.ks.any fun y => kdE y == 2 := by
  obtain ⟨h1, -, h3, -⟩ := kids_kind h (by omega) h0
  obtain ⟨h4, h5⟩ := h3 hk
  have hle := kdE_le _ x (Nat.le_refl _)
  rcases (show kdE x = 1 ∨ kdE x = 2 by omega) with e | e
  · rw [e]
    symm
    rw [show ((1 : Nat) == 2) = false from rfl, List.any_eq_false]
    intro y hy
    rw [h4 e y hy]
    decide
  · rw [e]
    symm
    rw [show ((2 : Nat) == 2) = true from rfl, List.any_eq_true]
    have := h5 e
    unfold cnK at this
    obtain ⟨a, ha, hb⟩ := List.countP_pos_iff.1 (show 0 < List.countP (fun x => x == 2) (x.ks.map kdE) by omega)
    obtain ⟨y, hy, rfl⟩ := List.mem_map.1 ha
    exact ⟨y, hy, hb⟩
/-! ### What may be -/
theorem addN_may (n d m e : Int) : mayB (wk.addN n d m e) (wk.addD n d m e) = true := by
  unfold wk.addN wk.addD
  split
  · rename_i h
    rw [Bool.and_eq_true] at h
    obtain ⟨h1, h2⟩ := h
    unfold wk.isV at h1 h2
    simp at h1 h2
    have a0 : ∀ z : Int, 0 ≤ wk.ab z := fun z => by unfold wk.ab; split <;> omega
    exact low_may _ (wk.mg_nonneg (Int.mul_nonneg (a0 _) (by omega)) (Int.mul_nonneg (a0 _) (by omega)))
  · decide
theorem addAll_may (rs : List (Int × Int)) : mayB (wk.addAll rs).1 (wk.addAll rs).2 = true := by
  have : ∀ (l : List (Int × Int)) (p : Int × Int), mayB p.1 p.2 = true → mayB (l.foldl (fun p r => (wk.addN p.1 p.2 r.1 r.2, wk.addD p.1 p.2 r.1 r.2)) p).1 (l.foldl (fun p r => (wk.addN p.1 p.2 r.1 r.2, wk.addD p.1 p.2 r.1 r.2)) p).2 = true := by
    intro l
    induction l with
    | nil => intro p h; exact h
    | cons x r ih => intro p _; exact ih _ (addN_may _ _ _ _)
  exact this rs (0, 1) (by decide)
theorem mulAll_mayA (rs : List (Int × Int)) : mayB (wk.mulAll rs).1 (wk.mulAll rs).2 = true := by
  by_cases h : rs = []
  · subst h; decide
  · exact mulAll_may rs h
theorem ng_may {r : Int × Int} (h : R64 r) : mayB (ngR r).1 (ngR r).2 = true := by
  show mayB (wk.ngN r.1 r.2) (wk.ngD r.1 r.2) = true
  unfold wk.ngN wk.ngD
  by_cases v : wk.isV r.1 r.2 = true
  · rw [if_pos v, if_pos v]
    have hr := h.1
    have e : wk.ab (-r.1) = wk.ab r.1 := by unfold wk.ab; split <;> split <;> omega
    have v2 := v
    unfold wk.isV at v2
    simp at v2
    have hn : (-r.1) ≠ -9223372036854775808 := by unfold i64 at hr; omega
    show wk.mayB (-r.1) r.2 = true
    unfold wk.mayB wk.isV
    rw [e]
    simp [hn, v2]
  · rw [if_neg v, if_neg v]; decide
theorem dv_may (r s : Int × Int) : mayB (dvR r s).1 (dvR r s).2 = true := by
  show mayB (wk.divN r.1 r.2 s.1 s.2) (wk.divD r.1 r.2 s.1 s.2) = true
  unfold wk.divN wk.divD
  split
  · rename_i h
    rw [Bool.and_eq_true, Bool.and_eq_true] at h
    have h2 := h.1.2
    unfold wk.isV at h2
    simp at h2
    exact low_may _ (Int.mul_nonneg (by unfold wk.ab; split <;> omega) (by omega))
  · decide
/-- What an expression comes to may be. -/
theorem rk_may (sz : Int → Int × Int) {x : Ex} {j : Nat} (hx : OkX x) (h : exM x j = true) : mayB (rkE sz x).1 (rkE sz x).2 = true := by
  have KX := hx.kids
  obtain ⟨k, n, d, u, ks⟩ := x
  rw [rkE_mk]
  by_cases k1 : k = 1
  · rw [if_pos k1]
    by_cases u0 : u = 0
    · rw [if_pos u0]
      rw [exM_eq, Bool.and_eq_true, if_pos (show (Ex.mk k n d u ks).k = 1 from k1), Bool.and_eq_true, Bool.and_eq_true] at h
      exact h.2.1.1
    · rw [if_neg u0]; exact mulAll_mayA _
  · rw [if_neg k1]
    have h64 : ∀ r ∈ ks.map (rkE sz), R64 r := fun r hr => by
      obtain ⟨y, hy, rfl⟩ := List.mem_map.1 hr
      exact rk_64 sz (KX y hy)
    unfold rkK
    split
    · exact addAll_may _
    split
    · exact ng_may (rAt_64 h64 0)
    split
    · exact mulAll_mayA _
    split
    · exact dv_may _ _
    split
    · exact ut_may _ _
    split
    · exact ut_may _ _
    · exact ut_may _ _
theorem mul_one' {r : Int × Int} (h : R64 r) (hm : mayB r.1 r.2 = true) : (wk.mulN 1 1 r.1 r.2, wk.mulD 1 1 r.1 r.2) = r := by
  obtain ⟨a, b⟩ := wk.one_mul (n := r.1) (d := r.2) h.1 h.2
  rw [a, b]
  unfold wk.clN wk.clD
  rw [show wk.mayB r.1 r.2 = true from hm]
  rfl
theorem mulAll_one {r : Int × Int} (h : R64 r) (hm : mayB r.1 r.2 = true) : wk.mulAll [r] = r := mul_one' h hm
theorem mulAll_app (l : List (Int × Int)) (r : Int × Int) : wk.mulAll (l ++ [r]) = wk.mulAll [wk.mulAll l, r] := by
  have e := mul_one' (wk.mulAll_I64 l) (mulAll_mayA l)
  show (l ++ [r]).foldl (fun p r => (wk.mulN p.1 p.2 r.1 r.2, wk.mulD p.1 p.2 r.1 r.2)) (1, 1) = (wk.mulN (wk.mulN 1 1 (wk.mulAll l).1 (wk.mulAll l).2) (wk.mulD 1 1 (wk.mulAll l).1 (wk.mulAll l).2) r.1 r.2, wk.mulD (wk.mulN 1 1 (wk.mulAll l).1 (wk.mulAll l).2) (wk.mulD 1 1 (wk.mulAll l).1 (wk.mulAll l).2) r.1 r.2)
  rw [Prod.mk.injEq] at e
  rw [e.1, e.2, List.foldl_append]
  rfl
/-- Seven fractions that may be. -/
def mayU (us : List (Int × Int)) : Bool := us.all fun r => mayB r.1 r.2
theorem z01_may : mayU z01 = true := by decide
theorem ct_mayT (r : Int × Int) : mayB (ctR r).1 (ctR r).2 = true := by
  unfold ctR
  by_cases h : mayB r.1 r.2 = true
  · rw [if_pos h]; exact h
  · rw [if_neg h]; decide
theorem one_may (u : Int) (r : Int × Int) : mayU (oneU u r) = true := by
  unfold oneU
  split
  · unfold mayU
    rw [List.all_eq_true]
    intro x hx
    rcases List.mem_or_eq_of_mem_set hx with hx | rfl
    · exact List.all_eq_true.1 z01_may x hx
    · exact ct_mayT r
  · exact z01_may
theorem plU_may (us vs : List (Int × Int)) : mayU (plU us vs) = true := by
  unfold mayU
  rw [List.all_eq_true]
  intro x hx
  unfold plU at hx
  obtain ⟨i, hi⟩ := List.mem_iff_getElem?.1 hx
  rw [List.getElem?_zipWith] at hi
  split at hi
  · simp only [Option.some.injEq] at hi
    subst hi
    exact addAll_may _
  · cases hi
theorem ssU_may (l : List Fo) : mayU (ssU l) = true := by
  unfold ssU sumU
  have : ∀ (q : List (List (Int × Int))) (z : List (Int × Int)), mayU z = true → mayU (q.foldl plU z) = true := by
    intro q
    induction q with
    | nil => intro z h; exact h
    | cons x r ih => intro z _; exact ih _ (plU_may _ _)
  exact this _ _ z01_may
theorem pkF_may {mx : Bool} {l : List Fo} (h : ∀ f ∈ l, mayU f.us = true) : mayU (pkF mx l).us = true := by
  unfold pkF
  split
  · rename_i h1
    match l, h1 with
    | [f], _ => exact h f (by simp)
  split
  · exact z01_may
  split
  · exact z01_may
  · exact one_may _ _
theorem scF_may (k : Int × Int) (n : Nat) (f : Fo) : mayU (scF k n f).us = true := by cases n <;> exact ssU_may _
theorem foAt_may {l : List Fo} (h : ∀ f ∈ l, mayU f.us = true) (i : Nat) : mayU (foAt l i).us = true := by
  unfold foAt
  rw [List.getD_eq_getElem?_getD]
  cases hi : l[i]? with
  | none => exact z01_may
  | some f => exact h f (List.mem_of_getElem? hi)
theorem fmK_may {D : Nat} {k : Int} {m : Int × Int} {l : List Fo} (h : ∀ f ∈ l, mayU f.us = true) : mayU (fmK D k m l).us = true := by
  unfold fmK
  split
  · exact ssU_may _
  split
  · exact scF_may _ _ _
  split
  · exact scF_may _ _ _
  split
  · exact pkF_may h
  split
  · exact pkF_may h
  · refine pkF_may fun f hf => ?_
    simp at hf
    rcases hf with rfl | rfl
    · exact foAt_may h 0
    · refine pkF_may fun f hf => ?_
      simp at hf
      rcases hf with rfl | rfl
      · exact foAt_may h 1
      · exact foAt_may h 2
theorem fm_may (N : Nat) : ∀ (x : Ex) (j : Nat), szE x ≤ N → mayU (fmE x j).us = true := by
  induction N with
  | zero => intro x j h; rw [szE_ks] at h; omega
  | succ N ih =>
    intro x j h
    rw [szE_ks] at h
    obtain ⟨k, n, d, u, ks⟩ := x
    rw [fmE_mk]
    split
    · exact one_may _ _
    · refine fmK_may fun f hf => ?_
      obtain ⟨y, hy, -, rfl⟩ := fmEs_mem hf
      obtain ⟨i, hi⟩ := List.mem_iff_getElem?.1 hy
      exact ih y (j - 1) (by have := szEs_at hi; simp only [Ex.ks] at h; omega)
/-! ### How great a form is -/
def smF (l : List Fo) : Nat := (l.map szF).sum
theorem ssP_sz (l : List Fo) : ((ssP l).map fun p => 1 + (p.2.map szF).sum).sum ≤ smF l := by
  induction l with
  | nil => exact Nat.le_refl _
  | cons f r ih =>
    show (((f.ps ++ ssP r).map fun p : Pa => 1 + (p.2.map szF).sum)).sum ≤ szF f + smF r
    rw [List.map_append, List.sum_append, szF_eq f]
    omega
theorem mkU_sz (us : List (Int × Int)) : szF (.mk us []) = 1 := by rw [szF_eq]; rfl
theorem pkF_sz (mx : Bool) (l : List Fo) : szF (pkF mx l) ≤ 2 + smF l := by
  unfold pkF
  split
  · rename_i h1
    match l, h1 with
    | [f], _ => show szF f ≤ 2 + (szF f + 0); omega
  split
  · rw [szF_eq]
    show 1 + (1 + smF l + 0) ≤ _
    omega
  split
  · rw [mkU_sz]; omega
  · rw [mkU_sz]; omega
theorem sf_pos (f : Fo) : 1 ≤ szF f := by rw [szF_eq]; omega
/-- A pick's parts are no more than it picks from. -/
theorem pkF_in (mx : Bool) (l : List Fo) : szF (pkF mx l) ≤ 1 + (1 + smF l) := by have := pkF_sz mx l; omega
theorem scF_sz (k : Int × Int) : ∀ (n : Nat) (f : Fo), szF (scF k n f) ≤ szF f := by
  have key : ∀ (g : Fo → Fo) (f : Fo), (∀ p ∈ f.ps, ∀ x ∈ p.2, szF (g x) ≤ szF x) → szF (.mk (ssU (scG g k f)) (ssP (scG g k f))) ≤ szF f := by
    intro g f hg
    rw [szF_eq, szF_eq f]
    show 1 + ((ssP (scG g k f)).map fun p => 1 + (p.2.map szF).sum).sum ≤ _
    have e : ssP (scG g k f) = ssP (f.ps.map fun p => pkF (scX k p.1) (p.2.map g)) := rfl
    rw [e]
    have hp : ∀ (ps : List Pa), (∀ p ∈ ps, ∀ x ∈ p.2, szF (g x) ≤ szF x) → ((ssP (ps.map fun p => pkF (scX k p.1) (p.2.map g))).map fun p : Pa => 1 + (p.2.map szF).sum).sum ≤ (ps.map fun p => 1 + (p.2.map szF).sum).sum := by
      intro ps
      induction ps with
      | nil => intro _; exact Nat.le_refl _
      | cons p r ih =>
        intro h
        have ihr := ih fun q hq => h q (by simp [hq])
        have h1 := pkF_in (scX k p.1) (p.2.map g)
        rw [szF_eq] at h1
        have h2 : smF (p.2.map g) ≤ (p.2.map szF).sum := by
          unfold smF
          rw [List.map_map]
          exact sum_le _ (fun x hx => h p (by simp) x hx)
        rw [List.map_cons, List.map_cons, List.sum_cons]
        show (((pkF (scX k p.1) (p.2.map g)).ps ++ ssP (r.map fun p => pkF (scX k p.1) (p.2.map g))).map fun p : Pa => 1 + (p.2.map szF).sum).sum ≤ _
        rw [List.map_append, List.sum_append]
        omega
    have := hp f.ps hg
    omega
  intro n
  induction n with
  | zero => intro f; exact key id f (fun p _ x _ => Nat.le_refl _)
  | succ n ih => intro f; exact key (scF k n) f (fun p _ x _ => ih x)
theorem foAt_sz {l : List Fo} {i : Nat} (h : i < l.length) : szF (foAt l i) ≤ smF l := by
  unfold foAt smF
  rw [List.getD_eq_getElem?_getD, List.getElem?_eq_getElem h]
  show szF l[i] ≤ _
  have : ∀ (l : List Fo) (x : Fo), x ∈ l → szF x ≤ (l.map szF).sum := by
    intro l
    induction l with
    | nil => intro x hx; cases hx
    | cons a r ih =>
      intro x hx
      rw [List.map_cons, List.sum_cons]
      rcases List.mem_cons.1 hx with rfl | hx
      · omega
      · have := ih x hx; omega
  exact this l _ (List.getElem_mem h)
theorem fmK_sz {D : Nat} {k : Int} {m : Int × Int} {l : List Fo} (h1 : 1 ≤ l.length) (h8 : k = 2 ∨ k = 3 ∨ k = 4 ∨ k = 6 ∨ k = 7 ∨ (k = 8 ∧ l.length = 3)) : szF (fmK D k m l) ≤ 4 + smF l := by
  unfold fmK
  split
  · have := ssP_sz l
    rw [szF_eq]
    show 1 + ((ssP l).map fun p => 1 + (p.2.map szF).sum).sum ≤ _
    omega
  split
  · have := scF_sz (-1, 1) D (foAt l 0); have := foAt_sz (l := l) (i := 0) (by omega); omega
  split
  · have := scF_sz m D (foAt l 0); have := foAt_sz (l := l) (i := 0) (by omega); omega
  split
  · have := pkF_sz false l; omega
  split
  · have := pkF_sz true l; omega
  · obtain ⟨-, h3⟩ : k = 8 ∧ l.length = 3 := by omega
    match l, h3 with
    | [a, b, c], _ =>
      have q1 := pkF_sz true [a, pkF false [b, c]]
      have q2 := pkF_sz false [b, c]
      have e1 : smF [a, pkF false [b, c]] = szF a + (szF (pkF false [b, c]) + 0) := rfl
      have e2 : smF [b, c] = szF b + (szF c + 0) := rfl
      have e3 : smF [a, b, c] = szF a + (szF b + (szF c + 0)) := rfl
      show szF (pkF true [a, pkF false [b, c]]) ≤ _
      omega
theorem smF_app (a b : List Fo) : smF (a ++ b) = smF a + smF b := by unfold smF; rw [List.map_append, List.sum_append]
theorem fm_sz (N : Nat) : ∀ (x : Ex) (j : Nat), szE x ≤ N → exM x j = true → kdE x = 2 → szF (fmE x j) ≤ 4 * szE x := by
  induction N with
  | zero => intro x j h; rw [szE_ks] at h; omega
  | succ N ih =>
    intro x j h hm hk
    rw [szE_ks] at h ⊢
    have KL := fun h => kids_len hm h
    have KK := fun h => kids_kind hm h (by omega)
    have KM := fun h => exMs_mem (exM_kids hm h).1
    obtain ⟨k, n, d, u, ks⟩ := x
    simp only [Ex.k, Ex.ks] at *
    rw [fmE_mk]
    by_cases k1 : k = 1
    · rw [if_pos k1, mkU_sz]; omega
    · rw [if_neg k1]
      obtain ⟨c1, c2, c3⟩ := KL k1
      obtain ⟨d1, d2, d3, d4⟩ := KK k1
      have hl : (fmEs ks (j - 1)).length = cnK (ks.map kdE) 2 := fmEs_len ks (j - 1)
      have h4 : smF (fmEs ks (j - 1)) ≤ 4 * szEs ks := by
        have : ∀ (l : List Ex), (∀ y ∈ l, szE y ≤ N) → (∀ y ∈ l, exM y (j - 1) = true) → smF (fmEs l (j - 1)) ≤ 4 * szEs l := by
          intro l
          induction l with
          | nil => intro _ _; rw [fmEs_nil]; exact Nat.zero_le _
          | cons e r ihl =>
            intro h1 h2
            have ihr := ihl (fun y hy => h1 y (by simp [hy])) (fun y hy => h2 y (by simp [hy]))
            rw [szEs_cons, ← szE_ks, fmEs_cons]
            split
            · rename_i he
              have := ih e (j - 1) (h1 e (by simp)) (h2 e (by simp)) he
              show szF (fmE e (j - 1)) + smF (fmEs r (j - 1)) ≤ _
              omega
            · omega
        refine this ks (fun y hy => ?_) (KM k1)
        obtain ⟨i, hi⟩ := List.mem_iff_getElem?.1 hy
        have := szEs_at hi
        omega
      have hcnt : ¬ k = 4 → cnK (ks.map kdE) 2 = ks.length := fun k4 => by
        have e := fmEs_all (j - 1) (fun y hy => (d2 k4 y hy).trans hk)
        rw [← fmEs_len ks (j - 1), e, List.length_map]
      have h5 := fmK_sz (D := 2 * (j - 1)) (k := k) (m := wk.mulAll (nmE ks)) (l := fmEs ks (j - 1)) (by
        by_cases k4 : k = 4
        · rw [hl, (d3 k4).2 hk]; exact Nat.le_refl _
        · rw [hl, hcnt k4]; exact c2) (by
        have := d4 hk
        rcases c1 with c | c | c | c | c | c | c
        · exact .inl c
        · exact .inr (.inl c)
        · exact .inr (.inr (.inl c))
        · exact absurd c this
        · exact .inr (.inr (.inr (.inl c)))
        · exact .inr (.inr (.inr (.inr (.inl c))))
        · exact .inr (.inr (.inr (.inr (.inr ⟨c, by rw [hl, hcnt (by omega), c3 c]⟩)))))
      omega
end Go.Proofs.YtlhmecagijdinaaDoor.nm
set_option linter.unusedVariables false
set_option linter.unusedSimpArgs false
namespace Go.Proofs.YtlhmecagijdinaaDoor.nm
open Go.RowKit cc

def RelIx (w : World) (P : Ex → Bool) (l : List Ex) (B : Bool) (i : Value) (wr : World) : Prop := ∃ m : Nat, i = .int .i64 m ∧ m ≤ l.length ∧ Below w.heap.size w wr ∧ Hid (B = (l.drop m).any P)
theorem RelIx.mk {w : World} {P : Ex → Bool} {l : List Ex} {B : Bool} {i : Value} {wr : World} (m : Nat) (h1 : i = .int .i64 m) (h2 : m ≤ l.length) (h3 : Below w.heap.size w wr) (h4 : B = (l.drop m).any P) : RelIx w P l B i wr := ⟨m, h1, h2, h3, h4⟩
/-- What a look tells of an expression. -/
def LkC (g : Nat) (w : World) (P : Ex → Bool) (l : List Ex) : Prop := ∀ (i : Nat) (y : Ex) (u : Value) (W : World), l[i]? = some y → Below w.heap.size w W → EM W u y.ks → Calls Tryd.prog g #[exV y u] W fun e w' => e = .returned (.bool (P y)) ∧ Below W.heap.size W w'
set_option maxRecDepth 100000 in
set_option maxHeartbeats 4000000 in
theorem indexF_any (g : Nat) (eg : ∀ args w, (callFunc g args).run Tryd.prog w = .ok (.enter g args) w) (P : Ex → Bool) (l : List Ex) (v : Value) (w : World) (hv : EM w v l) (hg : LkC g w P l) :
    Calls Tryd.prog 89 #[v, .func (.func g) #[] #[]] w fun e w' => ((l.any P = true ∧ ∃ z : Nat, e = .returned (.int .i64 z) ∧ z ≤ 1000000000) ∨ (l.any P = false ∧ e = .returned (.int .i64 (-1)))) ∧ Below w.heap.size w w' := by
  obtain ⟨a, c, rfl, hl9⟩ := hv.shape
  have HV := hide hv
  have HG := hide hg
  unfold LkC at HG
  obtain ⟨B, hB⟩ : ∃ B, l.any P = B := ⟨_, rfl⟩
  rw [hB]
  have HB := hide hB
  clear hv hg hB
  go_enter Tryd.func89, Tryd.ntmps89
  go_wp2
  go_loopw [8] (fun i wr => RelIx w P l B i wr) (fun i _ => l.length - (intOf i).toNat)
  case atStart => exact .mk 0 rfl (by omega) (Below.refl _ _) HB.out.symm
  case round =>
    obtain ⟨m, rfl, hm, BE, R⟩ := hrel
    replace BE := hide BE
    by_cases hlt : m < l.length
    · obtain ⟨y, hy⟩ : ∃ y, l[m]? = some y := ⟨_, List.getElem?_eq_getElem hlt⟩
      obtain ⟨b, o, c', u, hv', hb, -, -, yo, t5, hu5, hku⟩ := HV.out.at hy
      obtain ⟨rfl, rfl⟩ : a = some ⟨b, o, none⟩ ∧ c = c' := by cases hv'; exact ⟨rfl, rfl⟩
      obtain ⟨ua, uc, hus, hks9⟩ := hku.shape
      have KU := hide hku
      have R2 := hide (show B = (P y || (l.drop (m + 1)).any P) by rw [R.out, drop_atE hy]; rfl)
      have hlt' : (m : Int) < l.length := by omega
      obtain ⟨c0, c1, c2, c3⟩ := t5.below BE.out hb
      have c4 := (BE.out.cell (p := ⟨b, o + m * 5 + 4, none⟩) hb).trans hu5
      have hbw : b < wr.heap.size := by have := BE.out.size; omega
      have nb : b ≠ wr.heap.size := by omega
      subst hus
      have CI := hide (fun (W : World) (h : Below w.heap.size w W) => HG.out m y (.slice ua y.ks.length uc) W hy h (KU.out.low h))
      unfold exV at CI
      clear hy hv' t5 hu5 hku R yo
      generalize y.k = yk at *
      generalize y.n = yn at *
      generalize y.d = yd at *
      generalize y.u = yu at *
      cases hp : P y
      · have E := hide (show B = (l.drop (m + 1)).any P by rw [R2.out, hp]; rfl)
        rw [hp] at CI
        clear R2 hp
        go_wp2_with (go_at_fn g; refine (CI.out _ BE.out).mono ?_; rintro e w4 ⟨rfl, B4⟩; replace B4 := hide (bto BE.out B4))
        go_roundw
        case rel => exact .mk (m + 1) (by go_num) (by omega) B4.out E.out
        case measure => simp [intOf]; omega
      · have E := hide (show B = true by rw [R2.out, hp]; rfl)
        rw [hp] at CI
        clear R2 hp
        go_wp2_with (go_at_fn g; refine (CI.out _ BE.out).mono ?_; rintro e w4 ⟨rfl, B4⟩; replace B4 := hide (bto BE.out B4))
        go_ret
        exact ⟨.inl ⟨E.out, m, rfl, by omega⟩, B4.out⟩
    · have hlt' : ¬ (m : Int) < l.length := by omega
      have E := hide (show B = false by rw [R.out, List.drop_of_length_le (by omega)]; rfl)
      go_wp2
      go_ret
      exact ⟨.inr ⟨E.out, rfl⟩, BE.out⟩
set_option maxRecDepth 100000 in
set_option maxHeartbeats 4000000 in
theorem containsF_any (g : Nat) (eg : ∀ args w, (callFunc g args).run Tryd.prog w = .ok (.enter g args) w) (P : Ex → Bool) (l : List Ex) (v : Value) (w : World) (hv : EM w v l) (hg : LkC g w P l) :
    Calls Tryd.prog 78 #[v, .func (.func g) #[] #[]] w fun e w' => e = .returned (.bool (l.any P)) ∧ Below w.heap.size w w' := by
  obtain ⟨a, c, rfl, hl9⟩ := hv.shape
  have C := hide (indexF_any g eg P l _ w hv hg)
  clear hv hg
  cases hp : l.any P
  · have C2 := hide (C.out.mono (R' := fun e w' => e = .returned (.int .i64 (-1)) ∧ Below w.heap.size w w') (by
      rintro e w1 ⟨h | h, B⟩
      · rw [hp] at h; exact absurd h.1 (by simp)
      · exact ⟨h.2, B⟩))
    clear C hp
    go_enter Tryd.func78, Tryd.ntmps78
    go_wp2_with (go_at_call 89; refine C2.out.mono ?_; rintro e w1 ⟨rfl, B1⟩)
    go_ret
    exact ⟨rfl, B1⟩
  · have C2 := hide (C.out.mono (R' := fun e w' => (∃ z : Nat, e = .returned (.int .i64 z) ∧ z ≤ 1000000000) ∧ Below w.heap.size w w') (by
      rintro e w1 ⟨h | h, B⟩
      · exact ⟨h.2, B⟩
      · rw [hp] at h; exact absurd h.1 (by simp)))
    clear C hp
    go_enter Tryd.func78, Tryd.ntmps78
    go_wp2_with (go_at_call 89; refine C2.out.mono ?_; rintro e w1 ⟨⟨z, rfl, hz⟩, B1⟩)
    go_ret
    exact ⟨ret_bool (by simp), B1⟩
def IsC (N : Nat) : Prop := ∀ (x : Ex) (j : Nat) (u : Value) (w : World), szE x ≤ N → exM x j = true → ¬ kdE x = 0 → EM w u x.ks → Calls Tryd.prog 54 #[exV x u] w fun e w' => e = .returned (.bool (kdE x == 2)) ∧ Below w.heap.size w w'
set_option maxRecDepth 100000 in
set_option maxHeartbeats 8000000 in
theorem isLength_all (N : Nat) : IsC N := by
  induction N with
  | zero => intro x j u w hN; rw [szE_ks] at hN; omega
  | succ N ih =>
    intro x j u w hN hm hk hu
    obtain ⟨a, c, rfl, hl9⟩ := hu.shape
    rw [szE_ks] at hN
    have KK := fun h => kids_kind hm h hk
    have KL := fun h => kids_len hm h
    have KM := fun h => exMs_mem (exM_kids hm h).1
    have PA := fun h => prod_any hm h hk
    obtain ⟨k, n, d, q, ks⟩ := x
    simp only [Ex.k, Ex.n, Ex.d, Ex.u, Ex.ks] at hN hl9 hu KK KL KM PA
    show Calls Tryd.prog 54 #[.agg #[.int .i64 k, .int .i64 n, .int .i64 d, .int .i64 q, .slice a ks.length c]] w _
    have BB := hide (bplus (Below.refl w.heap.size w) (.cells #[.int .i64 k, .int .i64 n, .int .i64 d, .int .i64 q, .slice a ks.length c] 26))
    by_cases k1 : k = 1
    · subst k1
      have F := hide (show (kdE (.mk 1 n d q ks) == 2) = !(q == 0) by
        rw [kdE_mk, if_pos rfl]
        by_cases e : q = 0
        · subst e; rfl
        · rw [if_neg e, show (q == 0) = false by simpa using e]; rfl)
      clear ih hm hk hu KK KL KM PA
      go_enter Tryd.func54, Tryd.ntmps54
      go_wp2
      go_ret
      exact ⟨ret_bool (by rw [F.out]; rfl), BB.out⟩
    · have k1' : (k == 1) = false := by simpa using k1
      obtain ⟨hkk, hl1, h83⟩ := KL k1
      obtain ⟨d1, d2, d3, d4⟩ := KK k1
      by_cases k4 : k = 4
      · subst k4
        have F := hide (PA rfl)
        have CC := hide (fun (W : World) (h : Below w.heap.size w W) => containsF_any 54 (enters_of Tryd.func54 (by kernel_rfl) rfl) (fun y => kdE y == 2) ks (.slice a ks.length c) W (hu.low h) (fun i y u W' hy h' hu' => ih y (j - 1) u W' (by have := szEs_at hy; omega) (KM (by decide) y (List.mem_of_getElem? hy)) (by have := d1 y (List.mem_of_getElem? hy); omega) hu'))
        clear ih hm hk hu KK KL KM PA d1 d2 d3 d4
        go_enter Tryd.func54, Tryd.ntmps54
        go_wp2_with (go_at_call 78; refine (CC.out _ BB.out).mono ?_; rintro e w1 ⟨rfl, B1⟩; replace B1 := hide (bto BB.out B1))
        go_ret
        exact ⟨by rw [F.out]; rfl, B1.out⟩
      · have k4' : (k == 4) = false := by simpa using k4
        obtain ⟨y, r, rfl⟩ : ∃ y r, ks = y :: r := by
          cases ks with
          | nil => simp at hl1
          | cons y r => exact ⟨y, r, rfl⟩
        have F := hide (show (kdE y == 2) = (kdE (.mk k n d q (y :: r)) == 2) by rw [d2 k4 y (by simp)])
        obtain ⟨b, o, c', u5, hv', hb, -, -, -, yo, t5, hu5, hku, -⟩ := em_tail hu
        obtain ⟨rfl, rfl⟩ : a = some ⟨b, o, none⟩ ∧ c = c' := by cases hv'; exact ⟨rfl, rfl⟩
        have CI := hide (fun (W : World) (h : Below w.heap.size w W) => ih y (j - 1) u5 W (by rw [szEs_cons, ← szE_ks] at hN; omega) (KM k1 y (by simp)) (by have := d1 y (by simp); omega) (hku.low h))
        obtain ⟨ua, uc, rfl, -⟩ := hku.shape
        obtain ⟨c0, c1, c2, c3⟩ := t5
        unfold exV at CI
        have nb : b ≠ w.heap.size := by omega
        have hl0 : (0 : Int) < (r.length : Int) + 1 := by omega
        clear ih hm hk hu KK KL KM PA d1 d2 d3 d4 hku yo
        (try clear hv')
        rw [← F.out]
        clear F
        generalize kdE y = ky at *
        generalize y.k = yk at *
        generalize y.n = yn at *
        generalize y.d = yd at *
        generalize y.u = yu at *
        generalize y.ks.length = yl at *
        go_enter Tryd.func54, Tryd.ntmps54
        go_wp2_with (go_at_call 54; refine (CI.out _ BB.out).mono ?_; rintro e w1 ⟨rfl, B1⟩; replace B1 := hide (bto BB.out B1))
        go_ret
        exact ⟨rfl, B1.out⟩
end Go.Proofs.YtlhmecagijdinaaDoor.nm
