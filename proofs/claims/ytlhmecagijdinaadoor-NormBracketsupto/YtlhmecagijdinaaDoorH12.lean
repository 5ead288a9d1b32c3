/-
  The kind of an expression: by the reference; the law of kinds.
  What an expression comes to: plain.
  What an expression of numbers comes to: by the program.
-/
import Derived.Test.YtlhmecagijdinaaDoorN20
import Derived.Test.YtlhmecagijdinaaDoorH04
import Derived.Deep.OwnRows
set_option linter.unusedVariables false
set_option linter.unusedSimpArgs false
namespace Go.Proofs.YtlhmecagijdinaaDoor.cc
open Go.RowKit

/-- How many have this kind. -/
def cnK (l : List Nat) (k : Nat) : Nat := l.countP (fun x => x == k)
theorem cnK_snoc (l : List Nat) (x k : Nat) : cnK (l ++ [x]) k = cnK l k + if x = k then 1 else 0 := by
  unfold cnK
  rw [List.countP_append, List.countP_singleton]
  simp
theorem cnK_le (l : List Nat) (k : Nat) : cnK l k ≤ l.length := List.countP_le_length
theorem pr_cnt (l : List Nat) (h : ∀ x ∈ l, x ≤ 2) : ∀ p, (p = 1 ∨ p = 2) → prK l p = if cnK l 0 > 0 then 0 else if cnK l 2 + (p - 1) = 1 then 2 else if cnK l 1 = l.length ∧ p = 1 then 1 else 0 := by
  induction l with
  | nil => intro p hp; rcases hp with rfl | rfl <;> rfl
  | cons x r ih =>
    intro p hp
    have hx := h x (by simp)
    have ihr := ih (fun y hy => h y (by simp [hy]))
    have l1 := cnK_le r 1
    have hc : ∀ k, cnK (x :: r) k = cnK r k + if x = k then 1 else 0 := fun k => by
      unfold cnK; rw [List.countP_cons]; simp
    rw [prK, hc 0, hc 1, hc 2, List.length_cons]
    rcases (show x = 0 ∨ x = 1 ∨ x = 2 by omega) with rfl | rfl | rfl
    · simp
    · rw [if_pos rfl, ihr p hp]
      simp
    · rw [if_neg (by omega)]
      rcases hp with rfl | rfl
      · rw [if_pos ⟨rfl, rfl⟩, ihr 2 (.inr rfl)]
        by_cases g0 : cnK r 0 > 0
        · simp [g0]
        · by_cases g2 : cnK r 2 = 0
          · simp [g0, g2]
          · have : ¬ cnK r 2 + 1 = 1 := by omega
            simp [g0, g2]
            omega
      · rw [if_neg (by omega)]
        by_cases g0 : cnK r 0 > 0
        · simp [g0]
        · simp [g0]
theorem all_cnt (k : Nat) (r : List Nat) : r.all (fun x => x == k) = decide (cnK r k = r.length) := by
  unfold cnK
  induction r with
  | nil => rfl
  | cons x r ih =>
    rw [List.all_cons, ih, List.countP_cons, List.length_cons]
    have := List.countP_le_length (p := fun x => x == k) (l := r)
    by_cases hx : x = k
    · subst hx; simp
    · rw [show (x == k) = false by simpa using hx]
      simp only [Bool.false_and, Bool.false_eq_true, if_false, Nat.add_zero]
      symm
      rw [decide_eq_false_iff_not]
      omega
theorem co_cnt (l : List Nat) (h : ∀ x ∈ l, x ≤ 2) (h0 : 0 < l.length) : coK l = if cnK l 0 > 0 then 0 else if cnK l 1 = l.length then 1 else if cnK l 2 = l.length then 2 else 0 := by
  cases l with
  | nil => simp at h0
  | cons x r =>
    have hx := h x (by simp)
    have hc : ∀ k, cnK (x :: r) k = cnK r k + if x = k then 1 else 0 := fun k => by
      unfold cnK; rw [List.countP_cons]; simp
    rw [coK, all_cnt, hc 0, hc 1, hc 2, List.length_cons]
    have l0 := cnK_le r 0
    have l1 := cnK_le r 1
    have l2 := cnK_le r 2
    have hs : cnK r 0 + cnK r 1 + cnK r 2 = r.length := by
      have : ∀ l : List Nat, (∀ x ∈ l, x ≤ 2) → cnK l 0 + cnK l 1 + cnK l 2 = l.length := by
        intro l
        induction l with
        | nil => intro _; rfl
        | cons y r ih =>
          intro hl
          have hy := hl y (by simp)
          have := ih (fun z hz => hl z (by simp [hz]))
          have hc : ∀ k, cnK (y :: r) k = cnK r k + if y = k then 1 else 0 := fun k => by
            unfold cnK; rw [List.countP_cons]; simp
          rw [hc 0, hc 1, hc 2, List.length_cons]
          rcases (show y = 0 ∨ y = 1 ∨ y = 2 by omega) with rfl | rfl | rfl <;> simp <;> omega
      exact this r (fun y hy => h y (by simp [hy]))
    rcases (show x = 0 ∨ x = 1 ∨ x = 2 by omega) with rfl | rfl | rfl
    · simp
    · by_cases g : cnK r 1 = r.length
      · have : cnK r 0 = 0 := by omega
        simp [g, this]
      · simp [g]
        intro _ _
        omega
    · by_cases g : cnK r 2 = r.length
      · have g0 : cnK r 0 = 0 := by omega
        have g1 : ¬ cnK r 1 = r.length + 1 := by omega
        simp [g, g0]
        omega
      · simp [g]
        intro _ _
        omega
/-- As the reference tells it: by how many have which kind. -/
def rfK (k : Int) (a0 a1 a2 n : Nat) : Nat := if 0 < a0 then 0 else if k = 4 ∧ a2 = 1 then 2 else if a1 = n then 1 else if a2 = n ∧ ¬ k = 4 ∧ ¬ k = 5 then 2 else 0
theorem kd_le2 (l : List Ex) : ∀ x ∈ l.map kdE, x ≤ 2 := fun x hx => by
  rw [List.mem_map] at hx
  obtain ⟨e, _, rfl⟩ := hx
  exact kdE_le _ e (Nat.le_refl _)
theorem cnK_one (x k : Nat) : cnK [x] k = if x = k then 1 else 0 := by unfold cnK; rw [List.countP_singleton]; simp
theorem kd_rf {k n d u : Int} {ks : List Ex} {j : Nat} (h : exM (.mk k n d u ks) j = true) (hk : ¬ k = 1) : kdE (.mk k n d u ks) = rfK k (cnK (ks.map kdE) 0) (cnK (ks.map kdE) 1) (cnK (ks.map kdE) 2) ks.length := by
  have hl := (exM_kids h hk).2
  simp only [Ex.ks] at hl
  rw [kdE_mk, if_neg hk]
  unfold rfK
  by_cases k4 : k = 4
  · rw [if_pos k4, pr_cnt _ (kd_le2 ks) 1 (.inl rfl), List.length_map]
    simp only [k4, gt_iff_lt, Nat.sub_self, Nat.add_zero, true_and, and_true, not_true, false_and, and_false, if_false]
  · rw [if_neg k4]
    by_cases k5 : k = 5
    · rw [if_pos k5]
      have h1 : ks.length = 1 := by
        rw [exM_eq, Bool.and_eq_true, if_neg (show ¬ (Ex.mk k n d u ks).k = 1 from hk), Bool.and_eq_true, Bool.and_eq_true] at h
        have := cnt_true h.2.1.2
        simp only [Ex.k, Ex.ks] at this
        omega
      obtain ⟨y, rfl⟩ : ∃ y, ks = [y] := by
        match ks, h1 with
        | [y], _ => exact ⟨y, rfl⟩
      have hy := kd_le2 [y] (kdE y) (by simp)
      simp only [List.map_cons, List.map_nil, List.head?_cons, Option.some.injEq, cnK_one, List.length_cons, List.length_nil, k5]
      rcases (show kdE y = 0 ∨ kdE y = 1 ∨ kdE y = 2 by omega) with h | h | h <;> simp [h]
    · rw [if_neg k5, co_cnt _ (kd_le2 ks) (by rw [List.length_map]; omega), List.length_map]
      simp only [k4, k5, gt_iff_lt, false_and, if_false, not_false_eq_true, and_true]
end Go.Proofs.YtlhmecagijdinaaDoor.cc
set_option linter.unusedVariables false
set_option linter.unusedSimpArgs false
namespace Go.Proofs.YtlhmecagijdinaaDoor.nm
open Go.RowKit cc

/-- An expression whose numbers are of 64 bits, however deep they stand. -/
inductive OkX : Ex → Prop
  | mk (k n d u : Int) (ks : List Ex) (h1 : (Ex.mk k n d u ks).Ok) (h2 : ∀ y, y ∈ ks → OkX y) : OkX (.mk k n d u ks)
theorem OkX.ok {x : Ex} (h : OkX x) : x.Ok := by cases h; assumption
theorem OkX.kids {x : Ex} (h : OkX x) : ∀ y ∈ x.ks, OkX y := by cases h; assumption
theorem em_okx {w : World} {v : Value} {l : List Ex} (h : EM w v l) : ∀ y ∈ l, OkX y := by
  induction h with
  | nil a c => intro y hy; cases hy
  | row b o c l u h0 hb hc hn hm hx ht hu hk ih =>
    intro y hy
    obtain ⟨i, hi⟩ := List.mem_iff_getElem?.1 hy
    obtain ⟨k, n, d, q, ks⟩ := y
    exact .mk k n d q ks (hx i _ hi) (ih i _ hi)
/-- The place i, or over. -/
def rAt (rs : List (Int × Int)) (i : Nat) : Int × Int := rs.getD i (0, 0)
def ngR (r : Int × Int) : Int × Int := (wk.ngN r.1 r.2, wk.ngD r.1 r.2)
def dvR (r s : Int × Int) : Int × Int := (wk.divN r.1 r.2 s.1 s.2, wk.divD r.1 r.2 s.1 s.2)
/-- What a node comes to, by what its kids come to. -/
def rkK (k : Int) (rs : List (Int × Int)) : Int × Int :=
  if k = 2 then wk.addAll rs else if k = 3 then ngR (rAt rs 0) else if k = 4 then wk.mulAll rs else if k = 5 then dvR (1, 1) (rAt rs 0) else if k = 6 then wk.utAll (-1) rs else if k = 7 then wk.utAll 1 rs else wk.utAll 1 [rAt rs 0, wk.utAll (-1) [rAt rs 1, rAt rs 2]]
mutual
/-- What an expression comes to; sz: the units' sizes. -/
def rkE (sz : Int → Int × Int) : Ex → Int × Int
  | .mk k n d u ks => if k = 1 then (if u = 0 then (n, d) else wk.mulAll [(n, d), sz u]) else rkK k (rkEs sz ks)
def rkEs (sz : Int → Int × Int) : List Ex → List (Int × Int)
  | [] => []
  | e :: es => rkE sz e :: rkEs sz es
end
theorem rkEs_map (sz : Int → Int × Int) (l : List Ex) : rkEs sz l = l.map (rkE sz) := by
  induction l with
  | nil => rw [rkEs]; rfl
  | cons x r ih => rw [rkEs, ih]; rfl
theorem rkE_mk (sz : Int → Int × Int) (k n d u : Int) (ks : List Ex) : rkE sz (.mk k n d u ks) = if k = 1 then (if u = 0 then (n, d) else wk.mulAll [(n, d), sz u]) else rkK k (ks.map (rkE sz)) := by rw [rkE, rkEs_map]
def R64 (r : Int × Int) : Prop := i64 r.1 ∧ i64 r.2
theorem r64_zero : R64 (0, 0) := ⟨⟨by decide, by decide⟩, ⟨by decide, by decide⟩⟩
theorem rAt_64 {rs : List (Int × Int)} (h : ∀ r ∈ rs, R64 r) (i : Nat) : R64 (rAt rs i) := by
  unfold rAt
  rw [List.getD_eq_getElem?_getD]
  cases hi : rs[i]? with
  | none => exact r64_zero
  | some r => exact h r (List.mem_of_getElem? hi)
theorem utF_64 (k : Int) : ∀ (rs : List (Int × Int)) (o : Option (Int × Int)), (∀ r ∈ rs, R64 r) → (∀ r, o = some r → R64 r) → ∀ r, rs.foldl (wk.utS k) o = some r → R64 r := by
  intro rs
  induction rs with
  | nil => intro o _ ho r hr; exact ho r hr
  | cons x l ih =>
    intro o hl ho r hr
    refine ih (wk.utS k o x) (fun y hy => hl y (by simp [hy])) (fun y hy => ?_) r hr
    unfold wk.utS at hy
    cases o with
    | none => simp at hy
    | some b =>
      simp only [Option.bind_some] at hy
      split at hy
      · simp only [Option.some.injEq] at hy
        split at hy
        · subst hy; exact hl _ (by simp)
        · subst hy; exact ho _ rfl
      · simp at hy
theorem ut_64 (k : Int) {rs : List (Int × Int)} (h : ∀ r ∈ rs, R64 r) : R64 (wk.utAll k rs) := by
  cases rs with
  | nil => exact r64_zero
  | cons x l =>
    show R64 ((wk.utF k (x :: l) x).getD (0, 0))
    cases hq : wk.utF k (x :: l) x with
    | none => exact r64_zero
    | some r => exact utF_64 k (x :: l) (some x) h (fun y hy => by cases hy; exact h x (by simp)) r hq
theorem ng_64 {r : Int × Int} (h : R64 r) : R64 (ngR r) := wk.ng_I64 h.1 h.2
theorem dv_64 {r s : Int × Int} (h : R64 s) : R64 (dvR r s) := by
  unfold dvR
  by_cases v : wk.isV s.1 s.2 = true
  · obtain ⟨e1, e2⟩ := wk.div_eq (n := r.1) (d := r.2) h.1 h.2 v
    rw [← e1, ← e2]
    exact wk.mul_I64' _ _ _ _
  · have v' : wk.isV s.1 s.2 = false := by simpa using v
    obtain ⟨e1, e2⟩ := wk.div_no (n := r.1) (d := r.2) (m := s.1) (e := s.2) (by simp [v'])
    rw [e1, e2]
    exact r64_zero
theorem rkK_64 (k : Int) {rs : List (Int × Int)} (h : ∀ r ∈ rs, R64 r) : R64 (rkK k rs) := by
  unfold rkK
  have h0 := rAt_64 h 0
  have h1 := rAt_64 h 1
  have h2 := rAt_64 h 2
  split
  · exact wk.addAll_I64 rs
  split
  · exact ng_64 h0
  split
  · exact wk.mulAll_I64 rs
  split
  · exact dv_64 h0
  split
  · exact ut_64 _ h
  split
  · exact ut_64 _ h
  · refine ut_64 _ (fun r hr => ?_)
    simp at hr
    rcases hr with rfl | rfl
    · exact h0
    · refine ut_64 _ (fun r hr => ?_)
      simp at hr
      rcases hr with rfl | rfl
      · exact h1
      · exact h2
theorem rk_64 (sz : Int → Int × Int) {x : Ex} (h : OkX x) : R64 (rkE sz x) := by
  induction h with
  | mk k n d u ks h1 h2 ih =>
    rw [rkE_mk]
    split
    · split
      · exact ⟨h1.2.1, h1.2.2.1⟩
      · exact wk.mulAll_I64 _
    · refine rkK_64 k (fun r hr => ?_)
      obtain ⟨y, hy, rfl⟩ := List.mem_map.1 hr
      exact ih y hy
/-- Kids of an expression of numbers are such. -/
theorem kids_num {x : Ex} {j : Nat} (h : exM x j = true) (hk : ¬ x.k = 1) (h1 : kdE x = 1) : ∀ y ∈ x.ks, kdE y = 1 := by
  obtain ⟨k, n, d, u, ks⟩ := x
  rw [kd_rf h hk] at h1
  unfold rfK at h1
  have ha : cnK (ks.map kdE) 1 = ks.length := by
    split at h1
    · omega
    split at h1
    · omega
    split at h1
    · assumption
    split at h1 <;> omega
  have hb := all_cnt 1 (ks.map kdE)
  rw [List.length_map, ha] at hb
  simp only [decide_true, List.all_eq_true, beq_iff_eq] at hb
  intro y hy
  exact hb (kdE y) (List.mem_map.2 ⟨y, hy, rfl⟩)
theorem num_unit {n d u : Int} {ks : List Ex} (h : kdE (.mk 1 n d u ks) = 1) : u = 0 := by
  rw [kdE_mk, if_pos rfl] at h
  by_cases e : u = 0
  · exact e
  · rw [if_neg e] at h; omega
/-- How many kids. -/
theorem kids_len {x : Ex} {j : Nat} (h : exM x j = true) (hk : ¬ x.k = 1) : (x.k = 2 ∨ x.k = 3 ∨ x.k = 4 ∨ x.k = 5 ∨ x.k = 6 ∨ x.k = 7 ∨ x.k = 8) ∧ 1 ≤ x.ks.length ∧ (x.k = 8 → x.ks.length = 3) := by
  have h0 := exM_kids h hk
  rw [exM_eq, Bool.and_eq_true, if_neg hk, Bool.and_eq_true, Bool.and_eq_true] at h
  have hc := h.2.1.2
  unfold cntM at hc
  refine ⟨?_, h0.2, ?_⟩
  · split at hc
    · omega
    split at hc
    · omega
    split at hc
    · omega
    · cases hc
  · intro h8
    rw [h8] at hc
    simpa using hc
theorem exMs_mem {l : List Ex} {j : Nat} (h : exMs l j = true) : ∀ y ∈ l, exM y j = true := by
  induction l with
  | nil => intro y hy; cases hy
  | cons x r ih =>
    rw [exMs_cons, Bool.and_eq_true] at h
    intro y hy
    rcases List.mem_cons.1 hy with rfl | hy
    · exact h.1
    · exact ih h.2 y hy
end Go.Proofs.YtlhmecagijdinaaDoor.nm
set_option linter.unusedVariables false
set_option linter.unusedSimpArgs false
namespace Go.Proofs.YtlhmecagijdinaaDoor.nm
open Go.RowKit cc

def ratV (r : Int × Int) : Value := .agg #[.int .i64 r.1, .int .i64 r.2]
theorem madeR (m : Nat) (hm : m ≤ 1000000000) (W : World) : (Instr.makeSlice 55 (.int .i64 m) (.int .i64 m)).run Tryd.prog W = .ok (.slice (some ⟨W.heap.size, 0, none⟩) m m) (W.alloc (.cells (madeCells #[.int .i64 0, .int .i64 0] (m * 2)) 23)) := by
  have h := run_make (P := Tryd.prog) W 55 23 Tryd.t23 (.agg #[.int .i64 0, .int .i64 0]) Tryd.underlying55 (by kernel_rfl) (by kernel_rfl) .i64 .i64 m m (by omega) (Int.le_refl _) (by show ((16 : Nat) : Int) * m ≤ _; omega) (by omega)
  have e : ((m : Int).toNat * Tryd.t23.size) = m * 2 := by show (m : Int).toNat * 2 = m * 2; simp
  rw [e, Int.toNat_natCast] at h
  exact h
/-- An own row of fractions, the first k of them written. -/
def Rw2 (w : World) (g n k : Nat) (rs : List (Int × Int)) : Prop := ∃ cs : Array Value, w.heap[g]? = some (.cells cs 23) ∧ cs.size = n * 2 ∧ ∀ j x, j < k → rs[j]? = some x → cs[j * 2]? = some (.int .i64 x.1) ∧ cs[j * 2 + 1]? = some (.int .i64 x.2)
theorem Rw2.new (W : World) (n : Nat) (rs : List (Int × Int)) : Rw2 (W.alloc (.cells (madeCells #[.int .i64 0, .int .i64 0] (n * 2)) 23)) W.heap.size n 0 rs := ⟨_, heap_alloc_new W _, size_madeCells _ _, fun j x hj => by omega⟩
theorem Rw2.lt {w : World} {g n k : Nat} {rs : List (Int × Int)} (h : Rw2 w g n k rs) : g < w.heap.size := by obtain ⟨cs, h1, _⟩ := h; exact (Array.getElem?_eq_some_iff.1 h1).1
theorem Rw2.up {w w' : World} {g n k : Nat} {rs : List (Int × Int)} (h : Rw2 w g n k rs) (hw : Below w.heap.size w w') : Rw2 w' g n k rs := by
  have hl := h.lt
  obtain ⟨cs, h1, h2⟩ := h
  exact ⟨cs, (hw.block _ hl).trans h1, h2⟩
theorem Rw2.more {w : World} {g n k : Nat} {rs : List (Int × Int)} (h : Rw2 w g n k rs) (o : Obj) : Rw2 (w.alloc o) g n k rs := by
  have hl := h.lt
  obtain ⟨cs, h1, h2⟩ := h
  exact ⟨cs, (Below.heap_alloc w o g hl).trans h1, h2⟩
theorem Rw2.there {w : World} {g n k : Nat} {rs : List (Int × Int)} (h : Rw2 w g n k rs) {j : Nat} (hj : j < n * 2) : (∃ v, w.cell? ⟨g, j, none⟩ = some v) ∧ w.frozen? ⟨g, j, none⟩ = false := by
  obtain ⟨cs, h1, h2, _⟩ := h
  exact ⟨⟨_, by rw [row_blk h1]; exact Array.getElem?_eq_getElem (by omega)⟩, by simp [World.frozen?, h1]⟩
theorem Rw2.put {w : World} {g n k : Nat} {rs : List (Int × Int)} (h : Rw2 w g n k rs) (hk : k < n) {y : Int × Int} (hy : rs[k]? = some y) : Rw2 ((w.setCell ⟨g, k * 2, none⟩ (.int .i64 y.1)).setCell ⟨g, k * 2 + 1, none⟩ (.int .i64 y.2)) g n (k + 1) rs := by
  obtain ⟨cs, h1, h2, h3⟩ := h
  refine ⟨_, setCell_blk (setCell_blk h1 _) _, by simp [h2], fun j x hj hx => ?_⟩
  by_cases e : j = k
  · subst e
    obtain rfl : y = x := Option.some.inj (hy.symm.trans hx)
    refine ⟨?_, ?_⟩
    · simp only [Array.set!_eq_setIfInBounds, Array.getElem?_setIfInBounds, Array.size_setIfInBounds]
      rw [if_neg (by omega), if_pos trivial, if_pos (by omega)]
    · simp only [Array.set!_eq_setIfInBounds, Array.getElem?_setIfInBounds, Array.size_setIfInBounds]
      rw [if_pos trivial, if_pos (by omega)]
  · obtain ⟨i1, i2⟩ := h3 j x (by omega) hx
    refine ⟨?_, ?_⟩
    · simp only [Array.set!_eq_setIfInBounds, Array.getElem?_setIfInBounds, Array.size_setIfInBounds]
      rw [if_neg (by omega), if_neg (by omega)]
      exact i1
    · simp only [Array.set!_eq_setIfInBounds, Array.getElem?_setIfInBounds, Array.size_setIfInBounds]
      rw [if_neg (by omega), if_neg (by omega)]
      exact i2
theorem Rw2.at {w : World} {g n k : Nat} {rs : List (Int × Int)} (h : Rw2 w g n k rs) {i : Nat} {x : Int × Int} (hi : i < k) (hx : rs[i]? = some x) : w.cell? ⟨g, i * 2, none⟩ = some (.int .i64 x.1) ∧ w.cell? ⟨g, i * 2 + 1, none⟩ = some (.int .i64 x.2) := by
  obtain ⟨cs, h1, h2, h3⟩ := h
  obtain ⟨i1, i2⟩ := h3 i x hi hx
  exact ⟨by rw [row_blk h1]; exact i1, by rw [row_blk h1]; exact i2⟩
theorem Rw2.row {w : World} {g n : Nat} {rs : List (Int × Int)} (h : Rw2 w g n n rs) (hn : rs.length = n) (h9 : n ≤ 1000000000) : wk.Row w (.slice (some ⟨g, 0, none⟩) n n) rs := by
  refine .inr ⟨g, 0, n, by rw [hn], h.lt, by omega, fun i hi => ?_⟩
  obtain ⟨i1, i2⟩ := h.at (i := i) (x := rs[i]) (by omega) (List.getElem?_eq_getElem hi)
  rw [Nat.zero_add]
  exact ⟨i1, i2⟩
def RelNu (w : World) (rs : List (Int × Int)) (n : Nat) (e5 : List Value) (i : Value) (wr : World) : Prop := ∃ k : Nat, i = .int .i64 k ∧ k ≤ n ∧ Hid (Rw2 wr (w.heap.size + 2) n k rs ∧ Bk wr (w.heap.size + 1) 23 [.int .i64 0, .int .i64 0] ∧ Bk wr w.heap.size 26 e5 ∧ Below w.heap.size w wr)
theorem RelNu.mk {w : World} {rs : List (Int × Int)} {n : Nat} {e5 : List Value} {i : Value} {wr : World} (k : Nat) (h1 : i = .int .i64 k) (h2 : k ≤ n) (h3 : Rw2 wr (w.heap.size + 2) n k rs) (h4 : Bk wr (w.heap.size + 1) 23 [.int .i64 0, .int .i64 0]) (h5 : Bk wr w.heap.size 26 e5) (h6 : Below w.heap.size w wr) : RelNu w rs n e5 i wr := ⟨k, h1, h2, h3, h4, h5, h6⟩
def NuC (sz : Int → Int × Int) (N : Nat) : Prop := ∀ (x : Ex) (j : Nat) (u : Value) (w : World), szE x ≤ N → OkX x → exM x j = true → kdE x = 1 → EM w u x.ks → Calls Tryd.prog 55 #[exV x u] w fun e w' => e = .returned (ratV (rkE sz x)) ∧ Below w.heap.size w w'
/-- What the operations tell of a row, in a world that is grown. -/
def OpC (f : FuncId) (W0 : World) (v : Value) (r : Int × Int) : Prop := ∀ W, Below W0.heap.size W0 W → Calls Tryd.prog f #[v] W fun e w' => e = .returned (ratV r) ∧ Below W0.heap.size W0 w'
theorem row_low {w w' : World} {v : Value} {rs : List (Int × Int)} (h : wk.Row w v rs) (hw : Below w.heap.size w w') : wk.Row w' v rs := by
  rcases h with ⟨a, c, rfl, rfl⟩ | ⟨b, off, c, rfl, hb, hl, hrow⟩
  · exact .inl ⟨a, c, rfl, rfl⟩
  · exact .inr ⟨b, off, c, rfl, Nat.lt_of_lt_of_le hb hw.size, hl, fun i h => ⟨(hw.cell (p := ⟨b, off + i * 2, none⟩) hb).trans (hrow i h).1, (hw.cell (p := ⟨b, off + i * 2 + 1, none⟩) hb).trans (hrow i h).2⟩⟩
theorem addP_op {W0 : World} {v : Value} {rs : List (Int × Int)} (h : wk.Row W0 v rs) (hi : ∀ r ∈ rs, R64 r) : OpC 67 W0 v (wk.addAll rs) := fun W hW => (wk.addP_any v rs W (row_low h hW) hi).mono (by rintro e w1 ⟨rfl, U⟩; exact ⟨rfl, bto hW U.1⟩)
theorem mulP_op {W0 : World} {v : Value} {rs : List (Int × Int)} (h : wk.Row W0 v rs) (hi : ∀ r ∈ rs, R64 r) : OpC 56 W0 v (wk.mulAll rs) := fun W hW => (wk.mulP_any v rs W (row_low h hW) hi).mono (by rintro e w1 ⟨rfl, U⟩; exact ⟨rfl, bto hW U.1⟩)
theorem leastP_op {W0 : World} {v : Value} {rs : List (Int × Int)} (h : wk.Row W0 v rs) (hi : ∀ r ∈ rs, R64 r) : OpC 74 W0 v (wk.utAll (-1) rs) := fun W hW => (wk.leastP_any v rs W (row_low h hW) hi).mono (by rintro e w1 ⟨rfl, U⟩; exact ⟨rfl, bto hW U.1⟩)
theorem mostP_op {W0 : World} {v : Value} {rs : List (Int × Int)} (h : wk.Row W0 v rs) (hi : ∀ r ∈ rs, R64 r) : OpC 73 W0 v (wk.utAll 1 rs) := fun W hW => (wk.mostP_any v rs W (row_low h hW) hi).mono (by rintro e w1 ⟨rfl, U⟩; exact ⟨rfl, bto hW U.1⟩)
theorem negP_op {W0 : World} {r : Int × Int} (h : R64 r) : OpC 79 W0 (ratV r) (ngR r) := fun W hW => (wk.negP_any r.1 r.2 W h.1 h.2).mono (by rintro e w1 ⟨rfl, U⟩; exact ⟨rfl, bto hW U.1⟩)
theorem two_row {W : World} {r s : Int × Int} {T : TypeId} : wk.Row (W.alloc (.cells #[.int .i64 r.1, .int .i64 r.2, .int .i64 s.1, .int .i64 s.2] T)) (.slice (some ⟨W.heap.size, 0, none⟩) 2 2) [r, s] := wk.row_two W r.1 r.2 s.1 s.2 T
theorem two_drew {W : World} {r s : Int × Int} {T : TypeId} : wk.Row (W.alloc (.cells #[.int .i64 r.1, .int .i64 r.2, .int .i64 s.1, .int .i64 s.2] T)).drew (.slice (some ⟨W.heap.size, 0, none⟩) 2 2) [r, s] := (wk.row_two W r.1 r.2 s.1 s.2 T).up ((wk.Up.refl _).drew)
theorem in_two {r s : Int × Int} (hr : R64 r) (hs : R64 s) : ∀ x ∈ [r, s], R64 x := fun x hx => by
  simp at hx
  rcases hx with rfl | rfl
  · exact hr
  · exact hs
end Go.Proofs.YtlhmecagijdinaaDoor.nm
