/-
  The kind of an expression: by the reference; the law of kinds.
  Forms: plain, and in memory.
-/
import Derived.Test.YtdnnidnghaifgaaGreatDoorN20
import Derived.Test.YtdnnidnghaifgaaGreatDoorN17
set_option linter.unusedVariables false
set_option linter.unusedSimpArgs false
namespace Go.Proofs.YtdnnidnghaifgaaGreatDoor.cc
open Go.RowKit

/-- How many have this kind. -/
def cnK (l : List Nat) (k : Nat) : Nat := l.countP (fun x => x == k)
theorem cnK_snoc (l : List Nat) (x k : Nat) : cnK (l ++ [x]) k = cnK l k + if x = k then 1 else 0 := by
  unfold cnK
  rw [List.countP_append, List.countP_singleton]
  simp
theorem cnK_le (l : List Nat) (k : Nat) : cnK l k ≤ l.length := List.countP_le_length
theorem pr_cnt (l : List Nat) (h : ∀ x ∈ l, x ≤ 2) : ∀ p, (p = 1 ∨ p = 2) → prK l p = if cnK l 0 > 0 then 0 else if cnK l 2 + (p - 1) = 1 then 2 else if cnK l 1 = l.length ∧ p = 1 then 1 else 0 := by
  induction l with
  | nil => intro p hp; rcases hp with rfl | rfl <;> rfl
  | cons x r ih =>
    intro p hp
    have hx := h x (by simp)
    have ihr := ih (fun y hy => h y (by simp [hy]))
    have l1 := cnK_le r 1
    have hc : ∀ k, cnK (x :: r) k = cnK r k + if x = k then 1 else 0 := fun k => by
      unfold cnK; rw [List.countP_cons]; simp
    rw [prK, hc 0, hc 1, hc 2, List.length_cons]
    rcases (show x = 0 ∨ x = 1 ∨ x = 2 by omega) with rfl | rfl | rfl
    · simp
    · rw [if_pos rfl, ihr p hp]
      simp
    · rw [if_neg (by omega)]
      rcases hp with rfl | rfl
      · rw [if_pos ⟨rfl, rfl⟩, ihr 2 (.inr rfl)]
        by_cases g0 : cnK r 0 > 0
        · simp [g0]
        · by_cases g2 : cnK r 2 = 0
          · simp [g0, g2]
          · have : ¬ cnK r 2 + 1 = 1 := by omega
            simp [g0, g2]
            omega
      · rw [if_neg (by omega)]
        by_cases g0 : cnK r 0 > 0
        · simp [g0]
        · simp [g0]
theorem all_cnt (k : Nat) (r : List Nat) : r.all (fun x => x == k) = decide (cnK r k = r.length) := by
  unfold cnK
  induction r with
  | nil => rfl
  | cons x r ih =>
    rw [List.all_cons, ih, List.countP_cons, List.length_cons]
    have := List.countP_le_length (p := fun x => x == k) (l := r)
    by_cases hx : x = k
    · subst hx; simp
    · rw [show (x == k) = false by simpa using hx]
      simp only [Bool.false_and, Bool.false_eq_true, if_false, Nat.add_zero]
      symm
      rw [decide_eq_false_iff_not]
      omega
theorem co_cnt (l : List Nat) (h : ∀ x ∈ l, x ≤ 2) (h0 : 0 < l.length) : coK l = if cnK l 0 > 0 then 0 else if cnK l 1 = l.length then 1 else if cnK l 2 = l.length then 2 else 0 := by
  cases l with
  | nil => simp at h0
  | cons x r =>
    have hx := h x (by simp)
    have hc : ∀ k, cnK (x :: r) k = cnK r k + if x = k then 1 else 0 := fun k => by
      unfold cnK; rw [List.countP_cons]; simp
    rw [coK, all_cnt, hc 0, hc 1, hc 2, List.length_cons]
    have l0 := cnK_le r 0
    have l1 := cnK_le r 1
    have l2 := cnK_le r 2
    have hs : cnK r 0 + cnK r 1 + cnK r 2 = r.length := by
      have : ∀ l : List Nat, (∀ x ∈ l, x ≤ 2) → cnK l 0 + cnK l 1 + cnK l 2 = l.length := by
        intro l
        induction l with
        | nil => intro _; rfl
        | cons y r ih =>
          intro hl
          have hy := hl y (by simp)
          have := ih (fun z hz => hl z (by simp [hz]))
          have hc : ∀ k, cnK (y :: r) k = cnK r k + if y = k then 1 else 0 := fun k => by
            unfold cnK; rw [List.countP_cons]; simp
          rw [hc 0, hc 1, hc 2, List.length_cons]
          rcases (show y = 0 ∨ y = 1 ∨ y = 2 by omega) with rfl | rfl | rfl <;> simp <;> omega
      exact this r (fun y hy => h y (by simp [hy]))
    rcases (show x = 0 ∨ x = 1 ∨ x = 2 by omega) with rfl | rfl | rfl
    · simp
    · by_cases g : cnK r 1 = r.length
      · have : cnK r 0 = 0 := by omega
        simp [g, this]
      · simp [g]
        intro _ _
        omega
    · by_cases g : cnK r 2 = r.length
      · have g0 : cnK r 0 = 0 := by omega
        have g1 : ¬ cnK r 1 = r.length + 1 := by omega
        simp [g, g0]
        omega
      · simp [g]
        intro _ _
        omega
/-- As the reference tells it: by how many have which kind. -/
def rfK (k : Int) (a0 a1 a2 n : Nat) : Nat := if 0 < a0 then 0 else if k = 4 ∧ a2 = 1 then 2 else if a1 = n then 1 else if a2 = n ∧ ¬ k = 4 ∧ ¬ k = 5 then 2 else 0
theorem kd_le2 (l : List Ex) : ∀ x ∈ l.map kdE, x ≤ 2 := fun x hx => by
  rw [List.mem_map] at hx
  obtain ⟨e, _, rfl⟩ := hx
  exact kdE_le _ e (Nat.le_refl _)
theorem cnK_one (x k : Nat) : cnK [x] k = if x = k then 1 else 0 := by unfold cnK; rw [List.countP_singleton]; simp
theorem kd_rf {k n d u : Int} {ks : List Ex} {j : Nat} (h : exM (.mk k n d u ks) j = true) (hk : ¬ k = 1) : kdE (.mk k n d u ks) = rfK k (cnK (ks.map kdE) 0) (cnK (ks.map kdE) 1) (cnK (ks.map kdE) 2) ks.length := by
  have hl := (exM_kids h hk).2
  simp only [Ex.ks] at hl
  rw [kdE_mk, if_neg hk]
  unfold rfK
  by_cases k4 : k = 4
  · rw [if_pos k4, pr_cnt _ (kd_le2 ks) 1 (.inl rfl), List.length_map]
    simp only [k4, gt_iff_lt, Nat.sub_self, Nat.add_zero, true_and, and_true, not_true, false_and, and_false, if_false]
  · rw [if_neg k4]
    by_cases k5 : k = 5
    · rw [if_pos k5]
      have h1 : ks.length = 1 := by
        rw [exM_eq, Bool.and_eq_true, if_neg (show ¬ (Ex.mk k n d u ks).k = 1 from hk), Bool.and_eq_true, Bool.and_eq_true] at h
        have := cnt_true h.2.1.2
        simp only [Ex.k, Ex.ks] at this
        omega
      obtain ⟨y, rfl⟩ : ∃ y, ks = [y] := by
        match ks, h1 with
        | [y], _ => exact ⟨y, rfl⟩
      have hy := kd_le2 [y] (kdE y) (by simp)
      simp only [List.map_cons, List.map_nil, List.head?_cons, Option.some.injEq, cnK_one, List.length_cons, List.length_nil, k5]
      rcases (show kdE y = 0 ∨ kdE y = 1 ∨ kdE y = 2 by omega) with h | h | h <;> simp [h]
    · rw [if_neg k5, co_cnt _ (kd_le2 ks) (by rw [List.length_map]; omega), List.length_map]
      simp only [k4, k5, gt_iff_lt, false_and, if_false, not_false_eq_true, and_true]
end Go.Proofs.YtdnnidnghaifgaaGreatDoor.cc
set_option linter.unusedVariables false
set_option linter.unusedSimpArgs false
namespace Go.Proofs.YtdnnidnghaifgaaGreatDoor.nm
open Go.RowKit

/-- A form: so much of each unit, and parts. -/
inductive Fo where
  | mk (us : List (Int × Int)) (ps : List (Bool × List Fo))
abbrev Pa := Bool × List Fo
def Fo.us : Fo → List (Int × Int) | .mk us _ => us
def Fo.ps : Fo → List Pa | .mk _ ps => ps
/-- Two lists, place by place, of one length. -/
def al2 {α : Type} (f : α → α → Bool) : List α → List α → Bool
  | [], [] => true
  | x :: r, y :: s => f x y && al2 f r s
  | _, _ => false
theorem al2_len {α : Type} {f : α → α → Bool} : ∀ {x y : List α}, x.length ≠ y.length → al2 f x y = false := by
  intro x
  induction x with
  | nil => intro y h; cases y with | nil => simp at h | cons => rfl
  | cons a r ih =>
    intro y h
    cases y with
    | nil => rfl
    | cons b s => rw [al2, ih (by simpa using h), Bool.and_false]
theorem al2_drop {α : Type} {f : α → α → Bool} {x y : List α} {k : Nat} {a b : α} (ha : x[k]? = some a) (hb : y[k]? = some b) : al2 f (x.drop k) (y.drop k) = (f a b && al2 f (x.drop (k + 1)) (y.drop (k + 1))) := by
  obtain ⟨h1, rfl⟩ := List.getElem?_eq_some_iff.1 ha
  obtain ⟨h2, rfl⟩ := List.getElem?_eq_some_iff.1 hb
  rw [List.drop_eq_getElem_cons h1, List.drop_eq_getElem_cons h2, al2]
theorem al2_refl {α : Type} {f : α → α → Bool} {x : List α} (h : ∀ a ∈ x, f a a = true) : al2 f x x = true := by
  induction x with
  | nil => rfl
  | cons a r ih => rw [al2, h a (by simp), ih (fun b hb => h b (by simp [hb]))]; rfl
/-- May it be, at most so deep? -/
def maF : Nat → Fo → Bool
  | 0, _ => false
  | j + 1, f => f.us.all (fun r => mayB r.1 r.2) && f.ps.all (fun p => !p.2.isEmpty && p.2.all (maF j))
/-- Are they the same, as deep as is said? -/
def saX : Nat → List Fo → List Fo → Bool
  | 0, x, y => decide (x.length = y.length)
  | n + 1, x, y => al2 (fun a b => decide (a.us = b.us) && al2 (fun p q => (p.1 == q.1) && saX n p.2 q.2) a.ps b.ps) x y
def saP (n : Nat) (p q : Pa) : Bool := (p.1 == q.1) && saX n p.2 q.2
def saF (n : Nat) (a b : Fo) : Bool := decide (a.us = b.us) && al2 (saP n) a.ps b.ps
theorem saX_succ (n : Nat) (x y : List Fo) : saX (n + 1) x y = al2 (saF n) x y := rfl
theorem saX_len {n : Nat} {x y : List Fo} (h : x.length ≠ y.length) : saX n x y = false := by
  cases n with
  | zero => rw [saX]; simpa using h
  | succ n => rw [saX_succ]; exact al2_len h
theorem saX_refl (n : Nat) : ∀ x, saX n x x = true := by
  induction n with
  | zero => intro x; rw [saX]; simp
  | succ n ih =>
    intro x
    rw [saX_succ]
    refine al2_refl fun a _ => ?_
    rw [saF, al2_refl fun p _ => ?_]
    · simp
    · rw [saP, ih]; simp
theorem saF_refl (n : Nat) (a : Fo) : saF n a a = true := by
  rw [saF, al2_refl fun p _ => ?_]
  · simp
  · rw [saP, saX_refl]; simp
/-! ### In memory -/
def RowOf {α : Type} (w : World) (sz : Nat) (R : Nat → Nat → α → Prop) (v : Value) (l : List α) : Prop :=
  (∃ a c, v = .slice a 0 c ∧ l = []) ∨
  ∃ b o c, v = .slice (some ⟨b, o, none⟩) l.length c ∧ 0 < l.length ∧ b < w.heap.size ∧ l.length ≤ c ∧ l.length ≤ 1000000000 ∧ c ≤ 9223372036854775807 ∧ ∀ i x, l[i]? = some x → R b (o + i * sz) x
theorem RowOf.shape {α : Type} {w : World} {sz : Nat} {R : Nat → Nat → α → Prop} {v : Value} {l : List α} (h : RowOf w sz R v l) : ∃ a c, v = .slice a l.length c ∧ l.length ≤ 1000000000 := by
  rcases h with ⟨a, c, rfl, rfl⟩ | ⟨b, o, c, rfl, h0, hb, hc, hn, hm, hr⟩
  · exact ⟨a, c, rfl, by simp⟩
  · exact ⟨_, _, rfl, hn⟩
theorem RowOf.at {α : Type} {w : World} {sz : Nat} {R : Nat → Nat → α → Prop} {v : Value} {l : List α} (h : RowOf w sz R v l) {i : Nat} {x : α} (hi : l[i]? = some x) : ∃ b o c, v = .slice (some ⟨b, o, none⟩) l.length c ∧ b < w.heap.size ∧ l.length ≤ c ∧ c ≤ 9223372036854775807 ∧ R b (o + i * sz) x := by
  rcases h with ⟨a, c, rfl, rfl⟩ | ⟨b, o, c, rfl, h0, hb, hc, hn, hm, hr⟩
  · cases hi
  · exact ⟨b, o, c, rfl, hb, hc, hm, hr i x hi⟩
theorem RowOf.mono {α : Type} {w w' : World} {sz : Nat} {R S : Nat → Nat → α → Prop} {v : Value} {l : List α} (h : RowOf w sz R v l) (hs : w.heap.size ≤ w'.heap.size) (hr : ∀ b o x, b < w.heap.size → x ∈ l → R b o x → S b o x) : RowOf w' sz S v l := by
  rcases h with h | ⟨b, o, c, rfl, h0, hb, hc, hn, hm, h1⟩
  · exact .inl h
  · exact .inr ⟨b, o, c, rfl, h0, Nat.lt_of_lt_of_le hb hs, hc, hn, hm, fun i x hi => hr b _ x hb (List.mem_of_getElem? hi) (h1 i x hi)⟩
/-- Seven fractions. -/
def Us (us : List (Int × Int)) : Prop := us.length = 7 ∧ ∀ r ∈ us, i64 r.1 ∧ i64 r.2
/-- Seven fractions, as they lie. -/
def Un (w : World) (b o : Nat) (us : List (Int × Int)) : Prop := Us us ∧ ∀ i r, us[i]? = some r → w.cell? ⟨b, o + i * 2, none⟩ = some (.int .i64 r.1) ∧ w.cell? ⟨b, o + i * 2 + 1, none⟩ = some (.int .i64 r.2)
theorem Un.below {w w' : World} {b o m : Nat} {us : List (Int × Int)} (h : Un w b o us) (hw : Below m w w') (hb : b < m) : Un w' b o us :=
  ⟨h.1, fun i r hi => ⟨(hw.cell (p := ⟨b, o + i * 2, none⟩) hb).trans (h.2 i r hi).1, (hw.cell (p := ⟨b, o + i * 2 + 1, none⟩) hb).trans (h.2 i r hi).2⟩⟩
def PaR (w : World) (X : Value → List Fo → Prop) (b o : Nat) (p : Pa) : Prop := ∃ u, w.cell? ⟨b, o, none⟩ = some (.bool p.1) ∧ w.cell? ⟨b, o + 1, none⟩ = some u ∧ X u p.2
def FoR (w : World) (X : Value → List Fo → Prop) (b o : Nat) (f : Fo) : Prop := ∃ u, Un w b o f.us ∧ w.cell? ⟨b, o + 14, none⟩ = some u ∧ RowOf w 2 (PaR w X) u f.ps
/-- A slice of forms, at most so deep. -/
def FM (w : World) : Nat → Value → List Fo → Prop
  | 0 => fun v l => l = [] ∧ ∃ a c, v = .slice a 0 c
  | n + 1 => RowOf w 15 (FoR w (FM w n))
/-- A slice of parts whose forms are at most so deep. -/
def PM (w : World) (n : Nat) : Value → List Pa → Prop := RowOf w 2 (PaR w (FM w n))
theorem FM.shape {w : World} {n : Nat} {v : Value} {l : List Fo} (h : FM w n v l) : ∃ a c, v = .slice a l.length c ∧ l.length ≤ 1000000000 := by
  cases n with
  | zero => obtain ⟨rfl, a, c, rfl⟩ := h; exact ⟨a, c, rfl, by simp⟩
  | succ n => exact RowOf.shape h
theorem PM.shape {w : World} {n : Nat} {v : Value} {l : List Pa} (h : PM w n v l) : ∃ a c, v = .slice a l.length c ∧ l.length ≤ 1000000000 := RowOf.shape h
theorem PaR.low {w w' : World} {X Y : Value → List Fo → Prop} (hw : Below w.heap.size w w') (hX : ∀ v l, X v l → Y v l) {b o : Nat} {p : Pa} (hb : b < w.heap.size) (h : PaR w X b o p) : PaR w' Y b o p := by
  obtain ⟨u, h1, h2, h3⟩ := h
  exact ⟨u, (hw.cell (p := ⟨b, o, none⟩) hb).trans h1, (hw.cell (p := ⟨b, o + 1, none⟩) hb).trans h2, hX _ _ h3⟩
theorem FoR.low {w w' : World} {X Y : Value → List Fo → Prop} (hw : Below w.heap.size w w') (hX : ∀ v l, X v l → Y v l) {b o : Nat} {f : Fo} (hb : b < w.heap.size) (h : FoR w X b o f) : FoR w' Y b o f := by
  obtain ⟨u, h1, h2, h3⟩ := h
  exact ⟨u, h1.below hw hb, (hw.cell (p := ⟨b, o + 14, none⟩) hb).trans h2, h3.mono hw.size (fun b o x hb _ hx => hx.low hw hX hb)⟩
theorem FM.low {w w' : World} (hw : Below w.heap.size w w') {n : Nat} : ∀ {v : Value} {l : List Fo}, FM w n v l → FM w' n v l := by
  induction n with
  | zero => intro v l h; exact h
  | succ n ih => intro v l h; exact RowOf.mono h hw.size (fun b o x hb _ hx => hx.low hw (fun v l => ih) hb)
theorem PM.low {w w' : World} (hw : Below w.heap.size w w') {n : Nat} {v : Value} {l : List Pa} (h : PM w n v l) : PM w' n v l := RowOf.mono h hw.size (fun b o x hb _ hx => hx.low hw (fun v l => FM.low hw) hb)
theorem FM.up {w : World} {n : Nat} : ∀ {v : Value} {l : List Fo}, FM w n v l → FM w (n + 1) v l := by
  induction n with
  | zero => rintro v l ⟨rfl, a, c, rfl⟩; exact .inl ⟨a, c, rfl, rfl⟩
  | succ n ih =>
    intro v l h
    refine RowOf.mono h (Nat.le_refl _) (fun b o x hb _ hx => ?_)
    obtain ⟨u, h1, h2, h3⟩ := hx
    exact ⟨u, h1, h2, h3.mono (Nat.le_refl _) (fun b o x hb _ hy => by obtain ⟨v, k1, k2, k3⟩ := hy; exact ⟨v, k1, k2, ih k3⟩)⟩
/-- One form of a slice. -/
theorem FM.at {w : World} {n : Nat} {v : Value} {l : List Fo} (h : FM w n v l) {i : Nat} {x : Fo} (hi : l[i]? = some x) : ∃ m, n = m + 1 ∧ ∃ b o c u, v = .slice (some ⟨b, o, none⟩) l.length c ∧ b < w.heap.size ∧ l.length ≤ c ∧ c ≤ 9223372036854775807 ∧ Un w b (o + i * 15) x.us ∧ w.cell? ⟨b, o + i * 15 + 14, none⟩ = some u ∧ PM w m u x.ps := by
  cases n with
  | zero => obtain ⟨rfl, _⟩ := h; simp at hi
  | succ n =>
    obtain ⟨b, o, c, rfl, hb, hc, hm, u, h1, h2, h3⟩ := RowOf.at h hi
    exact ⟨n, rfl, b, o, c, u, rfl, hb, hc, hm, h1, h2, h3⟩
/-- One part of a slice. -/
theorem PM.at {w : World} {n : Nat} {v : Value} {l : List Pa} (h : PM w n v l) {i : Nat} {x : Pa} (hi : l[i]? = some x) : ∃ b o c u, v = .slice (some ⟨b, o, none⟩) l.length c ∧ b < w.heap.size ∧ l.length ≤ c ∧ c ≤ 9223372036854775807 ∧ w.cell? ⟨b, o + i * 2, none⟩ = some (.bool x.1) ∧ w.cell? ⟨b, o + i * 2 + 1, none⟩ = some u ∧ FM w n u x.2 := by
  obtain ⟨b, o, c, rfl, hb, hc, hm, u, h1, h2, h3⟩ := RowOf.at h hi
  exact ⟨b, o, c, u, rfl, hb, hc, hm, h1, h2, h3⟩
/-! ### Seven fractions as letters -/
theorem us7 {us : List (Int × Int)} (h : Us us) : ∃ n0 d0 n1 d1 n2 d2 n3 d3 n4 d4 n5 d5 n6 d6 : Int, us = [(n0, d0), (n1, d1), (n2, d2), (n3, d3), (n4, d4), (n5, d5), (n6, d6)] := by
  match us, h.1 with
  | [(n0, d0), (n1, d1), (n2, d2), (n3, d3), (n4, d4), (n5, d5), (n6, d6)], _ => exact ⟨n0, d0, n1, d1, n2, d2, n3, d3, n4, d4, n5, d5, n6, d6, rfl⟩
/-- Their values. -/
def usL (us : List (Int × Int)) : List Value := us.flatMap fun r => [.int .i64 r.1, .int .i64 r.2]
/-- The value that is seven fractions; a form's. -/
def usV (us : List (Int × Int)) : Value := .agg (usL us).toArray
def foV (us : List (Int × Int)) (u : Value) : Value := .agg (usL us ++ [u]).toArray
theorem us_at {us : List (Int × Int)} (h : Us us) {k : Nat} (hk : k < 7) : ∃ n d, us[k]? = some (n, d) ∧ i64 n ∧ i64 d := by
  have hl : k < us.length := by rw [h.1]; exact hk
  exact ⟨us[k].1, us[k].2, List.getElem?_eq_getElem hl, h.2 _ (List.getElem_mem hl)⟩
theorem ix7 {n0 d0 n1 d1 n2 d2 n3 d3 n4 d4 n5 d5 n6 d6 : Int} {k : Nat} (h : k < 7) (T : TypeId) (hT : T = 33 ∨ T = 99) {n d : Int} (hr : [(n0, d0), (n1, d1), (n2, d2), (n3, d3), (n4, d4), (n5, d5), (n6, d6)][k]? = some (n, d)) (W : World) :
    (Instr.index T (.agg #[.int .i64 n0, .int .i64 d0, .int .i64 n1, .int .i64 d1, .int .i64 n2, .int .i64 d2, .int .i64 n3, .int .i64 d3, .int .i64 n4, .int .i64 d4, .int .i64 n5, .int .i64 d5, .int .i64 n6, .int .i64 d6]) (.int .i64 k)).run Tryz.prog W = .ok (.agg #[.int .i64 n, .int .i64 d]) W := by
  rcases hT with rfl | rfl <;> rcases (show k = 0 ∨ k = 1 ∨ k = 2 ∨ k = 3 ∨ k = 4 ∨ k = 5 ∨ k = 6 by omega) with rfl | rfl | rfl | rfl | rfl | rfl | rfl <;> (simp at hr; obtain ⟨rfl, rfl⟩ := hr; kernel_rfl)
end Go.Proofs.YtdnnidnghaifgaaGreatDoor.nm
