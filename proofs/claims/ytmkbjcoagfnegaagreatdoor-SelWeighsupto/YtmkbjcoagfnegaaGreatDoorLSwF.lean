/-
  What selectors weigh: plain; a simple selector, by the program.
-/
import Derived.Test.YtmkbjcoagfnegaaGreatDoorLSwD
import Derived.Test.YtmkbjcoagfnegaaGreatDoorX33
set_option linter.unusedVariables false
set_option linter.unusedSimpArgs false
namespace Go.Proofs.YtmkbjcoagfnegaaGreatDoor
open Go.RowKit

/-- What a simple selector weighs, by what a list weighs. -/
def wtS (r : List Cx → Wt) (s : Sl) : Wt :=
  if s.k = 1 ∨ s.k = 8 then z3 else if s.k = 2 then (0, 0, 1) else if s.k = 4 then (1, 0, 0) else if s.k = 6 ∨ s.k = 7 then r s.ls else (0, 1, 0)
def wtP (r : List Cx → Wt) (l : List Sl) (a : Wt) : Wt := l.foldl (fun a s => adW a (wtS r s)) a
def wtC (r : List Cx → Wt) (c : Cx) : Wt := c.foldl (fun a p => wtP r p.2 a) z3
/-- What a list weighs that is at most so deep. -/
def wtM : Nat → List Cx → Wt
  | 0, _ => z3
  | n + 1, l => moW (l.map (wtC (wtM n)))
/-! ### How great it is -/
def szS (z : List Cx → Nat) (s : Sl) : Nat := 1 + z s.ls
def szP (z : List Cx → Nat) (l : List Sl) : Nat := (l.map (szS z)).sum
def szC (z : List Cx → Nat) (c : Cx) : Nat := (c.map fun p => szP z p.2).sum
def szM : Nat → List Cx → Nat
  | 0, _ => 0
  | n + 1, l => (l.map (szC (szM n))).sum
theorem In3.mono {x : Wt} {A B : Nat} (h : In3 x A) (hb : A ≤ B) : In3 x B := by
  obtain ⟨⟨h1, h2⟩, ⟨h3, h4⟩, h5, h6⟩ := h
  exact ⟨⟨h1, by omega⟩, ⟨h3, by omega⟩, h5, by omega⟩
theorem In3.zero (B : Nat) : In3 z3 B := ⟨⟨by decide, by simp [z3]⟩, ⟨by decide, by simp [z3]⟩, by decide, by simp [z3]⟩
theorem In3.add {x y : Wt} {A B : Nat} (h : In3 x A) (g : In3 y B) : In3 (adW x y) (A + B) := by
  obtain ⟨⟨h1, h2⟩, ⟨h3, h4⟩, h5, h6⟩ := h
  obtain ⟨⟨g1, g2⟩, ⟨g3, g4⟩, g5, g6⟩ := g
  unfold adW
  exact ⟨⟨by simp only; omega, by simp only; omega⟩, ⟨by simp only; omega, by simp only; omega⟩, by simp only; omega, by simp only; omega⟩
theorem wtS_in {r : List Cx → Wt} {z : List Cx → Nat} (h : ∀ l, In3 (r l) (z l)) (s : Sl) : In3 (wtS r s) (szS z s) := by
  unfold wtS szS
  have h1 : ∀ x y t : Int, 0 ≤ x → x ≤ 1 → 0 ≤ y → y ≤ 1 → 0 ≤ t → t ≤ 1 → In3 (x, y, t) (1 + z s.ls) := fun x y t a b c d e f => ⟨⟨a, by simp only; omega⟩, ⟨c, by simp only; omega⟩, e, by simp only; omega⟩
  by_cases e1 : s.k = 1 ∨ s.k = 8
  · rw [if_pos e1]; exact In3.zero _
  rw [if_neg e1]
  by_cases e2 : s.k = 2
  · rw [if_pos e2]; exact h1 _ _ _ (by omega) (by omega) (by omega) (by omega) (by omega) (by omega)
  rw [if_neg e2]
  by_cases e3 : s.k = 4
  · rw [if_pos e3]; exact h1 _ _ _ (by omega) (by omega) (by omega) (by omega) (by omega) (by omega)
  rw [if_neg e3]
  by_cases e4 : s.k = 6 ∨ s.k = 7
  · rw [if_pos e4]; exact (h s.ls).mono (by omega)
  rw [if_neg e4]; exact h1 _ _ _ (by omega) (by omega) (by omega) (by omega) (by omega) (by omega)
theorem wtP_in {r : List Cx → Wt} {z : List Cx → Nat} (h : ∀ l, In3 (r l) (z l)) (l : List Sl) : ∀ {a : Wt} {A : Nat}, In3 a A → In3 (wtP r l a) (A + szP z l) := by
  induction l with
  | nil => intro a A ha; exact ha.mono (by simp [szP])
  | cons s l ih =>
    intro a A ha
    have := ih (ha.add (wtS_in h s))
    unfold wtP at this ⊢
    rw [List.foldl_cons]
    refine this.mono ?_
    unfold szP
    rw [List.map_cons, List.sum_cons]
    omega
theorem wtCf_in {r : List Cx → Wt} {z : List Cx → Nat} (h : ∀ l, In3 (r l) (z l)) (c : Cx) : ∀ {a : Wt} {A : Nat}, In3 a A → In3 (c.foldl (fun a p => wtP r p.2 a) a) (A + szC z c) := by
  induction c with
  | nil => intro a A ha; exact ha.mono (by simp [szC])
  | cons p c ih =>
    intro a A ha
    have := ih (wtP_in h p.2 ha)
    rw [List.foldl_cons]
    refine this.mono ?_
    unfold szC
    rw [List.map_cons, List.sum_cons]
    omega
theorem wtC_in {r : List Cx → Wt} {z : List Cx → Nat} (h : ∀ l, In3 (r l) (z l)) (c : Cx) : In3 (wtC r c) (szC z c) := by
  have := wtCf_in h c (In3.zero 0)
  rw [Nat.zero_add] at this
  exact this
theorem upW_in {m x : Wt} {A : Nat} (h : In3 m A) (g : In3 x A) : In3 (upW m x) A := by unfold upW; split <;> assumption
theorem foW_in {l : List Wt} : ∀ {m : Wt} {A : Nat}, In3 m A → (∀ x ∈ l, In3 x A) → In3 (l.foldl upW m) A := by
  induction l with
  | nil => intro m A h _; exact h
  | cons x l ih => intro m A h g; exact ih (upW_in h (g x (by simp))) (fun y hy => g y (by simp [hy]))
theorem moW_in {l : List Wt} {A : Nat} (g : ∀ x ∈ l, In3 x A) : In3 (moW l) A := by
  cases l with
  | nil => exact In3.zero _
  | cons x l => exact foW_in (g x (by simp)) (fun y hy => g y (by simp [hy]))
theorem sum_mem {α : Type} {l : List α} {f : α → Nat} {x : α} (h : x ∈ l) : f x ≤ (l.map f).sum := by
  induction l with
  | nil => cases h
  | cons y l ih =>
    rw [List.map_cons, List.sum_cons]
    rcases List.mem_cons.1 h with rfl | h
    · omega
    · have := ih h; omega
theorem wtM_in (n : Nat) : ∀ l, In3 (wtM n l) (szM n l) := by
  induction n with
  | zero => intro l; exact In3.zero _
  | succ n ih =>
    intro l
    refine moW_in fun x hx => ?_
    obtain ⟨c, hc, rfl⟩ := List.mem_map.1 hx
    exact (wtC_in ih c).mono (sum_mem hc)
theorem sum_take {α : Type} (l : List α) (f : α → Nat) (i : Nat) {x : α} (h : l[i]? = some x) : ((l.take i).map f).sum + f x ≤ (l.map f).sum := by
  induction l generalizing i with
  | nil => cases h
  | cons y l ih =>
    cases i with
    | zero => simp at h; subst h; simp
    | succ i => have := ih i (by simpa using h); simp at this ⊢; omega
theorem sum_le_take {α : Type} (l : List α) (f : α → Nat) (i : Nat) : ((l.take i).map f).sum ≤ (l.map f).sum := by
  induction l generalizing i with
  | nil => simp
  | cons y l ih =>
    cases i with
    | zero => simp
    | succ i => have := ih i; simp at this ⊢; omega
/-- On the way: so many compounds, so many of the next one's simple selectors. -/
def wtW (r : List Cx → Wt) (c : Cx) (i j : Nat) : Wt := wtP r (((c[i]?).map (·.2)).getD [] |>.take j) (wtC r (c.take i))
theorem wtW_in {r : List Cx → Wt} {z : List Cx → Nat} (h : ∀ l, In3 (r l) (z l)) (c : Cx) (i j : Nat) : In3 (wtW r c i j) (szC z c) := by
  unfold wtW
  cases e : c[i]? with
  | none =>
    have := wtP_in h (([] : List Sl).take j) (wtC_in h (c.take i))
    simp only [Option.map_none, Option.getD_none]
    refine this.mono ?_
    simp only [List.take_nil, szP, List.map_nil, List.sum_nil, Nat.add_zero]
    exact sum_le_take c _ i
  | some p =>
    have := wtP_in h (p.2.take j) (wtC_in h (c.take i))
    simp only [Option.map_some, Option.getD_some]
    refine this.mono ?_
    have h1 := sum_take c (fun p => szP z p.2) i e
    have h2 := sum_le_take p.2 (szS z) j
    unfold szC szP at *
    omega
theorem wtW_zero (r : List Cx → Wt) (c : Cx) (i : Nat) : wtW r c i 0 = wtC r (c.take i) := by unfold wtW; simp [wtP]
theorem wtW_step (r : List Cx → Wt) (c : Cx) (i j : Nat) {p : Cp} {s : Sl} (hp : c[i]? = some p) (hs : p.2[j]? = some s) : wtW r c i (j + 1) = adW (wtW r c i j) (wtS r s) := by
  unfold wtW
  rw [hp]
  simp only [Option.map_some, Option.getD_some]
  obtain ⟨hj, rfl⟩ := List.getElem?_eq_some_iff.1 hs
  rw [List.take_succ_eq_append_getElem hj]
  unfold wtP
  rw [List.foldl_append]
  rfl
theorem wtW_end (r : List Cx → Wt) (c : Cx) (i j : Nat) {p : Cp} (hp : c[i]? = some p) (hj : p.2.length ≤ j) : wtW r c i j = wtC r (c.take (i + 1)) := by
  unfold wtW
  rw [hp]
  simp only [Option.map_some, Option.getD_some]
  obtain ⟨hi, rfl⟩ := List.getElem?_eq_some_iff.1 hp
  rw [List.take_of_length_le hj]
  unfold wtC
  rw [List.take_succ_eq_append_getElem hi, List.foldl_append]
  rfl
/-! ### The greatest -/
theorem ltW_zero {x : Wt} {B : Nat} (h : In3 x B) (g : ltW z3 x = false) : x = z3 := by
  obtain ⟨a, b, c⟩ := x
  obtain ⟨⟨h1, h2⟩, ⟨h3, h4⟩, h5, h6⟩ := h
  unfold ltW z3 at g
  simp only at *
  unfold z3
  by_cases e1 : (0 : Int) = a
  · rw [if_pos e1] at g
    by_cases e2 : (0 : Int) = b
    · rw [if_pos e2] at g
      have : ¬ (0 : Int) < c := by simpa using g
      have : c = 0 := by omega
      subst e1 e2 this
      rfl
    · rw [if_neg e2] at g
      have : ¬ (0 : Int) < b := by simpa using g
      omega
  · rw [if_neg e1] at g
    have : ¬ (0 : Int) < a := by simpa using g
    omega
theorem moW_zero {l : List Wt} {B : Nat} (g : ∀ x ∈ l, In3 x B) : moW l = l.foldl upW z3 := by
  cases l with
  | nil => rfl
  | cons x l =>
    unfold moW
    rw [List.foldl_cons]
    have : upW z3 x = x := by
      unfold upW
      cases e : ltW z3 x with
      | true => rfl
      | false => exact (ltW_zero (g x (by simp)) e).symm
    rw [this]
theorem foW_take {α : Type} (f : α → Wt) (l : List α) (m : Wt) (i : Nat) {x : α} (h : l[i]? = some x) : ((l.take (i + 1)).map f).foldl upW m = upW (((l.take i).map f).foldl upW m) (f x) := by
  obtain ⟨hi, rfl⟩ := List.getElem?_eq_some_iff.1 h
  rw [List.take_succ_eq_append_getElem hi, List.map_append, List.foldl_append]
  rfl

/-- What the selectors of a list weigh, one by one. -/
def wsL : Nat → List Cx → List Wt
  | 0, _ => []
  | n + 1, l => l.map (wtC (wtM n))
theorem wtM_ws (n : Nat) (l : List Cx) : wtM n l = moW (wsL n l) := by cases n <;> rfl
theorem wtS_0 {r : List Cx → Wt} {s : Sl} (h : s.k = 1 ∨ s.k = 8) : wtS r s = z3 := by unfold wtS; rw [if_pos h]
theorem wtS_2 {r : List Cx → Wt} {s : Sl} (h : s.k = 2) : wtS r s = (0, 0, 1) := by unfold wtS; rw [if_neg (by omega), if_pos h]
theorem wtS_4 {r : List Cx → Wt} {s : Sl} (h : s.k = 4) : wtS r s = (1, 0, 0) := by unfold wtS; rw [if_neg (by omega), if_neg (by omega), if_pos h]
theorem wtS_6 {r : List Cx → Wt} {s : Sl} (h : s.k = 6 ∨ s.k = 7) : wtS r s = r s.ls := by unfold wtS; rw [if_neg (by omega), if_neg (by omega), if_neg (by omega), if_pos h]
theorem wtS_x {r : List Cx → Wt} {s : Sl} (h : ¬ s.k = 1) (h2 : ¬ s.k = 8) (h3 : ¬ s.k = 2) (h4 : ¬ s.k = 4) (h5 : ¬ s.k = 6) (h6 : ¬ s.k = 7) : wtS r s = (0, 1, 0) := by unfold wtS; rw [if_neg (by omega), if_neg (by omega), if_neg (by omega), if_neg (by omega)]
theorem szS_at {z : List Cx → Nat} {c : Cx} {i j : Nat} {p : Cp} {s : Sl} (hp : c[i]? = some p) (hs : p.2[j]? = some s) : szS z s ≤ szC z c := by
  have h1 := sum_mem (f := fun p : Cp => szP z p.2) (List.mem_of_getElem? hp)
  have h2 := sum_mem (f := szS z) (List.mem_of_getElem? hs)
  unfold szC
  unfold szP at h1 ⊢
  omega
theorem szM_at {n : Nat} {l : List Cx} {i : Nat} {c : Cx} (h : l[i]? = some c) : szC (szM n) c ≤ szM (n + 1) l := sum_mem (f := szC (szM n)) (List.mem_of_getElem? h)
/-- What is to be known of lists that are at most so deep. -/
def WtLs (n : Nat) : Prop := ∀ (l : List Cx) (v : Value) (W : World), CM W n v l → szM n l ≤ 1048576 → Calls Tryz.prog 93 #[v] W fun e w' => ∃ u, e = .returned u ∧ WsM w' u (wsL n l) ∧ Below W.heap.size W w'
set_option maxRecDepth 100000 in
set_option maxHeartbeats 4000000 in
theorem simpleWeight_any (n : Nat) (s : Sl) (u : Value) (w : World) (hu : CM w n u s.ls) (hz : szM n s.ls ≤ 1048576) (IH : WtLs n) : Calls Tryz.prog 62 #[s.v u] w fun e w' => e = .returned (wV (wtS (wtM n) s)) ∧ Below w.heap.size w w' := by
  obtain ⟨W1, hW1⟩ : ∃ W1, (w.alloc (.cells #[.int .i64 s.k, .string s.nm, .int .i64 s.op, .string s.vl, .bool s.fo, u, .int .i64 s.a, .int .i64 s.b] 69)).alloc (.cells #[.int .i64 0, .int .i64 0, .int .i64 0] 42) = W1 := ⟨_, rfl⟩
  have HW1 := hide hW1
  have B0 := hide (show Below w.heap.size w W1 by rw [← hW1]; exact bplus (bplus (Below.refl _ _) _) _)
  have P1 := hide (show Bk3 W1 (w.heap.size + 1) z3 by rw [← hW1]; have := Bk3.new (w.alloc (.cells #[.int .i64 s.k, .string s.nm, .int .i64 s.op, .string s.vl, .bool s.fo, u, .int .i64 s.a, .int .i64 s.b] 69)) z3; simpa [z3] using this)
  have P0 := hide (show W1.heap[w.heap.size]? = some (.cells #[.int .i64 s.k, .string s.nm, .int .i64 s.op, .string s.vl, .bool s.fo, u, .int .i64 s.a, .int .i64 s.b] 69) by rw [← hW1]; exact (Below.heap_alloc _ _ _ (by simp)).trans (heap_alloc_new w _))
  clear hW1
  have CW := hide (IH s.ls u W1 (hu.low B0.out) hz)
  have EM := hide (wtM_ws n s.ls)
  clear hz IH
  obtain ⟨a0, -, -, -, -, a5, -, -⟩ := bxk_8 P0.out
  obtain ⟨e0, e1, e2⟩ := P1.out.cells
  have v0 := P1.out.fz 0
  have v1 := P1.out.fz 1
  have v2 := P1.out.fz 2
  have PT := hide (fun y : Wt => show Bk3 ((w.alloc (.cells #[.int .i64 s.k, .string s.nm, .int .i64 s.op, .string s.vl, .bool s.fo, u, .int .i64 s.a, .int .i64 s.b] 69)).alloc (.cells #[.int .i64 y.1, .int .i64 y.2.1, .int .i64 y.2.2] 42)) (w.heap.size + 1) y by have := Bk3.new (w.alloc (.cells #[.int .i64 s.k, .string s.nm, .int .i64 s.op, .string s.vl, .bool s.fo, u, .int .i64 s.a, .int .i64 s.b] 69)) y; simpa using this)
  have BT := hide (fun y : Wt => show Below w.heap.size w ((w.alloc (.cells #[.int .i64 s.k, .string s.nm, .int .i64 s.op, .string s.vl, .bool s.fo, u, .int .i64 s.a, .int .i64 s.b] 69)).alloc (.cells #[.int .i64 y.1, .int .i64 y.2.1, .int .i64 y.2.2] 42)) from bplus (bplus (Below.refl _ _) _) _)
  obtain ⟨ua, uc, hus, _⟩ := hu.shape
  unfold Sl.v slV
  subst hus
  by_cases h1 : s.k = 1 ∨ s.k = 8
  · have E := hide (@wtS_0 (wtM n) s h1)
    generalize wtS (wtM n) s = R at E ⊢
    generalize s.k = k at *
    clear CW EM hu HW1 P0 P1 B0 a0 a5 e0 e1 e2 v0 v1 v2
    rcases h1 with rfl | rfl
    all_goals
      go_enter Tryz.func62, Tryz.ntmps62
      go_wp2
      exact ret3 (b := w.heap.size + 1) Tryz.results62 rfl (PT.out z3) rfl ⟨by rw [E.out], BT.out z3⟩
  by_cases h2 : s.k = 2
  · have E := hide (@wtS_2 (wtM n) s h2)
    generalize wtS (wtM n) s = R at E ⊢
    generalize s.k = k at *
    clear CW EM hu HW1 P0 P1 B0 a0 a5 e0 e1 e2 v0 v1 v2
    subst h2
    go_enter Tryz.func62, Tryz.ntmps62
    go_wp2
    exact ret3 (b := w.heap.size + 1) Tryz.results62 rfl (PT.out (0, 0, 1)) rfl ⟨by rw [E.out], BT.out (0, 0, 1)⟩
  by_cases h4 : s.k = 4
  · have E := hide (@wtS_4 (wtM n) s h4)
    generalize wtS (wtM n) s = R at E ⊢
    generalize s.k = k at *
    clear CW EM hu HW1 P0 P1 B0 a0 a5 e0 e1 e2 v0 v1 v2
    subst h4
    go_enter Tryz.func62, Tryz.ntmps62
    go_wp2
    exact ret3 (b := w.heap.size + 1) Tryz.results62 rfl (PT.out (1, 0, 0)) rfl ⟨by rw [E.out], BT.out (1, 0, 0)⟩
  by_cases h6 : s.k = 6 ∨ s.k = 7
  · have E := hide ((@wtS_6 (wtM n) s h6).trans EM.out)
    generalize wtS (wtM n) s = R at E ⊢
    generalize s.k = k at *
    have CM1 := hide (fun (v : Value) (W : World) (h : WsM W v (wsL n s.ls)) => mostP_any (wsL n s.ls) v W h)
    clear EM hu PT BT
    generalize moW (wsL n s.ls) = MM at E CM1
    generalize wsL n s.ls = ws at CW CM1
    obtain ⟨m0, m1, m2⟩ := MM
    unfold wV at CM1
    simp only at CM1
    rcases h6 with rfl | rfl
    all_goals
      go_enter Tryz.func62, Tryz.ntmps62
      go_wp2_with fail
      rw [HW1.out]
      go_wp2_with (first
        | (go_at_call 93; refine CW.out.mono ?_; rintro e w2 ⟨uu, rfl, hw, B2⟩; have BB := hide B2; replace CM1 := hide (CM1.out uu w2 hw); clear hw B2)
        | (go_at_call 23; refine CM1.out.mono ?_; rintro e w3 ⟨rfl, B3⟩; replace BB := hide (bto BB.out B3); replace P1 := hide (P1.out.up BB.out); replace B0 := hide (bto B0.out BB.out); obtain ⟨i0, i1, i2⟩ := P1.out.cells; have j0 := P1.out.fz 0; have j1 := P1.out.fz 1; have j2 := P1.out.fz 2; clear B3))
      exact ret3 (b := w.heap.size + 1) Tryz.results62 rfl (P1.out.put (m0, m1, m2)) rfl ⟨by rw [E.out], below_put B0.out (by omega) _ _ _⟩
  · have E := hide (@wtS_x (wtM n) s (by omega) (by omega) h2 h4 (by omega) (by omega))
    generalize wtS (wtM n) s = R at E ⊢
    generalize s.k = k at *
    clear CW EM hu HW1 P0 P1 B0 a0 a5 e0 e1 e2 v0 v1 v2
    have g1 : (k == 1) = false := by simp; omega
    have g2 : (k == 8) = false := by simp; omega
    have g3 : (k == 2) = false := by simp; omega
    have g4 : (k == 4) = false := by simp; omega
    have g5 : (k == 6) = false := by simp; omega
    have g6 : (k == 7) = false := by simp; omega
    clear h1 h2 h4 h6
    go_enter Tryz.func62, Tryz.ntmps62
    go_wp2
    exact ret3 (b := w.heap.size + 1) Tryz.results62 rfl (PT.out (0, 1, 0)) rfl ⟨by rw [E.out], BT.out (0, 1, 0)⟩
end Go.Proofs.YtmkbjcoagfnegaaGreatDoor
