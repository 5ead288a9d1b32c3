/-
  Blocks of cells; what is seen from one block on; expressions and conditions, cell by cell.
-/
import Derived.Test.YtpcdhdllclenaaaDoorCdC
import Derived.Test.YtpcdhdllclenaaaDoorMidA
import Derived.Test.YtpcdhdllclenaaaDoorCaB
set_option linter.unusedVariables false
set_option linter.unusedSimpArgs false
namespace Go.Proofs.YtpcdhdllclenaaaDoor.cd
open Go.RowKit

theorem two_new (w : World) (A B : Obj) : ((w.alloc A).alloc B).heap[w.heap.size]? = some A ∧ ((w.alloc A).alloc B).heap[w.heap.size + 1]? = some B := by
  refine ⟨((bplus (Below.refl (w.alloc A).heap.size (w.alloc A)) B).block _ (by simp)).trans (heap_alloc_new w A), ?_⟩
  have := heap_alloc_new (w.alloc A) B
  rwa [show (w.alloc A).heap.size = w.heap.size + 1 by simp] at this
/-- A block that holds these values. -/
def Bk (w : World) (b : Nat) (T : TypeId) (cs : List Value) : Prop := w.heap[b]? = some (.cells cs.toArray T)
theorem Bk.lt {w : World} {b : Nat} {T : TypeId} {cs : List Value} (h : Bk w b T cs) : b < w.heap.size := (Array.getElem?_eq_some_iff.1 h).1
theorem Bk.fz {w : World} {b : Nat} {T : TypeId} {cs : List Value} (h : Bk w b T cs) : ∀ j, w.frozen? ⟨b, j, none⟩ = false := fun j => by simp [World.frozen?, show w.heap[b]? = _ from h]
theorem Bk.low {w w' : World} {b B : Nat} {T : TypeId} {cs : List Value} (h : Bk w b T cs) (hw : Below B w w') (hb : b < B) : Bk w' b T cs := (hw.block _ hb).trans h
theorem Bk.up {w w' : World} {b : Nat} {T : TypeId} {cs : List Value} (h : Bk w b T cs) (hw : Below w.heap.size w w') : Bk w' b T cs := h.low hw h.lt
theorem Bk.new (w : World) (T : TypeId) (cs : List Value) : Bk (w.alloc (.cells cs.toArray T)) w.heap.size T cs := heap_alloc_new w _
theorem Bk.more {w : World} {b : Nat} {T : TypeId} {cs : List Value} (h : Bk w b T cs) (o : Obj) : Bk (w.alloc o) b T cs := (Below.heap_alloc w o b h.lt).trans h
theorem Bk.far {w : World} {b r : Nat} {T : TypeId} {cs : List Value} (h : Bk w b T cs) (hr : b ≠ r) (i : Nat) (u : Value) : Bk (w.setCell ⟨r, i, none⟩ u) b T cs := (Below.heap_setCell w ⟨r, i, none⟩ u b hr).trans h
theorem Bk.drew {w : World} {b : Nat} {T : TypeId} {cs : List Value} (h : Bk w b T cs) : Bk w.drew b T cs := h
theorem Bk.cell {w : World} {b : Nat} {T : TypeId} {cs : List Value} (h : Bk w b T cs) (j : Nat) : w.cell? ⟨b, j, none⟩ = cs[j]? := by rw [row_blk h]; simp
theorem Bk.put {w : World} {b : Nat} {T : TypeId} {cs : List Value} (h : Bk w b T cs) (j : Nat) (v : Value) : Bk (w.setCell ⟨b, j, none⟩ v) b T (cs.set j v) := by
  have h1 : w.heap[b]? = some (.cells cs.toArray T) := h
  have := setCell_blk (j := j) h1 v
  unfold Bk
  rw [this]
  simp
theorem Bk.puts {b : Nat} {T : TypeId} : ∀ (xs : List Value) (o : Nat) (w : World) (cs : List Value), Bk w b T cs → o + xs.length ≤ cs.length → Bk (w.setCells b o xs) b T (cs.take o ++ xs ++ cs.drop (o + xs.length)) := by
  intro xs
  induction xs with
  | nil => intro o w cs h _; simpa [World.setCells] using h
  | cons x r ih =>
    intro o w cs h hl
    simp only [List.length_cons] at hl
    have h2 := ih (o + 1) (w.setCell ⟨b, o, none⟩ x) (cs.set o x) (Bk.put h o x) (by rw [List.length_set]; omega)
    have e : (cs.set o x).take (o + 1) ++ r ++ (cs.set o x).drop (o + 1 + r.length) = cs.take o ++ x :: r ++ cs.drop (o + (x :: r).length) := by
      rw [List.take_add_one, List.take_set_of_le (by omega), List.getElem?_set_self (by omega), List.drop_set_of_lt (by omega), List.length_cons, show o + 1 + r.length = o + (r.length + 1) by omega]
      simp
    rw [e] at h2
    exact h2
theorem setCells_far (b r o : Nat) (hb : b ≠ r) : ∀ (xs : List Value) (o : Nat) (w : World), (w.setCells r o xs).heap[b]? = w.heap[b]? := by
  intro xs
  induction xs with
  | nil => intro o w; rfl
  | cons x xs ih => intro o w; exact (ih (o + 1) _).trans (Below.heap_setCell w ⟨r, o, none⟩ x b hb)
/-- The world without what lies below B. -/
def cutW (B : Nat) (w : World) : World := { w with heap := w.heap.mapIdx fun i o => if i < B then .cells #[] 0 else o }
theorem cut_size (B : Nat) (w : World) : (cutW B w).heap.size = w.heap.size := by simp [cutW]
theorem cut_blk {B b : Nat} (w : World) (h : B ≤ b) : (cutW B w).heap[b]? = w.heap[b]? := by
  simp only [cutW, Array.getElem?_mapIdx]
  cases w.heap[b]? with
  | none => rfl
  | some o => simp [show ¬ b < B by omega]
theorem cut_low {B b : Nat} (w : World) (h : b < B) (o : Nat) : (cutW B w).cell? ⟨b, o, none⟩ = none := by
  unfold World.cell?
  simp only [cutW, Array.getElem?_mapIdx]
  cases w.heap[b]? with
  | none => rfl
  | some x => simp [h]
theorem cell_blk {w w' : World} {b : Nat} (h : w'.heap[b]? = w.heap[b]?) (o : Nat) : w'.cell? ⟨b, o, none⟩ = w.cell? ⟨b, o, none⟩ := by
  unfold World.cell?
  simp only [h]
/-- What is seen stays seen. -/
def Sees (w w' : World) : Prop := w.heap.size ≤ w'.heap.size ∧ ∀ b o v, w.cell? ⟨b, o, none⟩ = some v → w'.cell? ⟨b, o, none⟩ = some v
theorem cut_sees (B : Nat) (w : World) : Sees (cutW B w) w := ⟨Nat.le_of_eq (cut_size B w), fun b o v h => by
  by_cases hb : b < B
  · rw [cut_low w hb] at h; cases h
  · rw [cell_blk (cut_blk w (by omega)) o] at h; exact h⟩
/-- What lies from B on stays, where these blocks do. -/
theorem cut_keep {B C : Nat} {w w' : World} (hC : C ≤ B) (hs : w.heap.size ≤ w'.heap.size) (hk : ∀ b, B ≤ b → b < w.heap.size → w'.heap[b]? = w.heap[b]?) : Sees (cutW B w) (cutW C w') := ⟨by rw [cut_size, cut_size]; exact hs, fun b o v h => by
  by_cases hb : b < B
  · rw [cut_low w hb] at h; cases h
  · rw [cell_blk (cut_blk w (by omega)) o] at h
    rw [cell_blk (cut_blk w' (by omega)) o, cell_blk (hk b (by omega) (World.block_lt_of_cell? _ _ h)) o]
    exact h⟩
theorem mid_range {w : World} {g : Nat} {T : TypeId} {ys A zs : List Value} {o : Nat} (h : Bk w g T (ys ++ (A ++ zs))) (ho : ys.length = o) : w.rangeAt g o A := fun j v hj => by
  have hj2 := (List.getElem?_eq_some_iff.1 hj).1
  rw [Bk.cell h, List.getElem?_append_right (by omega), ho, show o + j - o = j by omega, List.getElem?_append_left (by omega)]
  exact hj
theorem mid_there {w : World} {g : Nat} {T : TypeId} {ys A zs : List Value} {o m : Nat} (h : Bk w g T (ys ++ (A ++ zs))) (ho : ys.length = o) (hm : m = A.length) : w.there g o m := fun j hj => by
  refine ⟨?_, Bk.fz h _⟩
  rw [Bk.cell h, List.getElem?_eq_getElem (by simp; omega)]
  rfl
theorem mid_put {w : World} {g : Nat} {T : TypeId} {ys A C zs : List Value} {o : Nat} (h : Bk w g T (ys ++ (A ++ zs))) (ho : ys.length = o) (hA : A.length = C.length) : Bk (w.setCells g o C) g T ((ys ++ C) ++ zs) := by
  subst ho
  have := Bk.puts C ys.length w _ h (by simp; omega)
  rwa [List.take_left' rfl, ← hA, ← List.length_append, ← List.append_assoc ys A zs, List.drop_left] at this
theorem setCells_sizeC (g : Nat) : ∀ (xs : List Value) (o : Nat) (w : World), (w.setCells g o xs).heap.size = w.heap.size := by
  intro xs
  induction xs with
  | nil => intro o w; rfl
  | cons x xs ih => intro o w; simp only [World.setCells]; rw [ih]; simp
theorem em_sees {w w' : World} (h : Sees w w') {v : Value} {l : List Ex} (k : EM w v l) : EM w' v l := by
  induction k with
  | nil a c => exact .nil a c
  | row b o c l u h0 hb hc hn hm hx ht hu _ ih => exact .row b o c l u h0 (Nat.lt_of_lt_of_le hb h.1) hc hn hm hx (fun i v hi => by obtain ⟨a1, a2, a3, a4⟩ := ht i v hi; exact ⟨h.2 _ _ _ a1, h.2 _ _ _ a2, h.2 _ _ _ a3, h.2 _ _ _ a4⟩) (fun i v hi => h.2 _ _ _ (hu i v hi)) ih
theorem cm_sees {w w' : World} (h : Sees w w') {v : Value} {l : List Cn} (k : CM w v l) : CM w' v l := by
  induction k with
  | nil a c => exact .nil a c
  | row b o c l u z h0 hb hc hn hm hx ht he _ ih => exact .row b o c l u z h0 (Nat.lt_of_lt_of_le hb h.1) hc hn hm hx (fun i v hi => by obtain ⟨h0, h1, h2, h3, h4, h5, h6, h7, h8, h9, ha, hc', hd, he'⟩ := ht i v hi; exact ⟨h.2 _ _ _ h0, h.2 _ _ _ h1, h.2 _ _ _ h2, h.2 _ _ _ h3, h.2 _ _ _ h4, h.2 _ _ _ h5, h.2 _ _ _ h6, h.2 _ _ _ h7, h.2 _ _ _ h8, h.2 _ _ _ h9, h.2 _ _ _ ha, h.2 _ _ _ hc', h.2 _ _ _ hd, h.2 _ _ _ he'⟩) (fun i v hi => em_sees h (he i v hi)) ih
/-- The five values of an expression, the fourteen of a condition. -/
def exL (x : Ex) (u : Value) : List Value := [.int .i64 x.k, .int .i64 x.n, .int .i64 x.d, .int .i64 x.u, u]
def cnL (x : Cn) (u z : Value) : List Value := [.int .i64 x.k, u, .int .i64 x.lf.k, .int .i64 x.lf.t, .string x.lf.nm, .int .i64 x.lf.op, .int .i64 x.lf.e.k, .int .i64 x.lf.e.n, .int .i64 x.lf.e.d, .int .i64 x.lf.e.u, z, .string x.lf.wd, .string x.lf.vl, .bool x.lf.an]
/-- The cells of expressions. -/
inductive ExC (w : World) : List Ex → List Value → Prop
  | nil : ExC w [] []
  | cons (x : Ex) (l : List Ex) (xs : List Value) (u : Value) (ok : x.Ok) (hu : EM w u x.ks) (g : ExC w l xs) : ExC w (x :: l) (exL x u ++ xs)
inductive CnC (w : World) : List Cn → List Value → Prop
  | nil : CnC w [] []
  | cons (x : Cn) (l : List Cn) (xs : List Value) (u z : Value) (ok : x.Ok) (hz : EM w z x.lf.e.ks) (hu : CM w u x.ks) (g : CnC w l xs) : CnC w (x :: l) (cnL x u z ++ xs)
theorem ExC.len {w : World} {l : List Ex} {xs : List Value} (h : ExC w l xs) : xs.length = l.length * 5 := by
  induction h with
  | nil => rfl
  | cons x l xs u ok hu g ih => rw [List.length_append, ih, List.length_cons, show (exL x u).length = 5 from rfl]; omega
theorem CnC.len {w : World} {l : List Cn} {xs : List Value} (h : CnC w l xs) : xs.length = l.length * 14 := by
  induction h with
  | nil => rfl
  | cons x l xs u z ok hz hu g ih => rw [List.length_append, ih, List.length_cons, show (cnL x u z).length = 14 from rfl]; omega
theorem ExC.sees {w w' : World} {l : List Ex} {xs : List Value} (h : ExC w l xs) (k : Sees w w') : ExC w' l xs := by
  induction h with
  | nil => exact .nil
  | cons x l xs u ok hu g ih => exact .cons x l xs u ok (em_sees k hu) ih
theorem CnC.sees {w w' : World} {l : List Cn} {xs : List Value} (h : CnC w l xs) (k : Sees w w') : CnC w' l xs := by
  induction h with
  | nil => exact .nil
  | cons x l xs u z ok hz hu g ih => exact .cons x l xs u z ok (em_sees k hz) (cm_sees k hu) ih
theorem ExC.app {w : World} {l1 l2 : List Ex} {xs1 xs2 : List Value} (h : ExC w l1 xs1) (k : ExC w l2 xs2) : ExC w (l1 ++ l2) (xs1 ++ xs2) := by
  induction h with
  | nil => exact k
  | cons x l xs u ok hu g ih => rw [List.append_assoc]; exact .cons x _ _ u ok hu ih
theorem CnC.app {w : World} {l1 l2 : List Cn} {xs1 xs2 : List Value} (h : CnC w l1 xs1) (k : CnC w l2 xs2) : CnC w (l1 ++ l2) (xs1 ++ xs2) := by
  induction h with
  | nil => exact k
  | cons x l xs u z ok hz hu g ih => rw [List.append_assoc]; exact .cons x _ _ u z ok hz hu ih
theorem ExC.at {w : World} {l : List Ex} {xs : List Value} (h : ExC w l xs) : ∀ {i : Nat} {x : Ex}, l[i]? = some x → ∃ u, x.Ok ∧ EM w u x.ks ∧ ∀ j, j < 5 → xs[i * 5 + j]? = (exL x u)[j]? := by
  induction h with
  | nil => intro i x h; simp at h
  | cons y l xs u ok hu g ih =>
    intro i x hi
    cases i with
    | zero =>
      simp at hi
      subst hi
      refine ⟨u, ok, hu, fun j hj => ?_⟩
      rw [Nat.zero_mul, Nat.zero_add, List.getElem?_append_left (by show j < 5; omega)]
    | succ i =>
      obtain ⟨u', ok', hu', hc⟩ := ih (i := i) (x := x) (by simpa using hi)
      refine ⟨u', ok', hu', fun j hj => ?_⟩
      rw [List.getElem?_append_right (by show 5 ≤ (i + 1) * 5 + j; omega), show (i + 1) * 5 + j - (exL y u).length = i * 5 + j by show (i + 1) * 5 + j - 5 = _; omega]
      exact hc j hj
theorem CnC.at {w : World} {l : List Cn} {xs : List Value} (h : CnC w l xs) : ∀ {i : Nat} {x : Cn}, l[i]? = some x → ∃ u z, x.Ok ∧ EM w z x.lf.e.ks ∧ CM w u x.ks ∧ ∀ j, j < 14 → xs[i * 14 + j]? = (cnL x u z)[j]? := by
  induction h with
  | nil => intro i x h; simp at h
  | cons y l xs u z ok hz hu g ih =>
    intro i x hi
    cases i with
    | zero =>
      simp at hi
      subst hi
      refine ⟨u, z, ok, hz, hu, fun j hj => ?_⟩
      rw [Nat.zero_mul, Nat.zero_add, List.getElem?_append_left (by show j < 14; omega)]
    | succ i =>
      obtain ⟨u', z', ok', hz', hu', hc⟩ := ih (i := i) (x := x) (by simpa using hi)
      refine ⟨u', z', ok', hz', hu', fun j hj => ?_⟩
      rw [List.getElem?_append_right (by show 14 ≤ (i + 1) * 14 + j; omega), show (i + 1) * 14 + j - (cnL y u z).length = i * 14 + j by show (i + 1) * 14 + j - 14 = _; omega]
      exact hc j hj
/-- A block of expressions is a slice of them. -/
theorem exc_em {w : World} {g : Nat} {T : TypeId} {l : List Ex} {xs : List Value} (h : ExC w l xs) (hg : Bk w g T xs) (hl : l.length ≤ 1000000000) : EM w (.slice (some ⟨g, 0, none⟩) l.length l.length) l := by
  by_cases h0 : l = []
  · subst h0; exact .nil _ _
  have ch : ∀ i, ∃ u, ∀ y, l[i]? = some y → y.Ok ∧ EM w u y.ks ∧ ∀ j, j < 5 → xs[i * 5 + j]? = (exL y u)[j]? := fun i => by
    cases hi : l[i]? with
    | none => exact ⟨.bool false, fun y hy => by cases hy⟩
    | some y => obtain ⟨u, h1⟩ := h.at hi; exact ⟨u, fun y' hy => by cases hy; exact h1⟩
  refine .row g 0 l.length l (fun i => Classical.choose (ch i)) (List.length_pos_iff.2 h0) hg.lt (Nat.le_refl _) hl (by omega) (fun i v hi => (Classical.choose_spec (ch i) v hi).1) (fun i v hi => ?_) (fun i v hi => ?_) (fun i v hi => (Classical.choose_spec (ch i) v hi).2.1)
  · have hc := (Classical.choose_spec (ch i) v hi).2.2
    exact ⟨by rw [hg.cell, show 0 + i * 5 = i * 5 + 0 by omega, hc 0 (by omega)]; rfl, by rw [hg.cell, show 0 + i * 5 + 1 = i * 5 + 1 by omega, hc 1 (by omega)]; rfl, by rw [hg.cell, show 0 + i * 5 + 2 = i * 5 + 2 by omega, hc 2 (by omega)]; rfl, by rw [hg.cell, show 0 + i * 5 + 3 = i * 5 + 3 by omega, hc 3 (by omega)]; rfl⟩
  · have hc := (Classical.choose_spec (ch i) v hi).2.2
    rw [hg.cell, show 0 + i * 5 + 4 = i * 5 + 4 by omega, hc 4 (by omega)]
    rfl
theorem cnc_cm {w : World} {g : Nat} {T : TypeId} {l : List Cn} {xs : List Value} (h : CnC w l xs) (hg : Bk w g T xs) (hl : l.length ≤ 1000000000) : CM w (.slice (some ⟨g, 0, none⟩) l.length l.length) l := by
  by_cases h0 : l = []
  · subst h0; exact .nil _ _
  have ch : ∀ i, ∃ p : Value × Value, ∀ y, l[i]? = some y → y.Ok ∧ EM w p.2 y.lf.e.ks ∧ CM w p.1 y.ks ∧ ∀ j, j < 14 → xs[i * 14 + j]? = (cnL y p.1 p.2)[j]? := fun i => by
    cases hi : l[i]? with
    | none => exact ⟨(.bool false, .bool false), fun y hy => by cases hy⟩
    | some y => obtain ⟨u, z, h1⟩ := h.at hi; exact ⟨(u, z), fun y' hy => by cases hy; exact h1⟩
  refine .row g 0 l.length l (fun i => (Classical.choose (ch i)).1) (fun i => (Classical.choose (ch i)).2) (List.length_pos_iff.2 h0) hg.lt (Nat.le_refl _) hl (by omega) (fun i v hi => (Classical.choose_spec (ch i) v hi).1) (fun i v hi => ?_) (fun i v hi => (Classical.choose_spec (ch i) v hi).2.1) (fun i v hi => (Classical.choose_spec (ch i) v hi).2.2.1)
  have hc := (Classical.choose_spec (ch i) v hi).2.2.2
  exact ⟨by rw [hg.cell, show 0 + i * 14 = i * 14 + 0 by omega, hc 0 (by omega)]; rfl, by rw [hg.cell, show 0 + i * 14 + 1 = i * 14 + 1 by omega, hc 1 (by omega)]; rfl, by rw [hg.cell, show 0 + i * 14 + 2 = i * 14 + 2 by omega, hc 2 (by omega)]; rfl, by rw [hg.cell, show 0 + i * 14 + 3 = i * 14 + 3 by omega, hc 3 (by omega)]; rfl, by rw [hg.cell, show 0 + i * 14 + 4 = i * 14 + 4 by omega, hc 4 (by omega)]; rfl, by rw [hg.cell, show 0 + i * 14 + 5 = i * 14 + 5 by omega, hc 5 (by omega)]; rfl, by rw [hg.cell, show 0 + i * 14 + 6 = i * 14 + 6 by omega, hc 6 (by omega)]; rfl, by rw [hg.cell, show 0 + i * 14 + 7 = i * 14 + 7 by omega, hc 7 (by omega)]; rfl, by rw [hg.cell, show 0 + i * 14 + 8 = i * 14 + 8 by omega, hc 8 (by omega)]; rfl, by rw [hg.cell, show 0 + i * 14 + 9 = i * 14 + 9 by omega, hc 9 (by omega)]; rfl, by rw [hg.cell, show 0 + i * 14 + 10 = i * 14 + 10 by omega, hc 10 (by omega)]; rfl, by rw [hg.cell, show 0 + i * 14 + 11 = i * 14 + 11 by omega, hc 11 (by omega)]; rfl, by rw [hg.cell, show 0 + i * 14 + 12 = i * 14 + 12 by omega, hc 12 (by omega)]; rfl, by rw [hg.cell, show 0 + i * 14 + 13 = i * 14 + 13 by omega, hc 13 (by omega)]; rfl⟩
theorem exL_one (x : Ex) {v : Value} (h : v.oneCell' = true) : ∀ y ∈ exL x v, y.oneCell' = true := by
  intro y hy
  simp only [exL, List.mem_cons, List.not_mem_nil, or_false] at hy
  rcases hy with rfl | rfl | rfl | rfl | rfl <;> first | rfl | exact h
theorem cnL_one (x : Cn) {v z : Value} (h : v.oneCell' = true) (hz : z.oneCell' = true) : ∀ y ∈ cnL x v z, y.oneCell' = true := by
  intro y hy
  simp only [cnL, List.mem_cons, List.not_mem_nil, or_false] at hy
  rcases hy with rfl | rfl | rfl | rfl | rfl | rfl | rfl | rfl | rfl | rfl | rfl | rfl | rfl | rfl <;> first | rfl | exact h | exact hz
end Go.Proofs.YtpcdhdllclenaaaDoor.cd
