/-
  A region that draws its order: loads, new rows, calls that leave new blocks alone, new boxes, and what is put into them: by one invariant over what has come up.
-/
import Derived.Test.YthnkaimhmldjoaaDoorWalksM
import Derived.Test.YthnkaimhmldjoaaDoorRegionInv
set_option linter.unusedVariables false
namespace Go.Proofs.YthnkaimhmldjoaaDoor
open Go.RowKit

/-- What an operation does. -/
inductive Kd where
  | val (v : Value)
  | call (v : Value)
  | row (cs : Array Value) (T : TypeId) (k : Nat)
  | box (T : TypeId)
  | put (b : Nat) (x y : Value)
def Kd.mk? : Kd → Bool
  | .row .. => true
  | .box _ => true
  | _ => false
def Ls (listed : Array Bool) (i : Nat) : Prop := listed.getD i false = true
theorem Ls.set {listed : Array Bool} {i j : Nat} (h : Ls (listed.setIfInBounds i true) j) : j = i ∨ Ls listed j := by
  by_cases e : j = i
  · exact .inl e
  · right
    unfold Ls at *
    simp only [Array.getD_eq_getD_getElem?, Array.getElem?_setIfInBounds, Ne.symm e, if_false] at h ⊢
    exact h
theorem Ls.mono {listed : Array Bool} {i j : Nat} (h : Ls listed j) : Ls (listed.setIfInBounds i true) j := by
  unfold Ls at *
  simp only [Array.getD_eq_getD_getElem?, Array.getElem?_setIfInBounds] at h ⊢
  split
  · rename_i e
    subst e
    split
    · rfl
    · rename_i g
      rw [Array.getElem?_eq_none (by omega)] at h; cases h
  · exact h
/-- What stands of an operation that has come up. -/
def Fact (kd : Nat → Kd) (slot : Nat → Option Nat) (blk : Nat → Nat) (listed : Array Bool) (a : Act) (w : World) (i : Nat) : Prop :=
  match kd i with
  | .val v => ∀ s, slot i = some s → a.tmps.getD s undef = v
  | .call v => ∀ s, slot i = some s → a.tmps.getD s undef = v
  | .row cs T k => (∀ s, slot i = some s → a.tmps.getD s undef = .slice (some ⟨blk i, 0, none⟩) k k) ∧ w.heap[blk i]? = some (.cells cs T)
  | .box T => (∀ s, slot i = some s → a.tmps.getD s undef = .pointer (some ⟨blk i, 0, none⟩)) ∧ ∃ c0 c1, w.heap[blk i]? = some (.cells #[c0, c1] T)
  | .put b x y => Ls listed b ∧ ∃ T, w.heap[blk b]? = some (.cells #[x, y] T)
structure Inv (n : Nat) (kd : Nat → Kd) (slot : Nat → Option Nat) (a0 : Act) (w0 : World) (blk : Nat → Nat) (listed : Array Bool) (a : Act) (w : World) : Prop where
  up : Up w0 w
  df : a.defers = a0.defers
  sz : a.tmps.size = a0.tmps.size
  oth : ∀ j, (∀ i, i < n → slot i ≠ some j) → a.tmps.getD j undef = a0.tmps.getD j undef
  low : ∀ i, i < n → Ls listed i → (kd i).mk? = true → w0.heap.size ≤ blk i ∧ blk i < w.heap.size
  dis : ∀ i j, i < n → j < n → Ls listed i → Ls listed j → (kd i).mk? = true → (kd j).mk? = true → blk i = blk j → i = j
  fct : ∀ i, i < n → Ls listed i → Fact kd slot blk listed a w i
/-- What must be said of the operations, once. -/
structure Stat (n : Nat) (kd : Nat → Kd) (slot : Nat → Option Nat) (a0 : Act) : Prop where
  one : ∀ i j s, i < n → j < n → slot i = some s → slot j = some s → i = j
  inb : ∀ i s, i < n → slot i = some s → s < a0.tmps.size
  put : ∀ i b x y, i < n → kd i = .put b x y → b < n ∧ (∃ T, kd b = .box T) ∧ slot i = none
  two : ∀ i j b x y x' y', i < n → j < n → kd i = .put b x y → kd j = .put b x' y' → i = j
theorem getD_put {a : Act} {s j : Nat} {v : Value} (h : s < a.tmps.size) : (a.put (some s) v).tmps.getD j undef = if j = s then v else a.tmps.getD j undef := by
  show (a.tmps.setIfInBounds s v).getD j undef = _
  simp only [Array.getD_eq_getD_getElem?, Array.getElem?_setIfInBounds]
  by_cases e : j = s
  · subst e; simp [h]
  · rw [if_neg (Ne.symm e), if_neg e]
section
variable {n : Nat} {kd : Nat → Kd} {slot : Nat → Option Nat} {a0 : Act} {w0 : World} {blk : Nat → Nat} {listed : Array Bool} {a : Act} {w : World} {i : Nat}
theorem Inv.put_oth (S : Stat n kd slot a0) (I : Inv n kd slot a0 w0 blk listed a w) (hi : i < n) (v : Value) : ∀ j, (∀ i, i < n → slot i ≠ some j) → (a.put (slot i) v).tmps.getD j undef = a0.tmps.getD j undef := by
  intro j hj
  cases hs : slot i with
  | none => exact I.oth j hj
  | some s =>
    rw [getD_put (by rw [I.sz]; exact S.inb i s hi hs), if_neg (fun e => hj i hi (by rw [hs, e]))]
    exact I.oth j hj
theorem put_sz (v : Value) (d : Option Nat) : (a.put d v).tmps.size = a.tmps.size := by
  cases d with
  | none => rfl
  | some s => show (a.tmps.setIfInBounds s v).size = _; simp
theorem put_df (v : Value) (d : Option Nat) : (a.put d v).defers = a.defers := by cases d <;> rfl
/-- A slot of another operation. -/
theorem put_other (S : Stat n kd slot a0) (hz : a.tmps.size = a0.tmps.size) (hi : i < n) {j : Nat} (hj : j < n) (hne : j ≠ i) {s : Nat} (hs : slot j = some s) (v : Value) : (a.put (slot i) v).tmps.getD s undef = a.tmps.getD s undef := by
  cases hd : slot i with
  | none => rfl
  | some d =>
    rw [getD_put (by rw [hz]; exact S.inb i d hi hd), if_neg (fun e => hne (S.one j i s hj hi hs (by rw [hd, e])))]
theorem put_self (S : Stat n kd slot a0) (hz : a.tmps.size = a0.tmps.size) (hi : i < n) {s : Nat} (hs : slot i = some s) (v : Value) : (a.put (slot i) v).tmps.getD s undef = v := by
  rw [hs, getD_put (by rw [hz]; exact S.inb i s hi hs), if_pos rfl]
/-- The facts of the others stay, where their blocks do. -/
theorem Fact.stays (S : Stat n kd slot a0) (hz : a.tmps.size = a0.tmps.size) (hi : i < n) {j : Nat} (hj : j < n) (hne : j ≠ i) (v : Value) {w' : World} {blk' : Nat → Nat}
    (hb : ∀ b, b ≠ i → blk' b = blk b)
    (hh : (kd j).mk? = true → w'.heap[blk j]? = w.heap[blk j]?)
    (hp : ∀ b x y, kd j = .put b x y → b ≠ i ∧ w'.heap[blk b]? = w.heap[blk b]?)
    (h : Fact kd slot blk listed a w j) : Fact kd slot blk' (listed.setIfInBounds i true) (a.put (slot i) v) w' j := by
  unfold Fact at *
  cases hk : kd j with
  | val u => rw [hk] at h; exact fun s hs => (put_other S hz hi hj hne hs v).trans (h s hs)
  | call u => rw [hk] at h; exact fun s hs => (put_other S hz hi hj hne hs v).trans (h s hs)
  | row cs T k =>
    rw [hk] at h
    refine ⟨fun s hs => ?_, ?_⟩
    · rw [hb j hne]; exact (put_other S hz hi hj hne hs v).trans (h.1 s hs)
    · rw [hb j hne, hh (by rw [hk]; rfl)]; exact h.2
  | box T =>
    rw [hk] at h
    refine ⟨fun s hs => ?_, ?_⟩
    · rw [hb j hne]; exact (put_other S hz hi hj hne hs v).trans (h.1 s hs)
    · rw [hb j hne, hh (by rw [hk]; rfl)]; exact h.2
  | put b x y =>
    rw [hk] at h
    obtain ⟨p1, p2⟩ := hp b x y hk
    refine ⟨h.1.mono, ?_⟩
    rw [hb b p1, p2]; exact h.2
/-- A value, or a call. -/
theorem Inv.value (S : Stat n kd slot a0) (I : Inv n kd slot a0 w0 blk listed a w) (hi : i < n) (hl : ¬ Ls listed i) {v : Value} (hk : kd i = .val v ∨ kd i = .call v) {w' : World} (hu : Up w w') : Inv n kd slot a0 w0 blk (listed.setIfInBounds i true) (a.put (slot i) v) w' where
  up := I.up.trans hu
  df := (put_df v _).trans I.df
  sz := (put_sz v _).trans I.sz
  oth := I.put_oth S hi v
  low := fun j hj hl' hm => by
    rcases hl'.set with rfl | hl'
    · rcases hk with hk | hk <;> rw [hk] at hm <;> cases hm
    · have := I.low j hj hl' hm; exact ⟨this.1, Nat.lt_of_lt_of_le this.2 hu.size⟩
  dis := fun j k hj hk' h1 h2 m1 m2 e => by
    rcases h1.set with rfl | h1
    · rcases hk with hk | hk <;> rw [hk] at m1 <;> cases m1
    rcases h2.set with rfl | h2
    · rcases hk with hk | hk <;> rw [hk] at m2 <;> cases m2
    exact I.dis j k hj hk' h1 h2 m1 m2 e
  fct := fun j hj hl' => by
    by_cases e : j = i
    · subst e
      unfold Fact
      rcases hk with hk | hk <;> rw [hk] <;> exact fun s hs => put_self S I.sz hj hs v
    · have hj' : Ls listed j := (hl'.set).resolve_left e
      refine Fact.stays S I.sz hi hj e v (fun _ _ => rfl) (fun hm => hu.1.block _ (I.low j hj hj' hm).2) (fun b x y hp => ?_) (I.fct j hj hj')
      have hf := I.fct j hj hj'
      unfold Fact at hf
      rw [hp] at hf
      obtain ⟨b1, ⟨T, b2⟩, b3⟩ := S.put j b x y hj hp
      refine ⟨fun eb => ?_, hu.1.block _ (I.low b b1 hf.1 (by rw [b2]; rfl)).2⟩
      subst eb
      rcases hk with hk | hk <;> rw [hk] at b2 <;> cases b2
/-- A new block. -/
theorem Inv.made (S : Stat n kd slot a0) (I : Inv n kd slot a0 w0 blk listed a w) (hi : i < n) (hl : ¬ Ls listed i) {v : Value} {cs : Array Value} {T : TypeId}
    (hk : (∃ k, kd i = .row cs T k ∧ v = .slice (some ⟨w.heap.size, 0, none⟩) k k) ∨ (∃ c0 c1, kd i = .box T ∧ cs = #[c0, c1] ∧ v = .pointer (some ⟨w.heap.size, 0, none⟩))) :
    Inv n kd slot a0 w0 (fun j => if j = i then w.heap.size else blk j) (listed.setIfInBounds i true) (a.put (slot i) v) (w.alloc (.cells cs T)) where
  up := I.up.alloc _ _
  df := (put_df v _).trans I.df
  sz := (put_sz v _).trans I.sz
  oth := I.put_oth S hi v
  low := fun j hj hl' hm => by
    have hs : (w.alloc (.cells cs T)).heap.size = w.heap.size + 1 := by simp
    by_cases e : j = i
    · simp only [e, if_true]; rw [hs]; exact ⟨I.up.size, by omega⟩
    · simp only [e, if_false]; rw [hs]
      have := I.low j hj ((hl'.set).resolve_left e) hm
      exact ⟨this.1, by omega⟩
  dis := fun j k hj hk' h1 h2 m1 m2 e => by
    by_cases e1 : j = i
    · by_cases e2 : k = i
      · rw [e1, e2]
      · simp only [e1, e2, if_true, if_false] at e
        have := (I.low k hk' ((h2.set).resolve_left e2) m2).2
        omega
    · by_cases e2 : k = i
      · simp only [e1, e2, if_true, if_false] at e
        have := (I.low j hj ((h1.set).resolve_left e1) m1).2
        omega
      · simp only [e1, e2, if_false] at e
        exact I.dis j k hj hk' ((h1.set).resolve_left e1) ((h2.set).resolve_left e2) m1 m2 e
  fct := fun j hj hl' => by
    by_cases e : j = i
    · subst e
      unfold Fact
      rcases hk with ⟨k, hk, rfl⟩ | ⟨c0, c1, hk, rfl, rfl⟩
      · rw [hk]
        simp only [if_true]
        exact ⟨fun s hs => put_self S I.sz hj hs _, heap_alloc_new w _⟩
      · rw [hk]
        simp only [if_true]
        exact ⟨fun s hs => put_self S I.sz hj hs _, c0, c1, heap_alloc_new w _⟩
    · have hj' : Ls listed j := (hl'.set).resolve_left e
      have old : ∀ b, b < w.heap.size → (w.alloc (.cells cs T)).heap[b]? = w.heap[b]? := fun b hb => ((Below.refl w.heap.size w).alloc (Nat.le_refl _) _).block b hb
      refine Fact.stays S I.sz hi hj e v (fun b hb => by simp only [hb, if_false]) (fun hm => old _ (I.low j hj hj' hm).2) (fun b x y hp => ?_) (I.fct j hj hj')
      have hf := I.fct j hj hj'
      unfold Fact at hf
      rw [hp] at hf
      obtain ⟨b1, ⟨T', b2⟩, b3⟩ := S.put j b x y hj hp
      exact ⟨fun eb => hl (by rw [← eb]; exact hf.1), old _ (I.low b b1 hf.1 (by rw [b2]; rfl)).2⟩
theorem set_block {w : World} {b : Nat} {c0 c1 : Value} {T : TypeId} (h : w.heap[b]? = some (.cells #[c0, c1] T)) (x y : Value) : ((w.setCell ⟨b, 0, none⟩ x).setCell ⟨b, 1, none⟩ y).heap[b]? = some (.cells #[x, y] T) ∧ (∀ k, k ≠ b → ((w.setCell ⟨b, 0, none⟩ x).setCell ⟨b, 1, none⟩ y).heap[k]? = w.heap[k]?) ∧ ((w.setCell ⟨b, 0, none⟩ x).setCell ⟨b, 1, none⟩ y).heap.size = w.heap.size := by
  have hb := (Array.getElem?_eq_some_iff.1 h).1
  refine ⟨?_, fun k hk => ?_, by simp⟩
  · have h1 := heap_setCell_same w b 0 _ T x h
    have h2 := heap_setCell_same (w.setCell ⟨b, 0, none⟩ x) b 1 _ T y h1
    exact h2
  · rw [Below.heap_setCell _ _ _ k (by exact hk), Below.heap_setCell _ _ _ k (by exact hk)]
/-- Something is put into a box. -/
theorem Inv.puts (S : Stat n kd slot a0) (I : Inv n kd slot a0 w0 blk listed a w) (hi : i < n) (hl : ¬ Ls listed i) {b : Nat} {x y : Value} (hk : kd i = .put b x y) (hb : Ls listed b) (v : Value) :
    Inv n kd slot a0 w0 blk (listed.setIfInBounds i true) (a.put (slot i) v) ((w.setCell ⟨blk b, 0, none⟩ x).setCell ⟨blk b, 1, none⟩ y) := by
  obtain ⟨b1, ⟨T, b2⟩, b3⟩ := S.put i b x y hi hk
  have hf := I.fct b b1 hb
  unfold Fact at hf
  rw [b2] at hf
  obtain ⟨_, c0, c1, hbl⟩ := hf
  obtain ⟨s1, s2, s3⟩ := set_block hbl x y
  have hlow := I.low b b1 hb (by rw [b2]; rfl)
  refine ⟨(I.up.setCell hlow.1 _).setCell hlow.1 _, (put_df v _).trans I.df, (put_sz v _).trans I.sz, I.put_oth S hi v, ?_, ?_, ?_⟩
  · intro j hj hl' hm
    rw [s3]
    rcases hl'.set with rfl | hl'
    · rw [hk] at hm; cases hm
    · exact I.low j hj hl' hm
  · intro j k hj hk' h1 h2 m1 m2 e
    rcases h1.set with rfl | h1
    · rw [hk] at m1; cases m1
    rcases h2.set with rfl | h2
    · rw [hk] at m2; cases m2
    exact I.dis j k hj hk' h1 h2 m1 m2 e
  · intro j hj hl'
    by_cases e : j = i
    · subst e
      unfold Fact
      rw [hk]
      exact ⟨hb.mono, T, s1⟩
    · have hj' : Ls listed j := (hl'.set).resolve_left e
      by_cases ejb : j = b
      · subst ejb
        unfold Fact
        rw [b2]
        have hg := I.fct j hj hj'
        unfold Fact at hg
        rw [b2] at hg
        exact ⟨fun s hs => (put_other S I.sz hi hj e hs v).trans (hg.1 s hs), x, y, s1⟩
      · refine Fact.stays S I.sz hi hj e v (fun _ _ => rfl) (fun hm => s2 _ (fun eq => ejb (I.dis j b hj b1 hj' hb hm (by rw [b2]; rfl) eq))) (fun b' x' y' hp => ?_) (I.fct j hj hj')
        have hf := I.fct j hj hj'
        unfold Fact at hf
        rw [hp] at hf
        obtain ⟨d1, ⟨T', d2⟩, d3⟩ := S.put j b' x' y' hj hp
        refine ⟨fun eb => ?_, s2 _ (fun eq => ?_)⟩
        · subst eb; rw [hk] at d2; cases d2
        · have := I.dis b' b d1 b1 hf.1 hb (by rw [d2]; rfl) (by rw [b2]; rfl) eq
          subst this
          exact e (S.two j i b' x' y' x y hj hi hp hk)
end
end Go.Proofs.YthnkaimhmldjoaaDoor
