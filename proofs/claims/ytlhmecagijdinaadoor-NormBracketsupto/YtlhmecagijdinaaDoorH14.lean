/-
  A region that draws its order, by one invariant.
  A region that draws its order: its operations, its frame, guards.
  Operations of a region, run once: structs that are loaded, calls, comparisons.
  A region that draws its order and ends in operations that want all others.
-/
import Derived.Test.YtlhmecagijdinaaDoorH06
import Derived.Orders
import Derived.Deep.MidRow
set_option linter.unusedVariables false
set_option linter.unusedSimpArgs false
namespace Go.Proofs.YtlhmecagijdinaaDoor.be
open Go.RowKit

/-- What a call leaves: what lay there. -/
def Up (w w' : World) : Prop := Below w.heap.size w w'
theorem Up.refl (w : World) : Up w w := Below.refl _ _
theorem Up.size {w w' : World} (h : Up w w') : w.heap.size ≤ w'.heap.size := Below.size h
theorem Up.trans {a b c : World} (h : Up a b) (k : Up b c) : Up a c := bto h k
theorem Up.drew {w w' : World} (h : Up w w') : Up w w'.drew := Below.drew h
theorem Up.alloc {w w' : World} (h : Up w w') (c : Array Value) (t : TypeId) : Up w (w'.alloc (.cells c t)) := bplus h _

section
variable {P : Program} {ops : Array Oper} {Q : Exit → Act → World → Prop} {md : Region.Mode}

def unl (listed : Array Bool) : Nat := listed.toList.countP fun b => !b
theorem ready_false {listed : Array Bool} {i : Nat} (h : i ∈ Region.ready md ops listed) : i < ops.size ∧ listed.getD i true = false := by
  unfold Region.ready at h
  rw [List.mem_filter] at h
  obtain ⟨h1, h2⟩ := h
  simp at h1 h2
  exact ⟨h1, by simpa using h2.1⟩
theorem unl_set {listed : Array Bool} {i : Nat} (h : listed.getD i true = false) : unl (listed.setIfInBounds i true) + 1 = unl listed := by
  have hi : i < listed.size := by
    refine Nat.lt_of_not_le fun hle => ?_
    simp [Array.getD, Nat.not_lt.mpr hle] at h
  have hv : listed.toList[i]'(by simpa using hi) = false := by simpa [Array.getD, hi] using h
  unfold unl
  rw [Array.toList_setIfInBounds, List.countP_set (by simpa using hi)]
  have hp : 0 < listed.toList.countP fun b => !b := List.countP_pos_iff.mpr ⟨false, by rw [← hv]; exact List.getElem_mem _, rfl⟩
  rw [hv]
  simp only [Bool.not_false, Bool.not_true, if_true, Bool.false_eq_true, if_false]
  omega
theorem wpAny_inv {I : Array Bool → Act → World → Prop}
    (hstep : ∀ listed a w i, I listed a w → i ∈ Region.ready md ops listed → wpOp P ops Q i (fun a' w' => I (listed.setIfInBounds i true) a' w') a w)
    (hend : ∀ listed a w, I listed a w → Region.ready md ops listed = [] → Q .normal a w) :
    ∀ (fuel : Nat) (listed : Array Bool) (a : Act) (w : World), unl listed ≤ fuel → I listed a w → wpAny P md ops Q fuel listed a w := by
  intro fuel
  induction fuel with
  | zero =>
    intro listed a w hu hI
    have hr : Region.ready md ops listed = [] := by
      rw [List.eq_nil_iff_forall_not_mem]
      intro i hi
      have := unl_set (ready_false hi).2
      omega
    exact ⟨hr, hend _ _ _ hI hr⟩
  | succ fuel ih =>
    intro listed a w hu hI
    refine ⟨fun hr => hend _ _ _ hI hr, fun i hi => ?_⟩
    refine wpOp_mono (fun a' w' h => ih _ a' w' ?_ h) (hstep listed a w i hI hi)
    have := unl_set (ready_false hi).2
    omega
theorem unl_none (n : Nat) : unl (Array.replicate n false) ≤ n := by
  unfold unl
  have := List.countP_le_length (p := fun b => !b) (l := (Array.replicate n false).toList)
  simpa using this
/-- The region, by its invariant. -/
theorem wp_region_inv {id : Nat} {a : Act} {w : World} (hm : P.follows .mixedOrders = true) (I : Array Bool → Act → World → Prop)
    (h0 : I (Array.replicate ops.size false) a { w with drawn := w.drawn + 1 })
    (hstep : ∀ listed a w i, I listed a w → i ∈ Region.ready .any ops listed → wpOp P ops Q i (fun a' w' => I (listed.setIfInBounds i true) a' w') a w)
    (hend : ∀ listed a w, I listed a w → Region.ready .any ops listed = [] → Q .normal a w) : (Code.region id ops true).wp P Q a w :=
  wp_region_any hm (wpAny_inv hstep hend _ _ _ _ (unl_none _) h0)
end


/-- What an operation does. -/
inductive Kd where
  | val (v : Value)
  | call (v : Value)
  | row (cs : Array Value) (T : TypeId) (k : Nat)
  | box (T : TypeId)
  | put (b : Nat) (x y : Value)
def Kd.mk? : Kd → Bool
  | .row .. => true
  | .box _ => true
  | _ => false
def Ls (listed : Array Bool) (i : Nat) : Prop := listed.getD i false = true
theorem Ls.set {listed : Array Bool} {i j : Nat} (h : Ls (listed.setIfInBounds i true) j) : j = i ∨ Ls listed j := by
  by_cases e : j = i
  · exact .inl e
  · right
    unfold Ls at *
    simp only [Array.getD_eq_getD_getElem?, Array.getElem?_setIfInBounds, Ne.symm e, if_false] at h ⊢
    exact h
theorem Ls.mono {listed : Array Bool} {i j : Nat} (h : Ls listed j) : Ls (listed.setIfInBounds i true) j := by
  unfold Ls at *
  simp only [Array.getD_eq_getD_getElem?, Array.getElem?_setIfInBounds] at h ⊢
  split
  · rename_i e
    subst e
    split
    · rfl
    · rename_i g
      rw [Array.getElem?_eq_none (by omega)] at h; cases h
  · exact h
/-- What stands of an operation that has come up. -/
def Fact (kd : Nat → Kd) (slot : Nat → Option Nat) (blk : Nat → Nat) (listed : Array Bool) (a : Act) (w : World) (i : Nat) : Prop :=
  match kd i with
  | .val v => ∀ s, slot i = some s → a.tmps.getD s undef = v
  | .call v => ∀ s, slot i = some s → a.tmps.getD s undef = v
  | .row cs T k => (∀ s, slot i = some s → a.tmps.getD s undef = .slice (some ⟨blk i, 0, none⟩) k k) ∧ w.heap[blk i]? = some (.cells cs T)
  | .box T => (∀ s, slot i = some s → a.tmps.getD s undef = .pointer (some ⟨blk i, 0, none⟩)) ∧ ∃ c0 c1, w.heap[blk i]? = some (.cells #[c0, c1] T)
  | .put b x y => Ls listed b ∧ ∃ T, w.heap[blk b]? = some (.cells #[x, y] T)
structure Inv (n : Nat) (kd : Nat → Kd) (slot : Nat → Option Nat) (a0 : Act) (w0 : World) (blk : Nat → Nat) (listed : Array Bool) (a : Act) (w : World) : Prop where
  up : Up w0 w
  df : a.defers = a0.defers
  sz : a.tmps.size = a0.tmps.size
  oth : ∀ j, (∀ i, i < n → slot i ≠ some j) → a.tmps.getD j undef = a0.tmps.getD j undef
  low : ∀ i, i < n → Ls listed i → (kd i).mk? = true → w0.heap.size ≤ blk i ∧ blk i < w.heap.size
  dis : ∀ i j, i < n → j < n → Ls listed i → Ls listed j → (kd i).mk? = true → (kd j).mk? = true → blk i = blk j → i = j
  fct : ∀ i, i < n → Ls listed i → Fact kd slot blk listed a w i
/-- What must be said of the operations, once. -/
structure Stat (n : Nat) (kd : Nat → Kd) (slot : Nat → Option Nat) (a0 : Act) : Prop where
  one : ∀ i j s, i < n → j < n → slot i = some s → slot j = some s → i = j
  inb : ∀ i s, i < n → slot i = some s → s < a0.tmps.size
  put : ∀ i b x y, i < n → kd i = .put b x y → b < n ∧ (∃ T, kd b = .box T) ∧ slot i = none
  two : ∀ i j b x y x' y', i < n → j < n → kd i = .put b x y → kd j = .put b x' y' → i = j
theorem getD_put {a : Act} {s j : Nat} {v : Value} (h : s < a.tmps.size) : (a.put (some s) v).tmps.getD j undef = if j = s then v else a.tmps.getD j undef := by
  show (a.tmps.setIfInBounds s v).getD j undef = _
  simp only [Array.getD_eq_getD_getElem?, Array.getElem?_setIfInBounds]
  by_cases e : j = s
  · subst e; simp [h]
  · rw [if_neg (Ne.symm e), if_neg e]
section
variable {n : Nat} {kd : Nat → Kd} {slot : Nat → Option Nat} {a0 : Act} {w0 : World} {blk : Nat → Nat} {listed : Array Bool} {a : Act} {w : World} {i : Nat}
theorem Inv.put_oth (S : Stat n kd slot a0) (I : Inv n kd slot a0 w0 blk listed a w) (hi : i < n) (v : Value) : ∀ j, (∀ i, i < n → slot i ≠ some j) → (a.put (slot i) v).tmps.getD j undef = a0.tmps.getD j undef := by
  intro j hj
  cases hs : slot i with
  | none => exact I.oth j hj
  | some s =>
    rw [getD_put (by rw [I.sz]; exact S.inb i s hi hs), if_neg (fun e => hj i hi (by rw [hs, e]))]
    exact I.oth j hj
theorem put_sz (v : Value) (d : Option Nat) : (a.put d v).tmps.size = a.tmps.size := by
  cases d with
  | none => rfl
  | some s => show (a.tmps.setIfInBounds s v).size = _; simp
theorem put_df (v : Value) (d : Option Nat) : (a.put d v).defers = a.defers := by cases d <;> rfl
/-- A slot of another operation. -/
theorem put_other (S : Stat n kd slot a0) (hz : a.tmps.size = a0.tmps.size) (hi : i < n) {j : Nat} (hj : j < n) (hne : j ≠ i) {s : Nat} (hs : slot j = some s) (v : Value) : (a.put (slot i) v).tmps.getD s undef = a.tmps.getD s undef := by
  cases hd : slot i with
  | none => rfl
  | some d =>
    rw [getD_put (by rw [hz]; exact S.inb i d hi hd), if_neg (fun e => hne (S.one j i s hj hi hs (by rw [hd, e])))]
theorem put_self (S : Stat n kd slot a0) (hz : a.tmps.size = a0.tmps.size) (hi : i < n) {s : Nat} (hs : slot i = some s) (v : Value) : (a.put (slot i) v).tmps.getD s undef = v := by
  rw [hs, getD_put (by rw [hz]; exact S.inb i s hi hs), if_pos rfl]
/-- The facts of the others stay, where their blocks do. -/
theorem Fact.stays (S : Stat n kd slot a0) (hz : a.tmps.size = a0.tmps.size) (hi : i < n) {j : Nat} (hj : j < n) (hne : j ≠ i) (v : Value) {w' : World} {blk' : Nat → Nat}
    (hb : ∀ b, b ≠ i → blk' b = blk b)
    (hh : (kd j).mk? = true → w'.heap[blk j]? = w.heap[blk j]?)
    (hp : ∀ b x y, kd j = .put b x y → b ≠ i ∧ w'.heap[blk b]? = w.heap[blk b]?)
    (h : Fact kd slot blk listed a w j) : Fact kd slot blk' (listed.setIfInBounds i true) (a.put (slot i) v) w' j := by
  unfold Fact at *
  cases hk : kd j with
  | val u => rw [hk] at h; exact fun s hs => (put_other S hz hi hj hne hs v).trans (h s hs)
  | call u => rw [hk] at h; exact fun s hs => (put_other S hz hi hj hne hs v).trans (h s hs)
  | row cs T k =>
    rw [hk] at h
    refine ⟨fun s hs => ?_, ?_⟩
    · rw [hb j hne]; exact (put_other S hz hi hj hne hs v).trans (h.1 s hs)
    · rw [hb j hne, hh (by rw [hk]; rfl)]; exact h.2
  | box T =>
    rw [hk] at h
    refine ⟨fun s hs => ?_, ?_⟩
    · rw [hb j hne]; exact (put_other S hz hi hj hne hs v).trans (h.1 s hs)
    · rw [hb j hne, hh (by rw [hk]; rfl)]; exact h.2
  | put b x y =>
    rw [hk] at h
    obtain ⟨p1, p2⟩ := hp b x y hk
    refine ⟨h.1.mono, ?_⟩
    rw [hb b p1, p2]; exact h.2
/-- A value, or a call. -/
theorem Inv.value (S : Stat n kd slot a0) (I : Inv n kd slot a0 w0 blk listed a w) (hi : i < n) (hl : ¬ Ls listed i) {v : Value} (hk : kd i = .val v ∨ kd i = .call v) {w' : World} (hu : Up w w') : Inv n kd slot a0 w0 blk (listed.setIfInBounds i true) (a.put (slot i) v) w' where
  up := I.up.trans hu
  df := (put_df v _).trans I.df
  sz := (put_sz v _).trans I.sz
  oth := I.put_oth S hi v
  low := fun j hj hl' hm => by
    rcases hl'.set with rfl | hl'
    · rcases hk with hk | hk <;> rw [hk] at hm <;> cases hm
    · have := I.low j hj hl' hm; exact ⟨this.1, Nat.lt_of_lt_of_le this.2 hu.size⟩
  dis := fun j k hj hk' h1 h2 m1 m2 e => by
    rcases h1.set with rfl | h1
    · rcases hk with hk | hk <;> rw [hk] at m1 <;> cases m1
    rcases h2.set with rfl | h2
    · rcases hk with hk | hk <;> rw [hk] at m2 <;> cases m2
    exact I.dis j k hj hk' h1 h2 m1 m2 e
  fct := fun j hj hl' => by
    by_cases e : j = i
    · subst e
      unfold Fact
      rcases hk with hk | hk <;> rw [hk] <;> exact fun s hs => put_self S I.sz hj hs v
    · have hj' : Ls listed j := (hl'.set).resolve_left e
      refine Fact.stays S I.sz hi hj e v (fun _ _ => rfl) (fun hm => Below.block hu _ (I.low j hj hj' hm).2) (fun b x y hp => ?_) (I.fct j hj hj')
      have hf := I.fct j hj hj'
      unfold Fact at hf
      rw [hp] at hf
      obtain ⟨b1, ⟨T, b2⟩, b3⟩ := S.put j b x y hj hp
      refine ⟨fun eb => ?_, Below.block hu _ (I.low b b1 hf.1 (by rw [b2]; rfl)).2⟩
      subst eb
      rcases hk with hk | hk <;> rw [hk] at b2 <;> cases b2
/-- A new block. -/
theorem Inv.made (S : Stat n kd slot a0) (I : Inv n kd slot a0 w0 blk listed a w) (hi : i < n) (hl : ¬ Ls listed i) {v : Value} {cs : Array Value} {T : TypeId}
    (hk : (∃ k, kd i = .row cs T k ∧ v = .slice (some ⟨w.heap.size, 0, none⟩) k k) ∨ (∃ c0 c1, kd i = .box T ∧ cs = #[c0, c1] ∧ v = .pointer (some ⟨w.heap.size, 0, none⟩))) :
    Inv n kd slot a0 w0 (fun j => if j = i then w.heap.size else blk j) (listed.setIfInBounds i true) (a.put (slot i) v) (w.alloc (.cells cs T)) where
  up := I.up.alloc _ _
  df := (put_df v _).trans I.df
  sz := (put_sz v _).trans I.sz
  oth := I.put_oth S hi v
  low := fun j hj hl' hm => by
    have hs : (w.alloc (.cells cs T)).heap.size = w.heap.size + 1 := by simp
    by_cases e : j = i
    · simp only [e, if_true]; rw [hs]; exact ⟨I.up.size, by omega⟩
    · simp only [e, if_false]; rw [hs]
      have := I.low j hj ((hl'.set).resolve_left e) hm
      exact ⟨this.1, by omega⟩
  dis := fun j k hj hk' h1 h2 m1 m2 e => by
    by_cases e1 : j = i
    · by_cases e2 : k = i
      · rw [e1, e2]
      · simp only [e1, e2, if_true, if_false] at e
        have := (I.low k hk' ((h2.set).resolve_left e2) m2).2
        omega
    · by_cases e2 : k = i
      · simp only [e1, e2, if_true, if_false] at e
        have := (I.low j hj ((h1.set).resolve_left e1) m1).2
        omega
      · simp only [e1, e2, if_false] at e
        exact I.dis j k hj hk' ((h1.set).resolve_left e1) ((h2.set).resolve_left e2) m1 m2 e
  fct := fun j hj hl' => by
    by_cases e : j = i
    · subst e
      unfold Fact
      rcases hk with ⟨k, hk, rfl⟩ | ⟨c0, c1, hk, rfl, rfl⟩
      · rw [hk]
        simp only [if_true]
        exact ⟨fun s hs => put_self S I.sz hj hs _, heap_alloc_new w _⟩
      · rw [hk]
        simp only [if_true]
        exact ⟨fun s hs => put_self S I.sz hj hs _, c0, c1, heap_alloc_new w _⟩
    · have hj' : Ls listed j := (hl'.set).resolve_left e
      have old : ∀ b, b < w.heap.size → (w.alloc (.cells cs T)).heap[b]? = w.heap[b]? := fun b hb => ((Below.refl w.heap.size w).alloc (Nat.le_refl _) _).block b hb
      refine Fact.stays S I.sz hi hj e v (fun b hb => by simp only [hb, if_false]) (fun hm => old _ (I.low j hj hj' hm).2) (fun b x y hp => ?_) (I.fct j hj hj')
      have hf := I.fct j hj hj'
      unfold Fact at hf
      rw [hp] at hf
      obtain ⟨b1, ⟨T', b2⟩, b3⟩ := S.put j b x y hj hp
      exact ⟨fun eb => hl (by rw [← eb]; exact hf.1), old _ (I.low b b1 hf.1 (by rw [b2]; rfl)).2⟩
theorem set_block {w : World} {b : Nat} {c0 c1 : Value} {T : TypeId} (h : w.heap[b]? = some (.cells #[c0, c1] T)) (x y : Value) : ((w.setCell ⟨b, 0, none⟩ x).setCell ⟨b, 1, none⟩ y).heap[b]? = some (.cells #[x, y] T) ∧ (∀ k, k ≠ b → ((w.setCell ⟨b, 0, none⟩ x).setCell ⟨b, 1, none⟩ y).heap[k]? = w.heap[k]?) ∧ ((w.setCell ⟨b, 0, none⟩ x).setCell ⟨b, 1, none⟩ y).heap.size = w.heap.size := by
  have hb := (Array.getElem?_eq_some_iff.1 h).1
  refine ⟨?_, fun k hk => ?_, by simp⟩
  · have h1 := heap_setCell_same w b 0 _ T x h
    have h2 := heap_setCell_same (w.setCell ⟨b, 0, none⟩ x) b 1 _ T y h1
    exact h2
  · rw [Below.heap_setCell _ _ _ k (by exact hk), Below.heap_setCell _ _ _ k (by exact hk)]
/-- Something is put into a box. -/
theorem Inv.puts (S : Stat n kd slot a0) (I : Inv n kd slot a0 w0 blk listed a w) (hi : i < n) (hl : ¬ Ls listed i) {b : Nat} {x y : Value} (hk : kd i = .put b x y) (hb : Ls listed b) (v : Value) :
    Inv n kd slot a0 w0 blk (listed.setIfInBounds i true) (a.put (slot i) v) ((w.setCell ⟨blk b, 0, none⟩ x).setCell ⟨blk b, 1, none⟩ y) := by
  obtain ⟨b1, ⟨T, b2⟩, b3⟩ := S.put i b x y hi hk
  have hf := I.fct b b1 hb
  unfold Fact at hf
  rw [b2] at hf
  obtain ⟨_, c0, c1, hbl⟩ := hf
  obtain ⟨s1, s2, s3⟩ := set_block hbl x y
  have hlow := I.low b b1 hb (by rw [b2]; rfl)
  refine ⟨(I.up.setCell hlow.1 _).setCell hlow.1 _, (put_df v _).trans I.df, (put_sz v _).trans I.sz, I.put_oth S hi v, ?_, ?_, ?_⟩
  · intro j hj hl' hm
    rw [s3]
    rcases hl'.set with rfl | hl'
    · rw [hk] at hm; cases hm
    · exact I.low j hj hl' hm
  · intro j k hj hk' h1 h2 m1 m2 e
    rcases h1.set with rfl | h1
    · rw [hk] at m1; cases m1
    rcases h2.set with rfl | h2
    · rw [hk] at m2; cases m2
    exact I.dis j k hj hk' h1 h2 m1 m2 e
  · intro j hj hl'
    by_cases e : j = i
    · subst e
      unfold Fact
      rw [hk]
      exact ⟨hb.mono, T, s1⟩
    · have hj' : Ls listed j := (hl'.set).resolve_left e
      by_cases ejb : j = b
      · subst ejb
        unfold Fact
        rw [b2]
        have hg := I.fct j hj hj'
        unfold Fact at hg
        rw [b2] at hg
        exact ⟨fun s hs => (put_other S I.sz hi hj e hs v).trans (hg.1 s hs), x, y, s1⟩
      · refine Fact.stays S I.sz hi hj e v (fun _ _ => rfl) (fun hm => s2 _ (fun eq => ejb (I.dis j b hj b1 hj' hb hm (by rw [b2]; rfl) eq))) (fun b' x' y' hp => ?_) (I.fct j hj hj')
        have hf := I.fct j hj hj'
        unfold Fact at hf
        rw [hp] at hf
        obtain ⟨d1, ⟨T', d2⟩, d3⟩ := S.put j b' x' y' hj hp
        refine ⟨fun eb => ?_, s2 _ (fun eq => ?_)⟩
        · subst eb; rw [hk] at d2; cases d2
        · have := I.dis b' b d1 b1 hf.1 hb (by rw [d2]; rfl) (by rw [b2]; rfl) eq
          subst this
          exact e (S.two j i b' x' y' x y hj hi hp hk)
end


section
variable {P : Program} {ops : Array Oper} {Q : Exit → Act → World → Prop}
/-- What an operation leaves. -/
def NextK (kd : Nat → Kd) (blk : Nat → Nat) (listed : Array Bool) (i : Nat) (d : Option Nat) (a : Act) (w : World) (a' : Act) (w' : World) : Prop :=
  match kd i with
  | .val v => a' = a.put d v ∧ Up w w'
  | .call v => a' = a.put d v ∧ Up w w'
  | .row cs T k => a' = a.put d (.slice (some ⟨w.heap.size, 0, none⟩) k k) ∧ w' = w.alloc (.cells cs T)
  | .box T => ∃ c0 c1, a' = a.put d (.pointer (some ⟨w.heap.size, 0, none⟩)) ∧ w' = w.alloc (.cells #[c0, c1] T)
  | .put b x y => Ls listed b ∧ (∃ v, a' = a.put d v) ∧ w' = (w.setCell ⟨blk b, 0, none⟩ x).setCell ⟨blk b, 1, none⟩ y
def slotOf (ops : Array Oper) (i : Nat) : Option Nat := (ops[i]?).bind (·.dst)
theorem NextK.inv {n : Nat} {kd : Nat → Kd} {a0 : Act} {w0 : World} {blk : Nat → Nat} {listed : Array Bool} {a a' : Act} {w w' : World} {i : Nat} {slot : Nat → Option Nat}
    (S : Stat n kd slot a0) (I : Inv n kd slot a0 w0 blk listed a w) (hi : i < n) (hl : ¬ Ls listed i) (h : NextK kd blk listed i (slot i) a w a' w') : ∃ blk', Inv n kd slot a0 w0 blk' (listed.setIfInBounds i true) a' w' := by
  unfold NextK at h
  cases hk : kd i with
  | val v => rw [hk] at h; obtain ⟨rfl, hu⟩ := h; exact ⟨_, I.value S hi hl (.inl hk) hu⟩
  | call v => rw [hk] at h; obtain ⟨rfl, hu⟩ := h; exact ⟨_, I.value S hi hl (.inr hk) hu⟩
  | row cs T k => rw [hk] at h; obtain ⟨rfl, rfl⟩ := h; exact ⟨_, I.made S hi hl (.inl ⟨k, hk, rfl⟩)⟩
  | box T => rw [hk] at h; obtain ⟨c0, c1, rfl, rfl⟩ := h; exact ⟨_, I.made S hi hl (.inr ⟨c0, c1, hk, rfl, rfl⟩)⟩
  | put b x y => rw [hk] at h; obtain ⟨hb, ⟨v, rfl⟩, rfl⟩ := h; exact ⟨_, I.puts S hi hl hk hb v⟩
theorem ls_not {listed : Array Bool} {i : Nat} (h : listed.getD i true = false) : ¬ Ls listed i := by
  unfold Ls
  simp only [Array.getD_eq_getD_getElem?] at h ⊢
  cases hx : listed[i]? with
  | none => rw [hx] at h; cases h
  | some b => rw [hx] at h; simp at h; simp [h]
theorem all_listed (hacy : ∀ (i : Nat) (o : Oper), ops[i]? = some o → ∀ e ∈ o.after, e.on < i) {listed : Array Bool} (hsz : listed.size = ops.size) (hr : Region.ready .any ops listed = []) : ∀ i, i < ops.size → Ls listed i := by
  intro i
  induction i using Nat.strongRecOn with
  | _ i ih =>
    intro hi
    cases hx : listed[i]? with
    | none => have := Array.getElem?_eq_none_iff.1 hx; omega
    | some b =>
      cases b with
      | true => unfold Ls; simp [Array.getD_eq_getD_getElem?, hx]
      | false =>
        exfalso
        have hm : i ∈ Region.ready .any ops listed := by
          unfold Region.ready
          rw [List.mem_filter]
          refine ⟨List.mem_range.2 hi, ?_⟩
          have ho : ops[i]? = some ops[i] := Array.getElem?_eq_getElem hi
          simp only [Array.getD_eq_getD_getElem?, hx, ho]
          simp only [Option.getD_some, Option.map_some, Bool.not_false, Bool.true_and]
          rw [Array.all_eq_true']
          intro e he
          have := ih e.on (hacy i _ ho e he) (by have := hacy i _ ho e he; omega)
          unfold Ls at this
          simp only [Array.getD_eq_getD_getElem?] at this
          rw [this]; simp
        rw [hr] at hm; cases hm
theorem ready_dep {listed : Array Bool} {i : Nat} {o : Oper} (h : i ∈ Region.ready .any ops listed) (ho : ops[i]? = some o) : ∀ e ∈ o.after, Region.binds .any e = true → Ls listed e.on := by
  unfold Region.ready at h
  rw [List.mem_filter] at h
  have h2 := h.2
  simp only [ho, Option.map_some, Option.getD_some, Bool.and_eq_true, Array.all_eq_true'] at h2
  intro e he hb
  have := h2.2 e he
  rw [hb] at this
  simpa [Ls] using this
/-- The region, by what its operations do. -/
theorem wp_region_kd {id : Nat} {a0 : Act} {w0 : World} (hm : P.follows .mixedOrders = true) (kd : Nat → Kd) (S : Stat ops.size kd (slotOf ops) a0)
    (hacy : ∀ (i : Nat) (o : Oper), ops[i]? = some o → ∀ e ∈ o.after, e.on < i)
    (step : ∀ i o, ops[i]? = some o → ∀ blk listed a w, Inv ops.size kd (slotOf ops) a0 w0 blk listed a w → (∀ e ∈ o.after, Region.binds .any e = true → Ls listed e.on) → wpOp P ops Q i (fun a' w' => NextK kd blk listed i o.dst a w a' w') a w)
    (hend : ∀ blk listed a w, Inv ops.size kd (slotOf ops) a0 w0 blk listed a w → (∀ i, i < ops.size → Ls listed i) → Q .normal a w) : (Code.region id ops true).wp P Q a0 w0 := by
  refine wp_region_inv hm (fun listed a w => listed.size = ops.size ∧ ∃ blk, Inv ops.size kd (slotOf ops) a0 w0 blk listed a w) ?_ ?_ ?_
  · refine ⟨by simp, fun _ => 0, ?_⟩
    have no : ∀ i, ¬ Ls (Array.replicate ops.size false) i := fun i h => by
      unfold Ls at h
      simp only [Array.getD_eq_getD_getElem?, Array.getElem?_replicate] at h
      split at h <;> cases h
    exact ⟨(Up.refl w0).drew, rfl, rfl, fun _ _ => rfl, fun i _ h => absurd h (no i), fun i j _ _ h => absurd h (no i), fun i _ h => absurd h (no i)⟩
  · intro listed a w i hI hi
    obtain ⟨hsz, blk, I⟩ := hI
    obtain ⟨hi', hl⟩ := ready_false hi
    have ho : ops[i]? = some ops[i] := Array.getElem?_eq_getElem hi'
    have hs : slotOf ops i = ops[i].dst := by unfold slotOf; rw [ho]; rfl
    refine wpOp_mono (fun a' w' hN => ⟨by simpa using hsz, ?_⟩) (step i _ ho blk listed a w I (ready_dep hi ho))
    rw [← hs] at hN
    exact hN.inv S I hi' (ls_not hl)
  · intro listed a w hI hr
    obtain ⟨hsz, blk, I⟩ := hI
    exact hend blk listed a w I (all_listed hacy hsz hr)
theorem wpOp_val {i : Nat} {o : Oper} {a : Act} {w w' : World} {v : Value} {K : Act → World → Prop} (ho : ops[i]? = some o) (hg : o.guard = none) (hr : (execOp a.eval o).run P w = .ok (.value v) w') (hK : K (a.put o.dst v) w') : wpOp P ops Q i K a w := by
  unfold wpOp
  rw [ho]
  simp only [Region.wanted, hg, if_true]
  left
  unfold Oper.wp
  rw [hr]
  exact hK
theorem wpOp_skip {i : Nat} {o : Oper} {a : Act} {w w' : World} {K : Act → World → Prop} (ho : ops[i]? = some o) (hg : o.guard = none) (hr : (execOp a.eval o).run P w = .ok .skip w') (hK : K (a.put o.dst undef) w') : wpOp P ops Q i K a w := by
  unfold wpOp
  rw [ho]
  simp only [Region.wanted, hg, if_true]
  left
  unfold Oper.wp
  rw [hr]
  exact hK
theorem wpOp_call {i : Nat} {o : Oper} {a : Act} {w : World} {f : FuncId} {args : Array Value} {K : Act → World → Prop} (ho : ops[i]? = some o) (hg : o.guard = none) (hr : (execOp a.eval o).run P w = .ok (.enter f args) w) (hc : Calls P f args w fun e w' => ∃ v, e = .returned v ∧ K (a.put o.dst v) w') : wpOp P ops Q i K a w := by
  unfold wpOp
  rw [ho]
  simp only [Region.wanted, hg, if_true]
  left
  unfold Oper.wp
  rw [hr]
  refine hc.mono ?_
  rintro e w' ⟨v, rfl, hK⟩
  exact hK
end
end Go.Proofs.YtlhmecagijdinaaDoor.be
set_option linter.unusedVariables false
set_option linter.unusedSimpArgs false
namespace Go.Proofs.YtlhmecagijdinaaDoor.be
open Go.RowKit


theorem run_ld {ρ : Operand → Value} {w : World} {o : Oper} {x : Operand} {b : Nat} {p q : Int} (ho : o.op = .load 23 x) (hx : ρ x = .pointer (some ⟨b, 0, none⟩)) (c0 : w.cell? ⟨b, 0, none⟩ = some (.int .i64 p)) (c1 : w.cell? ⟨b, 1, none⟩ = some (.int .i64 q)) :
    (execOp ρ o).run Tryd.prog w = .ok (.value (.agg #[.int .i64 p, .int .i64 q])) w := by
  unfold execOp
  rw [ho]
  simp [go_sem, hx, c0, c1]
theorem run_alc {ρ : Operand → Value} {w : World} {o : Oper} (ho : o.op = .alloc 23) :
    (execOp ρ o).run Tryd.prog w = .ok (.value (.pointer (some ⟨w.heap.size, 0, none⟩))) (w.alloc (.cells #[.int .i64 0, .int .i64 0] 23)) := by
  unfold execOp
  rw [ho]
  simp [go_sem]
theorem run_bs2 {ρ : Operand → Value} {w : World} {o : Oper} {x y : Operand} {p q r s : Int} (ho : o.op = .buildSlice 55 2 #[(0, x), (1, y)]) (hx : ρ x = .agg #[.int .i64 p, .int .i64 q]) (hy : ρ y = .agg #[.int .i64 r, .int .i64 s]) :
    (execOp ρ o).run Tryd.prog w = .ok (.value (.slice (some ⟨w.heap.size, 0, none⟩) 2 2)) (w.alloc (.cells #[.int .i64 p, .int .i64 q, .int .i64 r, .int .i64 s] 23)) := by
  unfold execOp
  rw [ho]
  simp [go_sem, hx, hy]
theorem run_bs3 {ρ : Operand → Value} {w : World} {o : Oper} {x y z : Operand} {p q r s t u : Int} (ho : o.op = .buildSlice 55 3 #[(0, x), (1, y), (2, z)]) (hx : ρ x = .agg #[.int .i64 p, .int .i64 q]) (hy : ρ y = .agg #[.int .i64 r, .int .i64 s]) (hz : ρ z = .agg #[.int .i64 t, .int .i64 u]) :
    (execOp ρ o).run Tryd.prog w = .ok (.value (.slice (some ⟨w.heap.size, 0, none⟩) 3 3)) (w.alloc (.cells #[.int .i64 p, .int .i64 q, .int .i64 r, .int .i64 s, .int .i64 t, .int .i64 u] 23)) := by
  unfold execOp
  rw [ho]
  simp [go_sem, hx, hy, hz]
theorem run_cl1 {ρ : Operand → Value} {w : World} {o : Oper} {f : FuncId} {x : Operand} {ty : Array TypeId} (ho : o.op = .call { callee := .value (.func f), args := #[x], argTypes := ty }) (h0 : ρ (.func f) = .func (.func f) #[] #[]) (hf : ∀ v, (callFunc f #[v]).run Tryd.prog w = .ok (.enter f #[v]) w) :
    (execOp ρ o).run Tryd.prog w = .ok (.enter f #[ρ x]) w := by
  have h1 := hf (ρ x)
  unfold execOp
  rw [ho]
  simp [go_sem, h0, h1]
theorem run_st {ρ : Operand → Value} {w : World} {o : Oper} {x y : Operand} {b : Nat} {p q : Int} {c0 c1 : Value} (ho : o.op = .store 23 x y) (hx : ρ x = .pointer (some ⟨b, 0, none⟩)) (hy : ρ y = .agg #[.int .i64 p, .int .i64 q]) (hb : w.heap[b]? = some (.cells #[c0, c1] 23)) :
    ∃ v, (execOp ρ o).run Tryd.prog w = .ok v ((w.setCell ⟨b, 0, none⟩ (.int .i64 p)).setCell ⟨b, 1, none⟩ (.int .i64 q)) ∧ (v = .skip ∨ ∃ u, v = .value u) := by
  have e0 : w.cell? ⟨b, 0, none⟩ = some c0 := by simp [World.cell?, hb]
  have e1 : w.cell? ⟨b, 1, none⟩ = some c1 := by simp [World.cell?, hb]
  have f0 : w.frozen? ⟨b, 0, none⟩ = false := by simp [World.frozen?, hb]
  have f1 : w.frozen? ⟨b, 1, none⟩ = false := by simp [World.frozen?, hb]
  unfold execOp
  rw [ho]
  simp [go_sem, hx, hy, e0, e1, f0, f1]
theorem wpOp_st {ops : Array Oper} {Q : Exit → Act → World → Prop} {i : Nat} {o : Oper} {a : Act} {w : World} {K : Act → World → Prop} {x y : Operand} {b : Nat} {p q : Int} {c0 c1 : Value} (ho : ops[i]? = some o) (hg : o.guard = none) (hop : o.op = .store 23 x y)
    (hx : a.eval x = .pointer (some ⟨b, 0, none⟩)) (hy : a.eval y = .agg #[.int .i64 p, .int .i64 q]) (hb : w.heap[b]? = some (.cells #[c0, c1] 23))
    (hK : ∀ v, K (a.put o.dst v) ((w.setCell ⟨b, 0, none⟩ (.int .i64 p)).setCell ⟨b, 1, none⟩ (.int .i64 q))) : wpOp Tryd.prog ops Q i K a w := by
  obtain ⟨v, hr, hv⟩ := run_st hop hx hy hb
  rcases hv with rfl | ⟨u, rfl⟩
  · exact wpOp_skip ho hg hr (hK _)
  · exact wpOp_val ho hg hr (hK _)


def Kd.into : Kd → Option Nat
  | .put b _ _ => some b
  | _ => none
def Kd.isBox : Kd → Bool
  | .box _ => true
  | _ => false
def statOk (ops : Array Oper) (kd : Nat → Kd) (N : Nat) : Bool :=
  (List.range ops.size).all fun i =>
    ((List.range ops.size).all fun j => (i == j) || (((slotOf ops i).isNone || (slotOf ops i != slotOf ops j)) && ((kd i).into.isNone || ((kd i).into != (kd j).into)))) &&
    (match slotOf ops i with | none => true | some s => decide (s < N)) &&
    (match (kd i).into with | none => true | some b => decide (b < ops.size) && (kd b).isBox && (slotOf ops i).isNone)
theorem Stat.of {ops : Array Oper} {kd : Nat → Kd} {a0 : Act} (h : statOk ops kd a0.tmps.size = true) : Stat ops.size kd (slotOf ops) a0 := by
  unfold statOk at h
  rw [List.all_eq_true] at h
  have key : ∀ i, i < ops.size → _ := fun i hi => h i (List.mem_range.2 hi)
  simp only [Bool.and_eq_true, List.all_eq_true, List.mem_range, Bool.or_eq_true, beq_iff_eq, bne_iff_ne, ne_eq] at key
  refine ⟨fun i j s hi hj h1 h2 => ?_, fun i s hi h1 => ?_, fun i b x y hi hk => ?_, fun i j b x y x' y' hi hj h1 h2 => ?_⟩
  · rcases (key i hi).1.1 j hj with e | ⟨e, _⟩
    · exact e
    · rcases e with e | e
      · rw [h1] at e; cases e
      · exact absurd (h1.trans h2.symm) e
  · have := (key i hi).1.2
    rw [h1] at this
    simpa using this
  · have := (key i hi).2
    rw [hk] at this
    simp only [Kd.into, Bool.and_eq_true, decide_eq_true_eq, Option.isNone_iff_eq_none] at this
    refine ⟨this.1.1, ?_, this.2⟩
    cases hb : kd b with
    | box T => exact ⟨T, rfl⟩
    | _ => rw [hb] at this; simp [Kd.isBox] at this
  · rcases (key i hi).1.1 j hj with e | ⟨_, e⟩
    · exact e
    · rw [h1, h2] at e
      simp [Kd.into] at e
def acyOk (ops : Array Oper) : Bool := (List.range ops.size).all fun i => match ops[i]? with
  | none => true
  | some o => o.after.all fun e => decide (e.on < i)
theorem acy_of {ops : Array Oper} (h : acyOk ops = true) : ∀ (i : Nat) (o : Oper), ops[i]? = some o → ∀ e ∈ o.after, e.on < i := by
  intro i o ho e he
  unfold acyOk at h
  rw [List.all_eq_true] at h
  have := h i (List.mem_range.2 (Array.getElem?_eq_some_iff.1 ho).1)
  rw [ho] at this
  simp only [Array.all_eq_true', decide_eq_true_eq] at this
  exact this e he
def noSlot (ops : Array Oper) (j : Nat) : Bool := (List.range ops.size).all fun i => slotOf ops i != some j
section
variable {ops : Array Oper} {kd : Nat → Kd} {a0 : Act} {w0 : World} {blk : Nat → Nat} {listed : Array Bool} {a : Act} {w : World} {i s : Nat}
theorem Inv.oth_at (I : Inv ops.size kd (slotOf ops) a0 w0 blk listed a w) {j : Nat} (h : noSlot ops j = true) : a.tmps.getD j undef = a0.tmps.getD j undef := by
  refine I.oth j fun i hi => ?_
  unfold noSlot at h
  rw [List.all_eq_true] at h
  simpa using h i (List.mem_range.2 hi)
theorem Inv.val_at (I : Inv ops.size kd (slotOf ops) a0 w0 blk listed a w) (hi : i < ops.size) (hl : Ls listed i) {v : Value} (hk : kd i = .val v ∨ kd i = .call v) (hs : slotOf ops i = some s) : a.tmps.getD s undef = v := by
  have := I.fct i hi hl
  unfold Fact at this
  rcases hk with hk | hk <;> rw [hk] at this <;> exact this s hs
theorem Inv.row_at (I : Inv ops.size kd (slotOf ops) a0 w0 blk listed a w) (hi : i < ops.size) (hl : Ls listed i) {cs : Array Value} {T : TypeId} {k : Nat} (hk : kd i = .row cs T k) (hs : slotOf ops i = some s) : a.tmps.getD s undef = .slice (some ⟨blk i, 0, none⟩) k k ∧ w.heap[blk i]? = some (.cells cs T) := by
  have := I.fct i hi hl
  unfold Fact at this
  rw [hk] at this
  exact ⟨this.1 s hs, this.2⟩
theorem Inv.box_at (I : Inv ops.size kd (slotOf ops) a0 w0 blk listed a w) (hi : i < ops.size) (hl : Ls listed i) {T : TypeId} (hk : kd i = .box T) (hs : slotOf ops i = some s) : a.tmps.getD s undef = .pointer (some ⟨blk i, 0, none⟩) ∧ ∃ c0 c1, w.heap[blk i]? = some (.cells #[c0, c1] T) := by
  have := I.fct i hi hl
  unfold Fact at this
  rw [hk] at this
  exact ⟨this.1 s hs, this.2⟩
theorem Inv.put_at (I : Inv ops.size kd (slotOf ops) a0 w0 blk listed a w) (hi : i < ops.size) (hl : Ls listed i) {b : Nat} {x y : Value} (hk : kd i = .put b x y) : ∃ T, w.heap[blk b]? = some (.cells #[x, y] T) := by
  have := I.fct i hi hl
  unfold Fact at this
  rw [hk] at this
  exact this.2
end
/-- The frame behind some values. -/
def putsOf (a0 : Act) : List (Nat × Value) → Act
  | [] => a0
  | p :: r => putsOf (a0.put (some p.1) p.2) r
theorem puts_sz (l : List (Nat × Value)) : ∀ a0 : Act, (putsOf a0 l).tmps.size = a0.tmps.size := by
  induction l with
  | nil => intro _; rfl
  | cons p r ih => intro a0; exact (ih _).trans (put_sz _ _)
theorem puts_df (l : List (Nat × Value)) : ∀ a0 : Act, (putsOf a0 l).defers = a0.defers := by
  induction l with
  | nil => intro _; rfl
  | cons p r ih => intro a0; exact (ih _).trans (put_df _ _)
theorem puts_at {a : Act} (l : List (Nat × Value)) : ∀ a0 : Act, (∀ p ∈ l, p.1 < a0.tmps.size ∧ a.tmps.getD p.1 undef = p.2) → ∀ j, (putsOf a0 l).tmps.getD j undef = if l.any (fun p => p.1 == j) then a.tmps.getD j undef else a0.tmps.getD j undef := by
  induction l with
  | nil => intro a0 _ j; simp [putsOf]
  | cons p r ih =>
    intro a0 h j
    obtain ⟨h1, h2⟩ := h p (by simp)
    have e := ih (a0.put (some p.1) p.2) (fun q hq => by rw [put_sz]; exact h q (by simp [hq])) j
    show (putsOf (a0.put (some p.1) p.2) r).tmps.getD j undef = _
    rw [e, getD_put h1, List.any_cons]
    by_cases ej : j = p.1
    · subst ej; rw [if_pos rfl, h2]; simp
    · rw [if_neg ej]
      have : (p.1 == j) = false := by simpa using Ne.symm ej
      rw [this, Bool.false_or]
theorem getD_get {x : Array Value} {j : Nat} (h : j < x.size) : x.getD j undef = x[j] := by simp [Array.getD, h]
theorem Inv.frame {ops : Array Oper} {kd : Nat → Kd} {a0 : Act} {w0 : World} {blk : Nat → Nat} {listed : Array Bool} {a : Act} {w : World} (I : Inv ops.size kd (slotOf ops) a0 w0 blk listed a w) (l : List (Nat × Value))
    (h : ∀ p ∈ l, p.1 < a0.tmps.size ∧ a.tmps.getD p.1 undef = p.2) (hc : (List.range ops.size).all (fun i => match slotOf ops i with | none => true | some s => l.any (fun p => p.1 == s)) = true) : a = putsOf a0 l := by
  have hsz : a.tmps.size = (putsOf a0 l).tmps.size := I.sz.trans (puts_sz l a0).symm
  have ht : a.tmps = (putsOf a0 l).tmps := by
    refine Array.ext hsz fun j h1 h2 => ?_
    rw [← getD_get h1, ← getD_get h2, puts_at l a0 h j]
    by_cases hj : l.any (fun p => p.1 == j) = true
    · rw [if_pos hj]
    · rw [if_neg hj]
      refine I.oth j fun i hi hs => hj ?_
      rw [List.all_eq_true] at hc
      have := hc i (List.mem_range.2 hi)
      rw [hs] at this
      exact this
  cases a
  cases hp : putsOf a0 l with
  | mk t d =>
    have hd := puts_df l a0
    rw [hp] at hd ht
    have := I.df
    simp only at ht hd this
    subst ht
    rw [this, ← hd]


section
variable {P : Program} {ops : Array Oper} {Q : Exit → Act → World → Prop}
theorem Ls.self {listed : Array Bool} {k : Nat} (h : k < listed.size) : Ls (listed.setIfInBounds k true) k := by
  unfold Ls
  simp [Array.getD_eq_getD_getElem?, Array.getElem?_setIfInBounds, h]
theorem wp_region_sq {id : Nat} {a0 : Act} {w0 : World} (kd : Nat → Kd) (S : Stat ops.size kd (slotOf ops) a0)
    (step : ∀ i o, ops[i]? = some o → ∀ blk listed a w, Inv ops.size kd (slotOf ops) a0 w0 blk listed a w → (∀ j, j < i → Ls listed j) → wpOp P ops Q i (fun a' w' => NextK kd blk listed i o.dst a w a' w') a w)
    (hend : ∀ blk listed a w, Inv ops.size kd (slotOf ops) a0 w0 blk listed a w → (∀ i, i < ops.size → Ls listed i) → Q .normal a w) : (Code.region id ops false).wp P Q a0 w0 := by
  refine wp_region ?_
  have key : ∀ (m k : Nat), k + m = ops.size → ∀ blk listed a w, listed.size = ops.size → (∀ j, j < k → Ls listed j) → (∀ j, k ≤ j → ¬ Ls listed j) → Inv ops.size kd (slotOf ops) a0 w0 blk listed a w → wpOps P ops Q (List.range' k m) a w := by
    intro m
    induction m with
    | zero =>
      intro k hk blk listed a w hsz h1 h2 I
      exact hend blk listed a w I (fun i hi => h1 i (by omega))
    | succ m ih =>
      intro k hk blk listed a w hsz h1 h2 I
      have hk' : k < ops.size := by omega
      have ho : ops[k]? = some ops[k] := Array.getElem?_eq_getElem hk'
      have hs : slotOf ops k = ops[k].dst := by unfold slotOf; rw [ho]; rfl
      rw [List.range'_succ, wpOps_cons]
      refine wpOp_mono (fun a' w' hN => ?_) (step k _ ho blk listed a w I h1)
      rw [← hs] at hN
      obtain ⟨blk', I'⟩ := hN.inv S I hk' (h2 k (Nat.le_refl _))
      refine ih (k + 1) (by omega) blk' _ a' w' (by simpa using hsz) (fun j hj => ?_) (fun j hj hl => ?_) I'
      · by_cases e : j = k
        · subst e; exact Ls.self (by omega)
        · exact (h1 j (by omega)).mono
      · rcases hl.set with e | hl'
        · omega
        · exact h2 j (by omega) hl'
  rw [List.range_eq_range']
  have no : ∀ i, ¬ Ls (Array.replicate ops.size false) i := fun i h => by
    unfold Ls at h
    simp only [Array.getD_eq_getD_getElem?, Array.getElem?_replicate] at h
    split at h <;> cases h
  exact key ops.size 0 (by omega) (fun _ => 0) _ a0 w0 (by simp) (fun j hj => absurd hj (by omega)) (fun j _ => no j)
    ⟨Up.refl w0, rfl, rfl, fun _ _ => rfl, fun i _ h => absurd h (no i), fun i j _ _ h => absurd h (no i), fun i _ h => absurd h (no i)⟩
theorem wp_region_sqQ {id : Nat} {a0 : Act} {w0 : World} (kd : Nat → Kd) (S : Stat ops.size kd (slotOf ops) a0)
    (step : ∀ (Q' : Exit → Act → World → Prop) i o, ops[i]? = some o → ∀ blk listed a w, Inv ops.size kd (slotOf ops) a0 w0 blk listed a w → (∀ j, j < i → Ls listed j) → wpOp P ops Q' i (fun a' w' => NextK kd blk listed i o.dst a w a' w') a w)
    (hend : ∀ blk listed a w, Inv ops.size kd (slotOf ops) a0 w0 blk listed a w → (∀ i, i < ops.size → Ls listed i) → Q .normal a w) : (Code.region id ops false).wp P Q a0 w0 := wp_region_sq kd S (step Q) hend
theorem wp_region_kdQ {id : Nat} {a0 : Act} {w0 : World} (hm : P.follows .mixedOrders = true) (kd : Nat → Kd) (S : Stat ops.size kd (slotOf ops) a0)
    (hacy : ∀ (i : Nat) (o : Oper), ops[i]? = some o → ∀ e ∈ o.after, e.on < i)
    (step : ∀ (Q' : Exit → Act → World → Prop) i o, ops[i]? = some o → ∀ blk listed a w, Inv ops.size kd (slotOf ops) a0 w0 blk listed a w → (∀ e ∈ o.after, Region.binds .any e = true → Ls listed e.on) → wpOp P ops Q' i (fun a' w' => NextK kd blk listed i o.dst a w a' w') a w)
    (hend : ∀ blk listed a w, Inv ops.size kd (slotOf ops) a0 w0 blk listed a w → (∀ i, i < ops.size → Ls listed i) → Q .normal a w) : (Code.region id ops true).wp P Q a0 w0 := wp_region_kd hm kd S hacy (step Q) hend
theorem wpOp_valW {i : Nat} {o : Oper} {a : Act} {w w' : World} {v : Value} {K : Act → World → Prop} (ho : ops[i]? = some o) (hg : Region.wanted o (yielded ops a.tmps) = true) (hr : (execOp a.eval o).run P w = .ok (.value v) w') (hK : K (a.put o.dst v) w') : wpOp P ops Q i K a w := by
  unfold wpOp
  rw [ho]
  simp only [hg, if_true]
  left
  unfold Oper.wp
  rw [hr]
  exact hK
theorem wpOp_notW {i : Nat} {o : Oper} {a : Act} {w : World} {K : Act → World → Prop} (ho : ops[i]? = some o) (hg : Region.wanted o (yielded ops a.tmps) = false) (hK : K (a.put o.dst undef) w) : wpOp P ops Q i K a w := by
  unfold wpOp
  rw [ho]
  simp only [hg]
  exact hK
theorem wpOp_callW {i : Nat} {o : Oper} {a : Act} {w : World} {f : FuncId} {args : Array Value} {K : Act → World → Prop} (ho : ops[i]? = some o) (hg : Region.wanted o (yielded ops a.tmps) = true) (hr : (execOp a.eval o).run P w = .ok (.enter f args) w) (hc : Calls P f args w fun e w' => ∃ v, e = .returned v ∧ K (a.put o.dst v) w') : wpOp P ops Q i K a w := by
  unfold wpOp
  rw [ho]
  simp only [hg, if_true]
  left
  unfold Oper.wp
  rw [hr]
  refine hc.mono ?_
  rintro e w' ⟨v, rfl, hK⟩
  exact hK
theorem wn {o : Oper} {a : Act} (hg : o.guard = none) : Region.wanted o (yielded ops a.tmps) = true := by
  unfold Region.wanted; rw [hg]
theorem wg {o : Oper} {a : Act} {j s : Nat} {b c : Bool} (hg : o.guard = some (j, b)) (hs : slotOf ops j = some s) (hv : a.tmps.getD s undef = .bool c) : Region.wanted o (yielded ops a.tmps) = (c == b) := by
  unfold Region.wanted yielded
  rw [hg]
  unfold slotOf at hs
  have : a.tmps[s]? = some (.bool c) := by
    rw [Array.getD_eq_getD_getElem?] at hv
    cases h : a.tmps[s]? with
    | none => rw [h] at hv; cases hv
    | some v => rw [h] at hv; exact congrArg some hv
  simp only [hs, Option.bind_some, this]
  cases c <;> cases b <;> rfl
theorem wgT {o : Oper} {a : Act} {j s : Nat} {b c : Bool} (hg : o.guard = some (j, b)) (hs : slotOf ops j = some s) (hv : a.tmps.getD s undef = .bool c) (he : (c == b) = true) : Region.wanted o (yielded ops a.tmps) = true := (wg hg hs hv).trans he
theorem wgF {o : Oper} {a : Act} {j s : Nat} {b c : Bool} (hg : o.guard = some (j, b)) (hs : slotOf ops j = some s) (hv : a.tmps.getD s undef = .bool c) (he : (c == b) = false) : Region.wanted o (yielded ops a.tmps) = false := (wg hg hs hv).trans he
end
def setsL : List Value → List (Nat × Value) → List Value
  | L, [] => L
  | L, p :: r => setsL (L.set p.1 p.2) r
theorem puts_sets (l : List (Nat × Value)) : ∀ a0 : Act, putsOf a0 l = ⟨(setsL a0.tmps.toList l).toArray, a0.defers⟩ := by
  induction l with
  | nil => intro a0; rfl
  | cons p r ih =>
    intro a0
    show putsOf (a0.put (some p.1) p.2) r = _
    rw [ih]
    have : (a0.put (some p.1) p.2).tmps.toList = a0.tmps.toList.set p.1 p.2 := Array.toList_setIfInBounds ..
    rw [this]
    rfl
theorem Inv.frameL {ops : Array Oper} {kd : Nat → Kd} {t0 : List Value} {d0 : List _} {w0 : World} {blk : Nat → Nat} {listed : Array Bool} {a : Act} {w : World} (I : Inv ops.size kd (slotOf ops) ⟨t0.toArray, d0⟩ w0 blk listed a w) (l : List (Nat × Value))
    (h : ∀ p ∈ l, p.1 < t0.toArray.size ∧ a.tmps.getD p.1 undef = p.2) (hc : (List.range ops.size).all (fun i => match slotOf ops i with | none => true | some s => l.any (fun p => p.1 == s)) = true) : a = ⟨(setsL t0 l).toArray, d0⟩ :=
  (I.frame l h hc).trans (puts_sets l _)
def rtq (p : Int × Int) : Value := .agg #[.int .i64 p.1, .int .i64 p.2]
theorem run_as {ρ : Operand → Value} {w : World} {o : Oper} {x : Operand} {v : Value} (ho : o.op = .assign x) (hx : ρ x = v) : (execOp ρ o).run Tryd.prog w = .ok (.value v) w := by
  unfold execOp
  rw [ho]
  simp [go_sem, hx]
theorem run_not {ρ : Operand → Value} {w : World} {o : Oper} {x : Operand} {b : Bool} (ho : o.op = .unOp .not 4 x) (hx : ρ x = .bool b) : (execOp ρ o).run Tryd.prog w = .ok (.value (.bool (!b))) w := by
  unfold execOp
  rw [ho]
  simp [go_sem, hx]
theorem run_pickT {ρ : Operand → Value} {w : World} {o : Oper} {c x y : Operand} {v : Value} (ho : o.op = .pick c x y) (hc : ρ c = .bool true) (hx : ρ x = v) : (execOp ρ o).run Tryd.prog w = .ok (.value v) w := by
  unfold execOp
  rw [ho]
  simp [go_sem, hc, hx]
theorem run_pickF {ρ : Operand → Value} {w : World} {o : Oper} {c x y : Operand} {v : Value} (ho : o.op = .pick c x y) (hc : ρ c = .bool false) (hy : ρ y = v) : (execOp ρ o).run Tryd.prog w = .ok (.value v) w := by
  unfold execOp
  rw [ho]
  simp [go_sem, hc, hy]
theorem run_ne {ρ : Operand → Value} {w : World} {o : Oper} {x y : Operand} {p : Int × Int} (ho : o.op = .binOp .neq 23 x y 23) (hx : ρ x = rtq p) (hy : ρ y = rtq p) : (execOp ρ o).run Tryd.prog w = .ok (.value (.bool false)) w := by
  unfold rtq at *
  unfold execOp
  rw [ho]
  simp [go_sem, hx, hy]
theorem run_eq {ρ : Operand → Value} {w : World} {o : Oper} {x y : Operand} {p q : Int × Int} (ho : o.op = .binOp .eql 23 x y 23) (hx : ρ x = rtq p) (hy : ρ y = rtq q) : (execOp ρ o).run Tryd.prog w = .ok (.value (.bool (decide (p = q)))) w := by
  unfold rtq at *
  unfold execOp
  rw [ho]
  obtain ⟨p1, p2⟩ := p
  obtain ⟨q1, q2⟩ := q
  by_cases h1 : p1 = q1
  · subst h1
    by_cases h2 : p2 = q2
    · subst h2; simp [go_sem, hx, hy]
    · simp [go_sem, hx, hy, h2]
  · simp [go_sem, hx, hy, h1]
theorem run_ne0 {ρ : Operand → Value} {w : World} {o : Oper} {x : Operand} {n : Int} (ho : o.op = .binOp .neq 2 x (.const (.int .i64 0)) 2) (h0 : ρ (.const (.int .i64 0)) = .int .i64 0) (hx : ρ x = .int .i64 n) : (execOp ρ o).run Tryd.prog w = .ok (.value (.bool (n != 0))) w := by
  unfold execOp
  rw [ho]
  simp [go_sem, hx, h0]
theorem run_eqz {ρ : Operand → Value} {w : World} {o : Oper} {x y : Operand} {p q : Int × Int} {z : Bool} (ho : o.op = .binOp .eql 23 x y 23) (hx : ρ x = rtq p) (hy : ρ y = rtq q) (hz : decide (p = q) = z) : (execOp ρ o).run Tryd.prog w = .ok (.value (.bool z)) w := hz ▸ run_eq ho hx hy
theorem run_ne0z {ρ : Operand → Value} {w : World} {o : Oper} {x : Operand} {n : Int} {z : Bool} (ho : o.op = .binOp .neq 2 x (.const (.int .i64 0)) 2) (h0 : ρ (.const (.int .i64 0)) = .int .i64 0) (hx : ρ x = .int .i64 n) (hz : (n != 0) = z) : (execOp ρ o).run Tryd.prog w = .ok (.value (.bool z)) w := hz ▸ run_ne0 ho h0 hx
theorem run_fa {ρ : Operand → Value} {w : World} {o : Oper} {x : Operand} {b : Nat} (ho : o.op = .fieldAddr 23 x 0) (hx : ρ x = .pointer (some ⟨b, 0, none⟩)) : (execOp ρ o).run Tryd.prog w = .ok (.value (.pointer (some ⟨b, 0, none⟩))) w := by
  unfold execOp
  rw [ho]
  simp [go_sem, hx]
theorem run_ldI {ρ : Operand → Value} {w : World} {o : Oper} {x : Operand} {b : Nat} {n : Int} (ho : o.op = .load 2 x) (hx : ρ x = .pointer (some ⟨b, 0, none⟩)) (c0 : w.cell? ⟨b, 0, none⟩ = some (.int .i64 n)) : (execOp ρ o).run Tryd.prog w = .ok (.value (.int .i64 n)) w := by
  unfold execOp
  rw [ho]
  simp [go_sem, hx, c0]
end Go.Proofs.YtlhmecagijdinaaDoor.be
set_option linter.unusedVariables false
set_option linter.unusedSimpArgs false
namespace Go.Proofs.YtlhmecagijdinaaDoor.be
open Go.RowKit

theorem run_ldF {ρ : Operand → Value} {w : World} {o : Oper} {T : TypeId} {x : Operand} {b : Nat} {cs : List Value} {d : TypeDesc} (ho : o.op = .load T x) (hx : ρ x = .pointer (some ⟨b, 0, none⟩)) (hc : w.rangeAt b 0 cs)
    (hu : Tryd.prog.underlying T = some d) (hd : d.isRow = true) (hi : (Tryd.prog.info? T).map (·.size) = some cs.length) : (execOp ρ o).run Tryd.prog w = .ok (.value (.agg cs.toArray)) w := by
  have h := run_loadAt_mid (P := Tryd.prog) w b 0 T cs d hc hu hd hi
  unfold execOp
  rw [ho]
  simp only [hx]
  simp [Sem.run_bind, Result.andThen, h]
theorem run_mv {ρ : Operand → Value} {w : World} {o : Oper} {x : Operand} {v : Value} (ho : o.op = .move x) (hx : ρ x = v) : (execOp ρ o).run Tryd.prog w = .ok (.value v) w := by
  unfold execOp
  rw [ho]
  simp [go_sem, hx]
theorem run_cl0 {ρ : Operand → Value} {w : World} {o : Oper} {f : FuncId} {ty : Array TypeId} (ho : o.op = .call { callee := .value (.func f), args := #[], argTypes := ty }) (h0 : ρ (.func f) = .func (.func f) #[] #[]) (hf : (callFunc f #[]).run Tryd.prog w = .ok (.enter f #[]) w) :
    (execOp ρ o).run Tryd.prog w = .ok (.enter f #[]) w := by
  unfold execOp
  rw [ho]
  simp [go_sem, h0, hf]
theorem run_cl2 {ρ : Operand → Value} {w : World} {o : Oper} {f : FuncId} {x y : Operand} {ty : Array TypeId} (ho : o.op = .call { callee := .value (.func f), args := #[x, y], argTypes := ty }) (h0 : ρ (.func f) = .func (.func f) #[] #[]) (hf : ∀ v u, (callFunc f #[v, u]).run Tryd.prog w = .ok (.enter f #[v, u]) w) :
    (execOp ρ o).run Tryd.prog w = .ok (.enter f #[ρ x, ρ y]) w := by
  have h1 := hf (ρ x) (ρ y)
  unfold execOp
  rw [ho]
  simp [go_sem, h0, h1]
theorem run_eqB {ρ : Operand → Value} {w : World} {o : Oper} {x y : Operand} {b : Bool} (ho : o.op = .binOp .eql 4 x y 4) (hx : ρ x = .bool b) (hy : ρ y = .bool b) : (execOp ρ o).run Tryd.prog w = .ok (.value (.bool true)) w := by
  unfold execOp
  rw [ho]
  simp [go_sem, hx, hy]
theorem run_eqI {ρ : Operand → Value} {w : World} {o : Oper} {x y : Operand} {n : Int} (ho : o.op = .binOp .eql 3 x y 3) (hx : ρ x = .int .i64 n) (hy : ρ y = .int .i64 n) : (execOp ρ o).run Tryd.prog w = .ok (.value (.bool true)) w := by
  unfold execOp
  rw [ho]
  simp [go_sem, hx, hy]
theorem run_bd2 {ρ : Operand → Value} {w : World} {o : Oper} {x y : Operand} {n m : Int} (ho : o.op = .build 23 #[(0, x), (1, y)]) (hx : ρ x = .int .i64 n) (hy : ρ y = .int .i64 m) : (execOp ρ o).run Tryd.prog w = .ok (.value (.agg #[.int .i64 n, .int .i64 m])) w := by
  unfold execOp
  rw [ho]
  simp [go_sem, hx, hy]
end Go.Proofs.YtlhmecagijdinaaDoor.be
set_option linter.unusedVariables false
set_option linter.unusedSimpArgs false
namespace Go.Proofs.YtlhmecagijdinaaDoor.be
open Go.RowKit

/-- Each operation is wanted by a later one, ahead of the tail or just behind itself. -/
def sucOk (ops : Array Oper) (m : Nat) : Bool := (List.range (ops.size - 1)).all fun j => (List.range ops.size).any fun s => decide (j < s) && decide (s ≤ max m (j + 1)) && (match ops[s]? with
  | none => false
  | some o => o.after.any fun e => (e.on == j) && Region.binds .any e)
def Clos (ops : Array Oper) (listed : Array Bool) : Prop := ∀ s o, ops[s]? = some o → Ls listed s → ∀ e ∈ o.after, Region.binds .any e = true → Ls listed e.on
theorem suc_all {ops : Array Oper} {m : Nat} (h : sucOk ops m = true) {listed : Array Bool} (hc : Clos ops listed) {i : Nat} (hi : i < ops.size) (hm : m ≤ i) (hr : ∀ o, ops[i]? = some o → ∀ e ∈ o.after, Region.binds .any e = true → Ls listed e.on) : ∀ j, j < i → Ls listed j := by
  have key : ∀ d j, i - j = d → j < i → Ls listed j := by
    intro d
    induction d using Nat.strongRecOn with
    | _ d ih =>
      intro j hd hj
      unfold sucOk at h
      rw [List.all_eq_true] at h
      have hx := h j (List.mem_range.2 (by omega))
      rw [List.any_eq_true] at hx
      obtain ⟨s, _, hs⟩ := hx
      simp only [Bool.and_eq_true, decide_eq_true_eq] at hs
      obtain ⟨⟨h1, h2⟩, h3⟩ := hs
      have hsi : s ≤ i := by omega
      cases ho : ops[s]? with
      | none => rw [ho] at h3; cases h3
      | some o =>
        rw [ho] at h3
        simp only [Array.any_eq_true'] at h3
        obtain ⟨e, he, hb⟩ := h3
        simp only [Bool.and_eq_true, beq_iff_eq] at hb
        by_cases e1 : s = i
        · subst e1
          rw [← hb.1]
          exact hr o ho e he hb.2
        · rw [← hb.1]
          exact hc s o ho (ih (i - s) (by omega) s rfl (by omega)) e he hb.2
  exact fun j hj => key _ j rfl hj
theorem NextK.put {kd : Nat → Kd} {blk : Nat → Nat} {listed : Array Bool} {i : Nat} {d : Option Nat} {a a' : Act} {w w' : World} (h : NextK kd blk listed i d a w a' w') : ∃ v, a' = a.put d v := by
  unfold NextK at h
  cases hk : kd i with
  | val v => rw [hk] at h; exact ⟨v, h.1⟩
  | call v => rw [hk] at h; exact ⟨v, h.1⟩
  | row cs T k => rw [hk] at h; exact ⟨_, h.1⟩
  | box T => rw [hk] at h; obtain ⟨c0, c1, h1, _⟩ := h; exact ⟨_, h1⟩
  | put b x y => rw [hk] at h; exact h.2.1
section
variable {P : Program} {ops : Array Oper} {Q : Exit → Act → World → Prop}
theorem wp_region_tl {id : Nat} {a0 : Act} {w0 : World} (hm : P.follows .mixedOrders = true) (kd : Nat → Kd) (m : Nat) (hmn : m ≤ ops.size) (S : Stat ops.size kd (slotOf ops) a0)
    (hacy : ∀ (i : Nat) (o : Oper), ops[i]? = some o → ∀ e ∈ o.after, e.on < i) (hsuc : sucOk ops m = true)
    (step : ∀ (Q' : Exit → Act → World → Prop) i o, i < m → ops[i]? = some o → ∀ blk listed a w, Inv ops.size kd (slotOf ops) a0 w0 blk listed a w → (∀ e ∈ o.after, Region.binds .any e = true → Ls listed e.on) → wpOp P ops Q' i (fun a' w' => NextK kd blk listed i o.dst a w a' w') a w)
    (tail : ∀ blk listed a w, Inv ops.size kd (slotOf ops) a0 w0 blk listed a w → (∀ i, i < m → Ls listed i) → (∀ i s, m ≤ i → i < ops.size → slotOf ops i = some s → a.tmps.getD s undef = a0.tmps.getD s undef) → wpOps P ops Q (List.range' m (ops.size - m)) a w) : (Code.region id ops true).wp P Q a0 w0 := by
  have go : ∀ (k : Nat), k < ops.size → ∀ (listed : Array Bool) a w, listed.size = ops.size → m ≤ k → (∀ i, i < k → Ls listed i) → (∀ i, k ≤ i → ¬ Ls listed i) → wpOps P ops Q (List.range' k (ops.size - k)) a w → wpOp P ops Q k (fun a' w' => (listed.setIfInBounds k true).size = ops.size ∧ ∃ q, m ≤ q ∧ q ≤ ops.size ∧ (∀ i, i < q → Ls (listed.setIfInBounds k true) i) ∧ (∀ i, q ≤ i → ¬ Ls (listed.setIfInBounds k true) i) ∧ wpOps P ops Q (List.range' q (ops.size - q)) a' w') a w := by
    intro k hk listed a w hsz hmk h1 h2 h3
    rw [show ops.size - k = (ops.size - (k + 1)) + 1 by omega, List.range'_succ, wpOps_cons] at h3
    refine wpOp_mono (fun a' w' hN => ⟨by simpa using hsz, k + 1, by omega, by omega, fun i hi => ?_, fun i hi hl => ?_, hN⟩) h3
    · by_cases e : i = k
      · subst e; exact Ls.self (by omega)
      · exact (h1 i (by omega)).mono
    · rcases hl.set with e | hl'
      · omega
      · exact h2 i (by omega) hl'
  refine wp_region_inv hm (fun listed a w => listed.size = ops.size ∧ ((Clos ops listed ∧ (∀ i, m ≤ i → ¬ Ls listed i) ∧ (∀ i s, m ≤ i → i < ops.size → slotOf ops i = some s → a.tmps.getD s undef = a0.tmps.getD s undef) ∧ ∃ blk, Inv ops.size kd (slotOf ops) a0 w0 blk listed a w) ∨ (∃ q, m ≤ q ∧ q ≤ ops.size ∧ (∀ i, i < q → Ls listed i) ∧ (∀ i, q ≤ i → ¬ Ls listed i) ∧ wpOps P ops Q (List.range' q (ops.size - q)) a w))) ?_ ?_ ?_
  · have no : ∀ i, ¬ Ls (Array.replicate ops.size false) i := fun i h => by
      unfold Ls at h
      simp only [Array.getD_eq_getD_getElem?, Array.getElem?_replicate] at h
      split at h <;> cases h
    refine ⟨by simp, .inl ⟨fun s o _ hl => absurd hl (no s), fun i _ => no i, fun i s _ _ _ => rfl, fun _ => 0, ?_⟩⟩
    exact ⟨(Up.refl w0).drew, rfl, rfl, fun _ _ => rfl, fun i _ h => absurd h (no i), fun i j _ _ h => absurd h (no i), fun i _ h => absurd h (no i)⟩
  · intro listed a w i hI hi
    obtain ⟨hsz, hI⟩ := hI
    obtain ⟨hi', hl⟩ := ready_false hi
    have hnl := ls_not hl
    have ho : ops[i]? = some ops[i] := Array.getElem?_eq_getElem hi'
    have hs : slotOf ops i = ops[i].dst := by unfold slotOf; rw [ho]; rfl
    rcases hI with ⟨hc, hn, hsl, blk, I⟩ | ⟨q, hmq, hq, h1, h2, h3⟩
    · by_cases him : i < m
      · refine wpOp_mono (fun a' w' hN => ⟨by simpa using hsz, .inl ⟨?_, ?_, ?_, ?_⟩⟩) (step Q i _ him ho blk listed a w I (ready_dep hi ho))
        · intro s o hso hls e he hb
          rcases hls.set with rfl | hls
          · rw [ho] at hso
            obtain rfl := Option.some.inj hso
            exact (ready_dep hi ho e he hb).mono
          · exact (hc s o hso hls e he hb).mono
        · intro j hj hlj
          rcases hlj.set with e | hlj
          · omega
          · exact hn j hj hlj
        · intro j s hj hjn hjs
          obtain ⟨v, rfl⟩ := hN.put
          rw [← hs, put_other S I.sz hi' hjn (by omega) hjs v]
          exact hsl j s hj hjn hjs
        · rw [← hs] at hN
          exact hN.inv S I hi' hnl
      · have ha := suc_all hsuc hc hi' (by omega) (fun o h => by rw [ho] at h; obtain rfl := Option.some.inj h; exact ready_dep hi ho)
        have e : i = m := by
          refine Nat.le_antisymm (Nat.le_of_not_lt fun hlt => hn m (Nat.le_refl _) (ha m hlt)) (by omega)
        subst e
        exact wpOp_mono (fun a' w' h => ⟨h.1, .inr h.2⟩) (go i hi' listed a w hsz (Nat.le_refl _) ha hn (tail blk listed a w I ha hsl))
    · have hqi : q ≤ i := Nat.le_of_not_lt fun hlt => hnl (h1 i hlt)
      have hc : Clos ops listed := by
        intro s o hso hls e he hb
        have hsq : s < q := Nat.lt_of_not_le fun hle => h2 s hle hls
        exact h1 _ (Nat.lt_trans (hacy s o hso e he) hsq)
      have ha := suc_all hsuc hc hi' (by omega) (fun o h => by rw [ho] at h; obtain rfl := Option.some.inj h; exact ready_dep hi ho)
      have e : i = q := by
        refine Nat.le_antisymm (Nat.le_of_not_lt fun hlt => h2 q (Nat.le_refl _) (ha q hlt)) hqi
      subst e
      exact wpOp_mono (fun a' w' h => ⟨h.1, .inr h.2⟩) (go i hi' listed a w hsz hmq h1 h2 h3)
  · intro listed a w hI hr
    obtain ⟨hsz, hI⟩ := hI
    have all := all_listed hacy hsz hr
    rcases hI with ⟨hc, hn, hsl, blk, I⟩ | ⟨q, hmq, hq, h1, h2, h3⟩
    · have e : m = ops.size := Nat.le_antisymm hmn (Nat.le_of_not_lt fun hlt => hn m (Nat.le_refl _) (all m hlt))
      have h := tail blk listed a w I (fun i hi => all i (by omega)) hsl
      rw [e, Nat.sub_self] at h
      exact h
    · have e : q = ops.size := Nat.le_antisymm hq (Nat.le_of_not_lt fun hlt => h2 q (Nat.le_refl _) (all q hlt))
      rw [e, Nat.sub_self] at h3
      exact h3
/-- One operation behind all others. -/
theorem wp_region_tl1 {id : Nat} {a0 : Act} {w0 : World} (hm : P.follows .mixedOrders = true) (kd : Nat → Kd) (m : Nat) (hmn : ops.size = m + 1) (S : Stat ops.size kd (slotOf ops) a0)
    (hacy : ∀ (i : Nat) (o : Oper), ops[i]? = some o → ∀ e ∈ o.after, e.on < i) (hsuc : sucOk ops m = true)
    (step : ∀ (Q' : Exit → Act → World → Prop) i o, i < m → ops[i]? = some o → ∀ blk listed a w, Inv ops.size kd (slotOf ops) a0 w0 blk listed a w → (∀ e ∈ o.after, Region.binds .any e = true → Ls listed e.on) → wpOp P ops Q' i (fun a' w' => NextK kd blk listed i o.dst a w a' w') a w)
    (tail : ∀ blk listed a w, Inv ops.size kd (slotOf ops) a0 w0 blk listed a w → (∀ i, i < m → Ls listed i) → wpOp P ops Q m (fun a' w' => Q .normal a' w') a w) : (Code.region id ops true).wp P Q a0 w0 := by
  refine wp_region_tl hm kd m (by omega) S hacy hsuc step (fun blk listed a w I h _ => ?_)
  rw [show ops.size - m = 0 + 1 by omega, List.range'_succ, wpOps_cons]
  exact tail blk listed a w I h
/-- Two operations behind all others. -/
theorem wp_region_tl2 {id : Nat} {a0 : Act} {w0 : World} (hm : P.follows .mixedOrders = true) (kd : Nat → Kd) (m : Nat) (hmn : ops.size = m + 2) (S : Stat ops.size kd (slotOf ops) a0)
    (hacy : ∀ (i : Nat) (o : Oper), ops[i]? = some o → ∀ e ∈ o.after, e.on < i) (hsuc : sucOk ops m = true)
    (step : ∀ (Q' : Exit → Act → World → Prop) i o, i < m → ops[i]? = some o → ∀ blk listed a w, Inv ops.size kd (slotOf ops) a0 w0 blk listed a w → (∀ e ∈ o.after, Region.binds .any e = true → Ls listed e.on) → wpOp P ops Q' i (fun a' w' => NextK kd blk listed i o.dst a w a' w') a w)
    (tail : ∀ blk listed a w, Inv ops.size kd (slotOf ops) a0 w0 blk listed a w → (∀ i, i < m → Ls listed i) → (∀ i s, m ≤ i → i < ops.size → slotOf ops i = some s → a.tmps.getD s undef = a0.tmps.getD s undef) → wpOp P ops Q m (fun a' w' => wpOp P ops Q (m + 1) (fun a'' w'' => Q .normal a'' w'') a' w') a w) : (Code.region id ops true).wp P Q a0 w0 := by
  refine wp_region_tl hm kd m (by omega) S hacy hsuc step (fun blk listed a w I h hs => ?_)
  rw [show ops.size - m = 0 + 1 + 1 by omega, List.range'_succ, wpOps_cons]
  refine wpOp_mono (fun a' w' h2 => ?_) (tail blk listed a w I h hs)
  rw [List.range'_succ, wpOps_cons]
  exact h2
end
theorem wpOp_stM {ops : Array Oper} {Q : Exit → Act → World → Prop} {i : Nat} {o : Oper} {a : Act} {w : World} {K : Act → World → Prop} {T : TypeId} {x y : Operand} {b off : Nat} {cells : Array Value} (ho : ops[i]? = some o) (hg : o.guard = none) (hop : o.op = .store T x y)
    (hx : a.eval x = .pointer (some ⟨b, off, none⟩)) (hy : a.eval y = .agg cells) (ht : w.there b off cells.size) (hi : (Tryd.prog.info? T).map (·.size) = some cells.size) (h1 : cells.all (·.oneCell') = true)
    (hK : K (a.put o.dst undef) (w.setCells b off cells.toList)) : wpOp Tryd.prog ops Q i K a w := by
  unfold wpOp
  rw [ho]
  simp only [Region.wanted, hg, if_true]
  left
  exact wp_store_mid T x y hop b off cells hx hy ht hi h1 hK
/-- Structs at an offset. -/
theorem run_ldO {ρ : Operand → Value} {w : World} {o : Oper} {T : TypeId} {x : Operand} {b off : Nat} {cs : List Value} {d : TypeDesc} (ho : o.op = .load T x) (hx : ρ x = .pointer (some ⟨b, off, none⟩)) (hc : w.rangeAt b off cs)
    (hu : Tryd.prog.underlying T = some d) (hd : d.isRow = true) (hi : (Tryd.prog.info? T).map (·.size) = some cs.length) : (execOp ρ o).run Tryd.prog w = .ok (.value (.agg cs.toArray)) w := by
  have h := run_loadAt_mid (P := Tryd.prog) w b off T cs d hc hu hd hi
  unfold execOp
  rw [ho]
  simp only [hx]
  simp [Sem.run_bind, Result.andThen, h]
end Go.Proofs.YtlhmecagijdinaaDoor.be
