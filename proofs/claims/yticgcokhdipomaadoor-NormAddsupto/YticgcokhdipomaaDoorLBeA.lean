/-
  A region that draws its order, by one invariant.
-/
import Derived.Test.YticgcokhdipomaaDoorLNoM
import Derived.Orders
set_option linter.unusedVariables false
set_option linter.unusedSimpArgs false
namespace Go.Proofs.YticgcokhdipomaaDoor.be
open Go.RowKit

/-- What a call leaves: what lay there. -/
def Up (w w' : World) : Prop := Below w.heap.size w w'
theorem Up.refl (w : World) : Up w w := Below.refl _ _
theorem Up.size {w w' : World} (h : Up w w') : w.heap.size ≤ w'.heap.size := Below.size h
theorem Up.trans {a b c : World} (h : Up a b) (k : Up b c) : Up a c := bto h k
theorem Up.drew {w w' : World} (h : Up w w') : Up w w'.drew := Below.drew h
theorem Up.alloc {w w' : World} (h : Up w w') (c : Array Value) (t : TypeId) : Up w (w'.alloc (.cells c t)) := bplus h _

section
variable {P : Program} {ops : Array Oper} {Q : Exit → Act → World → Prop} {md : Region.Mode}

def unl (listed : Array Bool) : Nat := listed.toList.countP fun b => !b
theorem ready_false {listed : Array Bool} {i : Nat} (h : i ∈ Region.ready md ops listed) : i < ops.size ∧ listed.getD i true = false := by
  unfold Region.ready at h
  rw [List.mem_filter] at h
  obtain ⟨h1, h2⟩ := h
  simp at h1 h2
  exact ⟨h1, by simpa using h2.1⟩
theorem unl_set {listed : Array Bool} {i : Nat} (h : listed.getD i true = false) : unl (listed.setIfInBounds i true) + 1 = unl listed := by
  have hi : i < listed.size := by
    refine Nat.lt_of_not_le fun hle => ?_
    simp [Array.getD, Nat.not_lt.mpr hle] at h
  have hv : listed.toList[i]'(by simpa using hi) = false := by simpa [Array.getD, hi] using h
  unfold unl
  rw [Array.toList_setIfInBounds, List.countP_set (by simpa using hi)]
  have hp : 0 < listed.toList.countP fun b => !b := List.countP_pos_iff.mpr ⟨false, by rw [← hv]; exact List.getElem_mem _, rfl⟩
  rw [hv]
  simp only [Bool.not_false, Bool.not_true, if_true, Bool.false_eq_true, if_false]
  omega
theorem wpAny_inv {I : Array Bool → Act → World → Prop}
    (hstep : ∀ listed a w i, I listed a w → i ∈ Region.ready md ops listed → wpOp P ops Q i (fun a' w' => I (listed.setIfInBounds i true) a' w') a w)
    (hend : ∀ listed a w, I listed a w → Region.ready md ops listed = [] → Q .normal a w) :
    ∀ (fuel : Nat) (listed : Array Bool) (a : Act) (w : World), unl listed ≤ fuel → I listed a w → wpAny P md ops Q fuel listed a w := by
  intro fuel
  induction fuel with
  | zero =>
    intro listed a w hu hI
    have hr : Region.ready md ops listed = [] := by
      rw [List.eq_nil_iff_forall_not_mem]
      intro i hi
      have := unl_set (ready_false hi).2
      omega
    exact ⟨hr, hend _ _ _ hI hr⟩
  | succ fuel ih =>
    intro listed a w hu hI
    refine ⟨fun hr => hend _ _ _ hI hr, fun i hi => ?_⟩
    refine wpOp_mono (fun a' w' h => ih _ a' w' ?_ h) (hstep listed a w i hI hi)
    have := unl_set (ready_false hi).2
    omega
theorem unl_none (n : Nat) : unl (Array.replicate n false) ≤ n := by
  unfold unl
  have := List.countP_le_length (p := fun b => !b) (l := (Array.replicate n false).toList)
  simpa using this
/-- The region, by its invariant. -/
theorem wp_region_inv {id : Nat} {a : Act} {w : World} (hm : P.follows .mixedOrders = true) (I : Array Bool → Act → World → Prop)
    (h0 : I (Array.replicate ops.size false) a { w with drawn := w.drawn + 1 })
    (hstep : ∀ listed a w i, I listed a w → i ∈ Region.ready .any ops listed → wpOp P ops Q i (fun a' w' => I (listed.setIfInBounds i true) a' w') a w)
    (hend : ∀ listed a w, I listed a w → Region.ready .any ops listed = [] → Q .normal a w) : (Code.region id ops true).wp P Q a w :=
  wp_region_any hm (wpAny_inv hstep hend _ _ _ _ (unl_none _) h0)
end


/-- What an operation does. -/
inductive Kd where
  | val (v : Value)
  | call (v : Value)
  | row (cs : Array Value) (T : TypeId) (k : Nat)
  | box (T : TypeId)
  | put (b : Nat) (x y : Value)
def Kd.mk? : Kd → Bool
  | .row .. => true
  | .box _ => true
  | _ => false
def Ls (listed : Array Bool) (i : Nat) : Prop := listed.getD i false = true
theorem Ls.set {listed : Array Bool} {i j : Nat} (h : Ls (listed.setIfInBounds i true) j) : j = i ∨ Ls listed j := by
  by_cases e : j = i
  · exact .inl e
  · right
    unfold Ls at *
    simp only [Array.getD_eq_getD_getElem?, Array.getElem?_setIfInBounds, Ne.symm e, if_false] at h ⊢
    exact h
theorem Ls.mono {listed : Array Bool} {i j : Nat} (h : Ls listed j) : Ls (listed.setIfInBounds i true) j := by
  unfold Ls at *
  simp only [Array.getD_eq_getD_getElem?, Array.getElem?_setIfInBounds] at h ⊢
  split
  · rename_i e
    subst e
    split
    · rfl
    · rename_i g
      rw [Array.getElem?_eq_none (by omega)] at h; cases h
  · exact h
/-- What stands of an operation that has come up. -/
def Fact (kd : Nat → Kd) (slot : Nat → Option Nat) (blk : Nat → Nat) (listed : Array Bool) (a : Act) (w : World) (i : Nat) : Prop :=
  match kd i with
  | .val v => ∀ s, slot i = some s → a.tmps.getD s undef = v
  | .call v => ∀ s, slot i = some s → a.tmps.getD s undef = v
  | .row cs T k => (∀ s, slot i = some s → a.tmps.getD s undef = .slice (some ⟨blk i, 0, none⟩) k k) ∧ w.heap[blk i]? = some (.cells cs T)
  | .box T => (∀ s, slot i = some s → a.tmps.getD s undef = .pointer (some ⟨blk i, 0, none⟩)) ∧ ∃ c0 c1, w.heap[blk i]? = some (.cells #[c0, c1] T)
  | .put b x y => Ls listed b ∧ ∃ T, w.heap[blk b]? = some (.cells #[x, y] T)
structure Inv (n : Nat) (kd : Nat → Kd) (slot : Nat → Option Nat) (a0 : Act) (w0 : World) (blk : Nat → Nat) (listed : Array Bool) (a : Act) (w : World) : Prop where
  up : Up w0 w
  df : a.defers = a0.defers
  sz : a.tmps.size = a0.tmps.size
  oth : ∀ j, (∀ i, i < n → slot i ≠ some j) → a.tmps.getD j undef = a0.tmps.getD j undef
  low : ∀ i, i < n → Ls listed i → (kd i).mk? = true → w0.heap.size ≤ blk i ∧ blk i < w.heap.size
  dis : ∀ i j, i < n → j < n → Ls listed i → Ls listed j → (kd i).mk? = true → (kd j).mk? = true → blk i = blk j → i = j
  fct : ∀ i, i < n → Ls listed i → Fact kd slot blk listed a w i
/-- What must be said of the operations, once. -/
structure Stat (n : Nat) (kd : Nat → Kd) (slot : Nat → Option Nat) (a0 : Act) : Prop where
  one : ∀ i j s, i < n → j < n → slot i = some s → slot j = some s → i = j
  inb : ∀ i s, i < n → slot i = some s → s < a0.tmps.size
  put : ∀ i b x y, i < n → kd i = .put b x y → b < n ∧ (∃ T, kd b = .box T) ∧ slot i = none
  two : ∀ i j b x y x' y', i < n → j < n → kd i = .put b x y → kd j = .put b x' y' → i = j
theorem getD_put {a : Act} {s j : Nat} {v : Value} (h : s < a.tmps.size) : (a.put (some s) v).tmps.getD j undef = if j = s then v else a.tmps.getD j undef := by
  show (a.tmps.setIfInBounds s v).getD j undef = _
  simp only [Array.getD_eq_getD_getElem?, Array.getElem?_setIfInBounds]
  by_cases e : j = s
  · subst e; simp [h]
  · rw [if_neg (Ne.symm e), if_neg e]
section
variable {n : Nat} {kd : Nat → Kd} {slot : Nat → Option Nat} {a0 : Act} {w0 : World} {blk : Nat → Nat} {listed : Array Bool} {a : Act} {w : World} {i : Nat}
theorem Inv.put_oth (S : Stat n kd slot a0) (I : Inv n kd slot a0 w0 blk listed a w) (hi : i < n) (v : Value) : ∀ j, (∀ i, i < n → slot i ≠ some j) → (a.put (slot i) v).tmps.getD j undef = a0.tmps.getD j undef := by
  intro j hj
  cases hs : slot i with
  | none => exact I.oth j hj
  | some s =>
    rw [getD_put (by rw [I.sz]; exact S.inb i s hi hs), if_neg (fun e => hj i hi (by rw [hs, e]))]
    exact I.oth j hj
theorem put_sz (v : Value) (d : Option Nat) : (a.put d v).tmps.size = a.tmps.size := by
  cases d with
  | none => rfl
  | some s => show (a.tmps.setIfInBounds s v).size = _; simp
theorem put_df (v : Value) (d : Option Nat) : (a.put d v).defers = a.defers := by cases d <;> rfl
/-- A slot of another operation. -/
theorem put_other (S : Stat n kd slot a0) (hz : a.tmps.size = a0.tmps.size) (hi : i < n) {j : Nat} (hj : j < n) (hne : j ≠ i) {s : Nat} (hs : slot j = some s) (v : Value) : (a.put (slot i) v).tmps.getD s undef = a.tmps.getD s undef := by
  cases hd : slot i with
  | none => rfl
  | some d =>
    rw [getD_put (by rw [hz]; exact S.inb i d hi hd), if_neg (fun e => hne (S.one j i s hj hi hs (by rw [hd, e])))]
theorem put_self (S : Stat n kd slot a0) (hz : a.tmps.size = a0.tmps.size) (hi : i < n) {s : Nat} (hs : slot i = some s) (v : Value) : (a.put (slot i) v).tmps.getD s undef = v := by
  rw [hs, getD_put (by rw [hz]; exact S.inb i s hi hs), if_pos rfl]
/-- The facts of the others stay, where their blocks do. -/
theorem Fact.stays (S : Stat n kd slot a0) (hz : a.tmps.size = a0.tmps.size) (hi : i < n) {j : Nat} (hj : j < n) (hne : j ≠ i) (v : Value) {w' : World} {blk' : Nat → Nat}
    (hb : ∀ b, b ≠ i → blk' b = blk b)
    (hh : (kd j).mk? = true → w'.heap[blk j]? = w.heap[blk j]?)
    (hp : ∀ b x y, kd j = .put b x y → b ≠ i ∧ w'.heap[blk b]? = w.heap[blk b]?)
    (h : Fact kd slot blk listed a w j) : Fact kd slot blk' (listed.setIfInBounds i true) (a.put (slot i) v) w' j := by
  unfold Fact at *
  cases hk : kd j with
  | val u => rw [hk] at h; exact fun s hs => (put_other S hz hi hj hne hs v).trans (h s hs)
  | call u => rw [hk] at h; exact fun s hs => (put_other S hz hi hj hne hs v).trans (h s hs)
  | row cs T k =>
    rw [hk] at h
    refine ⟨fun s hs => ?_, ?_⟩
    · rw [hb j hne]; exact (put_other S hz hi hj hne hs v).trans (h.1 s hs)
    · rw [hb j hne, hh (by rw [hk]; rfl)]; exact h.2
  | box T =>
    rw [hk] at h
    refine ⟨fun s hs => ?_, ?_⟩
    · rw [hb j hne]; exact (put_other S hz hi hj hne hs v).trans (h.1 s hs)
    · rw [hb j hne, hh (by rw [hk]; rfl)]; exact h.2
  | put b x y =>
    rw [hk] at h
    obtain ⟨p1, p2⟩ := hp b x y hk
    refine ⟨h.1.mono, ?_⟩
    rw [hb b p1, p2]; exact h.2
/-- A value, or a call. -/
theorem Inv.value (S : Stat n kd slot a0) (I : Inv n kd slot a0 w0 blk listed a w) (hi : i < n) (hl : ¬ Ls listed i) {v : Value} (hk : kd i = .val v ∨ kd i = .call v) {w' : World} (hu : Up w w') : Inv n kd slot a0 w0 blk (listed.setIfInBounds i true) (a.put (slot i) v) w' where
  up := I.up.trans hu
  df := (put_df v _).trans I.df
  sz := (put_sz v _).trans I.sz
  oth := I.put_oth S hi v
  low := fun j hj hl' hm => by
    rcases hl'.set with rfl | hl'
    · rcases hk with hk | hk <;> rw [hk] at hm <;> cases hm
    · have := I.low j hj hl' hm; exact ⟨this.1, Nat.lt_of_lt_of_le this.2 hu.size⟩
  dis := fun j k hj hk' h1 h2 m1 m2 e => by
    rcases h1.set with rfl | h1
    · rcases hk with hk | hk <;> rw [hk] at m1 <;> cases m1
    rcases h2.set with rfl | h2
    · rcases hk with hk | hk <;> rw [hk] at m2 <;> cases m2
    exact I.dis j k hj hk' h1 h2 m1 m2 e
  fct := fun j hj hl' => by
    by_cases e : j = i
    · subst e
      unfold Fact
      rcases hk with hk | hk <;> rw [hk] <;> exact fun s hs => put_self S I.sz hj hs v
    · have hj' : Ls listed j := (hl'.set).resolve_left e
      refine Fact.stays S I.sz hi hj e v (fun _ _ => rfl) (fun hm => Below.block hu _ (I.low j hj hj' hm).2) (fun b x y hp => ?_) (I.fct j hj hj')
      have hf := I.fct j hj hj'
      unfold Fact at hf
      rw [hp] at hf
      obtain ⟨b1, ⟨T, b2⟩, b3⟩ := S.put j b x y hj hp
      refine ⟨fun eb => ?_, Below.block hu _ (I.low b b1 hf.1 (by rw [b2]; rfl)).2⟩
      subst eb
      rcases hk with hk | hk <;> rw [hk] at b2 <;> cases b2
/-- A new block. -/
theorem Inv.made (S : Stat n kd slot a0) (I : Inv n kd slot a0 w0 blk listed a w) (hi : i < n) (hl : ¬ Ls listed i) {v : Value} {cs : Array Value} {T : TypeId}
    (hk : (∃ k, kd i = .row cs T k ∧ v = .slice (some ⟨w.heap.size, 0, none⟩) k k) ∨ (∃ c0 c1, kd i = .box T ∧ cs = #[c0, c1] ∧ v = .pointer (some ⟨w.heap.size, 0, none⟩))) :
    Inv n kd slot a0 w0 (fun j => if j = i then w.heap.size else blk j) (listed.setIfInBounds i true) (a.put (slot i) v) (w.alloc (.cells cs T)) where
  up := I.up.alloc _ _
  df := (put_df v _).trans I.df
  sz := (put_sz v _).trans I.sz
  oth := I.put_oth S hi v
  low := fun j hj hl' hm => by
    have hs : (w.alloc (.cells cs T)).heap.size = w.heap.size + 1 := by simp
    by_cases e : j = i
    · simp only [e, if_true]; rw [hs]; exact ⟨I.up.size, by omega⟩
    · simp only [e, if_false]; rw [hs]
      have := I.low j hj ((hl'.set).resolve_left e) hm
      exact ⟨this.1, by omega⟩
  dis := fun j k hj hk' h1 h2 m1 m2 e => by
    by_cases e1 : j = i
    · by_cases e2 : k = i
      · rw [e1, e2]
      · simp only [e1, e2, if_true, if_false] at e
        have := (I.low k hk' ((h2.set).resolve_left e2) m2).2
        omega
    · by_cases e2 : k = i
      · simp only [e1, e2, if_true, if_false] at e
        have := (I.low j hj ((h1.set).resolve_left e1) m1).2
        omega
      · simp only [e1, e2, if_false] at e
        exact I.dis j k hj hk' ((h1.set).resolve_left e1) ((h2.set).resolve_left e2) m1 m2 e
  fct := fun j hj hl' => by
    by_cases e : j = i
    · subst e
      unfold Fact
      rcases hk with ⟨k, hk, rfl⟩ | ⟨c0, c1, hk, rfl, rfl⟩
      · rw [hk]
        simp only [if_true]
        exact ⟨fun s hs => put_self S I.sz hj hs _, heap_alloc_new w _⟩
      · rw [hk]
        simp only [if_true]
        exact ⟨fun s hs => put_self S I.sz hj hs _, c0, c1, heap_alloc_new w _⟩
    · have hj' : Ls listed j := (hl'.set).resolve_left e
      have old : ∀ b, b < w.heap.size → (w.alloc (.cells cs T)).heap[b]? = w.heap[b]? := fun b hb => ((Below.refl w.heap.size w).alloc (Nat.le_refl _) _).block b hb
      refine Fact.stays S I.sz hi hj e v (fun b hb => by simp only [hb, if_false]) (fun hm => old _ (I.low j hj hj' hm).2) (fun b x y hp => ?_) (I.fct j hj hj')
      have hf := I.fct j hj hj'
      unfold Fact at hf
      rw [hp] at hf
      obtain ⟨b1, ⟨T', b2⟩, b3⟩ := S.put j b x y hj hp
      exact ⟨fun eb => hl (by rw [← eb]; exact hf.1), old _ (I.low b b1 hf.1 (by rw [b2]; rfl)).2⟩
theorem set_block {w : World} {b : Nat} {c0 c1 : Value} {T : TypeId} (h : w.heap[b]? = some (.cells #[c0, c1] T)) (x y : Value) : ((w.setCell ⟨b, 0, none⟩ x).setCell ⟨b, 1, none⟩ y).heap[b]? = some (.cells #[x, y] T) ∧ (∀ k, k ≠ b → ((w.setCell ⟨b, 0, none⟩ x).setCell ⟨b, 1, none⟩ y).heap[k]? = w.heap[k]?) ∧ ((w.setCell ⟨b, 0, none⟩ x).setCell ⟨b, 1, none⟩ y).heap.size = w.heap.size := by
  have hb := (Array.getElem?_eq_some_iff.1 h).1
  refine ⟨?_, fun k hk => ?_, by simp⟩
  · have h1 := heap_setCell_same w b 0 _ T x h
    have h2 := heap_setCell_same (w.setCell ⟨b, 0, none⟩ x) b 1 _ T y h1
    exact h2
  · rw [Below.heap_setCell _ _ _ k (by exact hk), Below.heap_setCell _ _ _ k (by exact hk)]
/-- Something is put into a box. -/
theorem Inv.puts (S : Stat n kd slot a0) (I : Inv n kd slot a0 w0 blk listed a w) (hi : i < n) (hl : ¬ Ls listed i) {b : Nat} {x y : Value} (hk : kd i = .put b x y) (hb : Ls listed b) (v : Value) :
    Inv n kd slot a0 w0 blk (listed.setIfInBounds i true) (a.put (slot i) v) ((w.setCell ⟨blk b, 0, none⟩ x).setCell ⟨blk b, 1, none⟩ y) := by
  obtain ⟨b1, ⟨T, b2⟩, b3⟩ := S.put i b x y hi hk
  have hf := I.fct b b1 hb
  unfold Fact at hf
  rw [b2] at hf
  obtain ⟨_, c0, c1, hbl⟩ := hf
  obtain ⟨s1, s2, s3⟩ := set_block hbl x y
  have hlow := I.low b b1 hb (by rw [b2]; rfl)
  refine ⟨(I.up.setCell hlow.1 _).setCell hlow.1 _, (put_df v _).trans I.df, (put_sz v _).trans I.sz, I.put_oth S hi v, ?_, ?_, ?_⟩
  · intro j hj hl' hm
    rw [s3]
    rcases hl'.set with rfl | hl'
    · rw [hk] at hm; cases hm
    · exact I.low j hj hl' hm
  · intro j k hj hk' h1 h2 m1 m2 e
    rcases h1.set with rfl | h1
    · rw [hk] at m1; cases m1
    rcases h2.set with rfl | h2
    · rw [hk] at m2; cases m2
    exact I.dis j k hj hk' h1 h2 m1 m2 e
  · intro j hj hl'
    by_cases e : j = i
    · subst e
      unfold Fact
      rw [hk]
      exact ⟨hb.mono, T, s1⟩
    · have hj' : Ls listed j := (hl'.set).resolve_left e
      by_cases ejb : j = b
      · subst ejb
        unfold Fact
        rw [b2]
        have hg := I.fct j hj hj'
        unfold Fact at hg
        rw [b2] at hg
        exact ⟨fun s hs => (put_other S I.sz hi hj e hs v).trans (hg.1 s hs), x, y, s1⟩
      · refine Fact.stays S I.sz hi hj e v (fun _ _ => rfl) (fun hm => s2 _ (fun eq => ejb (I.dis j b hj b1 hj' hb hm (by rw [b2]; rfl) eq))) (fun b' x' y' hp => ?_) (I.fct j hj hj')
        have hf := I.fct j hj hj'
        unfold Fact at hf
        rw [hp] at hf
        obtain ⟨d1, ⟨T', d2⟩, d3⟩ := S.put j b' x' y' hj hp
        refine ⟨fun eb => ?_, s2 _ (fun eq => ?_)⟩
        · subst eb; rw [hk] at d2; cases d2
        · have := I.dis b' b d1 b1 hf.1 hb (by rw [d2]; rfl) (by rw [b2]; rfl) eq
          subst this
          exact e (S.two j i b' x' y' x y hj hi hp hk)
end


section
variable {P : Program} {ops : Array Oper} {Q : Exit → Act → World → Prop}
/-- What an operation leaves. -/
def NextK (kd : Nat → Kd) (blk : Nat → Nat) (listed : Array Bool) (i : Nat) (d : Option Nat) (a : Act) (w : World) (a' : Act) (w' : World) : Prop :=
  match kd i with
  | .val v => a' = a.put d v ∧ Up w w'
  | .call v => a' = a.put d v ∧ Up w w'
  | .row cs T k => a' = a.put d (.slice (some ⟨w.heap.size, 0, none⟩) k k) ∧ w' = w.alloc (.cells cs T)
  | .box T => ∃ c0 c1, a' = a.put d (.pointer (some ⟨w.heap.size, 0, none⟩)) ∧ w' = w.alloc (.cells #[c0, c1] T)
  | .put b x y => Ls listed b ∧ (∃ v, a' = a.put d v) ∧ w' = (w.setCell ⟨blk b, 0, none⟩ x).setCell ⟨blk b, 1, none⟩ y
def slotOf (ops : Array Oper) (i : Nat) : Option Nat := (ops[i]?).bind (·.dst)
theorem NextK.inv {n : Nat} {kd : Nat → Kd} {a0 : Act} {w0 : World} {blk : Nat → Nat} {listed : Array Bool} {a a' : Act} {w w' : World} {i : Nat} {slot : Nat → Option Nat}
    (S : Stat n kd slot a0) (I : Inv n kd slot a0 w0 blk listed a w) (hi : i < n) (hl : ¬ Ls listed i) (h : NextK kd blk listed i (slot i) a w a' w') : ∃ blk', Inv n kd slot a0 w0 blk' (listed.setIfInBounds i true) a' w' := by
  unfold NextK at h
  cases hk : kd i with
  | val v => rw [hk] at h; obtain ⟨rfl, hu⟩ := h; exact ⟨_, I.value S hi hl (.inl hk) hu⟩
  | call v => rw [hk] at h; obtain ⟨rfl, hu⟩ := h; exact ⟨_, I.value S hi hl (.inr hk) hu⟩
  | row cs T k => rw [hk] at h; obtain ⟨rfl, rfl⟩ := h; exact ⟨_, I.made S hi hl (.inl ⟨k, hk, rfl⟩)⟩
  | box T => rw [hk] at h; obtain ⟨c0, c1, rfl, rfl⟩ := h; exact ⟨_, I.made S hi hl (.inr ⟨c0, c1, hk, rfl, rfl⟩)⟩
  | put b x y => rw [hk] at h; obtain ⟨hb, ⟨v, rfl⟩, rfl⟩ := h; exact ⟨_, I.puts S hi hl hk hb v⟩
theorem ls_not {listed : Array Bool} {i : Nat} (h : listed.getD i true = false) : ¬ Ls listed i := by
  unfold Ls
  simp only [Array.getD_eq_getD_getElem?] at h ⊢
  cases hx : listed[i]? with
  | none => rw [hx] at h; cases h
  | some b => rw [hx] at h; simp at h; simp [h]
theorem all_listed (hacy : ∀ (i : Nat) (o : Oper), ops[i]? = some o → ∀ e ∈ o.after, e.on < i) {listed : Array Bool} (hsz : listed.size = ops.size) (hr : Region.ready .any ops listed = []) : ∀ i, i < ops.size → Ls listed i := by
  intro i
  induction i using Nat.strongRecOn with
  | _ i ih =>
    intro hi
    cases hx : listed[i]? with
    | none => have := Array.getElem?_eq_none_iff.1 hx; omega
    | some b =>
      cases b with
      | true => unfold Ls; simp [Array.getD_eq_getD_getElem?, hx]
      | false =>
        exfalso
        have hm : i ∈ Region.ready .any ops listed := by
          unfold Region.ready
          rw [List.mem_filter]
          refine ⟨List.mem_range.2 hi, ?_⟩
          have ho : ops[i]? = some ops[i] := Array.getElem?_eq_getElem hi
          simp only [Array.getD_eq_getD_getElem?, hx, ho]
          simp only [Option.getD_some, Option.map_some, Bool.not_false, Bool.true_and]
          rw [Array.all_eq_true']
          intro e he
          have := ih e.on (hacy i _ ho e he) (by have := hacy i _ ho e he; omega)
          unfold Ls at this
          simp only [Array.getD_eq_getD_getElem?] at this
          rw [this]; simp
        rw [hr] at hm; cases hm
theorem ready_dep {listed : Array Bool} {i : Nat} {o : Oper} (h : i ∈ Region.ready .any ops listed) (ho : ops[i]? = some o) : ∀ e ∈ o.after, Region.binds .any e = true → Ls listed e.on := by
  unfold Region.ready at h
  rw [List.mem_filter] at h
  have h2 := h.2
  simp only [ho, Option.map_some, Option.getD_some, Bool.and_eq_true, Array.all_eq_true'] at h2
  intro e he hb
  have := h2.2 e he
  rw [hb] at this
  simpa [Ls] using this
/-- The region, by what its operations do. -/
theorem wp_region_kd {id : Nat} {a0 : Act} {w0 : World} (hm : P.follows .mixedOrders = true) (kd : Nat → Kd) (S : Stat ops.size kd (slotOf ops) a0)
    (hacy : ∀ (i : Nat) (o : Oper), ops[i]? = some o → ∀ e ∈ o.after, e.on < i)
    (step : ∀ i o, ops[i]? = some o → ∀ blk listed a w, Inv ops.size kd (slotOf ops) a0 w0 blk listed a w → (∀ e ∈ o.after, Region.binds .any e = true → Ls listed e.on) → wpOp P ops Q i (fun a' w' => NextK kd blk listed i o.dst a w a' w') a w)
    (hend : ∀ blk listed a w, Inv ops.size kd (slotOf ops) a0 w0 blk listed a w → (∀ i, i < ops.size → Ls listed i) → Q .normal a w) : (Code.region id ops true).wp P Q a0 w0 := by
  refine wp_region_inv hm (fun listed a w => listed.size = ops.size ∧ ∃ blk, Inv ops.size kd (slotOf ops) a0 w0 blk listed a w) ?_ ?_ ?_
  · refine ⟨by simp, fun _ => 0, ?_⟩
    have no : ∀ i, ¬ Ls (Array.replicate ops.size false) i := fun i h => by
      unfold Ls at h
      simp only [Array.getD_eq_getD_getElem?, Array.getElem?_replicate] at h
      split at h <;> cases h
    exact ⟨(Up.refl w0).drew, rfl, rfl, fun _ _ => rfl, fun i _ h => absurd h (no i), fun i j _ _ h => absurd h (no i), fun i _ h => absurd h (no i)⟩
  · intro listed a w i hI hi
    obtain ⟨hsz, blk, I⟩ := hI
    obtain ⟨hi', hl⟩ := ready_false hi
    have ho : ops[i]? = some ops[i] := Array.getElem?_eq_getElem hi'
    have hs : slotOf ops i = ops[i].dst := by unfold slotOf; rw [ho]; rfl
    refine wpOp_mono (fun a' w' hN => ⟨by simpa using hsz, ?_⟩) (step i _ ho blk listed a w I (ready_dep hi ho))
    rw [← hs] at hN
    exact hN.inv S I hi' (ls_not hl)
  · intro listed a w hI hr
    obtain ⟨hsz, blk, I⟩ := hI
    exact hend blk listed a w I (all_listed hacy hsz hr)
theorem wpOp_val {i : Nat} {o : Oper} {a : Act} {w w' : World} {v : Value} {K : Act → World → Prop} (ho : ops[i]? = some o) (hg : o.guard = none) (hr : (execOp a.eval o).run P w = .ok (.value v) w') (hK : K (a.put o.dst v) w') : wpOp P ops Q i K a w := by
  unfold wpOp
  rw [ho]
  simp only [Region.wanted, hg, if_true]
  left
  unfold Oper.wp
  rw [hr]
  exact hK
theorem wpOp_skip {i : Nat} {o : Oper} {a : Act} {w w' : World} {K : Act → World → Prop} (ho : ops[i]? = some o) (hg : o.guard = none) (hr : (execOp a.eval o).run P w = .ok .skip w') (hK : K (a.put o.dst undef) w') : wpOp P ops Q i K a w := by
  unfold wpOp
  rw [ho]
  simp only [Region.wanted, hg, if_true]
  left
  unfold Oper.wp
  rw [hr]
  exact hK
theorem wpOp_call {i : Nat} {o : Oper} {a : Act} {w : World} {f : FuncId} {args : Array Value} {K : Act → World → Prop} (ho : ops[i]? = some o) (hg : o.guard = none) (hr : (execOp a.eval o).run P w = .ok (.enter f args) w) (hc : Calls P f args w fun e w' => ∃ v, e = .returned v ∧ K (a.put o.dst v) w') : wpOp P ops Q i K a w := by
  unfold wpOp
  rw [ho]
  simp only [Region.wanted, hg, if_true]
  left
  unfold Oper.wp
  rw [hr]
  refine hc.mono ?_
  rintro e w' ⟨v, rfl, hK⟩
  exact hK
end
end Go.Proofs.YticgcokhdipomaaDoor.be
