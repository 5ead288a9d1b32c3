/-
  Parts of forms, cell by cell; an own row of parts; what is appended to it.
-/
import Derived.Test.YticgcokhdipomaaDoorLNoM
import Derived.Laws.AppendOwnNone
import Derived.OwnWalk
set_option linter.unusedVariables false
set_option linter.unusedSimpArgs false
namespace Go.Proofs.YticgcokhdipomaaDoor.nm
open Go.RowKit

/-- The cells of parts. -/
inductive PaC (w : World) (n : Nat) : List Pa → List Value → Prop
  | nil : PaC w n [] []
  | cons (p : Pa) (l : List Pa) (xs : List Value) (u : Value) (hu : FM w n u p.2) (g : PaC w n l xs) : PaC w n (p :: l) ([.bool p.1, u] ++ xs)
theorem PaC.app {w : World} {n : Nat} {l1 l2 : List Pa} {xs1 xs2 : List Value} (h : PaC w n l1 xs1) (k : PaC w n l2 xs2) : PaC w n (l1 ++ l2) (xs1 ++ xs2) := by
  induction h with
  | nil => exact k
  | cons p l xs u hu g ih => rw [List.append_assoc]; exact .cons p _ _ u hu ih
theorem PaC.len {w : World} {n : Nat} {l : List Pa} {xs : List Value} (h : PaC w n l xs) : xs.length = l.length * 2 := by
  induction h with
  | nil => rfl
  | cons p l xs u hu g ih => rw [List.length_append, ih, List.length_cons]; simp only [List.length_cons, List.length_nil]; omega
theorem PaC.low {w w' : World} {n : Nat} {l : List Pa} {xs : List Value} (h : PaC w n l xs) (hb : Below w.heap.size w w') : PaC w' n l xs := by
  induction h with
  | nil => exact .nil
  | cons p l xs u hu g ih => exact .cons p l xs u (FM.low hb hu) ih
theorem PaC.le {w : World} {n : Nat} {l : List Pa} {xs : List Value} (h : PaC w n l xs) : PaC w (n + 1) l xs := by
  induction h with
  | nil => exact .nil
  | cons p l xs u hu g ih => exact .cons p l xs u hu.up ih
theorem PaC.one {w : World} {n : Nat} {l : List Pa} {xs : List Value} (h : PaC w n l xs) : ∀ u ∈ xs, u.oneCell' = true := by
  induction h with
  | nil => intro u hu; cases hu
  | cons p l xs u hu g ih =>
    intro v hv
    rw [List.mem_append] at hv
    rcases hv with hv | hv
    · obtain ⟨_, _, rfl, _⟩ := hu.shape
      simp only [List.mem_cons, List.not_mem_nil, or_false] at hv
      rcases hv with rfl | rfl <;> rfl
    · exact ih v hv
theorem PaC.get {w : World} {n : Nat} {l : List Pa} {xs : List Value} (h : PaC w n l xs) : ∀ i p, l[i]? = some p → ∃ u, xs[i * 2]? = some (.bool p.1) ∧ xs[i * 2 + 1]? = some u ∧ FM w n u p.2 := by
  induction h with
  | nil => intro i r h; simp at h
  | cons x l xs u hu g ih =>
    intro i p hi
    cases i with
    | zero => cases hi; exact ⟨u, rfl, rfl, hu⟩
    | succ i =>
      obtain ⟨a, h1, h2, h3⟩ := ih i p hi
      refine ⟨a, ?_, ?_, h3⟩
      · rw [List.getElem?_append_right (by simp; omega), ← h1]
        congr 1
        simp only [List.length_cons, List.length_nil]
        omega
      · rw [List.getElem?_append_right (by simp; omega), ← h2]
        congr 1
        simp only [List.length_cons, List.length_nil]
        omega
theorem PM.cells {w : World} {b o c n m : Nat} {l : List Pa} (h : PM w n (.slice (some ⟨b, o, none⟩) m c) l) (hn : m = l.length) : ∀ d k, k + d = l.length → ∃ xs, PaC w n (l.drop k) xs ∧ ∀ j u, xs[j]? = some u → w.cell? ⟨b, o + k * 2 + j, none⟩ = some u := by
  intro d
  induction d with
  | zero =>
    intro k hk
    rw [List.drop_of_length_le (by omega)]
    exact ⟨[], .nil, fun j u h => by simp at h⟩
  | succ d ih =>
    intro k hk
    obtain ⟨xs, h1, h2⟩ := ih (k + 1) (by omega)
    obtain ⟨r, hr⟩ : ∃ r, l[k]? = some r := ⟨_, List.getElem?_eq_getElem (by omega)⟩
    obtain ⟨b', o', c', u, hv, _, _, _, g0, g1, gx⟩ := PM.at h hr
    obtain ⟨rfl, rfl⟩ : b = b' ∧ o = o' := by simp at hv; exact ⟨hv.1.1, hv.1.2⟩
    rw [drop_atE hr]
    refine ⟨_, .cons r _ xs u gx h1, fun j u hj => ?_⟩
    match j, hj with
    | 0, hj => simp at hj; subst hj; exact g0
    | 1, hj => simp at hj; subst hj; exact g1
    | j + 2, hj =>
      have := h2 j u (by simpa using hj)
      rwa [show o + (k + 1) * 2 + j = o + k * 2 + (j + 2) by omega] at this
theorem own_keep {w w' : World} {base : Nat} {e : TypeId} {size : Nat} {v : Value} {n : Nat} {xs : List Value} (h : w.ownsRow base e size v n xs) (hk : ∀ g, base ≤ g → g < w.heap.size → w'.heap[g]? = w.heap[g]?) : w'.ownsRow base e size v n xs := by
  obtain ⟨h1, h2 | ⟨g, cap, cur, rfl, hb, hg, hr⟩⟩ := h
  · exact ⟨h1, .inl h2⟩
  · exact ⟨h1, .inr ⟨g, cap, cur, rfl, hb, (hk g hb (Array.getElem?_eq_some_iff.1 hg).1).trans hg, hr⟩⟩
/-- An own row of parts, not below B; what its parts hold lies in w. -/
def PO (w : World) (B n : Nat) (wr : World) (v : Value) (l : List Pa) : Prop := ∃ xs, wr.ownsRow B 41 2 v l.length xs ∧ PaC w n l xs
theorem PO.nil (w wr : World) (B n : Nat) : PO w B n wr (.slice none 0 0) [] := ⟨[], World.ownsRow_nil _ _ _ _, .nil⟩
theorem PO.keep {w wr w' : World} {B n : Nat} {v : Value} {l : List Pa} (h : PO w B n wr v l) (hk : ∀ g, B ≤ g → g < wr.heap.size → w'.heap[g]? = wr.heap[g]?) : PO w B n w' v l := by
  obtain ⟨xs, h1, h2⟩ := h
  exact ⟨xs, own_keep h1 hk, h2⟩
theorem PO.up {w wr w' : World} {B n : Nat} {v : Value} {l : List Pa} (h : PO w B n wr v l) (hw : Below wr.heap.size wr w') : PO w B n w' v l := h.keep fun g _ hg => hw.block g hg
theorem PO.shape {w wr : World} {B n : Nat} {v : Value} {l : List Pa} (h : PO w B n wr v l) : ∃ a c, v = .slice a l.length c := by
  obtain ⟨xs, ⟨_, ⟨rfl, h0⟩ | ⟨g, cap, cur, rfl, _⟩⟩, _⟩ := h
  · rw [h0]; exact ⟨_, _, rfl⟩
  · exact ⟨_, _, rfl⟩
theorem PO.pm {w wr : World} {B n : Nat} {v : Value} {l : List Pa} (h : PO w B n wr v l) (hbl : Below w.heap.size w wr) (hl : l.length ≤ 1000000000) : PM wr n v l := by
  obtain ⟨xs, ho, hr0⟩ := h
  have hr := hr0.low hbl
  rcases ho.2 with ⟨rfl, h0⟩ | ⟨g, cap, cur, rfl, hb, hg, hn, hm, hs, ht⟩
  · exact .inl ⟨_, _, rfl, List.eq_nil_of_length_eq_zero h0⟩
  · by_cases h0 : l.length = 0
    · obtain rfl := List.eq_nil_of_length_eq_zero h0
      exact .inl ⟨_, _, rfl, rfl⟩
    · have C : ∀ j, j < l.length * 2 → wr.cell? ⟨g, 0 + j, none⟩ = xs[j]? := fun j hj => by
        rw [← ht, List.getElem?_take_of_lt (by omega), row_blk hg, Nat.zero_add, Array.getElem?_toList]
      refine .inr ⟨g, 0, cap, rfl, by omega, (Array.getElem?_eq_some_iff.1 hg).1, hn, hl, by unfold maxLen at hm; exact hm, fun i p hi => ?_⟩
      have hil := (List.getElem?_eq_some_iff.1 hi).1
      obtain ⟨u, h1, h2, h3⟩ := hr.get i p hi
      exact ⟨u, by rw [C _ (by omega), h1], by rw [Nat.add_assoc, C _ (by omega), h2], h3⟩
/-- A nil slice, whatever its third word, adds nothing. -/
theorem run_append_nil {w : World} (base : Nat) (t ty e : TypeId) (i : TypeInfo) (size c : Nat) (ht : Tryd.prog.underlying t = some (.slice e)) (hi : Tryd.prog.info? e = some i)
    (v : Value) (n : Nat) (xs : List Value) (hown : w.ownsRow base e size v n xs) : (Builtin.append_ #[t, t] ty #[v, .slice none 0 c]).run Tryd.prog w = .ok v w := by
  rcases hown.2 with ⟨rfl, rfl⟩ | ⟨g, cap, cur, rfl, _, _, hnc, _⟩
  · simp [Builtin.append_, run_underlying ht, sizeOf, typeInfo, hi, Builtin.lenOf, Builtin.firstCells]
  · simp [Builtin.append_, run_underlying ht, sizeOf, typeInfo, hi, Builtin.lenOf, Builtin.firstCells, hnc, storeCells]
theorem wpList_append_nil {w : World} {ops : Array Oper} {rest : List Oper} {o : Oper} {a : Act} {Q : Exit → Act → World → Prop} (hgd : o.guard = none) (s x : Operand) (t : TypeId)
    (ho : o.op = .call { callee := .builtin .append, args := #[s, x], argTypes := #[t, t] })
    (base : Nat) (e : TypeId) (i : TypeInfo) (size c : Nat) (ht : Tryd.prog.underlying t = some (.slice e)) (hi : Tryd.prog.info? e = some i)
    (v : Value) (n : Nat) (xs : List Value) (hs : a.eval s = v) (hown : w.ownsRow base e size v n xs) (hx : a.eval x = .slice none 0 c)
    (h : wpList Tryd.prog ops Q rest (a.put o.dst v) w) : wpList Tryd.prog ops Q (o :: rest) a w := by
  refine wpList_plain hgd fun K hK => ?_
  have hrun := run_append_nil (w := w) base t o.type e i size c ht hi v n xs hown
  unfold Oper.wp
  simp [execOp, ho, resolve, invoke, builtin, hs, hx, hrun, Result.andThen]
  exact hK _ _ h
theorem infoPa : (Tryd.prog.info? 41).map (fun i => (i.zero, i.size, i.bytes)) = some (some (.agg #[.bool false, .slice none 0 0]), 2, 32) := by kernel_rfl
/-- 'append(own, l...)', l a slice of parts that came in. -/
theorem wpList_append_parts {w wr : World} {B n : Nat} {ops : Array Oper} {rest : List Oper} {o : Oper} {a : Act} {Q : Exit → Act → World → Prop} (hgd : o.guard = none) (s x : Operand)
    (ho : o.op = .call { callee := .builtin .append, args := #[s, x], argTypes := #[27, 27] })
    (v : Value) (l : List Pa) (hs : a.eval s = v) (hown : PO w B n wr v l) (hbl : Below w.heap.size w wr) (hB : B ≤ wr.heap.size) (u : Value) (l2 : List Pa) (hx : a.eval x = u) (hu : PM w n u l2) (hl : l.length + l2.length ≤ 1000000000)
    (h : ∀ v' w', PO w B n w' v' (l ++ l2) → Below B wr w' → wpList Tryd.prog ops Q rest (a.put o.dst v') w') : wpList Tryd.prog ops Q (o :: rest) a wr := by
  obtain ⟨i1, hj, hy0, hy1, hy2⟩ := info_parts infoPa
  obtain ⟨xs, ho1, hr1⟩ := hown
  obtain ⟨ad, c, rfl, _⟩ := hu.shape
  have grow : ∀ (ys : List Value), PaC w n l2 ys → ∀ v' w', w'.ownsRow B 41 2 v' (l.length + l2.length) (xs ++ ys) → wr.grownBy w' v.ownBlock → PO w B n w' v' (l ++ l2) ∧ Below B wr w' := fun ys hys v' w' h1 h2 =>
    ⟨⟨xs ++ ys, by rw [List.length_append]; exact h1, hr1.app hys⟩, (Below.refl B wr).grown h2 hB (fun k hk => (ho1.lt k hk).1)⟩
  cases ad with
  | none =>
    have h0 : l2 = [] := by
      rcases hu with ⟨_, _, _, h⟩ | ⟨b, o', c', hv, _⟩
      · exact h
      · cases hv
    subst h0
    exact wpList_append_nil hgd s x 27 ho B 41 i1 2 c Tryd.underlying27 hj v l.length xs hs ho1 hx (h v wr (by rw [List.append_nil]; exact ⟨xs, ho1, hr1⟩) (Below.refl _ _))
  | some ad =>
    by_cases h0 : l2 = []
    · subst h0
      refine wpList_append_own wr hgd s x 27 ho B 41 i1 _ 2 32 Tryd.underlying27 hj hy0 hy1 hy2 rfl (by decide) v l.length xs hs ho1 ad 0 c [] hx rfl (by intro j u h; simp at h) (by intro u h; cases h) (by unfold maxLen; simp at hl; omega) (by simp at hl; omega) hB ?_
      intro v' w' h1 h2 _
      obtain ⟨g1, g2⟩ := grow [] .nil v' w' (by simpa using h1) h2
      exact h v' w' g1 g2
    · obtain ⟨b, o', spot⟩ := ad
      obtain ⟨r0, hr0⟩ : ∃ r, l2[0]? = some r := by
        cases l2 with
        | nil => exact absurd rfl h0
        | cons y q => exact ⟨y, rfl⟩
      obtain ⟨b', o'', c', _, hv, hbb', _⟩ := PM.at hu hr0
      simp only [Value.slice.injEq, Option.some.injEq, Addr.mk.injEq, true_and] at hv
      obtain ⟨⟨rfl, rfl, rfl⟩, rfl⟩ := hv
      have hbb : b < w.heap.size := hbb'
      obtain ⟨ys, hys, hcell⟩ := PM.cells hu rfl l2.length 0 (by omega)
      rw [List.drop_zero] at hys
      refine wpList_append_own wr hgd s x 27 ho B 41 i1 _ 2 32 Tryd.underlying27 hj hy0 hy1 hy2 rfl (by decide) v l.length xs hs ho1 ⟨b, o', none⟩ l2.length c ys hx hys.len (fun j u hj' => ?_) hys.one (by unfold maxLen; omega) (by omega) hB ?_
      · rw [Addr.add_lit]
        have := hcell j u hj'
        rw [Nat.zero_mul, Nat.add_zero] at this
        exact (hbl.cell (p := ⟨b, o' + j, none⟩) hbb).trans this
      · intro v' w' h1 h2 _
        obtain ⟨g1, g2⟩ := grow ys hys v' w' h1 h2
        exact h v' w' g1 g2
end Go.Proofs.YticgcokhdipomaaDoor.nm
