/-
  Parts of forms, cell by cell; an own row of parts; what is appended to it.
  The sum of forms, with their parts: by the program.
-/
import Derived.Test.YtlhmecagijdinaaDoorH06
import Derived.Laws.AppendOwnNone
import Derived.OwnWalk
set_option linter.unusedVariables false
set_option linter.unusedSimpArgs false
namespace Go.Proofs.YtlhmecagijdinaaDoor.nm
open Go.RowKit

/-- The cells of parts. -/
inductive PaC (w : World) (n : Nat) : List Pa → List Value → Prop
  | nil : PaC w n [] []
  | cons (p : Pa) (l : List Pa) (xs : List Value) (u : Value) (hu : FM w n u p.2) (g : PaC w n l xs) : PaC w n (p :: l) ([.bool p.1, u] ++ xs)
theorem PaC.app {w : World} {n : Nat} {l1 l2 : List Pa} {xs1 xs2 : List Value} (h : PaC w n l1 xs1) (k : PaC w n l2 xs2) : PaC w n (l1 ++ l2) (xs1 ++ xs2) := by
  induction h with
  | nil => exact k
  | cons p l xs u hu g ih => rw [List.append_assoc]; exact .cons p _ _ u hu ih
theorem PaC.len {w : World} {n : Nat} {l : List Pa} {xs : List Value} (h : PaC w n l xs) : xs.length = l.length * 2 := by
  induction h with
  | nil => rfl
  | cons p l xs u hu g ih => rw [List.length_append, ih, List.length_cons]; simp only [List.length_cons, List.length_nil]; omega
theorem PaC.low {w w' : World} {n : Nat} {l : List Pa} {xs : List Value} (h : PaC w n l xs) (hb : Below w.heap.size w w') : PaC w' n l xs := by
  induction h with
  | nil => exact .nil
  | cons p l xs u hu g ih => exact .cons p l xs u (FM.low hb hu) ih
theorem PaC.le {w : World} {n : Nat} {l : List Pa} {xs : List Value} (h : PaC w n l xs) : PaC w (n + 1) l xs := by
  induction h with
  | nil => exact .nil
  | cons p l xs u hu g ih => exact .cons p l xs u hu.up ih
theorem PaC.one {w : World} {n : Nat} {l : List Pa} {xs : List Value} (h : PaC w n l xs) : ∀ u ∈ xs, u.oneCell' = true := by
  induction h with
  | nil => intro u hu; cases hu
  | cons p l xs u hu g ih =>
    intro v hv
    rw [List.mem_append] at hv
    rcases hv with hv | hv
    · obtain ⟨_, _, rfl, _⟩ := hu.shape
      simp only [List.mem_cons, List.not_mem_nil, or_false] at hv
      rcases hv with rfl | rfl <;> rfl
    · exact ih v hv
theorem PaC.get {w : World} {n : Nat} {l : List Pa} {xs : List Value} (h : PaC w n l xs) : ∀ i p, l[i]? = some p → ∃ u, xs[i * 2]? = some (.bool p.1) ∧ xs[i * 2 + 1]? = some u ∧ FM w n u p.2 := by
  induction h with
  | nil => intro i r h; simp at h
  | cons x l xs u hu g ih =>
    intro i p hi
    cases i with
    | zero => cases hi; exact ⟨u, rfl, rfl, hu⟩
    | succ i =>
      obtain ⟨a, h1, h2, h3⟩ := ih i p hi
      refine ⟨a, ?_, ?_, h3⟩
      · rw [List.getElem?_append_right (by simp; omega), ← h1]
        congr 1
        simp only [List.length_cons, List.length_nil]
        omega
      · rw [List.getElem?_append_right (by simp; omega), ← h2]
        congr 1
        simp only [List.length_cons, List.length_nil]
        omega
theorem PM.cells {w : World} {b o c n m : Nat} {l : List Pa} (h : PM w n (.slice (some ⟨b, o, none⟩) m c) l) (hn : m = l.length) : ∀ d k, k + d = l.length → ∃ xs, PaC w n (l.drop k) xs ∧ ∀ j u, xs[j]? = some u → w.cell? ⟨b, o + k * 2 + j, none⟩ = some u := by
  intro d
  induction d with
  | zero =>
    intro k hk
    rw [List.drop_of_length_le (by omega)]
    exact ⟨[], .nil, fun j u h => by simp at h⟩
  | succ d ih =>
    intro k hk
    obtain ⟨xs, h1, h2⟩ := ih (k + 1) (by omega)
    obtain ⟨r, hr⟩ : ∃ r, l[k]? = some r := ⟨_, List.getElem?_eq_getElem (by omega)⟩
    obtain ⟨b', o', c', u, hv, _, _, _, g0, g1, gx⟩ := PM.at h hr
    obtain ⟨rfl, rfl⟩ : b = b' ∧ o = o' := by simp at hv; exact ⟨hv.1.1, hv.1.2⟩
    rw [drop_atE hr]
    refine ⟨_, .cons r _ xs u gx h1, fun j u hj => ?_⟩
    match j, hj with
    | 0, hj => simp at hj; subst hj; exact g0
    | 1, hj => simp at hj; subst hj; exact g1
    | j + 2, hj =>
      have := h2 j u (by simpa using hj)
      rwa [show o + (k + 1) * 2 + j = o + k * 2 + (j + 2) by omega] at this
theorem own_keep {w w' : World} {base : Nat} {e : TypeId} {size : Nat} {v : Value} {n : Nat} {xs : List Value} (h : w.ownsRow base e size v n xs) (hk : ∀ g, base ≤ g → g < w.heap.size → w'.heap[g]? = w.heap[g]?) : w'.ownsRow base e size v n xs := by
  obtain ⟨h1, h2 | ⟨g, cap, cur, rfl, hb, hg, hr⟩⟩ := h
  · exact ⟨h1, .inl h2⟩
  · exact ⟨h1, .inr ⟨g, cap, cur, rfl, hb, (hk g hb (Array.getElem?_eq_some_iff.1 hg).1).trans hg, hr⟩⟩
/-- An own row of parts, not below B; what its parts hold lies in w. -/
def PO (w : World) (B n : Nat) (wr : World) (v : Value) (l : List Pa) : Prop := ∃ xs, wr.ownsRow B 51 2 v l.length xs ∧ PaC w n l xs
theorem PO.nil (w wr : World) (B n : Nat) : PO w B n wr (.slice none 0 0) [] := ⟨[], World.ownsRow_nil _ _ _ _, .nil⟩
theorem PO.keep {w wr w' : World} {B n : Nat} {v : Value} {l : List Pa} (h : PO w B n wr v l) (hk : ∀ g, B ≤ g → g < wr.heap.size → w'.heap[g]? = wr.heap[g]?) : PO w B n w' v l := by
  obtain ⟨xs, h1, h2⟩ := h
  exact ⟨xs, own_keep h1 hk, h2⟩
theorem PO.up {w wr w' : World} {B n : Nat} {v : Value} {l : List Pa} (h : PO w B n wr v l) (hw : Below wr.heap.size wr w') : PO w B n w' v l := h.keep fun g _ hg => hw.block g hg
theorem PO.shape {w wr : World} {B n : Nat} {v : Value} {l : List Pa} (h : PO w B n wr v l) : ∃ a c, v = .slice a l.length c := by
  obtain ⟨xs, ⟨_, ⟨rfl, h0⟩ | ⟨g, cap, cur, rfl, _⟩⟩, _⟩ := h
  · rw [h0]; exact ⟨_, _, rfl⟩
  · exact ⟨_, _, rfl⟩
theorem PO.pm {w wr : World} {B n : Nat} {v : Value} {l : List Pa} (h : PO w B n wr v l) (hbl : Below w.heap.size w wr) (hl : l.length ≤ 1000000000) : PM wr n v l := by
  obtain ⟨xs, ho, hr0⟩ := h
  have hr := hr0.low hbl
  rcases ho.2 with ⟨rfl, h0⟩ | ⟨g, cap, cur, rfl, hb, hg, hn, hm, hs, ht⟩
  · exact .inl ⟨_, _, rfl, List.eq_nil_of_length_eq_zero h0⟩
  · by_cases h0 : l.length = 0
    · obtain rfl := List.eq_nil_of_length_eq_zero h0
      exact .inl ⟨_, _, rfl, rfl⟩
    · have C : ∀ j, j < l.length * 2 → wr.cell? ⟨g, 0 + j, none⟩ = xs[j]? := fun j hj => by
        rw [← ht, List.getElem?_take_of_lt (by omega), row_blk hg, Nat.zero_add, Array.getElem?_toList]
      refine .inr ⟨g, 0, cap, rfl, by omega, (Array.getElem?_eq_some_iff.1 hg).1, hn, hl, by unfold maxLen at hm; exact hm, fun i p hi => ?_⟩
      have hil := (List.getElem?_eq_some_iff.1 hi).1
      obtain ⟨u, h1, h2, h3⟩ := hr.get i p hi
      exact ⟨u, by rw [C _ (by omega), h1], by rw [Nat.add_assoc, C _ (by omega), h2], h3⟩
/-- A nil slice, whatever its third word, adds nothing. -/
theorem run_append_nil {w : World} (base : Nat) (t ty e : TypeId) (i : TypeInfo) (size c : Nat) (ht : Tryd.prog.underlying t = some (.slice e)) (hi : Tryd.prog.info? e = some i)
    (v : Value) (n : Nat) (xs : List Value) (hown : w.ownsRow base e size v n xs) : (Builtin.append_ #[t, t] ty #[v, .slice none 0 c]).run Tryd.prog w = .ok v w := by
  rcases hown.2 with ⟨rfl, rfl⟩ | ⟨g, cap, cur, rfl, _, _, hnc, _⟩
  · simp [Builtin.append_, run_underlying ht, sizeOf, typeInfo, hi, Builtin.lenOf, Builtin.firstCells]
  · simp [Builtin.append_, run_underlying ht, sizeOf, typeInfo, hi, Builtin.lenOf, Builtin.firstCells, hnc, storeCells]
theorem wpList_append_nil {w : World} {ops : Array Oper} {rest : List Oper} {o : Oper} {a : Act} {Q : Exit → Act → World → Prop} (hgd : o.guard = none) (s x : Operand) (t : TypeId)
    (ho : o.op = .call { callee := .builtin .append, args := #[s, x], argTypes := #[t, t] })
    (base : Nat) (e : TypeId) (i : TypeInfo) (size c : Nat) (ht : Tryd.prog.underlying t = some (.slice e)) (hi : Tryd.prog.info? e = some i)
    (v : Value) (n : Nat) (xs : List Value) (hs : a.eval s = v) (hown : w.ownsRow base e size v n xs) (hx : a.eval x = .slice none 0 c)
    (h : wpList Tryd.prog ops Q rest (a.put o.dst v) w) : wpList Tryd.prog ops Q (o :: rest) a w := by
  refine wpList_plain hgd fun K hK => ?_
  have hrun := run_append_nil (w := w) base t o.type e i size c ht hi v n xs hown
  unfold Oper.wp
  simp [execOp, ho, resolve, invoke, builtin, hs, hx, hrun, Result.andThen]
  exact hK _ _ h
theorem infoPa : (Tryd.prog.info? 51).map (fun i => (i.zero, i.size, i.bytes)) = some (some (.agg #[.bool false, .slice none 0 0]), 2, 32) := by kernel_rfl
/-- 'append(own, l...)', l a slice of parts that came in. -/
theorem wpList_append_parts {w wr : World} {B n : Nat} {ops : Array Oper} {rest : List Oper} {o : Oper} {a : Act} {Q : Exit → Act → World → Prop} (hgd : o.guard = none) (s x : Operand)
    (ho : o.op = .call { callee := .builtin .append, args := #[s, x], argTypes := #[28, 28] })
    (v : Value) (l : List Pa) (hs : a.eval s = v) (hown : PO w B n wr v l) (hbl : Below w.heap.size w wr) (hB : B ≤ wr.heap.size) (u : Value) (l2 : List Pa) (hx : a.eval x = u) (hu : PM w n u l2) (hl : l.length + l2.length ≤ 1000000000)
    (h : ∀ v' w', PO w B n w' v' (l ++ l2) → Below B wr w' → wpList Tryd.prog ops Q rest (a.put o.dst v') w') : wpList Tryd.prog ops Q (o :: rest) a wr := by
  obtain ⟨i1, hj, hy0, hy1, hy2⟩ := info_parts infoPa
  obtain ⟨xs, ho1, hr1⟩ := hown
  obtain ⟨ad, c, rfl, _⟩ := hu.shape
  have grow : ∀ (ys : List Value), PaC w n l2 ys → ∀ v' w', w'.ownsRow B 51 2 v' (l.length + l2.length) (xs ++ ys) → wr.grownBy w' v.ownBlock → PO w B n w' v' (l ++ l2) ∧ Below B wr w' := fun ys hys v' w' h1 h2 =>
    ⟨⟨xs ++ ys, by rw [List.length_append]; exact h1, hr1.app hys⟩, (Below.refl B wr).grown h2 hB (fun k hk => (ho1.lt k hk).1)⟩
  cases ad with
  | none =>
    have h0 : l2 = [] := by
      rcases hu with ⟨_, _, _, h⟩ | ⟨b, o', c', hv, _⟩
      · exact h
      · cases hv
    subst h0
    exact wpList_append_nil hgd s x 28 ho B 51 i1 2 c Tryd.underlying28 hj v l.length xs hs ho1 hx (h v wr (by rw [List.append_nil]; exact ⟨xs, ho1, hr1⟩) (Below.refl _ _))
  | some ad =>
    by_cases h0 : l2 = []
    · subst h0
      refine wpList_append_own wr hgd s x 28 ho B 51 i1 _ 2 32 Tryd.underlying28 hj hy0 hy1 hy2 rfl (by decide) v l.length xs hs ho1 ad 0 c [] hx rfl (by intro j u h; simp at h) (by intro u h; cases h) (by unfold maxLen; simp at hl; omega) (by simp at hl; omega) hB ?_
      intro v' w' h1 h2 _
      obtain ⟨g1, g2⟩ := grow [] .nil v' w' (by simpa using h1) h2
      exact h v' w' g1 g2
    · obtain ⟨b, o', spot⟩ := ad
      obtain ⟨r0, hr0⟩ : ∃ r, l2[0]? = some r := by
        cases l2 with
        | nil => exact absurd rfl h0
        | cons y q => exact ⟨y, rfl⟩
      obtain ⟨b', o'', c', _, hv, hbb', _⟩ := PM.at hu hr0
      simp only [Value.slice.injEq, Option.some.injEq, Addr.mk.injEq, true_and] at hv
      obtain ⟨⟨rfl, rfl, rfl⟩, rfl⟩ := hv
      have hbb : b < w.heap.size := hbb'
      obtain ⟨ys, hys, hcell⟩ := PM.cells hu rfl l2.length 0 (by omega)
      rw [List.drop_zero] at hys
      refine wpList_append_own wr hgd s x 28 ho B 51 i1 _ 2 32 Tryd.underlying28 hj hy0 hy1 hy2 rfl (by decide) v l.length xs hs ho1 ⟨b, o', none⟩ l2.length c ys hx hys.len (fun j u hj' => ?_) hys.one (by unfold maxLen; omega) (by omega) hB ?_
      · rw [Addr.add_lit]
        have := hcell j u hj'
        rw [Nat.zero_mul, Nat.add_zero] at this
        exact (hbl.cell (p := ⟨b, o' + j, none⟩) hbb).trans this
      · intro v' w' h1 h2 _
        obtain ⟨g1, g2⟩ := grow ys hys v' w' h1 h2
        exact h v' w' g1 g2
end Go.Proofs.YtlhmecagijdinaaDoor.nm
set_option linter.unusedVariables false
set_option linter.unusedSimpArgs false
namespace Go.Proofs.YtlhmecagijdinaaDoor.nm
open Go.RowKit

/-- So much of each unit, of all of them; all their parts. -/
def ssU (l : List Fo) : List (Int × Int) := sumU (l.map Fo.us)
def ssP (l : List Fo) : List Pa := l.flatMap Fo.ps
theorem ssU_us {l : List Fo} (h : ∀ x ∈ l, Us x.us) : Us (ssU l) := sumU_us (fun y hy => by
  obtain ⟨x, hx, rfl⟩ := List.mem_map.1 hy
  exact h x hx) _ zus
theorem ssU_step {l : List Fo} {k : Nat} {x : Fo} (h : l[k]? = some x) : ssU (l.take (k + 1)) = plU (ssU (l.take k)) x.us := by
  unfold ssU
  rw [List.map_take, List.map_take]
  exact sumU_step (by rw [List.getElem?_map, h]; rfl)
theorem ssP_step {l : List Fo} {k : Nat} {x : Fo} (h : l[k]? = some x) : ssP (l.take (k + 1)) = ssP (l.take k) ++ x.ps := by
  unfold ssP
  rw [List.take_add_one, h, List.flatMap_append]
  simp
theorem ssP_take (l : List Fo) (k : Nat) : (ssP (l.take k)).length ≤ (ssP l).length := by
  have : ssP l = ssP (l.take k) ++ ssP (l.drop k) := by unfold ssP; rw [← List.flatMap_append, List.take_append_drop]
  rw [this, List.length_append]; omega
def RelSv (w : World) (tb n : Nat) (l : List Fo) (i : Value) (wr : World) : Prop := ∃ (k : Nat) (pv : Value), i = .int .i64 k ∧ k ≤ l.length ∧ Hid (BF wr w.heap.size z00 nilS ∧ BF wr tb (ssU (l.take k)) pv ∧ PO w (tb + 1) n wr pv (ssP (l.take k)) ∧ Below w.heap.size w wr)
theorem RelSv.mk {w : World} {tb n : Nat} {l : List Fo} {i : Value} {wr : World} (k : Nat) (pv : Value) (h1 : i = .int .i64 k) (h2 : k ≤ l.length) (h3 : BF wr w.heap.size z00 nilS) (h4 : BF wr tb (ssU (l.take k)) pv) (h5 : PO w (tb + 1) n wr pv (ssP (l.take k))) (h6 : Below w.heap.size w wr) : RelSv w tb n l i wr := ⟨k, pv, h1, h2, h3, h4, h5, h6⟩
set_option maxRecDepth 100000 in
set_option maxHeartbeats 8000000 in
theorem sum_any (n : Nat) (l : List Fo) (v : Value) (w : World) (hN : Nth w) (hv : FM w (n + 1) v l) (hpl : (ssP l).length ≤ 1000000000) : Calls Tryd.prog 29 #[v] w fun e w' => ∃ u, e = .returned (foV (ssU l) u) ∧ PM w' n u (ssP l) ∧ Below w.heap.size w w' := by
  have CZ := hide (fun (W : World) (h : Below w.heap.size w W) => zero_any W (hN.low h))
  rw [show foV z01 nilS = .agg #[.int .i64 0, .int .i64 1, .int .i64 0, .int .i64 1, .int .i64 0, .int .i64 1, .int .i64 0, .int .i64 1, .int .i64 0, .int .i64 1, .int .i64 0, .int .i64 1, .int .i64 0, .int .i64 1, .slice none 0 0] from rfl] at CZ
  have HV := hide hv
  have AU := hide (show ∀ k, Us (ssU (l.take k)) from fun k => ssU_us (fun x hx => by
    obtain ⟨i, hi, rfl⟩ := List.mem_iff_getElem.1 hx
    have hi2 : i < l.length := by rw [List.length_take] at hi; omega
    obtain ⟨_, _, _, _, _, _, _, _, _, _, hu, _⟩ := FM.at hv (i := i) (x := l[i]) (List.getElem?_eq_getElem hi2)
    rw [List.getElem_take]; exact hu.1))
  have PL := hide (show ∀ k, (ssP (l.take (k + 1))).length ≤ 1000000000 from fun k => Nat.le_trans (ssP_take l (k + 1)) hpl)
  obtain ⟨a, c, rfl, h9⟩ := FM.shape hv
  clear hv hN
  obtain ⟨W1, hW1⟩ : ∃ W1, w.alloc (.cells #[.int .i64 0, .int .i64 0, .int .i64 0, .int .i64 0, .int .i64 0, .int .i64 0, .int .i64 0, .int .i64 0, .int .i64 0, .int .i64 0, .int .i64 0, .int .i64 0, .int .i64 0, .int .i64 0, .slice none 0 0] 30) = W1 := ⟨_, rfl⟩
  have B0 := hide (show Below w.heap.size w W1 by rw [← hW1]; exact bplus (Below.refl _ _) _)
  have P1 := hide (show BF W1 w.heap.size z00 nilS by rw [← hW1]; exact Bk.new w _ _)
  have HW1 := hide hW1
  obtain ⟨SU, hSU⟩ : ∃ x, ssU l = x := ⟨_, rfl⟩
  obtain ⟨SP, hSP⟩ : ∃ x, ssP l = x := ⟨_, rfl⟩
  rw [hSP] at hpl
  rw [hSU, hSP]
  have HSU := hide hSU
  have HSP := hide hSP
  have HPL := hide hpl
  clear hW1 hSU hSP hpl
  go_enter Tryd.func29, Tryd.ntmps29
  go_upto_region 1 with fail
  rw [HW1.out]
  clear HW1
  go_upto_region 2 with (go_at_call 21; refine (CZ.out _ B0.out).mono ?_; rintro e wz ⟨rfl, BZ⟩; replace BZ := hide BZ; clear CZ)
  have hz : w.heap.size < wz.heap.size := Nat.lt_of_lt_of_le (Bk.lt P1.out) BZ.out.size
  have B2 := hide (show Below w.heap.size w (wz.alloc (.cells #[.int .i64 0, .int .i64 1, .int .i64 0, .int .i64 1, .int .i64 0, .int .i64 1, .int .i64 0, .int .i64 1, .int .i64 0, .int .i64 1, .int .i64 0, .int .i64 1, .int .i64 0, .int .i64 1, .slice none 0 0] 30)) from bplus (bto B0.out BZ.out) _)
  have F0 := hide (show BF (wz.alloc (.cells #[.int .i64 0, .int .i64 1, .int .i64 0, .int .i64 1, .int .i64 0, .int .i64 1, .int .i64 0, .int .i64 1, .int .i64 0, .int .i64 1, .int .i64 0, .int .i64 1, .int .i64 0, .int .i64 1, .slice none 0 0] 30)) wz.heap.size z01 nilS from Bk.new wz _ _)
  have F1 := hide (show BF (wz.alloc (.cells #[.int .i64 0, .int .i64 1, .int .i64 0, .int .i64 1, .int .i64 0, .int .i64 1, .int .i64 0, .int .i64 1, .int .i64 0, .int .i64 1, .int .i64 0, .int .i64 1, .int .i64 0, .int .i64 1, .slice none 0 0] 30)) w.heap.size z00 nilS from (Bk.up P1.out BZ.out).more _)
  clear P1 B0 BZ
  generalize wz.alloc (.cells #[.int .i64 0, .int .i64 1, .int .i64 0, .int .i64 1, .int .i64 0, .int .i64 1, .int .i64 0, .int .i64 1, .int .i64 0, .int .i64 1, .int .i64 0, .int .i64 1, .int .i64 0, .int .i64 1, .slice none 0 0] 30) = W2 at *
  generalize wz.heap.size = tb at *
  have hB0 : tb + 1 ≤ W2.heap.size := Bk.lt F0.out
  have HTB := hide hz
  go_wp2_with fail
  go_loopw [9] (fun i wr => RelSv w tb n l i wr) (fun i _ => l.length - (intOf i).toNat)
  case atStart => exact .mk 0 (.slice none 0 0) rfl (by omega) F1.out F0.out (PO.nil _ _ _ _) B2.out
  case round =>
    obtain ⟨k, pv, rfl, hk, R⟩ := hrel
    have Q0 := hide R.out.1
    have Q1 := hide R.out.2.1
    have QP := hide R.out.2.2.1
    have BW := hide R.out.2.2.2
    clear R F0 F1 B2 hB0
    by_cases hlt : k < l.length
    · have hlt' : (k : Int) < l.length := by omega
      obtain ⟨x, hx⟩ : ∃ x, l[k]? = some x := ⟨_, List.getElem?_eq_getElem hlt⟩
      obtain ⟨n', hn', b, o, c', xu, hv', hb, -, -, hu, hu14, hpm⟩ := FM.at HV.out hx
      obtain rfl : n = n' := by omega
      obtain ⟨rfl, rfl⟩ : a = some ⟨b, o, none⟩ ∧ c = c' := by cases hv'; exact ⟨rfl, rfl⟩
      have HPM := hide hpm
      have f14 : wr.cell? ⟨b, o + k * 15 + 14, none⟩ = some xu := (BW.out.cell (p := ⟨b, o + k * 15 + 14, none⟩) hb).trans hu14
      obtain ⟨pa, pc, hpv⟩ := PO.shape QP.out
      obtain ⟨xa, xc, hxu, hx9⟩ := PM.shape hpm
      have hbw : b < wr.heap.size := by have := BW.out.size; omega
      have nb : b ≠ wr.heap.size := by omega
      have htb : tb < wr.heap.size := Bk.lt Q1.out
      have ntb : tb ≠ wr.heap.size := by omega
      have XU := hide hu.1
      have ST := hide (ssU_step hx)
      have SPs := hide (ssP_step hx)
      have A7 : (ssU (l.take k)).length = 7 := (AU.out k).1
      have A8 := hide (AU.out k)
      have A9 : (ssU (l.take (k + 1))).length = 7 := (AU.out (k + 1)).1
      obtain ⟨S1, hS1⟩ : ∃ S1, ssU (l.take (k + 1)) = S1 := ⟨_, rfl⟩
      obtain ⟨S0, hS0⟩ : ∃ S0, ssU (l.take k) = S0 := ⟨_, rfl⟩
      rw [hS1] at ST A9
      rw [hS0] at ST A7 A8 Q1
      have CP := hide (fun (W : World) => plus_any S0 x.us W A8.out XU.out)
      rw [← ST.out] at CP
      obtain ⟨xus, hxus⟩ : ∃ y, x.us = y := ⟨_, rfl⟩
      obtain ⟨xps, hxps⟩ : ∃ y, x.ps = y := ⟨_, rfl⟩
      rw [hxus] at CP XU hu ST
      rw [hxps] at SPs HPM hxu
      clear hxus hxps hpm
      (try clear hn')
      obtain ⟨n0, d0, n1, d1, n2, d2, n3, d3, n4, d4, n5, d5, n6, d6, rfl⟩ := us7 XU.out
      obtain ⟨f0, f1, f2, f3, f4, f5, f6, f7, f8, f9, f10, f11, f12, f13⟩ := (hu.below BW.out hb).fa
      rw [usV_eq] at CP
      unfold usV at CP
      have HS1 := hide hS1
      clear hS1 hS0 hx hu hu14
      (try clear hv')
      subst hxu
      obtain ⟨W4, hW4⟩ : ∃ W4, wr.alloc (.cells #[.int .i64 n0, .int .i64 d0, .int .i64 n1, .int .i64 d1, .int .i64 n2, .int .i64 d2, .int .i64 n3, .int .i64 d3, .int .i64 n4, .int .i64 d4, .int .i64 n5, .int .i64 d5, .int .i64 n6, .int .i64 d6, .slice xa xps.length xc] 30) = W4 := ⟨_, rfl⟩
      have HW4 := hide hW4
      have R1 := hide (show BF W4 tb S0 pv by rw [← hW4]; exact Bk.more Q1.out _)
      have R0 := hide (show BF W4 w.heap.size z00 nilS by rw [← hW4]; exact Bk.more Q0.out _)
      have R2 := hide (show BF W4 wr.heap.size [(n0, d0), (n1, d1), (n2, d2), (n3, d3), (n4, d4), (n5, d5), (n6, d6)] (.slice xa xps.length xc) by rw [← hW4]; exact Bk.new wr _ _)
      have RB := hide (show Below w.heap.size w W4 by rw [← hW4]; exact bplus BW.out _)
      have RP := hide (show PO w (tb + 1) n W4 pv (ssP (l.take k)) by rw [← hW4]; exact QP.out.up (bplus (Below.refl _ _) _))
      have hs4 : wr.heap.size < W4.heap.size := Bk.lt R2.out
      clear hW4 Q0 Q1 QP BW
      go_upto_region 5 with fail
      rw [show wr.alloc (.cells #[.int .i64 n0, .int .i64 d0, .int .i64 n1, .int .i64 d1, .int .i64 n2, .int .i64 d2, .int .i64 n3, .int .i64 d3, .int .i64 n4, .int .i64 d4, .int .i64 n5, .int .i64 d5, .int .i64 n6, .int .i64 d6, .slice xa xps.length xc] 30) = W4 from HW4.out]
      clear HW4 f0 f1 f2 f3 f4 f5 f6 f7 f8 f9 f10 f11 f12 f13 f14
      have H7 : (Tryd.prog.info? 27).map (·.size) = some (usL S0).length := by rw [usL_len, A7]; kernel_rfl
      have H8 : (Tryd.prog.info? 27).map (·.size) = some (usL [(n0, d0), (n1, d1), (n2, d2), (n3, d3), (n4, d4), (n5, d5), (n6, d6)]).length := by kernel_rfl
      have H9 : (Tryd.prog.info? 27).map (·.size) = some (usL S1).toArray.size := by rw [List.size_toArray, usL_len, A9]; kernel_rfl
      replace H7 := hide H7
      replace H8 := hide H8
      replace H9 := hide H9
      have OC := hide (show (usL S1).toArray.all (·.oneCell') = true from all_oneCell_toArray (fun v hv => us_one (u := nilS) rfl v (List.mem_append_left _ hv)))
      have TH := hide (fun (W : World) (h : Below W4.heap.size W4 W) => show W.there tb 0 (usL S1).toArray.size by rw [List.size_toArray, usL_len, A9]; exact BF.there (Bk.up R1.out h) A7)
      generalize wr.heap.size = xb at *
      go_upto_region 6 with (first
        | (refine wpList_load_mid rfl 27 (.tmp 13) rfl tb 0 rfl (usL S0) _ (BF.pre R1.out) Tryd.underlying27 rfl H7.out ?_)
        | (refine wpList_load_mid rfl 27 (.tmp 15) rfl xb 0 rfl (usL [(n0, d0), (n1, d1), (n2, d2), (n3, d3), (n4, d4), (n5, d5), (n6, d6)]) _ (BF.pre R2.out) Tryd.underlying27 rfl H8.out ?_)
        | (go_at_call 47; refine (CP.out _).mono ?_; rintro e w5 ⟨rfl, B5⟩; replace B5 := hide B5)
        | (refine wpList_store_mid rfl 27 (.tmp 18) (.tmp 17) rfl tb 0 (usL S1).toArray rfl rfl (TH.out _ B5.out) H9.out OC.out ?_))
      have G1 := hide (show BF (w5.setCells tb 0 (usL S1)) tb S1 pv from BF.all (Bk.up R1.out B5.out) A7 A9)
      have G0 := hide (show BF (w5.setCells tb 0 (usL S1)) w.heap.size z00 nilS from (setCells_far _ _ 0 (by omega) _ _ _).trans (Bk.up R0.out B5.out))
      have G2 := hide (show BF (w5.setCells tb 0 (usL S1)) xb [(n0, d0), (n1, d1), (n2, d2), (n3, d3), (n4, d4), (n5, d5), (n6, d6)] (.slice xa xps.length xc) from (setCells_far _ _ 0 (by omega) _ _ _).trans (Bk.up R2.out B5.out))
      have GB := hide (show Below w.heap.size w (w5.setCells tb 0 (usL S1)) from (bto RB.out B5.out).grown (setCells_grown _ _ _ _) (bto RB.out B5.out).size (fun k hk => by cases hk; omega))
      have GP := hide (show PO w (tb + 1) n (w5.setCells tb 0 (usL S1)) pv (ssP (l.take k)) from (RP.out.up B5.out).keep (fun g hg hl => setCells_far _ _ 0 (by omega) _ _ _))
      have hs6 : tb + 1 ≤ (w5.setCells tb 0 (usL S1)).heap.size := Bk.lt G1.out
      (try rw [show (usL S1).toArray.toList = usL S1 from rfl])
      clear R1 R0 R2 RB RP B5 CP TH OC H7 H8 H9
      generalize w5.setCells tb 0 (usL S1) = W6 at *
      subst hpv
      have e1 : W6.cell? ⟨tb, 14, none⟩ = some (.slice pa (ssP (l.take k)).length pc) := BF.last G1.out A9
      have e2 : W6.cell? ⟨xb, 14, none⟩ = some (.slice xa xps.length xc) := BF.last G2.out rfl
      have NX := hide (fun (v' : Value) (w' : World) (h : Below (tb + 1) W6 w') => show BF (w'.setCell ⟨tb, 14, none⟩ v') tb S1 v' by
        have := Bk.put (Bk.low G1.out h (by omega)) 14 v'
        rw [List.set_append_right _ _ (by rw [usL_len, A9]; omega), usL_len, A9] at this
        exact this)
      have NT := hide (fun (w' : World) (h : Below (tb + 1) W6 w') => show (w'.cell? ⟨tb, 14, none⟩ = some (.slice pa (ssP (l.take k)).length pc)) ∧ w'.frozen? ⟨tb, 14, none⟩ = false from ⟨BF.last (Bk.low G1.out h (by omega)) A9, Bk.fz (Bk.low G1.out h (by omega)) 14⟩)
      have N0 := hide (fun (v' : Value) (w' : World) (h : Below (tb + 1) W6 w') => show BF (w'.setCell ⟨tb, 14, none⟩ v') w.heap.size z00 nilS from Bk.far (Bk.low G0.out h (by omega)) (by omega) _ _)
      have NB := hide (fun (v' : Value) (w' : World) (h : Below (tb + 1) W6 w') => show Below w.heap.size w (w'.setCell ⟨tb, 14, none⟩ v') from (GB.out.trans (h.mono (by omega))).setCell (by simp; omega) _)
      have NP := hide (fun (v' : Value) (w' : World) (h : PO w (tb + 1) n w' v' (ssP (l.take k) ++ xps)) => show PO w (tb + 1) n (w'.setCell ⟨tb, 14, none⟩ v') v' (ssP (l.take (k + 1))) by rw [SPs.out]; exact h.keep (fun g hg hl => Below.heap_setCell w' ⟨tb, 14, none⟩ v' g (by show g ≠ tb; omega)))
      have PK := hide (show (ssP (l.take k)).length + xps.length ≤ 1000000000 by have := PL.out k; rw [SPs.out, List.length_append] at this; exact this)
      rw [← HS1.out] at NX
      clear G0 G1 G2 HS1 A9
      go_wp2_with (at_builtin; refine wpList_append_parts rfl (.tmp 20) (.tmp 22) rfl _ (ssP (l.take k)) rfl GP.out GB.out hs6 _ xps rfl HPM.out PK.out ?_; intro v' w' HO HB; obtain ⟨va, vc, hv2⟩ := PO.shape HO; subst hv2; rw [List.length_append] at HO; obtain ⟨t0, t1⟩ := NT.out w' HB; replace HO := hide HO; replace HB := hide HB; clear NT)
      go_roundw
      case rel => exact .mk (k + 1) _ (by go_num) (by omega) (N0.out _ w' HB.out) (NX.out _ w' HB.out) (NP.out _ w' HO.out) (NB.out _ w' HB.out)
      case measure => simp [intOf]; omega
    · obtain rfl : k = l.length := by omega
      have hlt' : ¬ ((l.length : Nat) : Int) < l.length := by omega
      have EQ : ssU (l.take l.length) = SU := by rw [List.take_length]; exact HSU.out
      have EP : ssP (l.take l.length) = SP := by rw [List.take_length]; exact HSP.out
      rw [EQ] at Q1
      rw [EP] at QP
      have A7 : SU.length = 7 := by rw [← EQ]; exact (AU.out _).1
      have q0 := hide (show wr.heap[tb]? = some (.cells (usL SU ++ [pv]).toArray 30) from Q1.out)
      have q2 := hide (show wr.heap[w.heap.size]? = some (.cells (usL z00 ++ [nilS]).toArray 30) from Q0.out)
      have l3 : (usL SU ++ [pv]).length = 15 := by rw [List.length_append, usL_len, A7]; rfl
      obtain ⟨pa, pc, hpv⟩ := PO.shape QP.out
      have OV : pv.oneCell' = true := by rw [hpv]; rfl
      have FB := hide (show Below w.heap.size w (wr.setCells w.heap.size 0 (usL SU ++ [pv])) from BW.out.grown (setCells_grown _ _ _ _) BW.out.size (fun k hk => by cases hk; simp))
      have htw : w.heap.size < tb := by have := HTB.out; omega
      have FP := hide (show PO w (tb + 1) n (wr.setCells w.heap.size 0 (usL SU ++ [pv])) pv SP from QP.out.keep (fun g hg hl => setCells_far _ _ 0 (by omega) _ _ _))
      have FF := hide (FP.out.pm FB.out HPL.out)
      clear Q0 Q1 EQ EP QP hpv
      go_upto_region 8 with fail
      refine wp_region_list ?_
      refine wpList_load_mid rfl 30 (.tmp 3) rfl tb 0 rfl (usL SU ++ [pv]) _ (range_blk q0.out) Tryd.underlying30 rfl (by rw [l3]; kernel_rfl) ?_
      refine wpList_store_mid rfl 30 (.tmp 2) (.tmp 26) rfl w.heap.size 0 (usL SU ++ [pv]).toArray rfl rfl (there_blk q2.out (by simp only [List.size_toArray, l3]; rfl)) (by rw [List.size_toArray, l3]; kernel_rfl) (all_oneCell_toArray (us_one OV)) ?_
      go_wp2_with fail
      refine ret_cell (b := w.heap.size) (cs := usL SU ++ [pv]) Tryd.results29 rfl (World.rangeAt_setCells_same _ _ _ _ (there_blk q2.out (by simp only [List.size_toArray, l3]; rfl))) Tryd.underlying30 rfl (by rw [l3]; kernel_rfl) rfl ?_
      exact ⟨pv, rfl, FF.out, FB.out⟩
end Go.Proofs.YtlhmecagijdinaaDoor.nm
