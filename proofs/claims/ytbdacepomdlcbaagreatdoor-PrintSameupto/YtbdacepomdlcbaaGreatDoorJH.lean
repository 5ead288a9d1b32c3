/-
  Two lists of rules, one behind the other: in memory; the law.
-/
import Derived.Test.YtbdacepomdlcbaaGreatDoorJG
import Derived.Test.YtbdacepomdlcbaaGreatDoorJb
set_option linter.unusedVariables false
set_option linter.unusedSimpArgs false
namespace Go.Proofs.YtbdacepomdlcbaaGreatDoor
open Go.RowKit Go.Shelf

/-- The cells of rules. -/
inductive RRow (w : World) : List RT → List Value → Prop
  | nil : RRow w [] []
  | cons (r : RT) (l : List RT) (xs : List Value) (up ud ur : Value) (hp : VM w up r.p) (hd : DM w ud r.ds) (hr : RM w ur r.rs) (g : RRow w l xs) : RRow w (r :: l) ([.int .i64 r.k, .string r.s, up, ud, ur] ++ xs)
theorem RRow.app {w : World} {l1 l2 : List RT} {xs1 xs2 : List Value} (h : RRow w l1 xs1) (k : RRow w l2 xs2) : RRow w (l1 ++ l2) (xs1 ++ xs2) := by
  induction h with
  | nil => exact k
  | cons r l xs up ud ur hp hd hr g ih => rw [List.append_assoc]; exact .cons r _ _ up ud ur hp hd hr ih
theorem RRow.len {w : World} {l : List RT} {xs : List Value} (h : RRow w l xs) : xs.length = l.length * 5 := by
  induction h with
  | nil => rfl
  | cons r l xs up ud ur hp hd hr g ih => rw [List.length_append, ih, List.length_cons]; simp only [List.length_cons, List.length_nil]; omega
theorem RRow.low {w w' : World} {l : List RT} {xs : List Value} (h : RRow w l xs) (hb : Below w.heap.size w w') : RRow w' l xs := by
  induction h with
  | nil => exact .nil
  | cons r l xs up ud ur hp hd hr g ih => exact .cons r l xs up ud ur (hp.low hb) (hd.low hb) (hr.low hb) ih
theorem RRow.one {w : World} {l : List RT} {xs : List Value} (h : RRow w l xs) : ∀ u ∈ xs, u.oneCell' = true := by
  induction h with
  | nil => intro u hu; cases hu
  | cons r l xs up ud ur hp hd hr g ih =>
    intro u hu
    rw [List.mem_append] at hu
    rcases hu with hu | hu
    · obtain ⟨_, _, rfl, _⟩ := hp.shape
      obtain ⟨_, _, rfl, _⟩ := hd.shape
      obtain ⟨_, _, rfl, _⟩ := hr.shape
      simp only [List.mem_cons, List.not_mem_nil, or_false] at hu
      rcases hu with rfl | rfl | rfl | rfl | rfl <;> rfl
    · exact ih u hu
theorem RRow.get {w : World} {l : List RT} {xs : List Value} (h : RRow w l xs) : ∀ i r, l[i]? = some r → ∃ up ud ur, (∀ j, j < 5 → xs[i * 5 + j]? = [Value.int .i64 r.k, .string r.s, up, ud, ur][j]?) ∧ VM w up r.p ∧ DM w ud r.ds ∧ RM w ur r.rs := by
  induction h with
  | nil => intro i r h; simp at h
  | cons x l xs up ud ur hp hd hr g ih =>
    intro i r hi
    cases i with
    | zero =>
      cases hi
      refine ⟨up, ud, ur, fun j hj => ?_, hp, hd, hr⟩
      rw [List.getElem?_append_left (by simp; omega)]
      simp
    | succ i =>
      obtain ⟨a, b, c, h1, h2⟩ := ih i r hi
      refine ⟨a, b, c, fun j hj => ?_, h2⟩
      rw [List.getElem?_append_right (by simp; omega), ← h1 j hj]
      congr 1
      simp only [List.length_cons, List.length_nil]
      omega
theorem RM.rrow {w : World} {b o c : Nat} {l : List RT} {n : Nat} (h : RM w (.slice (some ⟨b, o, none⟩) n c) l) (hn : n = l.length) : ∀ d k, k + d = l.length → ∃ xs, RRow w (l.drop k) xs ∧ ∀ j u, xs[j]? = some u → w.cell? ⟨b, o + k * 5 + j, none⟩ = some u := by
  intro d
  induction d with
  | zero =>
    intro k hk
    rw [List.drop_of_length_le (by omega)]
    exact ⟨[], .nil, fun j u h => by simp at h⟩
  | succ d ih =>
    intro k hk
    obtain ⟨xs, h1, h2⟩ := ih (k + 1) (by omega)
    obtain ⟨r, hr⟩ : ∃ r, l[k]? = some r := ⟨_, List.getElem?_eq_getElem (by omega)⟩
    obtain ⟨b', o', c', up, ud, ur, hv, _, ⟨g0, g1, g2, g3, g4⟩, gp, gd, gr⟩ := h.at hr
    obtain ⟨rfl, rfl⟩ : b = b' ∧ o = o' := by simp at hv; exact ⟨hv.1.1, hv.1.2⟩
    rw [drop_at hr]
    refine ⟨_, .cons r _ xs up ud ur gp gd gr h1, fun j u hj => ?_⟩
    match j, hj with
    | 0, hj => simp at hj; subst hj; exact g0
    | 1, hj => simp at hj; subst hj; exact g1
    | 2, hj => simp at hj; subst hj; exact g2
    | 3, hj => simp at hj; subst hj; exact g3
    | 4, hj => simp at hj; subst hj; exact g4
    | j + 5, hj =>
      have := h2 j u (by simpa using hj)
      rwa [show o + (k + 1) * 5 + j = o + k * 5 + (j + 5) by omega] at this
/-- An own row of rules. -/
def OwnR5 (w wr : World) (v : Value) (l : List RT) : Prop := ∃ xs, wr.ownsRow w.heap.size 58 5 v l.length xs ∧ RRow w l xs ∧ Below w.heap.size w wr
theorem OwnR5.rm {w wr : World} {v : Value} {l : List RT} (h : OwnR5 w wr v l) (hl : l.length ≤ 1000000000) : RM wr v l := by
  obtain ⟨xs, ho, hr0, hbl⟩ := h
  have hr := hr0.low hbl
  rcases ho.2 with ⟨rfl, h0⟩ | ⟨g, cap, cur, rfl, hb, hg, hn, hm, hs, ht⟩
  · obtain rfl := List.eq_nil_of_length_eq_zero h0
    exact .nil _ _
  · by_cases h0 : l.length = 0
    · obtain rfl := List.eq_nil_of_length_eq_zero h0
      exact .nil _ _
    · have C : ∀ i, i < l.length → ∀ j, j < 5 → wr.cell? ⟨g, 0 + i * 5 + j, none⟩ = xs[i * 5 + j]? := fun i hi j hj => by
        rw [← ht, List.getElem?_take_of_lt (by omega), row_blk hg, Nat.zero_add, Array.getElem?_toList]
      have G := fun i (hi : i < l.length) => hr.get i l[i] (List.getElem?_eq_getElem hi)
      have E : ∀ i, ∃ p : Value × Value × Value, ∀ r, l[i]? = some r → (∀ j, j < 5 → xs[i * 5 + j]? = [Value.int .i64 r.k, .string r.s, p.1, p.2.1, p.2.2][j]?) ∧ VM wr p.1 r.p ∧ DM wr p.2.1 r.ds ∧ RM wr p.2.2 r.rs := fun i => by
        by_cases hi : i < l.length
        · obtain ⟨a, b, c, h1, h2⟩ := G i hi
          refine ⟨(a, b, c), fun r hr => ?_⟩
          rw [List.getElem?_eq_getElem hi] at hr
          cases hr
          exact ⟨h1, h2⟩
        · exact ⟨(.bool false, .bool false, .bool false), fun r hr => absurd (List.getElem?_eq_some_iff.1 hr).1 hi⟩
      obtain ⟨p, hp⟩ : ∃ p : Nat → Value × Value × Value, ∀ i, ∀ r, l[i]? = some r → (∀ j, j < 5 → xs[i * 5 + j]? = [Value.int .i64 r.k, .string r.s, (p i).1, (p i).2.1, (p i).2.2][j]?) ∧ VM wr (p i).1 r.p ∧ DM wr (p i).2.1 r.ds ∧ RM wr (p i).2.2 r.rs := ⟨fun i => (E i).choose, fun i => (E i).choose_spec⟩
      refine .row g 0 cap l (fun i => (p i).1) (fun i => (p i).2.1) (fun i => (p i).2.2) (by omega) (Array.getElem?_eq_some_iff.1 hg).1 hn hl (by unfold maxLen at hm; exact hm) (fun i r hi => ?_) (fun i r hi => (hp i r hi).2.1) (fun i r hi => (hp i r hi).2.2.1) (fun i r hi => (hp i r hi).2.2.2)
      have hil := (List.getElem?_eq_some_iff.1 hi).1
      have h5 := (hp i r hi).1
      exact ⟨(C i hil 0 (by omega)).trans (h5 0 (by omega)), (C i hil 1 (by omega)).trans (h5 1 (by omega)), (C i hil 2 (by omega)).trans (h5 2 (by omega)), (C i hil 3 (by omega)).trans (h5 3 (by omega)), (C i hil 4 (by omega)).trans (h5 4 (by omega))⟩
theorem infoRu : (Tryz.prog.info? 58).map (fun i => (i.zero, i.size, i.bytes)) = some (some (.agg #[.int .i64 0, .string ⟨#[]⟩, .slice none 0 0, .slice none 0 0, .slice none 0 0]), 5, 96) := by kernel_rfl
/-- 'append(own, l...)', l a slice of rules that came in. -/
theorem wpList_append_rules {w wr : World} {ops : Array Oper} {rest : List Oper} {o : Oper} {a : Act} {Q : Exit → Act → World → Prop} (hgd : o.guard = none) (s x : Operand)
    (ho : o.op = .call { callee := .builtin .append, args := #[s, x], argTypes := #[31, 31] })
    (v : Value) (l : List RT) (hs : a.eval s = v) (hown : OwnR5 w wr v l) (u : Value) (l2 : List RT) (hx : a.eval x = u) (hu : RM w u l2) (hnil : Nil0 u) (hl : l.length + l2.length ≤ 1000000000)
    (h : ∀ v' w', OwnR5 w w' v' (l ++ l2) → wpList Tryz.prog ops Q rest (a.put o.dst v') w') : wpList Tryz.prog ops Q (o :: rest) a wr := by
  obtain ⟨i1, hj, hy0, hy1, hy2⟩ := info_parts infoRu
  obtain ⟨xs, ho1, hr1, hb1⟩ := hown
  obtain ⟨ad, c, rfl, _⟩ := hu.shape
  have grow : ∀ (ys : List Value), RRow w l2 ys → ∀ v' w', w'.ownsRow w.heap.size 58 5 v' (l.length + l2.length) (xs ++ ys) → wr.grownBy w' v.ownBlock → OwnR5 w w' v' (l ++ l2) := fun ys hys v' w' h1 h2 => by
    have hb2 : Below w.heap.size w w' := hb1.grown h2 hb1.size (fun k hk => (ho1.lt k hk).1)
    exact ⟨xs ++ ys, by rw [List.length_append]; exact h1, hr1.app hys, hb2⟩
  cases ad with
  | none =>
    obtain ⟨h0, rfl⟩ := hnil _ _ rfl
    obtain rfl := List.eq_nil_of_length_eq_zero h0
    exact wpList_append_own_none hgd s x 31 ho w.heap.size 58 i1 5 Tryz.underlying31 hj v l.length xs hs ho1 hx (h v wr (by rw [List.append_nil]; exact ⟨xs, ho1, hr1, hb1⟩))
  | some ad =>
    by_cases h0 : l2 = []
    · subst h0
      refine wpList_append_own wr hgd s x 31 ho w.heap.size 58 i1 _ 5 96 Tryz.underlying31 hj hy0 hy1 hy2 rfl (by decide) v l.length xs hs ho1 ad 0 c [] hx rfl (by intro j u h; simp at h) (by intro u h; cases h) (by unfold maxLen; simp at hl; omega) (by simp at hl; omega) hb1.size ?_
      intro v' w' h1 h2 _
      exact h v' w' (grow [] .nil v' w' (by simpa using h1) h2)
    · obtain ⟨b, o', spot⟩ := ad
      obtain ⟨r0, hr0⟩ : ∃ r, l2[0]? = some r := by
        cases l2 with
        | nil => exact absurd rfl h0
        | cons y q => exact ⟨y, rfl⟩
      obtain ⟨b', o'', c', _, _, _, hv, hbb', _⟩ := hu.at hr0
      simp only [Value.slice.injEq, Option.some.injEq, Addr.mk.injEq, true_and] at hv
      obtain ⟨⟨rfl, rfl, rfl⟩, rfl⟩ := hv
      have hbb : b < w.heap.size := hbb'
      obtain ⟨ys, hys, hcell⟩ := hu.rrow rfl l2.length 0 (by omega)
      rw [List.drop_zero] at hys
      refine wpList_append_own wr hgd s x 31 ho w.heap.size 58 i1 _ 5 96 Tryz.underlying31 hj hy0 hy1 hy2 rfl (by decide) v l.length xs hs ho1 ⟨b, o', none⟩ l2.length c ys hx hys.len (fun j u hj' => ?_) hys.one (by unfold maxLen; omega) (by omega) hb1.size ?_
      · rw [Addr.add_lit]
        have := hcell j u hj'
        rw [Nat.zero_mul, Nat.add_zero] at this
        exact (hb1.cell (p := ⟨b, o' + j, none⟩) hbb).trans this
      · intro v' w' h1 h2 _
        exact h v' w' (grow ys hys v' w' h1 h2)
theorem OwnR5.fresh (w wr : World) (h : Below w.heap.size w wr) : OwnR5 w (wr.alloc (.cells #[] 58)) (.slice (some ⟨wr.heap.size, 0, none⟩) 0 0) [] :=
  ⟨[], ⟨rfl, .inr ⟨wr.heap.size, 0, #[], rfl, h.size, heap_alloc_new wr _, Nat.le_refl _, by decide, rfl, rfl⟩⟩, .nil, bplus h _⟩
theorem okRs_app (a b : List RT) (n : Nat) : okRs (a ++ b) n ↔ okRs a n ∧ okRs b n := by
  rw [okRs_mem, okRs_mem, okRs_mem]
  simp only [List.mem_append]
  exact ⟨fun h => ⟨fun r hr => h r (.inl hr), fun r hr => h r (.inr hr)⟩, fun h r hr => hr.elim (h.1 r) (h.2 r)⟩
theorem both_ok {a b : List RT} {s t u : ByteArray} {c d g : Int} (h1 : SpR a 0 s c) (h2 : SpR b 0 t d) (h3 : SpR (a ++ b) 0 u g) : (c = 0 ∧ d = 0 ∧ g = 0 ∧ u = s ++ t) ∨ (c = 1 ∧ g = 1 ∧ u = ⟨#[]⟩) ∨ (c = 0 ∧ d = 1 ∧ g = 1 ∧ u = ⟨#[]⟩) := by
  have E := okRs_app a b 0
  rcases h1 with ⟨a1, a2, a3⟩ | ⟨a1, a2, a3⟩
  · rcases h2 with ⟨b1, b2, b3⟩ | ⟨b1, b2, b3⟩
    · rcases h3 with ⟨c1, c2, c3⟩ | ⟨c1, c2, c3⟩
      · exact .inl ⟨a2, b2, c2, bl_inj (by rw [c3, rusT_app, bl_app, a3, b3])⟩
      · exact absurd (E.2 ⟨a1, b1⟩) c1
    · rcases h3 with ⟨c1, c2, c3⟩ | ⟨c1, c2, c3⟩
      · exact absurd (E.1 c1).2 b1
      · exact .inr (.inr ⟨a2, b2, c2, c3⟩)
  · rcases h3 with ⟨c1, c2, c3⟩ | ⟨c1, c2, c3⟩
    · exact absurd (E.1 c1).1 a1
    · exact .inr (.inl ⟨a2, c2, c3⟩)
set_option maxRecDepth 100000 in
set_option maxHeartbeats 1500000 in
theorem law_both6 (l1 l2 : List RT) (m : Nat) (v1 v2 : Value) (w : World) (hx1 : (rusT l1).length ≤ 17592186044000) (hx2 : (rusT l2).length ≤ 17592186044000) (hv1 : RM w v1 l1) (hv2 : RM w v2 l2) (n1 : Nil0 v1) (n2 : Nil0 v2) (hl : l1.length + l2.length ≤ 1000000000) (hB1 : ∀ r ∈ l1, RBd m r) (hB2 : ∀ r ∈ l2, RBd m r) (hK : KT w) (hT : Tabs w) :
    Calls Tryz.prog 7 #[v1, v2] w fun e w' => e = .returned (.bool true) ∧ Below w.heap.size w w' := by
  have C1 := hide (rulesP_any l1 m v1 w (by omega) hv1 hB1 hK hT)
  have C2 := hide (fun (W : World) (h : Below w.heap.size w W) => rulesP_any l2 m v2 W (by omega) (hv2.low h) hB2 (hK.below h) (hT.below h))
  have C3 := hide (fun (W : World) (v : Value) (h : Below w.heap.size w W) (hv : RM W v (l1 ++ l2)) => rulesP_any (l1 ++ l2) m v W (by rw [rusT_app, List.length_append]; omega) hv (fun r hr => by rcases List.mem_append.1 hr with h | h; exact hB1 r h; exact hB2 r h) (hK.below h) (hT.below h))
  have C4 := hide (fun (W : World) (h : Below w.heap.size w W) => awake6_any W (hK.below h) (hT.below h))
  have V1 := hide hv1
  have V2 := hide hv2
  have N1 := hide n1
  have N2 := hide n2
  have Z1 := hide hx1
  have Z2 := hide hx2
  obtain ⟨a1, c1, rfl, _⟩ := hv1.shape
  obtain ⟨a2, c2, rfl, _⟩ := hv2.shape
  clear hK hT hv1 hv2 hB1 hB2 n1 n2 hx1 hx2
  go_enter Tryz.func7, Tryz.ntmps7
  go_wp2_with fail
  go_at_call 13
  refine C1.out.mono ?_
  rintro e w1 ⟨s, c, rfl, H1, B1⟩
  replace B1 := hide B1
  go_wp2_with fail
  go_at_call 13
  refine (C2.out _ B1.out).mono ?_
  rintro e w2 ⟨t, d, rfl, H2, B2⟩
  replace B1 := hide (bto B1.out B2)
  clear B2
  go_wp2_with (first
    | (at_builtin; refine wpList_append_rules rfl (.tmp 22) (.tmp 23) rfl _ [] rfl (OwnR5.fresh w _ B1.out) _ l1 rfl V1.out N1.out (by show 0 + _ ≤ _; omega) ?_; intro v3 w3 O3; rw [List.nil_append] at O3; replace O3 := hide O3)
    | (at_builtin; refine wpList_append_rules rfl _ _ rfl _ l1 rfl O3.out _ l2 rfl V2.out N2.out hl ?_; intro v4 w4 O4; replace O4 := hide O4; clear O3))
  go_at_call 13
  refine (C3.out _ _ O4.out.choose_spec.2.2 (O4.out.rm (by rw [List.length_append]; exact hl))).mono ?_
  rintro e w5 ⟨u, g, rfl, H3, B3⟩
  replace B1 := hide (bto O4.out.choose_spec.2.2 B3)
  have z1 := sr_size H1 (by have := Z1.out; omega)
  have z2 := sr_size H2 (by have := Z2.out; omega)
  rcases both_ok H1 H2 H3 with ⟨rfl, rfl, rfl, rfl⟩ | ⟨rfl, rfl, rfl⟩ | ⟨rfl, rfl, rfl, rfl⟩
  all_goals
    clear H1 H2 H3 B3 C1 C2 C3
    go_wp2_with (go_at_call 10; refine (C4.out _ B1.out).mono ?_; rintro e w6 ⟨rfl, B6⟩; replace B1 := hide (bto B1.out B6))
    go_ret
    exact ⟨rfl, B1.out⟩
end Go.Proofs.YtbdacepomdlcbaaGreatDoor
