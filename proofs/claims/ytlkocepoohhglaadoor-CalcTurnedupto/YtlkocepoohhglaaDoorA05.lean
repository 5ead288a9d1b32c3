/-
  The tokens of component values: by the program.
  A stack of frames in memory, each with a row of values of its own.
  The innermost frame is shut: by the reference.
  One more value in the innermost frame: a row grows by nothing, then what is in it is written, and where it lies.
-/
import Derived.Test.YtlkocepoohhglaaDoorA04
import Derived.Laws.AppendOwnNone
import Derived.Deep.RegionHeld3
import Derived.Deep.AppendLies
set_option linter.unusedVariables false
set_option linter.unusedSimpArgs false
namespace Go.Proofs.YtlkocepoohhglaaDoor
open Go.RowKit

/-- A token's cells. -/
def tsC (t : TS) : List Value := [.int .i64 t.k, .string t.s, .int .i64 t.n, .int .i64 t.d, .bool t.i, .bool t.h]
def tsCs (ts : List TS) : List Value := ts.flatMap tsC
theorem tsCs_len (ts : List TS) : (tsCs ts).length = ts.length * 6 := by
  induction ts with
  | nil => rfl
  | cons x r ih => unfold tsCs at *; rw [List.flatMap_cons, List.length_append, ih]; simp [tsC]; omega
theorem tsCs_app (a b : List TS) : tsCs (a ++ b) = tsCs a ++ tsCs b := by simp [tsCs]
theorem tsCs_one (t : TS) : tsCs [t] = tsC t := by simp [tsCs]
theorem tsCs_at (ts : List TS) : ∀ (i j : Nat) (t : TS), ts[i]? = some t → j < 6 → (tsCs ts)[i * 6 + j]? = (tsC t)[j]? := by
  induction ts with
  | nil => intro i j τ h; cases h
  | cons x r ih =>
    intro i j τ h hj
    have e : tsCs (x :: r) = tsC x ++ tsCs r := rfl
    have l : (tsC x).length = 6 := rfl
    rw [e]
    cases i with
    | zero =>
      cases h
      rw [List.getElem?_append_left (by rw [l]; omega)]
      simp
    | succ i =>
      rw [List.getElem?_append_right (by rw [l]; omega), l, ← ih i j τ h hj]
      congr 1; omega
/-- An own row of tokens. -/
def OwnS (w wr : World) (v : Value) (ts : List TS) : Prop := wr.ownsRow w.heap.size 66 6 v ts.length (tsCs ts)
theorem OwnS.toks {w wr : World} {v : Value} {ts : List TS} (h : OwnS w wr v ts) (hl : ts.length ≤ 1000000000000) : Toks4 wr v ts := by
  rcases h.2 with ⟨rfl, h0⟩ | ⟨g, cap, cur, rfl, hb, hg, hn, hm, hs, ht⟩
  · exact .inl ⟨_, _, rfl, List.eq_nil_of_length_eq_zero h0⟩
  · by_cases h0 : ts.length = 0
    · obtain rfl : ts = [] := List.eq_nil_of_length_eq_zero h0
      exact .inl ⟨_, _, rfl, rfl⟩
    · refine .inr ⟨g, 0, ts.length, cap, rfl, rfl, by omega, (Array.getElem?_eq_some_iff.1 hg).1, hn, hl, by unfold maxLen at hm; exact hm, fun i t hi => ?_⟩
      have hi' := (List.getElem?_eq_some_iff.1 hi).1
      have C : ∀ j, j < 6 → wr.cell? ⟨g, 0 + i * 6 + j, none⟩ = (tsC t)[j]? := fun j hj => by
        have e := tsCs_at ts i j t hi hj
        rw [← e, ← ht, List.getElem?_take_of_lt (by omega), row_blk hg, Nat.zero_add, Array.getElem?_toList]
      exact ⟨C 0 (by omega), C 1 (by omega), C 2 (by omega), C 3 (by omega), C 4 (by omega), C 5 (by omega)⟩
theorem own_ne {w : World} {b1 b2 : Nat} {e1 e2 : TypeId} {s1 s2 : Nat} {v1 v2 : Value} {n1 n2 : Nat} {xs1 xs2 : List Value} (h1 : w.ownsRow b1 e1 s1 v1 n1 xs1) (h2 : w.ownsRow b2 e2 s2 v2 n2 xs2) (he : e1 ≠ e2) : v1.ownBlock = none ∨ v1.ownBlock ≠ v2.ownBlock := by
  rcases h1.2 with ⟨rfl, _⟩ | ⟨g, cap, cur, rfl, hb, hg, _⟩
  · exact .inl rfl
  · right
    rcases h2.2 with ⟨rfl, _⟩ | ⟨g', cap', cur', rfl, hb', hg', _⟩
    · intro h; cases h
    · intro h
      have : g = g' := by simpa [Value.ownBlock] using h
      subst this
      rw [hg] at hg'
      cases hg'
      exact he rfl
theorem grownBy_setCell (w : World) (g j : Nat) (u : Value) : w.grownBy (w.setCell ⟨g, j, none⟩ u) (some g) := by
  refine ⟨rfl, rfl, rfl, by simp [World.setCell], fun k hk hne => ?_⟩
  have : g ≠ k := fun h => hne (by rw [h])
  simp [World.setCell, Array.getElem?_modify, this]
/-- What the levels still have to say. -/
def rsP : List Lv → List TS
  | [] => []
  | x :: r => rsP r ++ (flL x.r ++ clT x.c)
theorem rsP_snoc (qs : List Lv) (x : Lv) : rsP (qs ++ [x]) = flL x.r ++ (clT x.c ++ rsP qs) := by
  induction qs with
  | nil => simp [rsP]
  | cons y r ih => rw [List.cons_append, rsP, ih, rsP]; simp
def RelFl (w : World) (l : List VT) (g : Nat) (fv pv : Value) (wr : World) : Prop := ∃ ps ts, PathM w wr pv ps ∧ OwnS w wr fv ts ∧ meP ps ≤ g ∧ ps.length + g ≤ 2 * szL l + 1 + ps.length ∧ Hid (flL l = ts ++ rsP ps)
theorem RelFl.mk {w : World} {l : List VT} {g : Nat} {fv pv : Value} {wr : World} (ps : List Lv) (ts : List TS) (h1 : PathM w wr pv ps) (h2 : OwnS w wr fv ts) (h3 : meP ps ≤ g) (h5 : g ≤ 2 * szL l + 1) (h4 : flL l = ts ++ rsP ps) : RelFl w l g fv pv wr := ⟨ps, ts, h1, h2, h3, by omega, h4⟩
theorem meP_len (ps : List Lv) : ps.length ≤ meP ps := by
  induction ps with
  | nil => simp [meP]
  | cons x r ih => rw [List.length_cons, meP]; omega
theorem PathM.kept {w wr w1 : World} {v : Value} {ps : List Lv} {fv : Value} {ts : List TS} {o : Obj} (h : PathM w wr v ps) (hf : OwnS w wr fv ts) (hg : (wr.alloc o).grownBy w1 fv.ownBlock) : PathM w w1 v ps :=
  ⟨(h.own.alloc o).kept hg (own_ne h.own hf (by decide)), h.vm, (h.bel.alloc h.bel.size o).grown hg (by have := h.bel.size; simp; omega) (fun k hk => (hf.lt k hk).1)⟩
theorem OwnS.kept {w wr w1 : World} {v : Value} {ps : List Lv} {fv : Value} {ts : List TS} {o : Obj} (hf : OwnS w wr fv ts) (h : PathM w wr v ps) (hg : (wr.alloc o).grownBy w1 v.ownBlock) : OwnS w w1 fv ts :=
  World.ownsRow.kept (hf.alloc o) hg (own_ne hf h.own (by decide))
theorem OwnS.taken {w wr w1 : World} {g p b o c m : Nat} {t : TS} {u : Value} {e : Ending} {n cap : Nat} {ps : List Lv} {fv : Value} {ts : List TS} (hf : OwnS w wr fv ts) (h : PathM w wr (.slice (some ⟨g, 0, none⟩) n cap) ps) (T : PostTk g p b o c m t u wr e w1) : OwnS w w1 fv ts := by
  obtain ⟨_, a, o1, o2, _, rfl⟩ := T
  exact ((World.ownsRow.kept hf (grownBy_setCell wr g p _) (own_ne hf h.own (by decide))).alloc o1).alloc o2
theorem OwnS.grow {w w1 : World} {v' : Value} {ts : List TS} {t : TS} (h1 : w1.ownsRow w.heap.size 66 6 v' (ts.length + 1) (tsCs ts ++ tsC t)) : OwnS w w1 v' (ts ++ [t]) := by
  unfold OwnS
  rw [List.length_append, List.length_singleton, tsCs_app, tsCs_one]; exact h1
theorem OwnS.alloc {w wr : World} {v : Value} {ts : List TS} (h : OwnS w wr v ts) (o : Obj) : OwnS w (wr.alloc o) v ts := World.ownsRow.alloc h o
theorem infoT5 : (Tryd.prog.info? 66).map (fun i => (i.zero, i.size, i.bytes)) = some (some (.agg #[.int .i64 0, .string ⟨#[]⟩, .int .i64 0, .int .i64 0, .bool false, .bool false]), 6, 48) := by kernel_rfl
theorem news6s (w : World) (g : Nat) (u0 u1 u2 u3 u4 u5 : Value) (t : TypeId) (hg : g = w.heap.size) : ∀ j x, [u0, u1, u2, u3, u4, u5][j]? = some x → (w.alloc (.cells #[u0, u1, u2, u3, u4, u5] t)).cell? ((⟨g, 0, none⟩ : Addr).add j) = some x := fun j x hx => by
  subst hg
  match j, hx with
  | 0, hx => simp at hx; subst hx; simp [Addr.add]
  | 1, hx => simp at hx; subst hx; simp [Addr.add]
  | 2, hx => simp at hx; subst hx; simp [Addr.add]
  | 3, hx => simp at hx; subst hx; simp [Addr.add]
  | 4, hx => simp at hx; subst hx; simp [Addr.add]
  | 5, hx => simp at hx; subst hx; simp [Addr.add]
theorem one6s (t : TS) : ∀ u ∈ tsC t, u.oneCell' = true := by
  intro u hu
  simp only [tsC, List.mem_cons, List.not_mem_nil, or_false] at hu
  rcases hu with rfl | rfl | rfl | rfl | rfl | rfl <;> rfl
theorem step_append_own {P : Program} {ops : Array Oper} {o : Oper} {a : Act} {w : World} {K : Act → World → Prop} {Q : Exit → Act → World → Prop} {E : Prop}
    (hg : o.guard = none) (s x : Operand) (t : TypeId) (ho : o.op = .call { callee := .builtin .append, args := #[s, x], argTypes := #[t, t] })
    (base : Nat) (e : TypeId) (i : TypeInfo) (z : Value) (size bytes : Nat) (ht : P.underlying t = some (.slice e)) (hi : P.info? e = some i) (hz : i.zero = some z)
    (hsize : i.size = size) (hby : i.bytes = bytes) (hzs : z.cells.size = size) (hsz : 0 < size)
    (v : Value) (n : Nat) (xs : List Value) (hs : a.eval s = v) (hown : w.ownsRow base e size v n xs)
    (ad : Addr) (m c : Nat) (news : List Value) (hx : a.eval x = .slice (some ad) m c) (hl : news.length = m * size) (hnews : ∀ j u, news[j]? = some u → w.cell? (ad.add j) = some u) (h1 : ∀ u ∈ news, u.oneCell' = true)
    (h63 : n + m ≤ maxLen) (hbytes : (n + m) * bytes ≤ 140737488355328) (hbase : base ≤ w.heap.size)
    (h : ∀ v' w', w'.ownsRow base e size v' (n + m) (xs ++ news) → w.grownBy w' v.ownBlock → (v' = .slice none 0 0 ↔ v = .slice none 0 0 ∧ m = 0) → K (a.put o.dst v') w') :
    if Region.wanted o (yielded ops a.tmps) = true then Oper.wp P o a w K Q else E := by
  have hw : Region.wanted o (yielded ops a.tmps) = true := by simp [Region.wanted, hg]
  rw [if_pos hw]
  exact wp_append_own w s x t ho base e i z size bytes ht hi hz hsize hby hzs hsz v n xs hs hown ad m c news hx hl hnews h1 h63 hbytes hbase h
theorem bxk_one {w w1 w5 : World} {fv : Value} {ts : List TS} {cs : Array Value} {T : TypeId} {o : Obj} (h : OwnS w w1 fv ts) (hg : ((w1.alloc (.cells cs T)).alloc o).grownBy w5 fv.ownBlock) : w5.heap[w1.heap.size]? = some (.cells cs T) := by
  have e1 : ((w1.alloc (.cells cs T)).alloc o).heap[w1.heap.size]? = some (.cells cs T) := by
    show ((w1.heap.push _).push _)[w1.heap.size]? = _
    rw [Array.getElem?_push, if_neg (by simp), Array.getElem?_push, if_pos rfl]
  refine (hg.block _ ?_ ?_).trans e1
  · simp; omega
  · intro e; have := (h.lt _ e.symm).2; omega
theorem bxk_at {w : World} {b : Nat} {cs : Array Value} {T : TypeId} (h : w.heap[b]? = some (.cells cs T)) (j : Nat) (hj : j < cs.size) : w.cell? ⟨b, j, none⟩ = some cs[j] := by
  rw [row_blk h, Array.getElem?_eq_getElem hj]
theorem bxk_lt {w : World} {b : Nat} {cs : Array Value} {T : TypeId} (h : w.heap[b]? = some (.cells cs T)) : b < w.heap.size := (Array.getElem?_eq_some_iff.1 h).1
theorem PathM.drew {w wr : World} {v : Value} {ps : List Lv} (h : PathM w wr v ps) : PathM w wr.drew v ps := ⟨h.own, h.vm, h.bel.drew⟩
theorem OwnS.drew {w wr : World} {v : Value} {ts : List TS} (h : OwnS w wr v ts) : OwnS w wr.drew v ts := h
theorem bxk_two {w w5 w6 : World} {v : Value} {ps : List Lv} {b : Nat} {cs : Array Value} {T : TypeId} {o : Obj} (h : PathM w w5 v ps) (hb : w5.heap[b]? = some (.cells cs T)) (hT : T ≠ 62) (hg : (w5.drew.alloc o).grownBy w6 v.ownBlock) : w6.heap[b]? = some (.cells cs T) := by
  have hlt := (Array.getElem?_eq_some_iff.1 hb).1
  have e1 : (w5.drew.alloc o).heap[b]? = some (.cells cs T) := by
    show (w5.heap.push _)[b]? = _
    rw [Array.getElem?_push, if_neg (by omega)]; exact hb
  refine (hg.block _ ?_ ?_).trans e1
  · show b < (w5.heap.push _).size; simp; omega
  · intro e
    rcases h.own.2 with ⟨rfl, _⟩ | ⟨g, cap, cur, rfl, _, hg', _⟩
    · cases e
    · have : b = g := by simpa [Value.ownBlock] using e
      subst this
      rw [hb] at hg'
      cases hg'
      exact hT rfl
theorem bxk_s {w : World} {b : Nat} {t : TS} {u : Value} {T : TypeId} (h : w.heap[b]? = some (.cells #[.int .i64 t.k, .string t.s, .int .i64 t.n, .int .i64 t.d, .bool t.i, .bool t.h, u] T)) : w.cell? ⟨b, 0, none⟩ = some (.int .i64 t.k) ∧ w.cell? ⟨b, 6, none⟩ = some u := ⟨bxk_at h 0 (by simp), bxk_at h 6 (by simp)⟩
end Go.Proofs.YtlkocepoohhglaaDoor
set_option linter.unusedVariables false
set_option linter.unusedSimpArgs false
namespace Go.Proofs.YtlkocepoohhglaaDoor
open Go.RowKit

/-- Values in memory whose blocks are all of F. -/
inductive VMA (F : Nat → Prop) (w : World) : Value → List VT → Prop
  | nil (a : Option Addr) (c : Nat) : VMA F w (.slice a 0 c) []
  | row (b o c : Nat) (l : List VT) (u : Nat → Value) (h0 : 0 < l.length) (hF : F b) (hb : b < w.heap.size) (hc : l.length ≤ c) (hn : l.length ≤ 1000000000) (hm : c ≤ 9223372036854775807)
      (ht : ∀ i v, l[i]? = some v → Six4 w b (o + i * 7) v.t) (hu : ∀ i v, l[i]? = some v → w.cell? ⟨b, o + i * 7 + 6, none⟩ = some (u i))
      (hk : ∀ i v, l[i]? = some v → VMA F w (u i) v.ks) : VMA F w (.slice (some ⟨b, o, none⟩) l.length c) l
theorem VMA.vm {F : Nat → Prop} {w : World} {v : Value} {l : List VT} (h : VMA F w v l) : VM w v l := by
  induction h with
  | nil a c => exact .nil a c
  | row b o c l u h0 hF hb hc hn hm ht hu _ ih => exact .row b o c l u h0 hb hc hn hm ht hu ih
theorem six_of_block {w w' : World} {b o : Nat} {t : TS} (h : Six4 w b o t) (e : w'.heap[b]? = w.heap[b]?) : Six4 w' b o t := by
  have C : ∀ j, w'.cell? ⟨b, j, none⟩ = w.cell? ⟨b, j, none⟩ := fun j => World.cell?_of_block (w := w) e
  exact ⟨(C _).trans h.c0, (C _).trans h.c1, (C _).trans h.c2, (C _).trans h.c3, (C _).trans h.c4, (C _).trans h.c5⟩
theorem VMA.kept {F G : Nat → Prop} {w w' : World} {v : Value} {l : List VT} (h : VMA F w v l) (hs : w.heap.size ≤ w'.heap.size) (hk : ∀ b, F b → b < w.heap.size → G b ∧ w'.heap[b]? = w.heap[b]?) : VMA G w' v l := by
  induction h with
  | nil a c => exact .nil a c
  | row b o c l u h0 hF hb hc hn hm ht hu _ ih =>
    obtain ⟨g, e⟩ := hk b hF hb
    exact .row b o c l u h0 g (Nat.lt_of_lt_of_le hb hs) hc hn hm (fun i v hi => six_of_block (ht i v hi) e) (fun i v hi => (World.cell?_of_block (w := w) (a := ⟨b, o + i * 7 + 6, none⟩) e).trans (hu i v hi)) ih
theorem VM.vma {w : World} {v : Value} {l : List VT} (h : VM w v l) : VMA (fun b => b < w.heap.size) w v l := by
  induction h with
  | nil a c => exact .nil a c
  | row b o c l u h0 hb hc hn hm ht hu _ ih => exact .row b o c l u h0 hb hb hc hn hm ht hu ih
/-- A value of a row: its token, the slice of its kids, what that holds. -/
structure It where
  t : TS
  s : Value
  ks : List VT
def itC (x : It) : List Value := [.int .i64 x.t.k, .string x.t.s, .int .i64 x.t.n, .int .i64 x.t.d, .bool x.t.i, .bool x.t.h, x.s]
def itCs (l : List It) : List Value := l.flatMap itC
theorem itCs_len (l : List It) : (itCs l).length = l.length * 7 := by
  induction l with
  | nil => rfl
  | cons x r ih => unfold itCs at *; rw [List.flatMap_cons, List.length_append, ih]; simp [itC]; omega
theorem itCs_snoc (l : List It) (x : It) : itCs (l ++ [x]) = itCs l ++ itC x := by simp [itCs]
theorem itCs_at (l : List It) : ∀ (i j : Nat) (x : It), l[i]? = some x → j < 7 → (itCs l)[i * 7 + j]? = (itC x)[j]? := by
  induction l with
  | nil => intro i j τ h; cases h
  | cons x r ih =>
    intro i j τ h hj
    have e : itCs (x :: r) = itC x ++ itCs r := rfl
    have l : (itC x).length = 7 := rfl
    rw [e]
    cases i with
    | zero =>
      cases h
      rw [List.getElem?_append_left (by rw [l]; omega)]
      simp
    | succ i =>
      rw [List.getElem?_append_right (by rw [l]; omega), l, ← ih i j τ h hj]
      congr 1; omega
def vtL (l : List It) : List VT := l.map fun x => .mk x.t x.ks
theorem vtL_snoc (l : List It) (x : It) : vtL (l ++ [x]) = vtL l ++ [.mk x.t x.ks] := by simp [vtL]
theorem vtL_len (l : List It) : (vtL l).length = l.length := by simp [vtL]
/-- A row of values that a call owns. -/
def OwnV (w wr : World) (u : Value) (its : List It) : Prop := wr.ownsRow w.heap.size 68 7 u its.length (itCs its)
theorem OwnV.vma {F : Nat → Prop} {w wr : World} {u : Value} {its : List It} (h : OwnV w wr u its) (hl : its.length ≤ 1000000000) (hF : ∀ b, u.ownBlock = some b → F b) (hs : ∀ x ∈ its, VMA F wr x.s x.ks) : VMA F wr u (vtL its) := by
  rcases h.2 with ⟨rfl, h0⟩ | ⟨g, cap, cur, rfl, hb, hg, hn, hm, hsz, ht⟩
  · obtain rfl : its = [] := List.eq_nil_of_length_eq_zero h0
    exact .nil _ _
  · by_cases h0 : its.length = 0
    · obtain rfl : its = [] := List.eq_nil_of_length_eq_zero h0
      exact .nil _ _
    · have C : ∀ (i : Nat) (x : It), its[i]? = some x → ∀ j, j < 7 → wr.cell? ⟨g, 0 + i * 7 + j, none⟩ = (itC x)[j]? := fun i x hi j hj => by
        have hi' := (List.getElem?_eq_some_iff.1 hi).1
        have e := itCs_at its i j x hi hj
        rw [← e, ← ht, List.getElem?_take_of_lt (by omega), row_blk hg, Nat.zero_add, Array.getElem?_toList]
      have IX : ∀ (i : Nat) (v : VT), (vtL its)[i]? = some v → ∃ x : It, its[i]? = some x ∧ v = VT.mk x.t x.ks := fun i v hi => by
        unfold vtL at hi
        rw [List.getElem?_map, Option.map_eq_some_iff] at hi
        obtain ⟨x, h1, h2⟩ := hi
        exact ⟨x, h1, h2.symm⟩
      have R := VMA.row (F := F) (w := wr) g 0 cap (vtL its) (fun i => ((its[i]?).map It.s).getD (.bool false)) (by rw [vtL_len]; omega) (hF g rfl) (Array.getElem?_eq_some_iff.1 hg).1 (by rw [vtL_len]; exact hn) (by rw [vtL_len]; exact hl) (by unfold maxLen at hm; exact hm)
        (fun i v hi => by obtain ⟨x, h1, rfl⟩ := IX i v hi; exact ⟨C i x h1 0 (by omega), C i x h1 1 (by omega), C i x h1 2 (by omega), C i x h1 3 (by omega), C i x h1 4 (by omega), C i x h1 5 (by omega)⟩)
        (fun i v hi => by obtain ⟨x, h1, rfl⟩ := IX i v hi; rw [h1]; exact C i x h1 6 (by omega))
        (fun i v hi => by obtain ⟨x, h1, rfl⟩ := IX i v hi; rw [h1]; exact hs x (List.mem_of_getElem? h1))
      rw [vtL_len] at R
      exact R
/-- A frame: its token, its row, what is in it, what else it has. -/
structure Fm where
  t : TS
  u : Value
  its : List It
  x : List Value
def fmC (f : Fm) : List Value := [.int .i64 f.t.k, .string f.t.s, .int .i64 f.t.n, .int .i64 f.t.d, .bool f.t.i, .bool f.t.h, f.u] ++ f.x
def fmCs (fs : List Fm) : List Value := fs.flatMap fmC
theorem fmCs_snoc (fs : List Fm) (f : Fm) : fmCs (fs ++ [f]) = fmCs fs ++ fmC f := by simp [fmCs]
theorem fmC_len {f : Fm} {sz : Nat} (h : f.x.length + 7 = sz) : (fmC f).length = sz := by simp [fmC]; omega
theorem fmCs_len {sz : Nat} : ∀ (fs : List Fm), (∀ f ∈ fs, f.x.length + 7 = sz) → (fmCs fs).length = fs.length * sz := by
  intro fs
  induction fs with
  | nil => intro _; simp [fmCs]
  | cons x r ih =>
    intro h
    have e : fmCs (x :: r) = fmC x ++ fmCs r := rfl
    rw [e, List.length_append, fmC_len (h x (by simp)), ih (fun f hf => h f (by simp [hf])), List.length_cons, Nat.add_mul]
    omega
/-- No block of the stack's own. -/
def Fre (sv : Value) (fs : List Fm) (b : Nat) : Prop := sv.ownBlock ≠ some b ∧ ∀ f ∈ fs, f.u.ownBlock ≠ some b
def Ap (a b : Fm) : Prop := ∀ g, a.u.ownBlock = some g → b.u.ownBlock ≠ some g
/-- The stack in memory. -/
structure SM (T : TypeId) (sz : Nat) (w wr : World) (sv : Value) (fs : List Fm) : Prop where
  own : wr.ownsRow w.heap.size T sz sv fs.length (fmCs fs)
  wid : ∀ f ∈ fs, f.x.length + 7 = sz
  kid : ∀ f ∈ fs, OwnV w wr f.u f.its
  ap : fs.Pairwise Ap
  sub : ∀ f ∈ fs, ∀ x ∈ f.its, VMA (Fre sv fs) wr x.s x.ks
  bel : Below w.heap.size w wr
variable {T : TypeId} {sz : Nat} {w wr : World} {sv : Value}
theorem gr_low {w w' : World} (h : Below w.heap.size w w') (r : Option Nat) : w.grownBy w' r := ⟨h.os, h.tape, h.output, h.size, fun k hk _ => h.block k hk⟩
theorem none_or (v : Value) : v.ownBlock = none ∨ v.ownBlock ≠ none := by cases hv : v.ownBlock with | none => exact .inl rfl | some k => exact .inr (by simp)
theorem OwnV.low {w wr w1 : World} {u : Value} {its : List It} (h : OwnV w wr u its) (hb : Below wr.heap.size wr w1) : OwnV w w1 u its := World.ownsRow.kept h (gr_low hb none) (none_or u)
theorem SM.low {fs : List Fm} {w1 : World} (h : SM T sz w wr sv fs) (hb : Below wr.heap.size wr w1) : SM T sz w w1 sv fs :=
  ⟨h.own.kept (gr_low hb none) (none_or sv), h.wid, fun f hf => (h.kid f hf).low hb, h.ap, fun f hf x hx => (h.sub f hf x hx).kept hb.size (fun b g hlt => ⟨g, hb.block b hlt⟩), bto h.bel hb⟩
theorem SM.alloc {fs : List Fm} (h : SM T sz w wr sv fs) (o : Obj) : SM T sz w (wr.alloc o) sv fs := h.low (bplus (Below.refl _ _) o)
theorem SM.drew {fs : List Fm} (h : SM T sz w wr sv fs) : SM T sz w wr.drew sv fs := h.low (Below.refl _ _).drew
/-- The innermost. -/
theorem SM.top {qs : List Fm} {f : Fm} (h : SM T sz w wr sv (qs ++ [f])) : ∃ g cap, sv = .slice (some ⟨g, 0, none⟩) (qs.length + 1) cap ∧ w.heap.size ≤ g ∧ g < wr.heap.size ∧ qs.length + 1 ≤ cap ∧ cap ≤ 9223372036854775807 ∧
    (∀ j, wr.frozen? ⟨g, j, none⟩ = false) ∧ Six4 wr g (qs.length * sz) f.t ∧ wr.cell? ⟨g, qs.length * sz + 6, none⟩ = some f.u ∧ ∀ j v, f.x[j]? = some v → wr.cell? ⟨g, qs.length * sz + 7 + j, none⟩ = some v := by
  have h1 := h.own
  have hw := h.wid f (by simp)
  have hq : (fmCs qs).length = qs.length * sz := fmCs_len qs (fun q hq => h.wid q (by simp [hq]))
  rw [List.length_append, List.length_singleton] at h1
  obtain ⟨g, cap, cur, hv, hb, hg, hn, hm, hs, ht⟩ := ownsRow_blk h1 (by omega)
  unfold maxLen at hm
  have C : ∀ j, j < sz → wr.cell? ⟨g, qs.length * sz + j, none⟩ = (fmC f)[j]? := fun j hj => by
    have a0 : (fmCs (qs ++ [f]))[qs.length * sz + j]? = (fmC f)[j]? := by
      rw [fmCs_snoc, List.getElem?_append_right (by omega), hq]; congr 1; omega
    rw [← a0, ← ht, List.getElem?_take_of_lt (by rw [Nat.add_mul]; omega), row_blk hg, Array.getElem?_toList]
  refine ⟨g, cap, hv, hb, (Array.getElem?_eq_some_iff.1 hg).1, hn, hm, fun j => by simp [World.frozen?, hg], ⟨C 0 (by omega), C 1 (by omega), C 2 (by omega), C 3 (by omega), C 4 (by omega), C 5 (by omega)⟩, C 6 (by omega), fun j v hj => ?_⟩
  have hj' := (List.getElem?_eq_some_iff.1 hj).1
  rw [show qs.length * sz + 7 + j = qs.length * sz + (7 + j) by omega, C (7 + j) (by omega)]
  unfold fmC
  rw [List.getElem?_append_right (by simp)]
  simpa using hj
theorem SM.len {fs : List Fm} (h : SM T sz w wr sv fs) : ∃ a c, sv = .slice a fs.length c := by
  rcases h.own.2 with ⟨h1, h2⟩ | ⟨g, cap, cur, h1, _⟩
  · exact ⟨_, _, by rw [h1, h2]⟩
  · exact ⟨_, _, h1⟩
/-- The innermost is taken off: its row is what it is. -/
theorem SM.pop {qs : List Fm} {f : Fm} {g cap : Nat} (h : SM T sz w wr (.slice (some ⟨g, 0, none⟩) (qs.length + 1) cap) (qs ++ [f])) (hT : T ≠ 68) (hl : f.its.length ≤ 1000000000) :
    SM T sz w wr (.slice (some ⟨g, 0, none⟩) qs.length cap) qs ∧ VMA (Fre (.slice (some ⟨g, 0, none⟩) qs.length cap) qs) wr f.u (vtL f.its) := by
  have h1 := h.own
  rw [List.length_append, List.length_singleton, fmCs_snoc] at h1
  have hf : f ∈ qs ++ [f] := by simp
  have hq : ∀ q ∈ qs, q ∈ qs ++ [f] := fun q hq => by simp [hq]
  have W : ∀ b, Fre (.slice (some ⟨g, 0, none⟩) (qs.length + 1) cap) (qs ++ [f]) b → Fre (.slice (some ⟨g, 0, none⟩) qs.length cap) qs b := fun b hb => ⟨hb.1, fun q hqq => hb.2 q (hq q hqq)⟩
  have S : ∀ q ∈ qs ++ [f], ∀ x ∈ q.its, VMA (Fre (.slice (some ⟨g, 0, none⟩) qs.length cap) qs) wr x.s x.ks := fun q hqq x hx => (h.sub q hqq x hx).kept (Nat.le_refl _) (fun b g hlt => ⟨W b g, rfl⟩)
  have P := List.pairwise_append.1 h.ap
  refine ⟨⟨ownsRow_cut h1 (fmCs_len qs fun q hqq => h.wid q (hq q hqq)), fun q hqq => h.wid q (hq q hqq), fun q hqq => h.kid q (hq q hqq), P.1, fun q hqq => S q (hq q hqq), h.bel⟩, (h.kid f hf).vma hl (fun b hb => ⟨?_, fun q hqq e => ?_⟩) (S f hf)⟩
  · intro e
    rcases own_ne h.own (h.kid f hf) hT with e2 | e2
    · cases e2
    · exact e2 (by rw [hb]; exact e)
  · exact (P.2.2 q hqq f (by simp)) b e hb
/-- One more frame. -/
theorem SM.push {fs : List Fm} {f : Fm} {w1 : World} {g n cap : Nat} (h : SM T sz w wr sv fs) (hT : T ≠ 68) (hx : f.x.length + 7 = sz) (hu : f.u = .slice none 0 0) (hi : f.its = [])
    (h1 : w1.ownsRow w.heap.size T sz (.slice (some ⟨g, 0, none⟩) n cap) (fs.length + 1) (fmCs fs ++ fmC f)) (hg : wr.grownBy w1 sv.ownBlock) (hl : sv.ownBlock = some g ∨ g = wr.heap.size) : SM T sz w w1 (.slice (some ⟨g, 0, none⟩) n cap) (fs ++ [f]) := by
  have B : Below w.heap.size w w1 := h.bel.grown hg h.bel.size (fun k hk => (h.own.lt k hk).1)
  have N : ∀ q ∈ fs, q.u.ownBlock = none ∨ q.u.ownBlock ≠ sv.ownBlock := fun q hq => own_ne (h.kid q hq) h.own (Ne.symm hT)
  refine ⟨by rw [List.length_append, List.length_singleton, fmCs_snoc]; exact h1, fun q hq => ?_, fun q hq => ?_, ?_, fun q hq x hxx => ?_, B⟩
  · rcases List.mem_append.1 hq with hq | hq
    · exact h.wid q hq
    · rw [List.mem_singleton] at hq; subst hq; exact hx
  · rcases List.mem_append.1 hq with hq | hq
    · exact World.ownsRow.kept (h.kid q hq) hg (N q hq)
    · rw [List.mem_singleton] at hq; subst hq; unfold OwnV; rw [hu, hi]; exact World.ownsRow_nil _ _ _ _
  · rw [List.pairwise_append]
    refine ⟨h.ap, List.pairwise_singleton _ _, fun a ha b hb k hk => ?_⟩
    rw [List.mem_singleton] at hb; subst hb; rw [hu]; intro e; cases e
  · rcases List.mem_append.1 hq with hq | hq
    · refine (h.sub q hq x hxx).kept hg.size (fun b hb hlt => ⟨⟨?_, fun y hy => ?_⟩, hg.block b hlt (fun e => hb.1 e.symm)⟩)
      · intro e
        have e' : g = b := by simpa [Value.ownBlock] using e
        rcases hl with hl | hl
        · exact hb.1 (by rw [hl, e'])
        · omega
      · rcases List.mem_append.1 hy with hy | hy
        · exact hb.2 y hy
        · rw [List.mem_singleton] at hy; subst hy; rw [hu]; intro e; cases e
    · rw [List.mem_singleton] at hq; subst hq; rw [hi] at hxx; cases hxx
theorem fmCs_put {qs : List Fm} {f : Fm} (hq : ∀ q ∈ qs, q.x.length + 7 = sz) (u' : Value) (its' : List It) : (fmCs (qs ++ [f])).set (qs.length * sz + 6) u' = fmCs (qs ++ [⟨f.t, u', its', f.x⟩]) := by
  rw [fmCs_snoc, fmCs_snoc, List.set_append_right _ _ (by rw [fmCs_len qs hq]; omega), fmCs_len qs hq, Nat.add_sub_cancel_left]
  rfl
/-- One more value in the innermost: its row has grown, and is put. -/
theorem SM.add {qs : List Fm} {f : Fm} {x : It} {w1 : World} {G C g n cap : Nat} (h : SM T sz w wr (.slice (some ⟨G, 0, none⟩) (qs.length + 1) C) (qs ++ [f])) (hT : T ≠ 68)
    (hs : VMA (Fre (.slice (some ⟨G, 0, none⟩) (qs.length + 1) C) (qs ++ [f])) wr x.s x.ks)
    (h1 : w1.ownsRow w.heap.size 68 7 (.slice (some ⟨g, 0, none⟩) n cap) (f.its.length + 1) (itCs f.its ++ itC x)) (hg : wr.grownBy w1 f.u.ownBlock) (hl : f.u.ownBlock = some g ∨ g = wr.heap.size) :
    SM T sz w (w1.setCell ⟨G, qs.length * sz + 6, none⟩ (.slice (some ⟨g, 0, none⟩) n cap)) (.slice (some ⟨G, 0, none⟩) (qs.length + 1) C) (qs ++ [⟨f.t, .slice (some ⟨g, 0, none⟩) n cap, f.its ++ [x], f.x⟩]) := by
  have hf : f ∈ qs ++ [f] := by simp
  have hq : ∀ q ∈ qs, q ∈ qs ++ [f] := fun q hq => by simp [hq]
  have P := List.pairwise_append.1 h.ap
  have GB := h.own.lt G rfl
  have B1 : Below w.heap.size w w1 := h.bel.grown hg h.bel.size (fun k hk => (World.ownsRow.lt (h.kid f hf) k hk).1)
  have B2 := B1.setCell (p := ⟨G, qs.length * sz + 6, none⟩) GB.1 (.slice (some ⟨g, 0, none⟩) n cap)
  have G2 := grownBy_setCell w1 G (qs.length * sz + 6) (.slice (some ⟨g, 0, none⟩) n cap)
  have O1 := h.own.kept hg (own_ne h.own (h.kid f hf) hT)
  rw [List.length_append, List.length_singleton] at O1
  have O2 := ownsRow_set O1 (qs.length * sz + 6) (.slice (some ⟨g, 0, none⟩) n cap)
  rw [fmCs_put (fun q hqq => h.wid q (hq q hqq)) _ (f.its ++ [x])] at O2
  have NE : ∀ {e : TypeId} {k : Nat} {v : Value} {n : Nat} {xs : List Value}, w1.ownsRow w.heap.size e k v n xs → e ≠ T → v.ownBlock = none ∨ v.ownBlock ≠ some G := fun {e k v n xs} hr he => own_ne hr O1 he
  have KQ : ∀ q ∈ qs, OwnV w w1 q.u q.its := fun q hqq => World.ownsRow.kept (h.kid q (hq q hqq)) hg (by
    cases hb : q.u.ownBlock with
    | none => exact .inl rfl
    | some k => exact .inr (fun e => (P.2.2 q hqq f (by simp)) k hb e.symm))
  refine ⟨by rw [List.length_append, List.length_singleton]; exact O2, fun q hqq => ?_, fun q hqq => ?_, ?_, ?_, B2⟩
  · rcases List.mem_append.1 hqq with hqq | hqq
    · exact h.wid q (hq q hqq)
    · rw [List.mem_singleton] at hqq; subst hqq; exact h.wid f hf
  · rcases List.mem_append.1 hqq with hqq | hqq
    · exact World.ownsRow.kept (KQ q hqq) G2 (NE (KQ q hqq) (Ne.symm hT))
    · rw [List.mem_singleton] at hqq; subst hqq
      have h1' : OwnV w w1 (.slice (some ⟨g, 0, none⟩) n cap) (f.its ++ [x]) := by unfold OwnV; rw [List.length_append, List.length_singleton, itCs_snoc]; exact h1
      exact World.ownsRow.kept h1' G2 (NE h1' (Ne.symm hT))
  · rw [List.pairwise_append]
    refine ⟨P.1, List.pairwise_singleton _ _, fun a ha b hb k hk => ?_⟩
    rw [List.mem_singleton] at hb
    subst hb
    intro e
    have e' : g = k := by simpa [Value.ownBlock] using e
    rcases hl with hl | hl
    · exact (P.2.2 a ha f (by simp)) k hk (by rw [hl, e'])
    · have := World.ownsRow.lt (h.kid a (hq a ha)) k hk; omega
  · have SB : ∀ {v : Value} {l : List VT}, VMA (Fre (.slice (some ⟨G, 0, none⟩) (qs.length + 1) C) (qs ++ [f])) wr v l → VMA (Fre (.slice (some ⟨G, 0, none⟩) (qs.length + 1) C) (qs ++ [⟨f.t, .slice (some ⟨g, 0, none⟩) n cap, f.its ++ [x], f.x⟩])) (w1.setCell ⟨G, qs.length * sz + 6, none⟩ (.slice (some ⟨g, 0, none⟩) n cap)) v l := fun {v l} hv => by
      refine hv.kept (Nat.le_trans hg.size G2.size) (fun b hb hlt => ⟨⟨hb.1, fun y hy => ?_⟩, (G2.block b (Nat.lt_of_lt_of_le hlt hg.size) (fun e => hb.1 e.symm)).trans (hg.block b hlt (fun e => hb.2 f hf e.symm))⟩)
      rcases List.mem_append.1 hy with hy | hy
      · exact hb.2 y (hq y hy)
      · rw [List.mem_singleton] at hy; subst hy
        intro e
        have e' : g = b := by simpa [Value.ownBlock] using e
        rcases hl with hl | hl
        · exact hb.2 f hf (by rw [hl, e'])
        · omega
    intro q hqq y hy
    rcases List.mem_append.1 hqq with hqq | hqq
    · exact SB (h.sub q (hq q hqq) y hy)
    · rw [List.mem_singleton] at hqq; subst hqq
      rcases List.mem_append.1 hy with hy | hy
      · exact SB (h.sub f hf y hy)
      · rw [List.mem_singleton] at hy; subst hy; exact SB hs
/-- One frame alone. -/
theorem SM.one (w : World) (f : Fm) (hx : f.x.length + 7 = sz) (hs : 0 < sz) (hu : f.u = .slice none 0 0) (hi : f.its = []) : SM T sz w (w.alloc (.cells (fmC f).toArray T)) (.slice (some ⟨w.heap.size, 0, none⟩) 1 1) [f] := by
  have l0 : (fmC f).length = sz := fmC_len hx
  refine ⟨⟨by simp [fmCs, l0], .inr ⟨w.heap.size, 1, (fmC f).toArray, rfl, Nat.le_refl _, heap_alloc_new w _, Nat.le_refl _, by decide, by simp [l0], ?_⟩⟩, fun q hq => ?_, fun q hq => ?_, List.pairwise_singleton _ _, fun q hq x hxx => ?_, bplus (Below.refl _ _) _⟩
  · have e : fmCs [f] = fmC f := by simp [fmCs]
    rw [e]
    exact List.take_of_length_le (by simp [l0])
  · rw [List.mem_singleton] at hq; subst hq; exact hx
  · rw [List.mem_singleton] at hq; subst hq; unfold OwnV; rw [hu, hi]; exact World.ownsRow_nil _ _ _ _
  · rw [List.mem_singleton] at hq; subst hq; rw [hi] at hxx; cases hxx
theorem infoV5 : (Tryd.prog.info? 68).map (fun i => (i.zero, i.size, i.bytes)) = some (some (.agg #[.int .i64 0, .string ⟨#[]⟩, .int .i64 0, .int .i64 0, .bool false, .bool false, .slice none 0 0]), 7, 72) := by kernel_rfl
end Go.Proofs.YtlkocepoohhglaaDoor
set_option linter.unusedVariables false
set_option linter.unusedSimpArgs false
namespace Go.Proofs.YtlkocepoohhglaaDoor
open Go.RowKit

/-- What a cell holds. -/
def hdr (w : World) (a : Addr) : Value := (w.cell? a).getD undef
theorem hdr_at {w : World} {a : Addr} {v : Value} (h : w.cell? a = some v) : hdr w a = v := by unfold hdr; rw [h]; rfl
theorem hdr_of {w : World} {a : Addr} {v : Value} (h : w.cell? a = some v) : w.cell? a = some (hdr w a) := by rw [hdr_at h]; exact h
/-- The row of the innermost is written anew. -/
theorem SM.redo {T : TypeId} {sz : Nat} {w wr w1 : World} {sv : Value} {qs : List Fm} {f : Fm} (h : SM T sz w wr sv (qs ++ [f])) (hT : T ≠ 68) (its2 : List It) (h1 : OwnV w w1 f.u its2) (hg : wr.grownBy w1 f.u.ownBlock)
    (hs : ∀ x ∈ its2, VMA (Fre sv (qs ++ [f])) wr x.s x.ks) : SM T sz w w1 sv (qs ++ [⟨f.t, f.u, its2, f.x⟩]) := by
  have hf : f ∈ qs ++ [f] := by simp
  have hq : ∀ q ∈ qs, q ∈ qs ++ [f] := fun q hq => by simp [hq]
  have P := List.pairwise_append.1 h.ap
  have B1 : Below w.heap.size w w1 := h.bel.grown hg h.bel.size (fun k hk => (World.ownsRow.lt (h.kid f hf) k hk).1)
  have O1 := h.own.kept hg (own_ne h.own (h.kid f hf) hT)
  have F : ∀ {b : Nat}, Fre sv (qs ++ [f]) b → Fre sv (qs ++ [⟨f.t, f.u, its2, f.x⟩]) b := fun {b} hb => ⟨hb.1, fun y hy => by
    rcases List.mem_append.1 hy with hy | hy
    · exact hb.2 y (hq y hy)
    · rw [List.mem_singleton] at hy; subst hy; exact hb.2 f hf⟩
  have SB : ∀ {v : Value} {l : List VT}, VMA (Fre sv (qs ++ [f])) wr v l → VMA (Fre sv (qs ++ [⟨f.t, f.u, its2, f.x⟩])) w1 v l := fun {v l} hv => hv.kept hg.size (fun b hb hlt => ⟨F hb, hg.block b hlt (fun e => hb.2 f hf e.symm)⟩)
  have E : fmCs (qs ++ [⟨f.t, f.u, its2, f.x⟩]) = fmCs (qs ++ [f]) := by rw [fmCs_snoc, fmCs_snoc]; rfl
  refine ⟨by rw [E, List.length_append, List.length_singleton]; rw [List.length_append, List.length_singleton] at O1; exact O1, fun q hqq => ?_, fun q hqq => ?_, ?_, fun q hqq x hx => ?_, B1⟩
  · rcases List.mem_append.1 hqq with hqq | hqq
    · exact h.wid q (hq q hqq)
    · rw [List.mem_singleton] at hqq; subst hqq; exact h.wid f hf
  · rcases List.mem_append.1 hqq with hqq | hqq
    · exact World.ownsRow.kept (h.kid q (hq q hqq)) hg (by
        cases hb : q.u.ownBlock with
        | none => exact .inl rfl
        | some k => exact .inr (fun e => (P.2.2 q hqq f (by simp)) k hb e.symm))
    · rw [List.mem_singleton] at hqq; subst hqq; exact h1
  · rw [List.pairwise_append]
    refine ⟨P.1, List.pairwise_singleton _ _, fun a ha b hb k hk => ?_⟩
    rw [List.mem_singleton] at hb
    subst hb
    exact (P.2.2 a ha f (by simp)) k hk
  · rcases List.mem_append.1 hqq with hqq | hqq
    · exact SB (h.sub q (hq q hqq) x hx)
    · rw [List.mem_singleton] at hqq; subst hqq; exact SB (hs x hx)
theorem newV (w : World) (g : Nat) (u0 u1 u2 u3 u4 u5 u6 : Value) (t : TypeId) (hg : g = w.heap.size) : ∀ j x, [u0, u1, u2, u3, u4, u5, u6][j]? = some x → (w.alloc (.cells #[u0, u1, u2, u3, u4, u5, u6] t)).cell? ((⟨g, 0, none⟩ : Addr).add j) = some x := fun j x hx => by
  subst hg
  match j, hx with
  | 0, hx => simp at hx; subst hx; simp [Addr.add]
  | 1, hx => simp at hx; subst hx; simp [Addr.add]
  | 2, hx => simp at hx; subst hx; simp [Addr.add]
  | 3, hx => simp at hx; subst hx; simp [Addr.add]
  | 4, hx => simp at hx; subst hx; simp [Addr.add]
  | 5, hx => simp at hx; subst hx; simp [Addr.add]
  | 6, hx => simp at hx; subst hx; simp [Addr.add]
theorem one7 (x : It) (hs : x.s.oneCell' = true) : ∀ u ∈ itC x, u.oneCell' = true := by
  intro u hu
  simp only [itC, List.mem_cons, List.not_mem_nil, or_false] at hu
  rcases hu with rfl | rfl | rfl | rfl | rfl | rfl | rfl
  all_goals first | rfl | exact hs
def zIt : It := ⟨zT 0, .slice none 0 0, []⟩
/-- A row of values as it lies, its last one about to be written. -/
theorem OwnV.last {w wr : World} {g n cap : Nat} {its : List It} {y : It} (h : OwnV w wr (.slice (some ⟨g, 0, none⟩) n cap) (its ++ [y])) :
    ∀ j, j < 7 → wr.cell? ⟨g, its.length * 7 + j, none⟩ = (itC y)[j]? ∧ wr.frozen? ⟨g, its.length * 7 + j, none⟩ = false := by
  intro j hj
  unfold OwnV at h
  rw [List.length_append, List.length_singleton, itCs_snoc] at h
  obtain ⟨g', cap', cur, hv, hb, hg, hn, hm, hs, ht⟩ := ownsRow_blk h (by omega)
  cases hv
  have a0 : (itCs its ++ itC y)[its.length * 7 + j]? = (itC y)[j]? := by
    rw [List.getElem?_append_right (by rw [itCs_len]; omega), itCs_len]; congr 1; omega
  exact ⟨by rw [← a0, ← ht, List.getElem?_take_of_lt (by rw [Nat.add_mul]; omega), row_blk hg, Array.getElem?_toList], by simp [World.frozen?, hg]⟩
theorem itCs_put (its : List It) (x y : It) : (((((((itCs (its ++ [y])).set (its.length * 7) (.int .i64 x.t.k)).set (its.length * 7 + 1) (.string x.t.s)).set (its.length * 7 + 2) (.int .i64 x.t.n)).set (its.length * 7 + 3) (.int .i64 x.t.d)).set (its.length * 7 + 4) (.bool x.t.i)).set (its.length * 7 + 5) (.bool x.t.h)).set (its.length * 7 + 6) x.s = itCs (its ++ [x]) := by
  rw [itCs_snoc, itCs_snoc]
  have e : ∀ (j : Nat) (v : Value) (r : List Value), (itCs its ++ r).set (its.length * 7 + j) v = itCs its ++ r.set j v := fun j v r => by
    rw [List.set_append_right _ _ (by rw [itCs_len]; omega), itCs_len, Nat.add_sub_cancel_left]
  have e0 := e 0 (.int .i64 x.t.k) (itC y)
  rw [Nat.add_zero] at e0
  rw [e0, e 1, e 2, e 3, e 4, e 5, e 6]
  rfl
/-- The last value of the innermost's row is written. -/
theorem SM.put7 {T : TypeId} {sz : Nat} {w wr : World} {sv : Value} {qs : List Fm} {t : TS} {xx : List Value} {g n cap : Nat} {its : List It} {y : It} (h : SM T sz w wr sv (qs ++ [⟨t, .slice (some ⟨g, 0, none⟩) n cap, its ++ [y], xx⟩])) (hT : T ≠ 68) (x : It)
    (hs : VMA (Fre sv (qs ++ [⟨t, .slice (some ⟨g, 0, none⟩) n cap, its ++ [y], xx⟩])) wr x.s x.ks) :
    SM T sz w (((((((wr.setCell ⟨g, its.length * 7, none⟩ (.int .i64 x.t.k)).setCell ⟨g, its.length * 7 + 1, none⟩ (.string x.t.s)).setCell ⟨g, its.length * 7 + 2, none⟩ (.int .i64 x.t.n)).setCell ⟨g, its.length * 7 + 3, none⟩ (.int .i64 x.t.d)).setCell ⟨g, its.length * 7 + 4, none⟩ (.bool x.t.i)).setCell ⟨g, its.length * 7 + 5, none⟩ (.bool x.t.h)).setCell ⟨g, its.length * 7 + 6, none⟩ x.s) sv (qs ++ [⟨t, .slice (some ⟨g, 0, none⟩) n cap, its ++ [x], xx⟩]) := by
  have K := h.kid _ (List.mem_append_right _ (List.mem_singleton.2 rfl))
  have hn : (its ++ [y]).length = n := by
    have K' : wr.ownsRow w.heap.size 68 7 (.slice (some ⟨g, 0, none⟩) n cap) (its ++ [y]).length (itCs (its ++ [y])) := K
    obtain ⟨g', cap', cur, hv, _⟩ := ownsRow_blk K' (by simp)
    cases hv; rfl
  subst hn
  have K' : wr.ownsRow w.heap.size 68 7 (.slice (some ⟨g, 0, none⟩) (its ++ [y]).length cap) (its ++ [y]).length (itCs (its ++ [y])) := K
  have r := ownsRow_set (ownsRow_set (ownsRow_set (ownsRow_set (ownsRow_set (ownsRow_set (ownsRow_set K' (its.length * 7) (.int .i64 x.t.k)) (its.length * 7 + 1) (.string x.t.s)) (its.length * 7 + 2) (.int .i64 x.t.n)) (its.length * 7 + 3) (.int .i64 x.t.d)) (its.length * 7 + 4) (.bool x.t.i)) (its.length * 7 + 5) (.bool x.t.h)) (its.length * 7 + 6) x.s
  rw [itCs_put] at r
  have gt : ∀ {a b c : World}, a.grownBy b (some g) → b.grownBy c (some g) → a.grownBy c (some g) := fun {a b c} p q => ⟨q.os.trans p.os, q.tape.trans p.tape, q.output.trans p.output, Nat.le_trans p.size q.size, fun k hk hne => (q.block k (Nat.lt_of_lt_of_le hk p.size) hne).trans (p.block k hk hne)⟩
  have G7 := gt (gt (gt (gt (gt (gt (grownBy_setCell wr g (its.length * 7) (.int .i64 x.t.k)) (grownBy_setCell _ g (its.length * 7 + 1) (.string x.t.s))) (grownBy_setCell _ g (its.length * 7 + 2) (.int .i64 x.t.n))) (grownBy_setCell _ g (its.length * 7 + 3) (.int .i64 x.t.d))) (grownBy_setCell _ g (its.length * 7 + 4) (.bool x.t.i))) (grownBy_setCell _ g (its.length * 7 + 5) (.bool x.t.h))) (grownBy_setCell _ g (its.length * 7 + 6) x.s)
  refine h.redo hT (its ++ [x]) ?_ G7 (fun z hz => ?_)
  · have el : (its ++ [x]).length = (its ++ [y]).length := by simp
    unfold OwnV
    rw [el]
    exact r
  · rcases List.mem_append.1 hz with hz | hz
    · exact h.sub _ (List.mem_append_right _ (List.mem_singleton.2 rfl)) z (List.mem_append_left _ hz)
    · rw [List.mem_singleton] at hz; subst hz; exact hs
end Go.Proofs.YtlkocepoohhglaaDoor
set_option linter.unusedVariables false
set_option linter.unusedSimpArgs false
namespace Go.Proofs.YtlkocepoohhglaaDoor
open Go.RowKit

theorem setCell_comm (w : World) {a b : Nat} (h : a ≠ b) (i j : Nat) (u v : Value) : (w.setCell ⟨a, i, none⟩ u).setCell ⟨b, j, none⟩ v = (w.setCell ⟨b, j, none⟩ v).setCell ⟨a, i, none⟩ u := by
  unfold World.setCell
  congr 1
  apply Array.ext_getElem?
  intro k
  simp only [Array.getElem?_modify]
  by_cases h1 : b = k
  · subst h1
    simp [h]
  · simp [h1]
def set7 (w : World) (g p : Nat) (x : It) : World := ((((((w.setCell ⟨g, p, none⟩ (.int .i64 x.t.k)).setCell ⟨g, p + 1, none⟩ (.string x.t.s)).setCell ⟨g, p + 2, none⟩ (.int .i64 x.t.n)).setCell ⟨g, p + 3, none⟩ (.int .i64 x.t.d)).setCell ⟨g, p + 4, none⟩ (.bool x.t.i)).setCell ⟨g, p + 5, none⟩ (.bool x.t.h)).setCell ⟨g, p + 6, none⟩ x.s
theorem set7_comm (w : World) {g b : Nat} (h : g ≠ b) (p j : Nat) (x : It) (v : Value) : (set7 w g p x).setCell ⟨b, j, none⟩ v = set7 (w.setCell ⟨b, j, none⟩ v) g p x := by
  unfold set7
  rw [setCell_comm _ h, setCell_comm _ h, setCell_comm _ h, setCell_comm _ h, setCell_comm _ h, setCell_comm _ h, setCell_comm _ h]
theorem set_far {w : World} {a b i j : Nat} {v : Value} (h : b ≠ a) : (w.setCell ⟨a, i, none⟩ v).cell? ⟨b, j, none⟩ = w.cell? ⟨b, j, none⟩ := World.cell?_of_block (w := w) (Below.heap_setCell w ⟨a, i, none⟩ v b h)
theorem ne_blk {w : World} {base : Nat} {e T : TypeId} {sz b : Nat} {v : Value} {n : Nat} {xs : List Value} {cs : Array Value} {q : Nat × Nat} (h : w.ownsRow base e sz v n xs) (hb : w.heap[b]? = some (.cells cs T q)) (hT : T ≠ e) : some b ≠ v.ownBlock := by
  rcases h.2 with ⟨rfl, _⟩ | ⟨g, cap, cur, rfl, _, hg, _⟩
  · intro e; cases e
  · intro e
    have : b = g := by simpa [Value.ownBlock] using e
    subst this
    rw [hb] at hg
    cases hg
    exact hT rfl
theorem SM.blk {T : TypeId} {sz : Nat} {w wr : World} {G n cap : Nat} {fs : List Fm} (h : SM T sz w wr (.slice (some ⟨G, 0, none⟩) n cap) fs) : ∃ cs, wr.heap[G]? = some (.cells cs T (0, 0)) := by
  rcases h.own.2 with ⟨h1, _⟩ | ⟨g, cap, cur, h1, _, hg, _⟩
  · cases h1
  · cases h1; exact ⟨cur, hg⟩
/-- A block is as it was behind an append to another row. -/
theorem far2 {w w5 : World} {o : Obj} {v : Value} {b : Nat} (hb : b < w.heap.size) (hne : some b ≠ v.ownBlock) (hg : (w.drew.alloc o).grownBy w5 v.ownBlock) : w5.heap[b]? = w.heap[b]? :=
  (hg.block b (by simp; omega) hne).trans (Below.heap_alloc w.drew o b hb)
theorem OwnV.slice {w wr : World} {u : Value} {its : List It} (h : OwnV w wr u its) : ∃ a c, u = .slice a its.length c := by
  rcases h.2 with ⟨h1, h2⟩ | ⟨g, cap, cur, h1, _⟩
  · exact ⟨_, _, by rw [h1, h2]⟩
  · exact ⟨_, _, h1⟩
/-- The values of a frame's row, as one of them is told of the world behind. -/
theorem VMA.grow {wc w5 : World} {G n cap g cp p : Nat} {qs : List Fm} {t : TS} {a1 : Option Addr} {c1 : Nat} {its its' : List It} {xx : List Value} {v : Value} {l : List VT} {o : Obj} {k : Nat} {u : Value}
    (hx : VMA (Fre (.slice (some ⟨G, 0, none⟩) n cap) (qs ++ [⟨t, .slice a1 its.length c1, its, xx⟩])) wc v l) (hg : (wc.drew.alloc o).grownBy w5 (Value.slice a1 its.length c1).ownBlock) (hl : (Value.slice a1 its.length c1).ownBlock = some g ∨ g = wc.heap.size + 1) :
    VMA (Fre (.slice (some ⟨G, 0, none⟩) n cap) (qs ++ [⟨t, .slice (some ⟨g, 0, none⟩) k cp, its', xx⟩])) (w5.setCell ⟨G, p, none⟩ u) v l :=
  hx.kept (by have := hg.size; simp at this; simp [World.setCell]; omega) (fun b hb hlt => ⟨⟨hb.1, fun y hy => by
    rcases List.mem_append.1 hy with hy | hy
    · exact hb.2 y (List.mem_append_left _ hy)
    · rw [List.mem_singleton] at hy
      subst hy
      intro e
      have e' : g = b := by simpa [Value.ownBlock] using e
      rcases hl with hl | hl
      · exact hb.2 _ (List.mem_append_right _ (List.mem_singleton.2 rfl)) (by rw [← e']; exact hl)
      · omega⟩, (Below.heap_setCell w5 ⟨G, p, none⟩ _ b (fun e => hb.1 (by rw [e]; rfl))).trans (far2 hlt (fun e => hb.2 _ (List.mem_append_right _ (List.mem_singleton.2 rfl)) e.symm) hg)⟩)
/-- Behind an append of nothing yet. -/
structure Leaf (T : TypeId) (sz : Nat) (w w5 : World) (G m cap : Nat) (qs : List Fm) (t : TS) (a1 : Option Addr) (c1 : Nat) (its : List It) (xx : List Value) (x : It) (g cp : Nat) : Prop where
  k5 : w5.cell? ⟨G, m * sz + 6, none⟩ = some (.slice a1 its.length c1)
  f5 : w5.frozen? ⟨G, m * sz + 6, none⟩ = false
  ne : g ≠ G
  q : ∀ j, j < 7 → w5.cell? ⟨g, its.length * 7 + j, none⟩ = (itC zIt)[j]? ∧ w5.frozen? ⟨g, its.length * 7 + j, none⟩ = false
  fb : SM T sz w (set7 (w5.setCell ⟨G, m * sz + 6, none⟩ (.slice (some ⟨g, 0, none⟩) (its.length + 1) cp)) g (its.length * 7) x) (.slice (some ⟨G, 0, none⟩) (m + 1) cap) (qs ++ [⟨t, .slice (some ⟨g, 0, none⟩) (its.length + 1) cp, its ++ [x], xx⟩])
theorem Leaf.fa {T : TypeId} {sz : Nat} {w w5 : World} {G m cap : Nat} {qs : List Fm} {t : TS} {a1 : Option Addr} {c1 : Nat} {its : List It} {xx : List Value} {x : It} {g cp : Nat} (h : Leaf T sz w w5 G m cap qs t a1 c1 its xx x g cp) :
    SM T sz w ((set7 w5 g (its.length * 7) x).setCell ⟨G, m * sz + 6, none⟩ (.slice (some ⟨g, 0, none⟩) (its.length + 1) cp)) (.slice (some ⟨G, 0, none⟩) (m + 1) cap) (qs ++ [⟨t, .slice (some ⟨g, 0, none⟩) (its.length + 1) cp, its ++ [x], xx⟩]) := by
  rw [set7_comm _ h.ne]; exact h.fb
theorem SM.leaf {T : TypeId} {sz : Nat} {w wc w5 : World} {G m cap : Nat} {qs : List Fm} {t : TS} {a1 : Option Addr} {c1 : Nat} {its : List It} {xx : List Value} (h : SM T sz w wc (.slice (some ⟨G, 0, none⟩) (m + 1) cap) (qs ++ [⟨t, .slice a1 its.length c1, its, xx⟩])) (hm : qs.length = m) (hT : T ≠ 68) (x : It)
    (hs : VMA (Fre (.slice (some ⟨G, 0, none⟩) (m + 1) cap) (qs ++ [⟨t, .slice a1 its.length c1, its, xx⟩])) wc x.s x.ks) (o : Obj) (g cp : Nat)
    (hown : w5.ownsRow w.heap.size 68 7 (.slice (some ⟨g, 0, none⟩) (its.length + 1) cp) (its.length + 1) (itCs its ++ itC zIt)) (hg : (wc.drew.alloc o).grownBy w5 (Value.slice a1 its.length c1).ownBlock) (hl : (Value.slice a1 its.length c1).ownBlock = some g ∨ g = wc.heap.size + 1) :
    Leaf T sz w w5 G m cap qs t a1 c1 its xx x g cp := by
  subst hm
  obtain ⟨G', cap', hv', hG1, hG2, -, -, hfz, -, u6, -⟩ := h.top
  obtain ⟨rfl, rfl⟩ : G = G' ∧ cap = cap' := by cases hv'; exact ⟨rfl, rfl⟩
  obtain ⟨cs, hGb⟩ := h.blk
  have OK := h.kid _ (List.mem_append_right _ (List.mem_singleton.2 rfl))
  have NG := ne_blk OK hGb hT
  have e5 := far2 hG2 NG hg
  have SZ := (h.drew.alloc o).add (x := zIt) hT (.nil _ _) hown hg (by simpa using hl)
  have OWN : OwnV w w5 (.slice (some ⟨g, 0, none⟩) (its.length + 1) cp) (its ++ [zIt]) := by unfold OwnV; rw [List.length_append, List.length_singleton, itCs_snoc]; exact hown
  have ne : g ≠ G := by
    intro e
    subst e
    have := ne_blk OWN (e5.trans hGb) hT
    exact this rfl
  refine ⟨(World.cell?_of_block (w := wc) (a := ⟨G, qs.length * sz + 6, none⟩) e5).trans u6, (World.frozen?_of_block (w := wc) (a := ⟨G, qs.length * sz + 6, none⟩) e5).trans (hfz _), ne, OwnV.last OWN, ?_⟩
  exact SZ.put7 hT x (hs.grow hg hl)
end Go.Proofs.YtlkocepoohhglaaDoor
