/-
  The tokens of component values: by the program.
  May these component values be: by the reference.
  The tokens of component values: by the reference.
-/
import Derived.Test.YtbdacepomdlcbaaGreatDoorJA
import Derived.Laws.AppendOwnNone
import Derived.Deep.RegionHeld3
set_option linter.unusedVariables false
set_option linter.unusedSimpArgs false
namespace Go.Proofs.YtbdacepomdlcbaaGreatDoor
open Go.RowKit

/-- A token's cells. -/
def tsC (t : TS) : List Value := [.int .i64 t.k, .string t.s, .int .i64 t.n, .int .i64 t.d, .bool t.i, .bool t.h]
def tsCs (ts : List TS) : List Value := ts.flatMap tsC
theorem tsCs_len (ts : List TS) : (tsCs ts).length = ts.length * 6 := by
  induction ts with
  | nil => rfl
  | cons x r ih => unfold tsCs at *; rw [List.flatMap_cons, List.length_append, ih]; simp [tsC]; omega
theorem tsCs_app (a b : List TS) : tsCs (a ++ b) = tsCs a ++ tsCs b := by simp [tsCs]
theorem tsCs_one (t : TS) : tsCs [t] = tsC t := by simp [tsCs]
theorem tsCs_at (ts : List TS) : ∀ (i j : Nat) (t : TS), ts[i]? = some t → j < 6 → (tsCs ts)[i * 6 + j]? = (tsC t)[j]? := by
  induction ts with
  | nil => intro i j τ h; cases h
  | cons x r ih =>
    intro i j τ h hj
    have e : tsCs (x :: r) = tsC x ++ tsCs r := rfl
    have l : (tsC x).length = 6 := rfl
    rw [e]
    cases i with
    | zero =>
      cases h
      rw [List.getElem?_append_left (by rw [l]; omega)]
      simp
    | succ i =>
      rw [List.getElem?_append_right (by rw [l]; omega), l, ← ih i j τ h hj]
      congr 1; omega
/-- An own row of tokens. -/
def OwnS (w wr : World) (v : Value) (ts : List TS) : Prop := wr.ownsRow w.heap.size 41 6 v ts.length (tsCs ts)
theorem OwnS.toks {w wr : World} {v : Value} {ts : List TS} (h : OwnS w wr v ts) (hl : ts.length ≤ 1000000000000) : Toks4 wr v ts := by
  rcases h.2 with ⟨rfl, h0⟩ | ⟨g, cap, cur, rfl, hb, hg, hn, hm, hs, ht⟩
  · exact .inl ⟨_, _, rfl, List.eq_nil_of_length_eq_zero h0⟩
  · by_cases h0 : ts.length = 0
    · obtain rfl : ts = [] := List.eq_nil_of_length_eq_zero h0
      exact .inl ⟨_, _, rfl, rfl⟩
    · refine .inr ⟨g, 0, ts.length, cap, rfl, rfl, by omega, (Array.getElem?_eq_some_iff.1 hg).1, hn, hl, by unfold maxLen at hm; exact hm, fun i t hi => ?_⟩
      have hi' := (List.getElem?_eq_some_iff.1 hi).1
      have C : ∀ j, j < 6 → wr.cell? ⟨g, 0 + i * 6 + j, none⟩ = (tsC t)[j]? := fun j hj => by
        have e := tsCs_at ts i j t hi hj
        rw [← e, ← ht, List.getElem?_take_of_lt (by omega), row_blk hg, Nat.zero_add, Array.getElem?_toList]
      exact ⟨C 0 (by omega), C 1 (by omega), C 2 (by omega), C 3 (by omega), C 4 (by omega), C 5 (by omega)⟩
theorem own_ne {w : World} {b1 b2 : Nat} {e1 e2 : TypeId} {s1 s2 : Nat} {v1 v2 : Value} {n1 n2 : Nat} {xs1 xs2 : List Value} (h1 : w.ownsRow b1 e1 s1 v1 n1 xs1) (h2 : w.ownsRow b2 e2 s2 v2 n2 xs2) (he : e1 ≠ e2) : v1.ownBlock = none ∨ v1.ownBlock ≠ v2.ownBlock := by
  rcases h1.2 with ⟨rfl, _⟩ | ⟨g, cap, cur, rfl, hb, hg, _⟩
  · exact .inl rfl
  · right
    rcases h2.2 with ⟨rfl, _⟩ | ⟨g', cap', cur', rfl, hb', hg', _⟩
    · intro h; cases h
    · intro h
      have : g = g' := by simpa [Value.ownBlock] using h
      subst this
      rw [hg] at hg'
      cases hg'
      exact he rfl
theorem grownBy_setCell (w : World) (g j : Nat) (u : Value) : w.grownBy (w.setCell ⟨g, j, none⟩ u) (some g) := by
  refine ⟨rfl, rfl, rfl, by simp [World.setCell], fun k hk hne => ?_⟩
  have : g ≠ k := fun h => hne (by rw [h])
  simp [World.setCell, Array.getElem?_modify, this]
/-- What the levels still have to say. -/
def rsP : List Lv → List TS
  | [] => []
  | x :: r => rsP r ++ (flL x.r ++ clT x.c)
theorem rsP_snoc (qs : List Lv) (x : Lv) : rsP (qs ++ [x]) = flL x.r ++ (clT x.c ++ rsP qs) := by
  induction qs with
  | nil => simp [rsP]
  | cons y r ih => rw [List.cons_append, rsP, ih, rsP]; simp
def RelFl (w : World) (l : List VT) (g : Nat) (fv pv : Value) (wr : World) : Prop := ∃ ps ts, PathM w wr pv ps ∧ OwnS w wr fv ts ∧ meP ps ≤ g ∧ ps.length + g ≤ 2 * szL l + 1 + ps.length ∧ Hid (flL l = ts ++ rsP ps)
theorem RelFl.mk {w : World} {l : List VT} {g : Nat} {fv pv : Value} {wr : World} (ps : List Lv) (ts : List TS) (h1 : PathM w wr pv ps) (h2 : OwnS w wr fv ts) (h3 : meP ps ≤ g) (h5 : g ≤ 2 * szL l + 1) (h4 : flL l = ts ++ rsP ps) : RelFl w l g fv pv wr := ⟨ps, ts, h1, h2, h3, by omega, h4⟩
theorem meP_len (ps : List Lv) : ps.length ≤ meP ps := by
  induction ps with
  | nil => simp [meP]
  | cons x r ih => rw [List.length_cons, meP]; omega
theorem PathM.kept {w wr w1 : World} {v : Value} {ps : List Lv} {fv : Value} {ts : List TS} {o : Obj} (h : PathM w wr v ps) (hf : OwnS w wr fv ts) (hg : (wr.alloc o).grownBy w1 fv.ownBlock) : PathM w w1 v ps :=
  ⟨(h.own.alloc o).kept hg (own_ne h.own hf (by decide)), h.vm, (h.bel.alloc h.bel.size o).grown hg (by have := h.bel.size; simp; omega) (fun k hk => (hf.lt k hk).1)⟩
theorem OwnS.kept {w wr w1 : World} {v : Value} {ps : List Lv} {fv : Value} {ts : List TS} {o : Obj} (hf : OwnS w wr fv ts) (h : PathM w wr v ps) (hg : (wr.alloc o).grownBy w1 v.ownBlock) : OwnS w w1 fv ts :=
  World.ownsRow.kept (hf.alloc o) hg (own_ne hf h.own (by decide))
theorem OwnS.taken {w wr w1 : World} {g p b o c m : Nat} {t : TS} {u : Value} {e : Ending} {n cap : Nat} {ps : List Lv} {fv : Value} {ts : List TS} (hf : OwnS w wr fv ts) (h : PathM w wr (.slice (some ⟨g, 0, none⟩) n cap) ps) (T : PostTk g p b o c m t u wr e w1) : OwnS w w1 fv ts := by
  obtain ⟨_, a, o1, o2, _, rfl⟩ := T
  exact ((World.ownsRow.kept hf (grownBy_setCell wr g p _) (own_ne hf h.own (by decide))).alloc o1).alloc o2
theorem OwnS.grow {w w1 : World} {v' : Value} {ts : List TS} {t : TS} (h1 : w1.ownsRow w.heap.size 41 6 v' (ts.length + 1) (tsCs ts ++ tsC t)) : OwnS w w1 v' (ts ++ [t]) := by
  unfold OwnS
  rw [List.length_append, List.length_singleton, tsCs_app, tsCs_one]; exact h1
theorem OwnS.alloc {w wr : World} {v : Value} {ts : List TS} (h : OwnS w wr v ts) (o : Obj) : OwnS w (wr.alloc o) v ts := World.ownsRow.alloc h o
theorem infoT5 : (Tryz.prog.info? 41).map (fun i => (i.zero, i.size, i.bytes)) = some (some (.agg #[.int .i64 0, .string ⟨#[]⟩, .int .i64 0, .int .i64 0, .bool false, .bool false]), 6, 48) := by kernel_rfl
theorem news6s (w : World) (g : Nat) (u0 u1 u2 u3 u4 u5 : Value) (t : TypeId) (hg : g = w.heap.size) : ∀ j x, [u0, u1, u2, u3, u4, u5][j]? = some x → (w.alloc (.cells #[u0, u1, u2, u3, u4, u5] t)).cell? ((⟨g, 0, none⟩ : Addr).add j) = some x := fun j x hx => by
  subst hg
  match j, hx with
  | 0, hx => simp at hx; subst hx; simp [Addr.add]
  | 1, hx => simp at hx; subst hx; simp [Addr.add]
  | 2, hx => simp at hx; subst hx; simp [Addr.add]
  | 3, hx => simp at hx; subst hx; simp [Addr.add]
  | 4, hx => simp at hx; subst hx; simp [Addr.add]
  | 5, hx => simp at hx; subst hx; simp [Addr.add]
theorem one6s (t : TS) : ∀ u ∈ tsC t, u.oneCell' = true := by
  intro u hu
  simp only [tsC, List.mem_cons, List.not_mem_nil, or_false] at hu
  rcases hu with rfl | rfl | rfl | rfl | rfl | rfl <;> rfl
theorem step_append_own {P : Program} {ops : Array Oper} {o : Oper} {a : Act} {w : World} {K : Act → World → Prop} {Q : Exit → Act → World → Prop} {E : Prop}
    (hg : o.guard = none) (s x : Operand) (t : TypeId) (ho : o.op = .call { callee := .builtin .append, args := #[s, x], argTypes := #[t, t] })
    (base : Nat) (e : TypeId) (i : TypeInfo) (z : Value) (size bytes : Nat) (ht : P.underlying t = some (.slice e)) (hi : P.info? e = some i) (hz : i.zero = some z)
    (hsize : i.size = size) (hby : i.bytes = bytes) (hzs : z.cells.size = size) (hsz : 0 < size)
    (v : Value) (n : Nat) (xs : List Value) (hs : a.eval s = v) (hown : w.ownsRow base e size v n xs)
    (ad : Addr) (m c : Nat) (news : List Value) (hx : a.eval x = .slice (some ad) m c) (hl : news.length = m * size) (hnews : ∀ j u, news[j]? = some u → w.cell? (ad.add j) = some u) (h1 : ∀ u ∈ news, u.oneCell' = true)
    (h63 : n + m ≤ maxLen) (hbytes : (n + m) * bytes ≤ 140737488355328) (hbase : base ≤ w.heap.size)
    (h : ∀ v' w', w'.ownsRow base e size v' (n + m) (xs ++ news) → w.grownBy w' v.ownBlock → (v' = .slice none 0 0 ↔ v = .slice none 0 0 ∧ m = 0) → K (a.put o.dst v') w') :
    if Region.wanted o (yielded ops a.tmps) = true then Oper.wp P o a w K Q else E := by
  have hw : Region.wanted o (yielded ops a.tmps) = true := by simp [Region.wanted, hg]
  rw [if_pos hw]
  exact wp_append_own w s x t ho base e i z size bytes ht hi hz hsize hby hzs hsz v n xs hs hown ad m c news hx hl hnews h1 h63 hbytes hbase h
theorem bxk_one {w w1 w5 : World} {fv : Value} {ts : List TS} {cs : Array Value} {T : TypeId} {o : Obj} (h : OwnS w w1 fv ts) (hg : ((w1.alloc (.cells cs T)).alloc o).grownBy w5 fv.ownBlock) : w5.heap[w1.heap.size]? = some (.cells cs T) := by
  have e1 : ((w1.alloc (.cells cs T)).alloc o).heap[w1.heap.size]? = some (.cells cs T) := by
    show ((w1.heap.push _).push _)[w1.heap.size]? = _
    rw [Array.getElem?_push, if_neg (by simp), Array.getElem?_push, if_pos rfl]
  refine (hg.block _ ?_ ?_).trans e1
  · simp; omega
  · intro e; have := (h.lt _ e.symm).2; omega
theorem bxk_at {w : World} {b : Nat} {cs : Array Value} {T : TypeId} (h : w.heap[b]? = some (.cells cs T)) (j : Nat) (hj : j < cs.size) : w.cell? ⟨b, j, none⟩ = some cs[j] := by
  rw [row_blk h, Array.getElem?_eq_getElem hj]
theorem bxk_lt {w : World} {b : Nat} {cs : Array Value} {T : TypeId} (h : w.heap[b]? = some (.cells cs T)) : b < w.heap.size := (Array.getElem?_eq_some_iff.1 h).1
theorem PathM.drew {w wr : World} {v : Value} {ps : List Lv} (h : PathM w wr v ps) : PathM w wr.drew v ps := ⟨h.own, h.vm, h.bel.drew⟩
theorem OwnS.drew {w wr : World} {v : Value} {ts : List TS} (h : OwnS w wr v ts) : OwnS w wr.drew v ts := h
theorem bxk_two {w w5 w6 : World} {v : Value} {ps : List Lv} {b : Nat} {cs : Array Value} {T : TypeId} {o : Obj} (h : PathM w w5 v ps) (hb : w5.heap[b]? = some (.cells cs T)) (hT : T ≠ 66) (hg : (w5.drew.alloc o).grownBy w6 v.ownBlock) : w6.heap[b]? = some (.cells cs T) := by
  have hlt := (Array.getElem?_eq_some_iff.1 hb).1
  have e1 : (w5.drew.alloc o).heap[b]? = some (.cells cs T) := by
    show (w5.heap.push _)[b]? = _
    rw [Array.getElem?_push, if_neg (by omega)]; exact hb
  refine (hg.block _ ?_ ?_).trans e1
  · show b < (w5.heap.push _).size; simp; omega
  · intro e
    rcases h.own.2 with ⟨rfl, _⟩ | ⟨g, cap, cur, rfl, _, hg', _⟩
    · cases e
    · have : b = g := by simpa [Value.ownBlock] using e
      subst this
      rw [hb] at hg'
      cases hg'
      exact hT rfl
theorem bxk_s {w : World} {b : Nat} {t : TS} {u : Value} {T : TypeId} (h : w.heap[b]? = some (.cells #[.int .i64 t.k, .string t.s, .int .i64 t.n, .int .i64 t.d, .bool t.i, .bool t.h, u] T)) : w.cell? ⟨b, 0, none⟩ = some (.int .i64 t.k) ∧ w.cell? ⟨b, 6, none⟩ = some u := ⟨bxk_at h 0 (by simp), bxk_at h 6 (by simp)⟩
set_option maxRecDepth 100000 in
set_option maxHeartbeats 1500000 in
theorem flat5_any (l : List VT) (v : Value) (w : World) (hv : VM w v l) (hL : szL l ≤ 100000000000) :
    Calls Tryz.prog 19 #[v] w fun e w' => ∃ u, e = .returned u ∧ OwnS w w' u (flL l) ∧ Below w.heap.size w w' := by
  obtain ⟨i0, hi, hz0, hz1, hz2⟩ := info_parts infoL
  obtain ⟨i1, hj, hy0, hy1, hy2⟩ := info_parts infoT5
  obtain ⟨a, c, rfl, hl9⟩ := hv.shape
  have P0 := hide (PathM.one w _ l hv)
  have FL := hide (fl_len l)
  clear hv
  go_enter Tryz.func19, Tryz.ntmps19
  go_wp2
  go_loopg [3, 4] (2 * szL l + 1) (fun g fv tv wr => RelFl w l g fv tv wr)
  case atStart => exact .mk _ [] P0.out (World.ownsRow_nil _ _ _ _) (by simp [meP]) (by omega) (by simp [rsP, clT])
  case round =>
    clear P0
    obtain ⟨ps, ts, PM, OF, hm, hgk, R⟩ := hrel
    have hgk' : gk ≤ 2 * szL l + 1 := by omega
    clear hgk
    have TL9 := hide (show ts.length ≤ 2 * szL l by have := FL.out; rw [R.out, List.length_append] at this; omega)
    have OF' := hide OF
    rcases last_cases ps with rfl | ⟨qs, x, rfl⟩
    · have E := hide (show flL l = ts by rw [R.out]; simp [rsP])
      have B := hide PM.bel
      obtain ⟨ga, gn, gc, hv⟩ : ∃ a n c, u4 = .slice a n c := by
        rcases PM.own.2 with ⟨h, _⟩ | ⟨g, cap, cur, h, _⟩
        · exact ⟨_, _, _, h⟩
        · exact ⟨_, _, _, h⟩
      have hn0 : gn = 0 := by
        rcases PM.own.2 with ⟨h, _⟩ | ⟨g, cap, cur, h, _⟩
        · rw [h] at hv; cases hv; rfl
        · rw [h] at hv; cases hv; rfl
      subst hv hn0
      clear PM OF
      go_wp2
      go_ret
      exact ⟨_, rfl, by rw [E.out]; exact OF'.out, B.out⟩
    clear OF
    obtain ⟨g, cap, hv, hg1, hg2, hcap, hcap9, k0, k1, kf⟩ := PM.top
    subst hv
    have P := hide PM
    have HX := hide (PM.vm x (List.mem_append_right _ (List.mem_singleton.2 rfl)))
    have BE := hide PM.bel
    have R2 := hide (show flL l = ts ++ (flL x.r ++ (clT x.c ++ rsP qs)) by rw [R.out, rsP_snoc])
    have HQ := hide (show qs.length + 1 ≤ gk by have := meP_len (qs ++ [x]); rw [List.length_append, List.length_singleton] at this; omega)
    rw [meP_snoc] at hm
    obtain ⟨xu, xr, xc⟩ := x
    simp only at k0 k1 HX hm R2
    clear PM R
    cases xr with
    | nil =>
      obtain ⟨a1, c1, hu, _⟩ := HX.out.shape
      subst hu
      have PP := hide P.out.pop
      have PW := hide P.out
      rw [flL_nil, List.nil_append] at R2
      clear P HX
      by_cases hxc : xc = 0
      · subst hxc
        have E := hide (show flL l = ts ++ rsP qs by rw [R2.out]; simp [clT])
        have mq : qs.length ≤ 300000000000 := by have := HQ.out; omega
        clear R2
        generalize qs.length = m at k0 k1 kf hcap PP mq ⊢
        go_wp2
        go_roundg (gk - 1)
        case measure => omega
        case rel => exact .mk qs ts PP.out OF'.out (by omega) (by omega) E.out
      · have E := hide (show flL l = (ts ++ [zT xc]) ++ rsP qs by rw [R2.out]; simp [clT, hxc])
        have mq : qs.length ≤ 300000000000 := by have := HQ.out; omega
        have hx1 : (xc != 0) = true := by simpa using hxc
        clear R2
        generalize qs.length = m at k0 k1 kf hcap PP mq PW ⊢
        go_wp2_with (at_builtin; refine wpList_append_own _ rfl _ _ 36 rfl w.heap.size 41 i1 _ 6 48 Tryz.underlying36 hj hy0 hy1 hy2 rfl (by decide) _ _ _ rfl (OF'.out.alloc _) ⟨_, 0, none⟩ 1 1 (tsC (zT xc)) rfl rfl (news6s _ _ _ _ _ _ _ _ _ (by simp)) (one6s _) (by have := TL9.out; unfold maxLen; omega) (by have := TL9.out; omega) (by have := BE.out.size; simp; omega) ?_; intro v' w5 hown' hgrow _; replace PP := hide (PP.out.kept OF'.out hgrow); replace OF' := hide (OwnS.grow hown'); clear hown' hgrow)
        go_roundg (gk - 1)
        case measure => omega
        case rel => exact .mk qs _ PP.out OF'.out (by omega) (by omega) E.out
    | cons y r =>
      obtain ⟨b, o, cc, u, hu, hb, hcc, hcc9, hr9, t6, hk, hku, htl⟩ := HX.out.head
      subst hu
      obtain ⟨ua, uc, hus, hks9⟩ := hku.shape
      have T6 := hide (t6.below BE.out hb)
      have U6 := hide ((BE.out.cell (p := ⟨b, o + 6, none⟩) hb).trans hk)
      have TL := hide htl
      have KU := hide hku
      have US := hide hus
      rw [szL_cons] at hm
      rw [flL_cons] at R2
      clear hk hku htl t6 HX
      have hgb : g ≠ b := by omega
      have hbw : b < wr.heap.size := by have := BE.out.size; omega
      have TK := hide (take_any g (qs.length * 2) b o cc r.length y.t u wr k0 kf hgb hg2 hbw hcc hcc9 T6.out U6.out ⟨_, _, _, US.out⟩)
      have TP := hide (fun (e : Ending) (w1 : World) (h : PostTk g (qs.length * 2) b o cc r.length y.t u wr e w1) => (And.intro (P.out.taken (y := y) hg1 TL.out h) (OF'.out.taken P.out h)))
      clear P T6 U6
      obtain ⟨⟨k, tx, tn, td, ti, th⟩, yk⟩ := y
      simp only [VT.t, VT.ks] at *
      unfold vtV at TP
      subst hus
      obtain ⟨m, hml⟩ : ∃ m, qs.length = m := ⟨_, rfl⟩
      have ML := hide hml
      rw [hml] at k0 k1 kf hcap TK TP ⊢
      clear hml
      have E := hide (show flL l = (ts ++ [⟨k, tx, tn, td, ti, th⟩]) ++ (flL yk ++ (clT (cKn k) ++ (flL r ++ (clT xc ++ rsP qs)))) by rw [R2.out]; simp)
      have mq : m ≤ 300000000000 := by have := HQ.out; have := ML.out; omega
      clear R2 OF'
      go_wp2_with (first
        | (go_at_call 34; refine TK.out.mono ?_; rintro e w1 h1; obtain ⟨⟨he, z, PZ⟩, OZ⟩ := TP.out e w1 h1; subst he; replace PZ := hide PZ; replace OZ := hide OZ; clear h1)
        | (at_builtin; refine wpList_append_own _ rfl _ _ 36 rfl w.heap.size 41 i1 _ 6 48 Tryz.underlying36 hj hy0 hy1 hy2 rfl (by decide) _ _ _ rfl ((OZ.out.alloc _).alloc _) ⟨_, 0, none⟩ 1 1 (tsC ⟨k, tx, tn, td, ti, th⟩) rfl rfl (news6s _ _ _ _ _ _ _ _ _ (by simp)) (one6s _) (by have := TL9.out; unfold maxLen; omega) (by have := TL9.out; omega) (by have := PZ.out.bel.size; simp; omega) ?_; intro v' w5 hown' hgrow _; have BX := hide (bxk_one OZ.out hgrow); replace PZ := hide ((PZ.out.alloc _).kept (OZ.out.alloc _) hgrow); replace OZ := hide (OwnS.grow hown'); clear hown' hgrow))
      have c0 := bxk_at BX.out 0 (by simp)
      have c6 := bxk_at BX.out 6 (by simp)
      simp at c0 c6
      have KP := hide (fun (W : World) (h : Below w5.heap.size w5 W) => show W.cell? ⟨w1.heap.size, 0, none⟩ = some (.int .i64 k) ∧ W.cell? ⟨w1.heap.size, 6, none⟩ = some (.slice ua yk.length uc) from ⟨(h.cell (p := ⟨w1.heap.size, 0, none⟩) (bxk_lt BX.out)).trans c0, (h.cell (p := ⟨w1.heap.size, 6, none⟩) (bxk_lt BX.out)).trans c6⟩)
      go_region_held3 (fun w' => w'.cell? ⟨w1.heap.size, 0, none⟩ = some (.int .i64 k) ∧ w'.cell? ⟨w1.heap.size, 6, none⟩ = some (.slice ua yk.length uc))
        (first | assumption | (exact KP.out _ (by repeat (first | exact Below.refl _ _ | (with_reducible refine Below.drew ?_) | (with_reducible refine below_drewN ?_ _) | (with_reducible refine bplus ?_ _) | (refine bto ?_ (by assumption))))))
        (first
          | (go_at_call 36; refine (closerOf_any _ _).mono ?_; rintro e w3 ⟨rfl, rfl⟩)
          | (refine step_append_own rfl (.tmp 49) (.tmp 57) 67 rfl w.heap.size 66 i0 _ 2 32 Tryz.underlying67 hi hz0 hz1 hz2 rfl (by decide) (.slice (some ⟨g, 0, none⟩) (m + 1) cap) _ _ rfl ((PZ.out.drew.alloc _).own) ⟨w5.heap.size, 0, none⟩ 1 1 (lvC ⟨.slice ua yk.length uc, yk, cKn k⟩) rfl rfl (news2 _ _ _ _ _ (by simp)) (by intro u hu; simp [lvC] at hu; rcases hu with rfl | rfl <;> rfl) (by rw [List.length_append, List.length_singleton, ML.out]; unfold maxLen; omega) (by rw [List.length_append, List.length_singleton, ML.out]; omega) (by have := PZ.out.bel.size; simp; omega) ?_; intro v6 w6 hown6 hgrow6 _; have SK := bxk_s (t := ⟨k, tx, tn, td, ti, th⟩) (bxk_two PZ.out BX.out (by decide) hgrow6); simp only at SK; replace OZ := hide (OZ.out.drew.kept PZ.out.drew hgrow6); replace PZ := hide (PZ.out.drew.push (x := ⟨.slice ua yk.length uc, yk, cKn k⟩) KU.out hown6 hgrow6); clear hown6 hgrow6))
      all_goals
        go_wp2
        go_roundg (gk - 1)
        case measure => omega
        case rel => exact .mk _ _ PZ.out OZ.out (by rw [meP_snoc, meP_snoc]; simp only; omega) (by omega) (by rw [E.out, rsP_snoc, rsP_snoc])
end Go.Proofs.YtbdacepomdlcbaaGreatDoor
set_option linter.unusedVariables false
set_option linter.unusedSimpArgs false
namespace Go.Proofs.YtbdacepomdlcbaaGreatDoor
open Go.RowKit

def RelMr (w : World) (l : List VT) (n : Nat) (i : Value) (wr : World) : Prop := ∃ k : Nat, i = .int .i64 k ∧ k ≤ l.length ∧ Below w.heap.size w wr ∧ Hid (myL l n = myL (l.drop k) n)
theorem RelMr.mk {w : World} {l : List VT} {n : Nat} {i : Value} {wr : World} (k : Nat) (h1 : i = .int .i64 k) (h2 : k ≤ l.length) (h3 : Below w.heap.size w wr) (h4 : myL l n = myL (l.drop k) n) : RelMr w l n i wr := ⟨k, h1, h2, h3, h4⟩
theorem sz_at {l : List VT} {k : Nat} {x : VT} (h : l[k]? = some x) : szL x.ks < szL l := by
  induction l generalizing k with
  | nil => simp at h
  | cons y r ih =>
    rw [szL_cons]
    cases k with
    | zero => cases h; omega
    | succ k => have := ih (k := k) h; omega
theorem drop_at {α : Type} {l : List α} {k : Nat} {x : α} (h : l[k]? = some x) : l.drop k = x :: l.drop (k + 1) := by
  obtain ⟨hk, rfl⟩ := List.getElem?_eq_some_iff.1 h
  exact List.drop_eq_getElem_cons hk
set_option maxRecDepth 100000 in
set_option maxHeartbeats 1500000 in
theorem mayR5_any (N : Nat) : ∀ (l : List VT) (n : Nat) (v : Value) (w : World), szL l ≤ N → n ≤ 64 → VM w v l →
    Calls Tryz.prog 42 #[v, .int .i64 n] w fun e w' => e = .returned (.bool (myL l n)) ∧ Below w.heap.size w w' := by
  induction N with
  | zero =>
    intro l n v w hN hn hv
    have hl : l = [] := by cases l with | nil => rfl | cons y r => rw [szL_cons] at hN; omega
    subst hl
    obtain ⟨a, c, rfl, _⟩ := hv.shape
    clear hv
    go_enter Tryz.func42, Tryz.ntmps42
    go_wp2
    refine wp_loop_rounds 1 ?_
    rw [rounds_succ]
    go_wp2
    go_ret
    exact ⟨ret_bool (myL_nil n).symm, Below.refl _ _⟩
  | succ N ih =>
    intro l n v w hN hn hv
    obtain ⟨a, c, rfl, hl9⟩ := hv.shape
    have HV := hide hv
    have IH := hide ih
    clear hv ih
    go_enter Tryz.func42, Tryz.ntmps42
    go_wp2
    go_loopw [9] (fun i wr => RelMr w l n i wr) (fun i _ => l.length - (intOf i).toNat)
    case atStart => exact .mk 0 rfl (by omega) (Below.refl _ _) (by simp)
    case round =>
      obtain ⟨k, rfl, hk, BE, R⟩ := hrel
      replace BE := hide BE
      by_cases hlt : k < l.length
      · obtain ⟨x, hx⟩ : ∃ x, l[k]? = some x := ⟨_, List.getElem?_eq_getElem hlt⟩
        obtain ⟨b, o, c', u, hv', hb, t6, hu6, hku⟩ := HV.out.at hx
        obtain ⟨rfl, rfl⟩ : a = some ⟨b, o, none⟩ ∧ c = c' := by cases hv'; exact ⟨rfl, rfl⟩
        obtain ⟨ua, uc, hus, hks9⟩ := hku.shape
        have SZ := hide (show szL x.ks ≤ N by have := sz_at hx; omega)
        have KU := hide hku
        have R2 := hide (show myL l n = (((decide (1 ≤ x.t.k) && decide (x.t.k ≤ 24)) && (if cKn x.t.k = 0 then x.ks.isEmpty else (decide (0 < n) && myL x.ks (n - 1)))) && myL (l.drop (k + 1)) n) by rw [R.out, drop_at hx, myL_cons])
        have hlt' : (k : Int) < l.length := by omega
        obtain ⟨c0, c1, c2, c3, c4, c5⟩ := t6.below BE.out hb
        have c6 := (BE.out.cell (p := ⟨b, o + k * 7 + 6, none⟩) hb).trans hu6
        have hbw : b < wr.heap.size := by have := BE.out.size; omega
        have nb : b ≠ wr.heap.size := by omega
        clear hx hv' t6 hu6 hku R
        obtain ⟨⟨kk, tx, tn, td, ti, th⟩, yk⟩ := x
        subst hus
        replace R2 := hide (show myL l n = (((decide (1 ≤ kk) && decide (kk ≤ 24)) && (if cKn kk = 0 then yk.isEmpty else (decide (0 < n) && myL yk (n - 1)))) && myL (l.drop (k + 1)) n) from R2.out)
        replace SZ := hide (show szL yk ≤ N from SZ.out)
        replace KU := hide (show VM w (.slice ua yk.length uc) yk from KU.out)
        simp only [VT.t, VT.ks] at c0 c1 c2 c3 c4 c5 c6 hks9
        by_cases k1 : kk < 1
        · have F := hide (show myL l n = false by rw [R2.out, show decide (1 ≤ kk) = false by simp; omega]; rfl)
          go_wp2
          go_ret
          exact ⟨ret_bool F.out.symm, by first | exact bplus BE.out _ | exact BE.out⟩
        by_cases k2 : 24 < kk
        · have F := hide (show myL l n = false by rw [R2.out, show decide (kk ≤ 24) = false by simp; omega]; simp)
          have k1' : 1 ≤ kk := by omega
          go_wp2
          go_ret
          exact ⟨ret_bool F.out.symm, by first | exact bplus BE.out _ | exact BE.out⟩
        have k1' : 1 ≤ kk := by omega
        have k2' : kk ≤ 24 := by omega
        replace R2 := hide (show myL l n = ((if cKn kk = 0 then yk.isEmpty else (decide (0 < n) && myL yk (n - 1))) && myL (l.drop (k + 1)) n) by rw [R2.out]; simp [k1', k2'])
        by_cases hc0 : cKn kk = 0
        · have K2 := hide hc0
          by_cases hy : yk = []
          · subst hy
            have E := hide (show myL l n = myL (l.drop (k + 1)) n by rw [R2.out, if_pos hc0]; simp)
            clear hc0 R2
            go_wp2_with (go_at_call 44; refine (closer5_any _ _).mono ?_; rintro e w3 ⟨rfl, rfl⟩; (try rw [K2.out]))
            go_roundw
            case rel => exact .mk (k + 1) (by go_num) (by omega) (by first | exact bplus BE.out _ | exact BE.out) E.out
            case measure => simp [intOf]; omega
          · have hy0 : 0 < yk.length := List.length_pos_iff.2 hy
            have F := hide (show myL l n = false by rw [R2.out, if_pos hc0]; cases yk with | nil => exact absurd rfl hy | cons _ _ => rfl)
            have hy1 : (0 : Int) < yk.length := by omega
            clear hy hc0 R2
            go_wp2_with (go_at_call 44; refine (closer5_any _ _).mono ?_; rintro e w3 ⟨rfl, rfl⟩; (try rw [K2.out]))
            go_ret
            exact ⟨ret_bool F.out.symm, by first | exact bplus BE.out _ | exact BE.out⟩
        · have hc1 : ¬ cKn kk = 0 := hc0
          have hc2 : (cKn kk == 0) = false := by simpa using hc0
          have K2 := hide (show True from trivial)
          replace R2 := hide (show myL l n = ((decide (0 < n) && myL yk (n - 1)) && myL (l.drop (k + 1)) n) by rw [R2.out, if_neg hc0])
          clear hc0
          by_cases hn0 : n = 0
          · subst hn0
            have F := hide (show myL l 0 = false by rw [R2.out]; simp)
            clear R2
            go_wp2_with (go_at_call 44; refine (closer5_any _ _).mono ?_; rintro e w3 ⟨rfl, rfl⟩; (try rw [K2.out]))
            go_ret
            exact ⟨ret_bool F.out.symm, by first | exact bplus BE.out _ | exact BE.out⟩
          · obtain ⟨q, hq⟩ : ∃ q, n = q + 1 := ⟨n - 1, by omega⟩
            replace R2 := hide (show myL l n = (myL yk q && myL (l.drop (k + 1)) n) by rw [R2.out, hq]; simp)
            have CI := hide (fun (W : World) (h : Below w.heap.size w W) => IH.out yk q (.slice ua yk.length uc) W SZ.out (by omega) (KU.out.low h))
            have hq0 : (q : Int) = (n : Int) - 1 := by omega
            rw [hq0] at CI
            have hq1 : ¬ ((n : Int) = 0) := by omega
            have hq2 : ((n : Int) == 0) = false := by simpa using hq1
            have HQ := hide hq
            clear hq0 hn0 hq
            cases hm : myL yk q
            · have HM := hide hm
              have F := hide (show myL l n = false by rw [R2.out, hm]; rfl)
              clear hm R2
              go_wp2_with (first
                | (go_at_call 44; refine (closer5_any _ _).mono ?_; rintro e w3 ⟨rfl, rfl⟩; (try rw [K2.out]))
                | (go_at_call 42; refine (CI.out _ (bplus BE.out _)).mono ?_; rintro e w4 ⟨rfl, B4⟩; rw [HM.out]; replace B4 := hide (bto (bplus BE.out _) B4)))
              go_ret
              exact ⟨ret_bool F.out.symm, B4.out⟩
            · have HM := hide hm
              have E := hide (show myL l n = myL (l.drop (k + 1)) n by rw [R2.out, hm]; rfl)
              clear hm R2
              go_wp2_with (first
                | (go_at_call 44; refine (closer5_any _ _).mono ?_; rintro e w3 ⟨rfl, rfl⟩; (try rw [K2.out]))
                | (go_at_call 42; refine (CI.out _ (bplus BE.out _)).mono ?_; rintro e w4 ⟨rfl, B4⟩; rw [HM.out]; replace B4 := hide (bto (bplus BE.out _) B4)))
              go_roundw
              case rel => exact .mk (k + 1) (by go_num) (by omega) B4.out E.out
              case measure => simp [intOf]; omega
      · have F := hide (show myL l n = true by rw [R.out, List.drop_of_length_le (by omega), myL_nil])
        have hlt' : ¬ (k : Int) < l.length := by omega
        go_wp2
        go_ret
        exact ⟨ret_bool F.out.symm, BE.out⟩
theorem may5R_any (l : List VT) (v : Value) (w : World) (hv : VM w v l) :
    Calls Tryz.prog 20 #[v] w fun e w' => e = .returned (.bool (myL l 64)) ∧ Below w.heap.size w w' := by
  have C := hide (mayR5_any (szL l) l 64 v w (Nat.le_refl _) (by omega) hv)
  obtain ⟨a, c, rfl, _⟩ := hv.shape
  clear hv
  go_enter Tryz.func20, Tryz.ntmps20
  go_wp2_with (go_at_call 42; refine C.out.mono ?_; rintro e w1 ⟨rfl, B1⟩)
  go_ret
  exact ⟨rfl, B1⟩
end Go.Proofs.YtbdacepomdlcbaaGreatDoor
set_option linter.unusedVariables false
set_option linter.unusedSimpArgs false
namespace Go.Proofs.YtbdacepomdlcbaaGreatDoor
open Go.RowKit

theorem gr_of {w w' : World} (h : Below w.heap.size w w') (r : Option Nat) : w.grownBy w' r := ⟨h.os, h.tape, h.output, h.size, fun k hk _ => h.block k hk⟩
theorem OwnS.low {w wr w1 : World} {v : Value} {ts : List TS} (h : OwnS w wr v ts) (hb : Below wr.heap.size wr w1) : OwnS w w1 v ts :=
  World.ownsRow.kept h (gr_of hb none) (by cases hv : v.ownBlock with | none => exact .inl rfl | some k => exact .inr (by simp))
theorem OwnS.grows {w w1 : World} {v' : Value} {ts us : List TS} (h1 : w1.ownsRow w.heap.size 41 6 v' (ts.length + us.length) (tsCs ts ++ tsCs us)) : OwnS w w1 v' (ts ++ us) := by
  unfold OwnS
  rw [List.length_append, tsCs_app]; exact h1
theorem OwnS.bel {w wr w1 : World} {v : Value} {ts : List TS} (h : OwnS w wr v ts) (hb : Below w.heap.size w wr) (hg : wr.grownBy w1 v.ownBlock) : Below w.heap.size w w1 := hb.grown hg hb.size (fun k hk => (h.lt k hk).1)
theorem OwnS.belA {w wr w1 : World} {v : Value} {ts : List TS} {o : Obj} (h : OwnS w wr v ts) (hb : Below w.heap.size w wr) (hg : (wr.alloc o).grownBy w1 v.ownBlock) : Below w.heap.size w w1 := (h.alloc o).bel (bplus hb o) hg
theorem tsCs_oneCell (ts : List TS) : ∀ u ∈ tsCs ts, u.oneCell' = true := by
  intro u hu
  unfold tsCs at hu
  rw [List.mem_flatMap] at hu
  obtain ⟨t, _, ht⟩ := hu
  exact one6s t u ht
/-- An own row of tokens behind another one. -/
theorem wpList_append_toks {w0 W wr : World} {ops : Array Oper} {rest : List Oper} {o : Oper} {a : Act} {Q : Exit → Act → World → Prop} (hgd : o.guard = none) (s x : Operand)
    (ho : o.op = .call { callee := .builtin .append, args := #[s, x], argTypes := #[36, 36] })
    (v : Value) (ts : List TS) (hs : a.eval s = v) (hown : OwnS W wr v ts) (hW : W.heap.size ≤ wr.heap.size) (u : Value) (us : List TS) (hx : a.eval x = u) (hu : OwnS w0 wr u us)
    (hl : ts.length + us.length ≤ 1000000000000)
    (h : ∀ v' w', OwnS W w' v' (ts ++ us) → wr.grownBy w' v.ownBlock → wpList Tryz.prog ops Q rest (a.put o.dst v') w') : wpList Tryz.prog ops Q (o :: rest) a wr := by
  obtain ⟨i1, hj, hy0, hy1, hy2⟩ := info_parts infoT5
  rcases hu.2 with ⟨rfl, h0⟩ | ⟨g, cap, cur, rfl, hb, hg, hn, hm, hsz, ht⟩
  · obtain rfl : us = [] := List.eq_nil_of_length_eq_zero h0
    exact wpList_append_own_none hgd s x 36 ho W.heap.size 41 i1 6 Tryz.underlying36 hj v ts.length (tsCs ts) hs hown hx (h v wr (by simpa using hown) ⟨rfl, rfl, rfl, Nat.le_refl _, fun _ _ _ => rfl⟩)
  · refine wpList_append_own wr hgd s x 36 ho W.heap.size 41 i1 _ 6 48 Tryz.underlying36 hj hy0 hy1 hy2 rfl (by decide) v ts.length (tsCs ts) hs hown ⟨g, 0, none⟩ us.length cap (tsCs us) hx (tsCs_len us) (fun j y hy => ?_) (tsCs_oneCell us) (by unfold maxLen; omega) (by omega) hW ?_
    · have hj9 : j < us.length * 6 := by have := (List.getElem?_eq_some_iff.1 hy).1; rw [tsCs_len] at this; exact this
      rw [← ht, List.getElem?_take_of_lt hj9] at hy
      rw [Addr.add_lit, Nat.zero_add, row_blk hg, ← hy, Array.getElem?_toList]
    · intro v' w' h1 h2 _
      exact h v' w' (OwnS.grows h1) h2
def RelFr (w : World) (l : List VT) (i fv : Value) (wr : World) : Prop := ∃ (k : Nat) (ts : List TS), i = .int .i64 k ∧ k ≤ l.length ∧ OwnS w wr fv ts ∧ Below w.heap.size w wr ∧ Hid (flL l = ts ++ flL (l.drop k))
theorem RelFr.mk {w : World} {l : List VT} {i fv : Value} {wr : World} (k : Nat) (ts : List TS) (h1 : i = .int .i64 k) (h2 : k ≤ l.length) (h3 : OwnS w wr fv ts) (h4 : Below w.heap.size w wr) (h5 : flL l = ts ++ flL (l.drop k)) : RelFr w l i fv wr := ⟨k, ts, h1, h2, h3, h4, h5⟩
theorem bxk_thr {w w1 w5 : World} {fv : Value} {ts : List TS} {cs : Array Value} {T : TypeId} {o : Obj} {b : Nat} (h : OwnS w w1 fv ts) (hb : w1.heap[b]? = some (.cells cs T)) (hT : T ≠ 41) (hg : w1.grownBy w5 fv.ownBlock) : w5.heap[b]? = some (.cells cs T) := by
  have hlt := (Array.getElem?_eq_some_iff.1 hb).1
  refine (hg.block _ hlt ?_).trans hb
  intro e
  rcases h.2 with ⟨rfl, _⟩ | ⟨g, cap, cur, rfl, _, hg', _⟩
  · cases e
  · have : b = g := by simpa [Value.ownBlock] using e
    subst this
    rw [hb] at hg'
    cases hg'
    exact hT rfl
set_option maxRecDepth 100000 in
set_option maxHeartbeats 1000000 in
theorem flatR5_any (N : Nat) : ∀ (l : List VT) (v : Value) (w : World), szL l ≤ N → N ≤ 100000000000 → VM w v l →
    Calls Tryz.prog 22 #[v] w fun e w' => ∃ u, e = .returned u ∧ OwnS w w' u (flL l) ∧ Below w.heap.size w w' := by
  induction N with
  | zero =>
    intro l v w hN _ hv
    have hl : l = [] := by cases l with | nil => rfl | cons y r => rw [szL_cons] at hN; omega
    subst hl
    obtain ⟨a, c, rfl, _⟩ := hv.shape
    clear hv
    go_enter Tryz.func22, Tryz.ntmps22
    go_wp2
    refine wp_loop_rounds 1 ?_
    rw [rounds_succ]
    go_wp2
    go_ret
    exact ⟨_, rfl, by rw [flL_nil]; exact World.ownsRow_nil _ _ _ _, Below.refl _ _⟩
  | succ N ih =>
    intro l v w hN hN9 hv
    obtain ⟨i1, hj, hy0, hy1, hy2⟩ := info_parts infoT5
    obtain ⟨a, c, rfl, hl9⟩ := hv.shape
    have HV := hide hv
    have IH := hide (fun l v w h => ih l v w h (by omega))
    have FL := hide (show (flL l).length ≤ 200000000000 by have := fl_len l; omega)
    clear hv ih
    go_enter Tryz.func22, Tryz.ntmps22
    go_wp2
    go_loopw [3, 9] (fun fv i wr => RelFr w l i fv wr) (fun _ i _ => l.length - (intOf i).toNat)
    case atStart => exact .mk 0 [] rfl (by omega) (World.ownsRow_nil _ _ _ _) (Below.refl _ _) (by simp)
    case round =>
      obtain ⟨k, ts, rfl, hk, OF, BE, R⟩ := hrel
      replace BE := hide BE
      replace OF := hide OF
      by_cases hlt : k < l.length
      · obtain ⟨x, hx⟩ : ∃ x, l[k]? = some x := ⟨_, List.getElem?_eq_getElem hlt⟩
        obtain ⟨b, o, c', u, hv', hb, t6, hu6, hku⟩ := HV.out.at hx
        obtain ⟨rfl, rfl⟩ : a = some ⟨b, o, none⟩ ∧ c = c' := by cases hv'; exact ⟨rfl, rfl⟩
        obtain ⟨ua, uc, hus, hks9⟩ := hku.shape
        have SZ := hide (show szL x.ks ≤ N by have := sz_at hx; omega)
        have KU := hide hku
        have R2 := hide (show flL l = ts ++ (x.t :: (flL x.ks ++ (clT (cKn x.t.k) ++ flL (l.drop (k + 1))))) by rw [R.out, drop_at hx, flL_cons])
        have hlt' : (k : Int) < l.length := by omega
        obtain ⟨c0, c1, c2, c3, c4, c5⟩ := t6.below BE.out hb
        have c6 := (BE.out.cell (p := ⟨b, o + k * 7 + 6, none⟩) hb).trans hu6
        have hbw : b < wr.heap.size := by have := BE.out.size; omega
        have nb : b ≠ wr.heap.size := by omega
        clear hx hv' t6 hu6 hku R
        obtain ⟨⟨kk, tx, tn, td, ti, th⟩, yk⟩ := x
        subst hus
        replace SZ := hide (show szL yk ≤ N from SZ.out)
        replace KU := hide (show VM w (.slice ua yk.length uc) yk from KU.out)
        replace R2 := hide (show flL l = ts ++ (⟨kk, tx, tn, td, ti, th⟩ :: (flL yk ++ (clT (cKn kk) ++ flL (l.drop (k + 1))))) from R2.out)
        simp only [VT.t, VT.ks] at c0 c1 c2 c3 c4 c5 c6 hks9
        have L9 := hide (show ts.length + 1 + (flL yk).length + 1 ≤ 200000000001 by have h := FL.out; rw [R2.out] at h; simp only [List.length_append, List.length_cons] at h; omega)
        by_cases hc0 : cKn kk = 0
        · have K2 := hide hc0
          have E := hide (show flL l = ((ts ++ [⟨kk, tx, tn, td, ti, th⟩]) ++ flL yk) ++ flL (l.drop (k + 1)) by rw [R2.out, hc0]; simp [clT])
          clear hc0 R2
          go_wp2_with (first
            | (at_builtin; refine wpList_append_toks rfl (.tmp 18) (.tmp 21) rfl _ (ts ++ [⟨kk, tx, tn, td, ti, th⟩]) rfl OF.out BE.out.size _ (flL yk) rfl OU.out (by have := L9.out; simp only [List.length_append, List.length_singleton]; omega) ?_; intro v7 w7 OF7 G7; replace BX := hide (bxk_thr (o := .cells #[] 0) OF.out BX.out (by decide) G7); replace BE := hide (OF.out.bel BE.out G7); replace OF := hide OF7; clear OF7 G7 OU; obtain ⟨q0, q6⟩ := bxk_s (t := ⟨kk, tx, tn, td, ti, th⟩) BX.out; simp only at q0)
            | (at_builtin; refine wpList_append_own _ rfl _ _ 36 rfl w.heap.size 41 i1 _ 6 48 Tryz.underlying36 hj hy0 hy1 hy2 rfl (by decide) _ _ _ rfl ((OF.out.alloc _).alloc _) ⟨_, 0, none⟩ 1 1 (tsC ⟨kk, tx, tn, td, ti, th⟩) rfl rfl (news6s _ _ _ _ _ _ _ _ _ (by simp)) (one6s _) (by have := L9.out; unfold maxLen; omega) (by have := L9.out; omega) (by have := BE.out.size; simp; omega) ?_; intro v5 w5 hown5 hgrow5 _; have BX := hide (bxk_one OF.out hgrow5); replace BE := hide (((OF.out.alloc _).alloc _).bel (bplus (bplus BE.out _) _) hgrow5); replace OF := hide (OwnS.grow hown5); clear hown5 hgrow5; obtain ⟨q0, q6⟩ := bxk_s (t := ⟨kk, tx, tn, td, ti, th⟩) BX.out; simp only at q0)
            | (go_at_call 22; refine (IH.out yk _ _ SZ.out (KU.out.low BE.out)).mono ?_; rintro e w6 ⟨u6', rfl, OU, B6⟩; replace OU := hide OU; replace BX := hide ((B6.block _ (bxk_lt BX.out)).trans BX.out); replace BE := hide (bto BE.out B6); replace OF := hide (OF.out.low B6); clear q0 q6 B6)
            | (go_at_call 44; refine (closer5_any _ _).mono ?_; rintro e w8 ⟨rfl, rfl⟩; (try rw [K2.out])))
          go_roundw
          case rel => exact .mk (k + 1) _ (by go_num) (by omega) OF.out BE.out E.out
          case measure => simp [intOf]; omega
        · have hc1 : ¬ cKn kk = 0 := hc0
          have hc2 : (cKn kk != 0) = true := by simpa using hc0
          have K2 := hide (show True from trivial)
          have E := hide (show flL l = (((ts ++ [⟨kk, tx, tn, td, ti, th⟩]) ++ flL yk) ++ [zT (cKn kk)]) ++ flL (l.drop (k + 1)) by rw [R2.out]; simp [clT, hc0])
          clear hc0 R2
          go_wp2_with (first
            | (at_builtin; refine wpList_append_toks rfl (.tmp 18) (.tmp 21) rfl _ (ts ++ [⟨kk, tx, tn, td, ti, th⟩]) rfl OF.out BE.out.size _ (flL yk) rfl OU.out (by have := L9.out; simp only [List.length_append, List.length_singleton]; omega) ?_; intro v7 w7 OF7 G7; replace BX := hide (bxk_thr (o := .cells #[] 0) OF.out BX.out (by decide) G7); replace BE := hide (OF.out.bel BE.out G7); replace OF := hide OF7; clear OF7 G7 OU; obtain ⟨q0, q6⟩ := bxk_s (t := ⟨kk, tx, tn, td, ti, th⟩) BX.out; simp only at q0)
            | (at_builtin; refine wpList_append_own _ rfl _ _ 36 rfl w.heap.size 41 i1 _ 6 48 Tryz.underlying36 hj hy0 hy1 hy2 rfl (by decide) _ _ _ rfl ((OF.out.alloc _).alloc _) ⟨_, 0, none⟩ 1 1 (tsC ⟨kk, tx, tn, td, ti, th⟩) rfl rfl (news6s _ _ _ _ _ _ _ _ _ (by simp)) (one6s _) (by have := L9.out; unfold maxLen; omega) (by have := L9.out; omega) (by have := BE.out.size; simp; omega) ?_; intro v5 w5 hown5 hgrow5 _; have BX := hide (bxk_one OF.out hgrow5); replace BE := hide (((OF.out.alloc _).alloc _).bel (bplus (bplus BE.out _) _) hgrow5); replace OF := hide (OwnS.grow hown5); clear hown5 hgrow5; obtain ⟨q0, q6⟩ := bxk_s (t := ⟨kk, tx, tn, td, ti, th⟩) BX.out; simp only at q0)
            | (at_builtin; refine wpList_append_own _ rfl _ _ 36 rfl w.heap.size 41 i1 _ 6 48 Tryz.underlying36 hj hy0 hy1 hy2 rfl (by decide) _ _ _ rfl (OF.out.alloc _) ⟨_, 0, none⟩ 1 1 (tsC (zT (cKn kk))) rfl rfl (news6s _ _ _ _ _ _ _ _ _ (by simp)) (one6s _) (by have := L9.out; simp only [List.length_append, List.length_singleton]; unfold maxLen; omega) (by have := L9.out; simp only [List.length_append, List.length_singleton]; omega) (by have := BE.out.size; simp; omega) ?_; intro v9 w9 hown9 hgrow9 _; replace BE := hide (OF.out.belA BE.out hgrow9); replace OF := hide (OwnS.grow hown9); clear hown9 hgrow9)
            | (go_at_call 22; refine (IH.out yk _ _ SZ.out (KU.out.low BE.out)).mono ?_; rintro e w6 ⟨u6', rfl, OU, B6⟩; replace OU := hide OU; replace BX := hide ((B6.block _ (bxk_lt BX.out)).trans BX.out); replace BE := hide (bto BE.out B6); replace OF := hide (OF.out.low B6); clear q0 q6 B6)
            | (go_at_call 44; refine (closer5_any _ _).mono ?_; rintro e w8 ⟨rfl, rfl⟩; (try rw [K2.out])))
          go_roundw
          case rel => exact .mk (k + 1) _ (by go_num) (by omega) OF.out BE.out E.out
          case measure => simp [intOf]; omega
      · have F := hide (show flL l = ts by rw [R.out, List.drop_of_length_le (by omega), flL_nil, List.append_nil])
        have hlt' : ¬ (k : Int) < l.length := by omega
        go_wp2
        go_ret
        exact ⟨_, rfl, by rw [F.out]; exact OF.out, BE.out⟩
end Go.Proofs.YtbdacepomdlcbaaGreatDoor
