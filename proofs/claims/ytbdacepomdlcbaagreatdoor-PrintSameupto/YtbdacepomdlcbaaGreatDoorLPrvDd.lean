/-
  Are two lists of values the same: by the program.
-/
import Derived.Test.YtbdacepomdlcbaaGreatDoorJH
set_option linter.unusedVariables false
set_option linter.unusedSimpArgs false
namespace Go.Proofs.YtbdacepomdlcbaaGreatDoor
open Go.RowKit Go.Shelf

noncomputable def eqP (p : Prop) : Bool := @decide p (Classical.propDecidable p)
theorem eqP_t {p : Prop} (h : p) : eqP p = true := by unfold eqP; simp [h]
theorem eqP_f {p : Prop} (h : ¬ p) : eqP p = false := by unfold eqP; simp [h]
theorem eqP_iff {p q : Prop} (h : p ↔ q) : eqP p = eqP q := by
  by_cases hp : p
  · rw [eqP_t hp, eqP_t (h.1 hp)]
  · rw [eqP_f hp, eqP_f (fun k => hp (h.2 k))]
/-- Two tokens, field by field. -/
theorem tok_cases (t u : TS) : t = u ∨ (t ≠ u ∧ (¬ t.k = u.k ∨ (t.k = u.k ∧ (t.s.toList == u.s.toList) = false) ∨ (t.k = u.k ∧ t.s = u.s ∧ ¬ t.n = u.n) ∨ (t.k = u.k ∧ t.s = u.s ∧ t.n = u.n ∧ ¬ t.d = u.d) ∨ (t.k = u.k ∧ t.s = u.s ∧ t.n = u.n ∧ t.d = u.d ∧ t.i = !u.i) ∨ (t.k = u.k ∧ t.s = u.s ∧ t.n = u.n ∧ t.d = u.d ∧ t.i = u.i ∧ t.h = !u.h))) := by
  obtain ⟨k, s, n, d, i, h⟩ := t
  obtain ⟨k', s', n', d', i', h'⟩ := u
  by_cases e1 : k = k'
  · subst e1
    by_cases e2 : s = s'
    · subst e2
      by_cases e3 : n = n'
      · subst e3
        by_cases e4 : d = d'
        · subst e4
          by_cases e5 : i = i'
          · subst e5
            by_cases e6 : h = h'
            · subst e6; exact .inl rfl
            · refine .inr ⟨by simp [e6], .inr (.inr (.inr (.inr (.inr ⟨rfl, rfl, rfl, rfl, rfl, ?_⟩))))⟩
              cases h <;> cases h' <;> simp_all
          · refine .inr ⟨by simp [e5], .inr (.inr (.inr (.inr (.inl ⟨rfl, rfl, rfl, rfl, ?_⟩))))⟩
            cases i <;> cases i' <;> simp_all
        · exact .inr ⟨by simp [e4], .inr (.inr (.inr (.inl ⟨rfl, rfl, rfl, e4⟩)))⟩
      · exact .inr ⟨by simp [e3], .inr (.inr (.inl ⟨rfl, rfl, e3⟩))⟩
    · refine .inr ⟨by simp [e2], .inr (.inl ⟨rfl, ?_⟩)⟩
      rw [beq_eq_false_iff_ne]
      intro g
      rw [Lib.toList_data, Lib.toList_data] at g
      exact e2 (Go.WideShapes.bytes_inj g)
  · exact .inr ⟨by simp [e1], .inl e1⟩
def SvC (N : Nat) : Prop := ∀ (w : World) (l1 l2 : List VT) (v1 v2 : Value), szL l1 < N → VM w v1 l1 → VM w v2 l2 → Calls Tryz.prog 60 #[v1, v2] w fun e w' => e = .returned (.bool (eqP (l1 = l2))) ∧ Below w.heap.size w w'
set_option maxRecDepth 100000 in
set_option maxHeartbeats 1500000 in
theorem sameValue_any (N : Nat) (hS : SvC N) (w : World) (x y : VT) (ux uy : Value) (hN : szL x.ks < N) (hx : VM w ux x.ks) (hy : VM w uy y.ks) :
    Calls Tryz.prog 90 #[vtV x.t ux, vtV y.t uy] w fun e w' => e = .returned (.bool (eqP (x = y))) ∧ Below w.heap.size w w' := by
  have C := hide (fun (W : World) (h : Below w.heap.size w W) => hS W x.ks y.ks ux uy hN (hx.low h) (hy.low h))
  obtain ⟨xa, xc, rfl, _⟩ := hx.shape
  obtain ⟨ya, yc, rfl, _⟩ := hy.shape
  obtain ⟨t, ks⟩ := x
  obtain ⟨u, ls⟩ := y
  simp only [VT.t, VT.ks] at *
  clear hx hy hS
  have EQ := hide (show (VT.mk t ks = VT.mk u ls) ↔ (t = u ∧ ks = ls) by simp)
  unfold vtV
  have B0 := hide (bplus (bplus (Below.refl w.heap.size w) (.cells #[.int .i64 t.k, .string t.s, .int .i64 t.n, .int .i64 t.d, .bool t.i, .bool t.h, .slice xa ks.length xc] 43)) (.cells #[.int .i64 u.k, .string u.s, .int .i64 u.n, .int .i64 u.d, .bool u.i, .bool u.h, .slice ya ls.length yc] 43))
  rcases tok_cases t u with rfl | ⟨ne, hc⟩
  · have E := hide (show eqP (VT.mk t ks = VT.mk t ls) = eqP (ks = ls) from eqP_iff (by rw [EQ.out]; simp))
    clear EQ
    go_enter Tryz.func90, Tryz.ntmps90
    go_wp2_with (go_at_call 60; refine (C.out _ B0.out).mono ?_; rintro e w1 ⟨rfl, B1⟩; replace B1 := hide (bto B0.out B1))
    go_ret
    exact ⟨ret_bool E.out.symm, B1.out⟩
  · have F := hide (show eqP (VT.mk t ks = VT.mk u ls) = false from eqP_f (fun h => ne (EQ.out.1 h).1))
    clear EQ ne C
    obtain ⟨k, s, n, d, i, h⟩ := t
    obtain ⟨k', s', n', d', i', h'⟩ := u
    simp only at hc B0 ⊢
    rcases hc with e1 | ⟨rfl, e2⟩ | ⟨rfl, rfl, e3⟩ | ⟨rfl, rfl, rfl, e4⟩ | ⟨rfl, rfl, rfl, rfl, e5⟩ | ⟨rfl, rfl, rfl, rfl, rfl, e6⟩
    · have g1 : (k == k') = false := by simpa using e1
      go_enter Tryz.func90, Tryz.ntmps90
      go_wp2
      go_ret
      exact ⟨ret_bool F.out.symm, B0.out⟩
    · have g1 : ¬ s.toList = s'.toList := by simpa using e2
      go_enter Tryz.func90, Tryz.ntmps90
      go_wp2
      go_ret
      exact ⟨ret_bool F.out.symm, B0.out⟩
    · have g1 : (n == n') = false := by simpa using e3
      go_enter Tryz.func90, Tryz.ntmps90
      go_wp2
      go_ret
      exact ⟨ret_bool F.out.symm, B0.out⟩
    · have g1 : (d == d') = false := by simpa using e4
      go_enter Tryz.func90, Tryz.ntmps90
      go_wp2
      go_ret
      exact ⟨ret_bool F.out.symm, B0.out⟩
    · subst e5
      cases i'
      all_goals
        go_enter Tryz.func90, Tryz.ntmps90
        go_wp2
        go_ret
        exact ⟨ret_bool F.out.symm, B0.out⟩
    · subst e6
      cases h'
      all_goals
        go_enter Tryz.func90, Tryz.ntmps90
        go_wp2
        go_ret
        exact ⟨ret_bool F.out.symm, B0.out⟩
def RelEqq {α : Type} (w : World) (l1 l2 : List α) (i : Value) (wr : World) : Prop := ∃ k : Nat, i = .int .i64 k ∧ k ≤ l1.length ∧ Below w.heap.size w wr ∧ Hid (l1.take k = l2.take k)
theorem RelEqq.mk {α : Type} {w : World} {l1 l2 : List α} {i : Value} {wr : World} (k : Nat) (h1 : i = .int .i64 k) (h2 : k ≤ l1.length) (h3 : Below w.heap.size w wr) (h4 : l1.take k = l2.take k) : RelEqq w l1 l2 i wr := ⟨k, h1, h2, h3, h4⟩
theorem take_more {α : Type} {l1 l2 : List α} {k : Nat} {x y : α} (h : l1.take k = l2.take k) (hx : l1[k]? = some x) (hy : l2[k]? = some y) (e : x = y) : l1.take (k + 1) = l2.take (k + 1) := by
  obtain ⟨h1, rfl⟩ := List.getElem?_eq_some_iff.1 hx
  obtain ⟨h2, rfl⟩ := List.getElem?_eq_some_iff.1 hy
  rw [List.take_succ_eq_append_getElem h1, List.take_succ_eq_append_getElem h2, h, e]
theorem ne_at {α : Type} {l1 l2 : List α} {k : Nat} {x y : α} (hx : l1[k]? = some x) (hy : l2[k]? = some y) (e : ¬ x = y) : ¬ l1 = l2 := by
  intro h; rw [h, hy] at hx; exact e (by cases hx; rfl)
set_option maxRecDepth 100000 in
set_option maxHeartbeats 1500000 in
theorem eqFuncV_any (N : Nat) (hS : SvC N) (w : World) (l1 l2 : List VT) (v1 v2 : Value) (hN : szL l1 ≤ N) (h1 : VM w v1 l1) (h2 : VM w v2 l2) :
    Calls Tryz.prog 89 #[v1, v2, .func (.func 90) #[] #[]] w fun e w' => e = .returned (.bool (eqP (l1 = l2))) ∧ Below w.heap.size w w' := by
  obtain ⟨a1, c1, rfl, hl1⟩ := h1.shape
  obtain ⟨a2, c2, rfl, hl2⟩ := h2.shape
  by_cases hlen : l1.length = l2.length
  case neg =>
    have F := hide (show eqP (l1 = l2) = false from eqP_f (fun h => hlen (by rw [h])))
    have g1 : ¬ (l1.length : Int) = l2.length := by omega
    have g2 : ((l1.length : Int) == l2.length) = false := by simpa using g1
    clear h1 h2 hS hlen
    go_enter Tryz.func89, Tryz.ntmps89
    go_wp2
    go_ret
    exact ⟨ret_bool F.out.symm, Below.refl _ _⟩
  have H1 := hide h1
  have H2 := hide h2
  have HS := hide hS
  have LE := hide hlen
  obtain ⟨n, hn⟩ : ∃ n, l1.length = n := ⟨_, rfl⟩
  have hn2 : l2.length = n := hlen.symm.trans hn
  have L1 := hide hn
  have L2 := hide hn2
  rw [hn] at hl1
  rw [hn, hn2]
  clear h1 h2 hS hn hn2 hlen hl2
  go_enter Tryz.func89, Tryz.ntmps89
  go_wp2
  go_loopw [17] (fun i wr => RelEqq w l1 l2 i wr) (fun i _ => n - (intOf i).toNat)
  case atStart => exact .mk 0 rfl (Nat.zero_le _) (Below.refl _ _) rfl
  case round =>
    obtain ⟨k, rfl, hk, BE, R⟩ := hrel
    replace BE := hide BE
    rw [L1.out] at hk
    by_cases hlt : k < n
    · obtain ⟨x, hx⟩ : ∃ x, l1[k]? = some x := ⟨_, List.getElem?_eq_getElem (by rw [L1.out]; exact hlt)⟩
      obtain ⟨y, hy⟩ : ∃ y, l2[k]? = some y := ⟨_, List.getElem?_eq_getElem (by rw [L2.out]; exact hlt)⟩
      have hlt' : (k : Int) < n := by omega
      obtain ⟨b1, o1, c1', u1, hv1, hb1, t1, hu1, hk1⟩ := H1.out.at hx
      obtain ⟨b2, o2, c2', u2, hv2, hb2, t2, hu2, hk2⟩ := H2.out.at hy
      obtain ⟨rfl, rfl⟩ : a1 = some ⟨b1, o1, none⟩ ∧ c1 = c1' := by cases hv1; exact ⟨rfl, rfl⟩
      obtain ⟨rfl, rfl⟩ : a2 = some ⟨b2, o2, none⟩ ∧ c2 = c2' := by cases hv2; exact ⟨rfl, rfl⟩
      obtain ⟨x0, x1, x2, x3, x4, x5⟩ := t1.below BE.out hb1
      obtain ⟨y0, y1, y2, y3, y4, y5⟩ := t2.below BE.out hb2
      have x6 := (BE.out.cell (p := ⟨b1, o1 + k * 7 + 6, none⟩) hb1).trans hu1
      have y6 := (BE.out.cell (p := ⟨b2, o2 + k * 7 + 6, none⟩) hb2).trans hu2
      have w1 : b1 < wr.heap.size := by have := BE.out.size; omega
      have w2 : b2 < wr.heap.size := by have := BE.out.size; omega
      have m1 : b1 ≠ wr.heap.size := by omega
      have m2 : b2 ≠ wr.heap.size := by omega
      have m3 : b2 ≠ wr.heap.size + 1 := by omega
      have m4 : b1 ≠ wr.heap.size + 1 := by omega
      have CQ := hide (fun (V : World) (h : Below w.heap.size w V) => sameValue_any N HS.out V x y u1 u2 (by have := sz_at hx; omega) (hk1.low h) (hk2.low h))
      obtain ⟨p1, p2, hp1, _⟩ := hk1.shape
      obtain ⟨p3, p4, hp2, _⟩ := hk2.shape
      subst hp1 hp2
      have ST := hide (fun (e : x = y) => take_more R.out hx hy e)
      have NQ := hide (fun (e : ¬ x = y) => ne_at hx hy e)
      clear hx hy R
      unfold vtV at CQ
      clear t1 t2 hu1 hu2 hk1 hk2 hv1 hv2
      by_cases heq : x = y
      · have Q := hide (eqP_t heq)
        have TM := hide (ST.out heq)
        clear heq ST NQ
        go_wp2_with (go_at_call 90; refine (CQ.out _ (bplus (bplus BE.out _) _)).mono ?_; rintro e w3 ⟨rfl, B3⟩; rw [Q.out]; replace B3 := hide (bto (bplus (bplus BE.out _) _) B3))
        go_roundw
        case rel => exact .mk (k + 1) (by go_num) (by rw [L1.out]; omega) B3.out TM.out
        case measure => simp [intOf]; omega
      · have Q := hide (eqP_f heq)
        have F := hide (eqP_f (NQ.out heq))
        clear heq ST NQ
        go_wp2_with (go_at_call 90; refine (CQ.out _ (bplus (bplus BE.out _) _)).mono ?_; rintro e w3 ⟨rfl, B3⟩; rw [Q.out]; replace B3 := hide (bto (bplus (bplus BE.out _) _) B3))
        go_ret
        exact ⟨ret_bool F.out.symm, B3.out⟩
    · have hlt' : ¬ (k : Int) < n := by omega
      have F := hide (eqP_t (show l1 = l2 by have h := R.out; rwa [List.take_of_length_le (by rw [L1.out]; omega), List.take_of_length_le (by rw [L2.out]; omega)] at h))
      go_wp2
      go_ret
      exact ⟨ret_bool F.out.symm, BE.out⟩
theorem sv_step (N : Nat) (hS : SvC N) : SvC (N + 1) := by
  intro w l1 l2 v1 v2 hN h1 h2
  have C := hide (eqFuncV_any N hS w l1 l2 v1 v2 (by omega) h1 h2)
  obtain ⟨a1, c1, rfl, hl1⟩ := h1.shape
  obtain ⟨a2, c2, rfl, hl2⟩ := h2.shape
  clear h1 h2 hS
  go_enter Tryz.func60, Tryz.ntmps60
  go_wp2_with (go_at_call 89; refine C.out.mono ?_; rintro e w1 ⟨rfl, B1⟩; replace B1 := hide B1)
  go_ret
  exact ⟨rfl, B1.out⟩
theorem sv_all (N : Nat) : SvC N := by
  induction N with
  | zero => intro w l1 l2 v1 v2 hN; omega
  | succ N ih => exact sv_step N ih
theorem sameValues_any (w : World) (l1 l2 : List VT) (v1 v2 : Value) (h1 : VM w v1 l1) (h2 : VM w v2 l2) : Calls Tryz.prog 60 #[v1, v2] w fun e w' => e = .returned (.bool (eqP (l1 = l2))) ∧ Below w.heap.size w w' :=
  sv_all (szL l1 + 1) w l1 l2 v1 v2 (by omega) h1 h2
end Go.Proofs.YtbdacepomdlcbaaGreatDoor
