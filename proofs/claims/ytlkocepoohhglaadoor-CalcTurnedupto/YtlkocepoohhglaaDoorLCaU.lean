/-
  All lists of an expression turned about.
-/
import Derived.Test.YtlkocepoohhglaaDoorLCaT
set_option linter.unusedVariables false
set_option linter.unusedSimpArgs false
namespace Go.Proofs.YtlkocepoohhglaaDoor.cc
open Go.RowKit

mutual
/-- All lists the other way round, down to a depth. -/
def tuE : Ex → Nat → Ex
  | .mk k n d u ks, j => if 400 < j then .mk k n d u ks else .mk k n d u (tuEs ks (j + 1)).reverse
def tuEs : List Ex → Nat → List Ex
  | [], _ => []
  | e :: es, j => tuE e j :: tuEs es j
end
theorem tuEs_map (l : List Ex) (j : Nat) : tuEs l j = l.map (fun y => tuE y j) := by
  induction l with
  | nil => rw [tuEs]; rfl
  | cons e r ih => rw [tuEs, ih]; rfl
theorem tuE_mk (k n d u : Int) (ks : List Ex) (j : Nat) : tuE (.mk k n d u ks) j = if 400 < j then .mk k n d u ks else .mk k n d u (ks.map (fun y => tuE y (j + 1))).reverse := by rw [tuE, tuEs_map]
theorem tuE_k (x : Ex) (j : Nat) : (tuE x j).k = x.k ∧ (tuE x j).n = x.n ∧ (tuE x j).d = x.d ∧ (tuE x j).u = x.u := by
  obtain ⟨k, n, d, u, ks⟩ := x
  rw [tuE_mk]
  split <;> exact ⟨rfl, rfl, rfl, rfl⟩
theorem tuE_ok {x : Ex} (h : x.Ok) (j : Nat) : (tuE x j).Ok := by
  obtain ⟨h1, h2, h3, h4⟩ := tuE_k x j
  unfold Ex.Ok
  rw [h1, h2, h3, h4]
  exact h
def TuC (N H0 : Nat) : Prop := ∀ (x : Ex) (j : Nat) (u : Value) (w : World), szE x ≤ N → j ≤ 401 → x.Ok → H0 ≤ w.heap.size → EMP w (fun b => b < H0) u x.ks → Calls Tryd.prog 14 #[exV x u, .int .i64 j] w fun e w' => ∃ u', e = .returned (exV (tuE x j) u') ∧ EMP w' (fun b => b < H0 ∨ w.heap.size ≤ b) u' (tuE x j).ks ∧ Below w.heap.size w w'
def RelTu (w : World) (H0 : Nat) (ks : List Ex) (j : Nat) (o1 o2 : Obj) (i l : Value) (wr : World) : Prop := ∃ (m : Nat) (ps : List (Ex × Value)), i = .int .i64 ((m : Int) - 1) ∧ m ≤ ks.length ∧ Hid (OwnE wr H0 (w.heap.size + 2) l ps) ∧ Hid (ps.map (·.1) = ((ks.drop m).map (fun y => tuE y (j + 1))).reverse) ∧ Below w.heap.size w wr ∧ Hid (wr.heap[w.heap.size]? = some o1) ∧ Hid (wr.heap[w.heap.size + 1]? = some o2)
theorem RelTu.mk {w : World} {H0 : Nat} {ks : List Ex} {j : Nat} {o1 o2 : Obj} {i l : Value} {wr : World} (m : Nat) (ps : List (Ex × Value)) (h1 : i = .int .i64 ((m : Int) - 1)) (h2 : m ≤ ks.length) (h3 : OwnE wr H0 (w.heap.size + 2) l ps) (h4 : ps.map (·.1) = ((ks.drop m).map (fun y => tuE y (j + 1))).reverse) (h5 : Below w.heap.size w wr) (h6 : wr.heap[w.heap.size]? = some o1) (h7 : wr.heap[w.heap.size + 1]? = some o2) : RelTu w H0 ks j o1 o2 i l wr := ⟨m, ps, h1, h2, h3, h4, h5, h6, h7⟩
theorem ownE_shape {w : World} {H0 base : Nat} {v : Value} {ps : List (Ex × Value)} (h : OwnE w H0 base v ps) : ∃ a c, v = .slice a ps.length c := by
  rcases h.1.2 with ⟨rfl, h0⟩ | ⟨g, cap, cur, rfl, _⟩
  · exact ⟨_, _, by rw [h0]⟩
  · exact ⟨_, _, rfl⟩
theorem app_low {w w1 w2 w8 : World} {v : Value} {base n : Nat} {xs : List Value} (hB : Below w.heap.size w w1) (h1 : w1.ownsRow base 26 5 v n xs) (hb : w.heap.size ≤ base) (hg : w2.grownBy w8 v.ownBlock) (h2 : Below w1.heap.size w1 w2) : Below w.heap.size w w8 := by
  have B2 := bto hB h2
  exact B2.grown hg B2.size (fun k hk => by have := (h1.lt k hk).1; omega)
theorem app_far {w1 w2 w8 : World} {v : Value} {base n r : Nat} {xs : List Value} {o : Obj} (hr : w1.heap[r]? = some o) (h1 : w1.ownsRow base 26 5 v n xs) (hb : r < base) (hg : w2.grownBy w8 v.ownBlock) (h2 : Below w1.heap.size w1 w2) : w8.heap[r]? = some o := by
  have P := far_blk hr h2
  exact (hg.block r (Array.getElem?_eq_some_iff.1 P).1 (fun e => by have := (h1.lt r e.symm).1; omega)).trans P
theorem own_pn {w : World} {H0 base pn : Nat} {v : Value} {ps : List (Ex × Value)} (h : OwnE w H0 base v ps) (e : ps.length = pn) : w.ownsRow base 26 5 v pn (ps.flatMap kidC) := e ▸ h.1
theorem one5 {w : World} {P : Nat → Prop} {u' : Value} {l : List Ex} {xk xn xd xu : Int} (h : EMP w P u' l) : ∀ u ∈ [Value.int .i64 xk, .int .i64 xn, .int .i64 xd, .int .i64 xu, u'], u.oneCell' = true := by
  obtain ⟨a, c, rfl, _⟩ := h.shape
  intro u hu
  simp at hu
  rcases hu with rfl | rfl | rfl | rfl | rfl <;> rfl
theorem tu_push {w4 w8 : World} {H0 base g cap pn S : Nat} {v : Value} {ps : List (Ex × Value)} {y : Ex} {u' : Value} {o : Obj}
    (OW : OwnE w4 H0 base v ps ∧ ∀ b, (b < H0 ∨ S ≤ b) → (b < H0 ∨ base ≤ b) ∧ some b ≠ v.ownBlock) (NE : EMP w4 (fun b => b < H0 ∨ S ≤ b) u' y.ks) (hy : y.Ok) (hpn : ps.length = pn)
    (ho : w8.ownsRow base 26 5 (.slice (some ⟨g, 0, none⟩) (pn + 1) cap) (pn + 1) (ps.flatMap kidC ++ kidC (y, u')))
    (hg : (w4.alloc o).grownBy w8 v.ownBlock) (hl : v.ownBlock = some g ∨ g = (w4.alloc o).heap.size) : OwnE w8 H0 base (.slice (some ⟨g, 0, none⟩) (pn + 1) cap) (ps ++ [(y, u')]) := by
  subst hpn
  exact (OW.1.low (bplus (Below.refl _ _) o)).push (p := (y, u')) hy (NE.move fun b hP hb => ⟨Below.heap_alloc w4 o b hb, OW.2 b hP⟩) ho hg hl
set_option maxRecDepth 100000 in
set_option maxHeartbeats 8000000 in
theorem turned_all (H0 : Nat) (N : Nat) : TuC N H0 := by
  obtain ⟨i0, hi, hz0, hz1, hz2⟩ := info_parts infoE5
  induction N with
  | zero => intro x j u w hN; rw [szE_ks] at hN; omega
  | succ N ih =>
    intro x j u w hN hj hx hH hu
    obtain ⟨a, c, rfl, hl9⟩ := hu.shape
    rw [szE_ks] at hN
    obtain ⟨k, n, d, q, ks⟩ := x
    simp only [Ex.ks] at hN hl9 hu
    have E := hide (tuE_mk k n d q ks j)
    show Calls Tryd.prog 14 #[.agg #[.int .i64 k, .int .i64 n, .int .i64 d, .int .i64 q, .slice a ks.length c], .int .i64 j] w _
    have nR := (show (w.alloc (.cells #[.int .i64 k, .int .i64 n, .int .i64 d, .int .i64 q, .slice a ks.length c] 26)).heap.size = w.heap.size + 1 by simp)
    have PQ := hide (more_blk (heap_alloc_new w (.cells #[.int .i64 k, .int .i64 n, .int .i64 d, .int .i64 q, .slice a ks.length c] 26)) z5)
    have PR := hide (heap_alloc_new (w.alloc (.cells #[.int .i64 k, .int .i64 n, .int .i64 d, .int .i64 q, .slice a ks.length c] 26)) z5)
    rw [nR] at PR
    have HB := hide (bplus (bplus (Below.refl w.heap.size w) (.cells #[.int .i64 k, .int .i64 n, .int .i64 d, .int .i64 q, .slice a ks.length c] 26)) z5)
    have HV := hide hu
    have IH := hide ih
    have nS := hide (show ((w.alloc (.cells #[.int .i64 k, .int .i64 n, .int .i64 d, .int .i64 q, .slice a ks.length c] 26)).alloc z5).heap.size = w.heap.size + 2 by simp)
    unfold z5 at PQ PR HB nS
    clear nR hu ih
    have XO := hide hx
    clear hx
    by_cases hj4 : 400 < j
    · have hj5 : (400 : Int) < (j : Int) := by omega
      replace E := hide (show tuE (.mk k n d q ks) j = .mk k n d q ks by rw [E.out, if_pos hj4])
      rw [E.out]
      go_enter Tryd.func14, Tryd.ntmps14
      go_upto_region 1 with fail
      generalize ((w.alloc (.cells #[.int .i64 k, .int .i64 n, .int .i64 d, .int .i64 q, .slice a ks.length c] 26)).alloc (.cells #[.int .i64 0, .int .i64 0, .int .i64 0, .int .i64 0, .slice none 0 0] 26)) = Wa at *
      obtain ⟨q0, q1, q2, q3, q4⟩ := bxk_5c PQ.out
      obtain ⟨r0, r1, r2, r3, r4⟩ := bxk_5c PR.out
      have fz := fz_of PR.out
      go_wp2
      exact ret5s (v0 := .int .i64 k) (v1 := .int .i64 n) (v2 := .int .i64 d) (v3 := .int .i64 q) (v4 := .slice a ks.length c) Tryd.results14 rfl PR.out rfl ⟨_, rfl, HV.out.move fun b hP hb => ⟨(set5_low HB.out (by omega) _ _ _ _ _).block b hb, .inl hP⟩, set5_low HB.out (by omega) _ _ _ _ _⟩
    · have hj5 : ¬ (400 : Int) < (j : Int) := by omega
      replace E := hide (show tuE (.mk k n d q ks) j = .mk k n d q (ks.map (fun y => tuE y (j + 1))).reverse by rw [E.out, if_neg hj4])
      rw [E.out]
      go_enter Tryd.func14, Tryd.ntmps14
      go_upto_region 1 with fail
      generalize ((w.alloc (.cells #[.int .i64 k, .int .i64 n, .int .i64 d, .int .i64 q, .slice a ks.length c] 26)).alloc (.cells #[.int .i64 0, .int .i64 0, .int .i64 0, .int .i64 0, .slice none 0 0] 26)) = Wa at *
      obtain ⟨q0, q1, q2, q3, q4⟩ := bxk_5c PQ.out
      go_wp2
      clear q0 q1 q2 q3 q4
      go_loopw [5, 6] (fun l i wr => RelTu w H0 ks j (.cells #[.int .i64 k, .int .i64 n, .int .i64 d, .int .i64 q, .slice a ks.length c] 26) (.cells #[.int .i64 0, .int .i64 0, .int .i64 0, .int .i64 0, .slice none 0 0] 26) i l wr) (fun _ i _ => (intOf i + 1).toNat)
      case atStart => exact .mk ks.length [] (by go_num) (Nat.le_refl _) (.nil _ _ _) (by simp) HB.out PQ.out PR.out
      case round =>
        clear HB PQ PR
        obtain ⟨m, ps, rfl, hm, OW, PS, BE, PQ, PR⟩ := hrel
        replace BE := hide BE
        obtain ⟨la, lc, hls⟩ := ownE_shape OW.out
        have hpl : ps.length ≤ ks.length := by
          have := congrArg List.length PS.out
          rw [List.length_map, List.length_reverse, List.length_map, List.length_drop] at this
          omega
        have hsz2 : w.heap.size + 2 ≤ wr.heap.size := by have := (Array.getElem?_eq_some_iff.1 PR.out).1; omega
        obtain ⟨q0, q1, q2, q3, q4⟩ := bxk_5c PQ.out
        by_cases hlt : 0 < m
        · obtain ⟨p, rfl⟩ : ∃ p, m = p + 1 := ⟨m - 1, by omega⟩
          obtain ⟨y, hy⟩ : ∃ y, ks[p]? = some y := ⟨_, List.getElem?_eq_getElem (by omega)⟩
          obtain ⟨b, o, c', v, hv', hb, -, -, yo, t5, hu5, hku⟩ := HV.out.at hy
          obtain ⟨rfl, rfl⟩ : a = some ⟨b, o, none⟩ ∧ c = c' := by cases hv'; exact ⟨rfl, rfl⟩
          obtain ⟨ua, uc, hus, hks9⟩ := hku.shape
          have SZ := hide (show szE y ≤ N by have := szEs_at hy; omega)
          have KU := hide hku
          have YO := hide yo
          have PN := hide (show ((ks.drop p).map (fun y => tuE y (j + 1))).reverse = ((ks.drop (p + 1)).map (fun y => tuE y (j + 1))).reverse ++ [tuE y (j + 1)] by rw [drop_atE hy, List.map_cons, List.reverse_cons])
          have e1 : ((p + 1 : Nat) : Int) - 1 = (p : Int) := by omega
          rw [e1]
          obtain ⟨c0, c1, c2, c3⟩ := t5.below BE.out hb
          have c4 := (BE.out.cell (p := ⟨b, o + p * 5 + 4, none⟩) hb).trans hu5
          have hp0 : (0 : Int) ≤ (p : Int) := by omega
          have hpk : (p : Int) < (ks.length : Int) := by omega
          clear hy hv' t5 hu5 hku yo
          subst hus
          have CI := hide (fun (W : World) (h : Below w.heap.size w W) => IH.out y (j + 1) (.slice ua y.ks.length uc) W SZ.out (by omega) YO.out (Nat.le_trans hH h.size) (KU.out.move fun b hP hb => ⟨h.block b hb, hP⟩))
          rw [show ((j + 1 : Nat) : Int) = (j : Int) + 1 by omega] at CI
          unfold exV at CI
          obtain ⟨g1, g2, g3, g4⟩ := tuE_k y (j + 1)
          rw [g1, g2, g3, g4] at CI
          have GK := hide (show ∀ v : Value, kidC (tuE y (j + 1), v) = [.int .i64 y.k, .int .i64 y.n, .int .i64 y.d, .int .i64 y.u, v] by intro v; unfold kidC; rw [g1, g2, g3, g4])
          clear g1 g2 g3 g4
          generalize y.k = xk at *
          generalize y.n = xn at *
          generalize y.d = xd at *
          generalize y.u = xu at *
          subst hls
          generalize hpn : ps.length = pn at *
          have HPN := hide hpn
          clear hpn
          go_wp2_with (first
            | (go_at_call 14; refine (CI.out _ BE.out).mono ?_; rintro e w4 ⟨u', rfl, EU, B4⟩; replace PQ := hide (far_blk PQ.out B4); replace PR := hide (far_blk PR.out B4); replace OW := hide (And.intro (OW.out.low B4) (show ∀ b, (b < H0 ∨ wr.heap.size ≤ b) → (b < H0 ∨ w.heap.size + 2 ≤ b) ∧ some b ≠ (Value.slice la pn lc).ownBlock from fun b hb => ⟨by omega, fun e => by have := OW.out.1.lt b e.symm; omega⟩)); replace BE := hide (bto BE.out B4); have NE := hide EU; clear B4 EU CI)
            | (at_builtin; refine wpList_append_lies _ rfl _ _ 24 rfl (w.heap.size + 2) 26 i0 _ 5 56 Tryd.underlying24 hi hz0 hz1 hz2 rfl (by decide) (.slice la pn lc) pn (ps.flatMap kidC) rfl ((own_pn OW.out.1 HPN.out).alloc _) ⟨_, 0, none⟩ 1 1 [.int .i64 xk, .int .i64 xn, .int .i64 xd, .int .i64 xu, u'] rfl rfl (new5 _ _ _ _ _ _ _ _ (by simp)) (one5 NE.out) (by decide) (by unfold maxLen; omega) (by omega) (by have := BE.out.size; have := (Array.getElem?_eq_some_iff.1 PR.out).1; simp; omega) _ rfl ?_; intro g cap w8 hown hg hl hlt8; have O8 := tu_push OW.out NE.out (tuE_ok YO.out (j + 1)) HPN.out (by rw [GK.out]; exact hown) hg hl; have B8 := app_low BE.out OW.out.1.1 (by omega) hg (bplus (Below.refl _ _) _); have Q8 := app_far PQ.out OW.out.1.1 (by omega) hg (bplus (Below.refl _ _) _); have R8 := app_far PR.out OW.out.1.1 (by omega) hg (bplus (Below.refl _ _) _); replace OW := hide O8; replace BE := hide B8; replace PQ := hide Q8; replace PR := hide R8; clear hown hg hl hlt8 O8 B8 Q8 R8))
          go_roundw
          case rel => exact .mk p (ps ++ [(tuE y (j + 1), u')]) (by go_num) (by omega) OW.out (by rw [List.map_append, PS.out, PN.out]; rfl) BE.out PQ.out PR.out
          case measure => simp [intOf]
        · have hm0 : m = 0 := by omega
          subst hm0
          have EP := hide (OW.out.emp (by omega))
          rw [PS.out, List.drop_zero] at EP
          obtain ⟨r0, r1, r2, r3, r4⟩ := bxk_5c PR.out
          have fz := fz_of PR.out
          have fq := fz_of PQ.out
          have ne1 : w.heap.size ≠ w.heap.size + 1 := by omega
          subst hls
          have BS := hide (set_low (b := w.heap.size) (j := 4) (v := .slice la ps.length lc) BE.out (Nat.le_refl _))
          have PS9 := hide ((Below.heap_setCell wr ⟨w.heap.size, 4, none⟩ (.slice la ps.length lc) (w.heap.size + 1) (by show w.heap.size + 1 ≠ w.heap.size; omega)).trans PR.out)
          have KB := hide (show ∀ b, (b < H0 ∨ w.heap.size + 2 ≤ b) → b < wr.heap.size → (set5 (wr.setCell ⟨w.heap.size, 4, none⟩ (.slice la ps.length lc)) (w.heap.size + 1) (.int .i64 k) (.int .i64 n) (.int .i64 d) (.int .i64 q) (.slice la ps.length lc)).heap[b]? = wr.heap[b]? ∧ (b < H0 ∨ w.heap.size ≤ b) from fun b hP hb => ⟨(set5_far (by omega) _ _ _ _ _ (by simpa [World.setCell] using hb)).trans (Below.heap_setCell _ _ _ _ (by show b ≠ w.heap.size; omega)), by omega⟩)
          generalize ps.length = pn at *
          go_wp2
          exact ret5s (v0 := .int .i64 k) (v1 := .int .i64 n) (v2 := .int .i64 d) (v3 := .int .i64 q) (v4 := .slice la pn lc) Tryd.results14 rfl PS9.out rfl ⟨_, rfl, EP.out.move KB.out, set5_low BS.out (by omega) _ _ _ _ _⟩
end Go.Proofs.YtlkocepoohhglaaDoor.cc
