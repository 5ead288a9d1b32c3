/-
  May these component values be: by the program.
  The program reads a list of one selector.
  The tokens of component values: by the program.
  A stack of frames in memory, each with a row of values of its own.
-/
import Derived.Test.YtmkbjcoagfnegaaGreatDoorZ26
import Derived.Outline
import Derived.Test.YtmkbjcoagfnegaaGreatDoorZ29
import Derived.Laws.AppendOwnNone
import Derived.Deep.RegionHeld3
import Derived.Deep.AppendLies
set_option linter.unusedVariables false
set_option linter.unusedSimpArgs false
namespace Go.Proofs.YtmkbjcoagfnegaaGreatDoor
open Go.RowKit

/-- A level of the path: the slice, what it holds, what is to stand behind it. -/
structure Lv where
  u : Value
  r : List VT
  c : Int
def lvC (x : Lv) : List Value := [x.u, .int .i64 x.c]
def lvs (ps : List Lv) : List Value := ps.flatMap lvC
theorem lvs_len (ps : List Lv) : (lvs ps).length = ps.length * 2 := by
  induction ps with
  | nil => rfl
  | cons x r ih => unfold lvs at *; rw [List.flatMap_cons, List.length_append, ih]; simp [lvC]; omega
theorem lvs_snoc (ps : List Lv) (x : Lv) : lvs (ps ++ [x]) = lvs ps ++ lvC x := by simp [lvs]
theorem lvs_at0 (ps : List Lv) (x : Lv) : (lvs (ps ++ [x]))[ps.length * 2]? = some x.u := by
  rw [lvs_snoc, List.getElem?_append_right (by rw [lvs_len]; omega), lvs_len]; simp [lvC]
theorem lvs_at1 (ps : List Lv) (x : Lv) : (lvs (ps ++ [x]))[ps.length * 2 + 1]? = some (.int .i64 x.c) := by
  rw [lvs_snoc, List.getElem?_append_right (by rw [lvs_len]; omega), lvs_len]; simp [lvC]
theorem lvs_set (ps : List Lv) (x : Lv) (u : Value) (r : List VT) : (lvs (ps ++ [x])).set (ps.length * 2) u = lvs (ps ++ [⟨u, r, x.c⟩]) := by
  rw [lvs_snoc, lvs_snoc, List.set_append_right _ _ (by rw [lvs_len]; omega), lvs_len]; simp [lvC]
/-- A path in memory. -/
structure PathM (w wr : World) (v : Value) (ps : List Lv) : Prop where
  own : wr.ownsRow w.heap.size 92 2 v ps.length (lvs ps)
  vm : ∀ x ∈ ps, VM w x.u x.r
  bel : Below w.heap.size w wr
theorem PathM.top {w wr : World} {v : Value} {qs : List Lv} {x : Lv} (h : PathM w wr v (qs ++ [x])) : ∃ g cap, v = .slice (some ⟨g, 0, none⟩) (qs.length + 1) cap ∧ w.heap.size ≤ g ∧ g < wr.heap.size ∧ qs.length + 1 ≤ cap ∧ cap ≤ 9223372036854775807 ∧ wr.cell? ⟨g, qs.length * 2, none⟩ = some x.u ∧ wr.cell? ⟨g, qs.length * 2 + 1, none⟩ = some (.int .i64 x.c) ∧ wr.frozen? ⟨g, qs.length * 2, none⟩ = false := by
  have h1 := h.own
  rw [List.length_append, List.length_singleton] at h1
  obtain ⟨g, cap, cur, hv, hb, hg, hn, hm, hs, ht⟩ := ownsRow_blk h1 (by omega)
  have a0 := lvs_at0 qs x
  have a1 := lvs_at1 qs x
  rw [← ht] at a0 a1
  rw [List.getElem?_take_of_lt (by omega)] at a0 a1
  unfold maxLen at hm
  refine ⟨g, cap, hv, hb, (Array.getElem?_eq_some_iff.1 hg).1, hn, hm, ?_, ?_, ?_⟩
  · rw [row_blk hg, ← a0, Array.getElem?_toList]
  · rw [row_blk hg, ← a1, Array.getElem?_toList]
  · simp [World.frozen?, hg]
theorem PathM.pop {w wr : World} {g cap : Nat} {qs : List Lv} {x : Lv} (h : PathM w wr (.slice (some ⟨g, 0, none⟩) (qs.length + 1) cap) (qs ++ [x])) : PathM w wr (.slice (some ⟨g, 0, none⟩) qs.length cap) qs := by
  have h1 := h.own
  rw [List.length_append, List.length_singleton, lvs_snoc] at h1
  exact ⟨ownsRow_cut h1 (lvs_len qs), fun y hy => h.vm y (List.mem_append_left _ hy), h.bel⟩
theorem PathM.take {w wr : World} {g cap : Nat} {qs : List Lv} {x : Lv} (h : PathM w wr (.slice (some ⟨g, 0, none⟩) (qs.length + 1) cap) (qs ++ [x])) (hg : w.heap.size ≤ g) (u : Value) (r : List VT) (hu : VM w u r) (o1 o2 : Obj) :
    PathM w (((wr.setCell ⟨g, qs.length * 2, none⟩ u).alloc o1).alloc o2) (.slice (some ⟨g, 0, none⟩) (qs.length + 1) cap) (qs ++ [⟨u, r, x.c⟩]) := by
  have h1 := h.own
  rw [List.length_append, List.length_singleton] at h1
  have h2 := ownsRow_set h1 (qs.length * 2) u
  rw [lvs_set qs x u r] at h2
  refine ⟨by rw [List.length_append, List.length_singleton]; exact (h2.alloc o1).alloc o2, fun y hy => ?_, bplus (bplus (h.bel.setCell hg u) o1) o2⟩
  rw [List.mem_append, List.mem_singleton] at hy
  rcases hy with hy | rfl
  · exact h.vm y (List.mem_append_left _ hy)
  · exact hu
theorem PathM.alloc {w wr : World} {v : Value} {ps : List Lv} (h : PathM w wr v ps) (o : Obj) : PathM w (wr.alloc o) v ps := ⟨h.own.alloc o, h.vm, bplus h.bel o⟩
theorem PathM.push {w wr w1 : World} {v v' : Value} {ps : List Lv} {x : Lv} {o : Obj} (h : PathM w wr v ps) (hx : VM w x.u x.r)
    (h1 : w1.ownsRow w.heap.size 92 2 v' (ps.length + 1) (lvs ps ++ lvC x)) (hg : (wr.alloc o).grownBy w1 v.ownBlock) : PathM w w1 v' (ps ++ [x]) := by
  refine ⟨by rw [List.length_append, List.length_singleton, lvs_snoc]; exact h1, fun y hy => ?_, ?_⟩
  · rw [List.mem_append, List.mem_singleton] at hy
    rcases hy with hy | rfl
    · exact h.vm y hy
    · exact hx
  · exact (h.bel.alloc h.bel.size o).grown hg (by have := h.bel.size; simp; omega) (fun k hk => (h.own.lt k hk).1)
/-- How much is left. -/
def meP : List Lv → Nat
  | [] => 0
  | x :: r => 2 * szL x.r + 1 + meP r
theorem meP_snoc (ps : List Lv) (x : Lv) : meP (ps ++ [x]) = meP ps + (2 * szL x.r + 1) := by
  induction ps with
  | nil => simp [meP]
  | cons y r ih => rw [List.cons_append, meP, meP, ih]; omega
/-- May all that is left be? -/
def myP : List Lv → Nat → Bool
  | [], _ => true
  | x :: r, n => myL x.r (64 - n) && myP r (n + 1)
theorem myP_snoc (ps : List Lv) (x : Lv) (n : Nat) : myP (ps ++ [x]) n = (myP ps n && myL x.r (64 - (n + ps.length))) := by
  induction ps generalizing n with
  | nil => simp [myP]
  | cons y r ih => rw [List.cons_append, myP, myP, ih, List.length_cons, Bool.and_assoc]; congr 3; omega
def RelMy (w : World) (l : List VT) (g : Nat) (v : Value) (wr : World) : Prop := ∃ ps, PathM w wr v ps ∧ meP ps ≤ g ∧ ps.length ≤ 65 ∧ Hid (myL l 64 = myP ps 0)
theorem RelMy.mk {w : World} {l : List VT} {g : Nat} {v : Value} {wr : World} (ps : List Lv) (h1 : PathM w wr v ps) (h2 : meP ps ≤ g) (h3 : ps.length ≤ 65) (h4 : myL l 64 = myP ps 0) : RelMy w l g v wr := ⟨ps, h1, h2, h3, h4⟩
theorem infoL : (Tryz.prog.info? 92).map (fun i => (i.zero, i.size, i.bytes)) = some (some (.agg #[.slice none 0 0, .int .i64 0]), 2, 32) := by kernel_rfl
theorem PathM.one (w : World) (u : Value) (l : List VT) (h : VM w u l) : PathM w (w.alloc (.cells #[u, .int .i64 0] 92)) (.slice (some ⟨w.heap.size, 0, none⟩) 1 1) [⟨u, l, 0⟩] :=
  ⟨⟨by simp [lvs, lvC], .inr ⟨w.heap.size, 1, #[u, .int .i64 0], rfl, Nat.le_refl _, heap_alloc_new w _, Nat.le_refl _, by decide, by simp, by simp [lvs, lvC]⟩⟩, fun y hy => by rw [List.mem_singleton] at hy; subst hy; exact h, bplus (Below.refl _ _) _⟩
theorem news2 (w : World) (g : Nat) (u0 u1 : Value) (t : TypeId) (hg : g = w.heap.size) : ∀ j x, [u0, u1][j]? = some x → (w.alloc (.cells #[u0, u1] t)).cell? ((⟨g, 0, none⟩ : Addr).add j) = some x := fun j x hx => by
  subst hg
  match j, hx with
  | 0, hx => simp at hx; subst hx; simp [Addr.add]
  | 1, hx => simp at hx; subst hx; simp [Addr.add]
theorem PathM.taken {w wr w1 : World} {g cap b o c : Nat} {qs : List Lv} {x : Lv} {y : VT} {r : List VT} {u : Value} {e : Ending} (h : PathM w wr (.slice (some ⟨g, 0, none⟩) (qs.length + 1) cap) (qs ++ [x])) (hg : w.heap.size ≤ g)
    (ht : VM w (.slice (some ⟨b, o + 7, none⟩) r.length (c - 1)) r) (T : PostTk g (qs.length * 2) b o c r.length y.t u wr e w1) : e = .returned (vtV y.t u) ∧ ∃ z, PathM w w1 (.slice (some ⟨g, 0, none⟩) (qs.length + 1) cap) (qs ++ [⟨z, r, x.c⟩]) := by
  obtain ⟨he, a, o1, o2, ha, rfl⟩ := T
  refine ⟨he, _, h.take hg _ r ?_ o1 o2⟩
  by_cases hr : r = []
  · subst hr; exact .nil _ _
  · rw [ha (List.length_pos_iff.2 hr)]; exact ht
theorem last_cases {α : Type} (l : List α) : l = [] ∨ ∃ qs x, l = qs ++ [x] := by
  cases l with
  | nil => exact .inl rfl
  | cons a r => exact .inr ⟨(a :: r).dropLast, (a :: r).getLast (by simp), (List.dropLast_concat_getLast (by simp)).symm⟩
theorem my_bad {b : Bool} {x y : Bool} (h : b = (x && y)) (g : y = false) : b = false := by rw [h, g]; simp
set_option maxRecDepth 100000 in
set_option maxHeartbeats 1000000 in
theorem may5_any (l : List VT) (v : Value) (w : World) (hv : VM w v l) :
    Calls Tryz.prog 25 #[v] w fun e w' => e = .returned (.bool (myL l 64)) ∧ Below w.heap.size w w' := by
  obtain ⟨i0, hi, hz0, hz1, hz2⟩ := info_parts infoL
  obtain ⟨a, c, rfl, hl9⟩ := hv.shape
  have P0 := hide (PathM.one w _ l hv)
  clear hv
  go_enter Tryz.func25, Tryz.ntmps25
  go_wp2
  go_loopg [3] (2 * szL l + 1) (fun g tv wr => RelMy w l g tv wr)
  case atStart => exact .mk _ P0.out (by simp [meP]) (by simp) (by simp [myP])
  case round =>
    clear P0
    obtain ⟨ps, PM, hm, h65, R⟩ := hrel
    rcases last_cases ps with rfl | ⟨qs, x, rfl⟩
    · have E := hide (show myL l 64 = true from R.out)
      have B := hide PM.bel
      obtain ⟨ga, gn, gc, hv⟩ : ∃ a n c, u3 = .slice a n c := by
        rcases PM.own.2 with ⟨h, _⟩ | ⟨g, cap, cur, h, _⟩
        · exact ⟨_, _, _, h⟩
        · exact ⟨_, _, _, h⟩
      have hn0 : gn = 0 := by
        rcases PM.own.2 with ⟨h, _⟩ | ⟨g, cap, cur, h, _⟩
        · rw [h] at hv; cases hv; rfl
        · rw [h] at hv; cases hv; rfl
      subst hv hn0
      clear PM
      go_wp2
      go_ret
      exact ⟨ret_bool E.out.symm, B.out⟩
    obtain ⟨g, cap, hv, hg1, hg2, hcap, hcap9, k0, k1, kf⟩ := PM.top
    subst hv
    rw [List.length_append, List.length_singleton] at h65
    have P := hide PM
    have HX := hide (PM.vm x (List.mem_append_right _ (List.mem_singleton.2 rfl)))
    have BE := hide PM.bel
    have R2 := hide (R.out.trans (myP_snoc qs x 0))
    rw [meP_snoc] at hm
    obtain ⟨xu, xr, xc⟩ := x
    simp only at k0 k1 HX hm R2
    clear PM R
    have q9 : qs.length ≤ 64 := by omega
    cases xr with
    | nil =>
      obtain ⟨a1, c1, hu, _⟩ := HX.out.shape
      subst hu
      have E := hide (show myL l 64 = myP qs 0 by rw [R2.out, myL_nil]; simp)
      have PP := hide P.out.pop
      have HL := hide (show qs.length ≤ 65 by omega)
      clear P R2 HX
      generalize qs.length = m at k0 k1 kf h65 hcap q9 PP ⊢
      go_wp2
      go_roundg (gk - 1)
      case measure => omega
      case rel => exact .mk qs PP.out (by omega) HL.out E.out
    | cons y r =>
      obtain ⟨b, o, cc, u, hu, hb, hcc, hcc9, hr9, t6, hk, hku, htl⟩ := HX.out.head
      subst hu
      obtain ⟨ua, uc, hus, hks9⟩ := hku.shape
      have T6 := hide (t6.below BE.out hb)
      have U6 := hide ((BE.out.cell (p := ⟨b, o + 6, none⟩) hb).trans hk)
      have TL := hide htl
      have KU := hide hku
      have US := hide hus
      rw [szL_cons] at hm
      rw [myL_cons, Nat.zero_add] at R2
      clear hk hku htl t6 HX
      have hgb : g ≠ b := by omega
      have hbw : b < wr.heap.size := by have := BE.out.size; omega
      have TK := hide (take_any g (qs.length * 2) b o cc r.length y.t u wr k0 kf hgb hg2 hbw hcc hcc9 T6.out U6.out ⟨_, _, _, US.out⟩)
      have TP := hide (fun (e : Ending) (w1 : World) (h : PostTk g (qs.length * 2) b o cc r.length y.t u wr e w1) => P.out.taken (y := y) hg1 TL.out h)
      have HL := hide (show qs.length ≤ 64 by omega)
      clear P T6 U6
      obtain ⟨⟨k, ts, tn, td, ti, th⟩, yk⟩ := y
      simp only [VT.t, VT.ks] at *
      unfold vtV at TP
      subst hus
      obtain ⟨m, hml⟩ : ∃ m, qs.length = m := ⟨_, rfl⟩
      have ML := hide hml
      rw [hml] at k0 k1 kf h65 hcap q9 TK TP R2 ⊢
      clear hml
      replace R2 := hide (show myL l 64 = (myP qs 0 && (((decide (1 ≤ k) && decide (k ≤ 24)) && if cKn k = 0 then yk.isEmpty else (decide (0 < 64 - m) && myL yk (64 - m - 1))) && myL r (64 - m))) from R2.out)
      by_cases hk12 : 1 ≤ k ∧ k ≤ 24
      case neg =>
        have K1 := hide (show (decide (1 ≤ k) && decide (k ≤ 24)) = false by rw [Bool.eq_false_iff]; intro h; simp at h; exact hk12 h)
        have F := hide (my_bad R2.out (by rw [K1.out]; simp))
        clear hk12
        go_wp2_with (first
          | (go_at_call 40; refine TK.out.mono ?_; rintro e w1 h1; obtain ⟨he, z, PZ⟩ := TP.out e w1 h1; subst he; replace PZ := hide PZ; clear h1)
          | (go_at_call 41; refine (isKind_any _ _).mono ?_; rintro e w2 ⟨rfl, rfl⟩; rw [K1.out]))
        go_ret
        exact ⟨ret_bool F.out.symm, by first | exact PZ.out.bel | exact bplus PZ.out.bel _ | exact bplus (bplus PZ.out.bel _) _⟩
      have K1 := hide (show (decide (1 ≤ k) && decide (k ≤ 24)) = true by simp [hk12])
      clear hk12
      rw [K1.out, Bool.true_and] at R2
      by_cases hc0 : cKn k = 0
      · have K2 := hide hc0
        rw [if_pos hc0] at R2
        clear hc0
        by_cases hy : yk = []
        · subst hy
          have E := hide (show myL l 64 = (myP qs 0 && myL r (64 - m)) by rw [R2.out]; simp)
          clear R2
          go_wp2_with (first
            | (go_at_call 40; refine TK.out.mono ?_; rintro e w1 h1; obtain ⟨he, z, PZ⟩ := TP.out e w1 h1; subst he; replace PZ := hide PZ; clear h1)
            | (go_at_call 41; refine (isKind_any _ _).mono ?_; rintro e w2 ⟨rfl, rfl⟩; rw [K1.out])
            | (go_at_call 42; refine (closerOf_any _ _).mono ?_; rintro e w3 ⟨rfl, rfl⟩; (try rw [K2.out])))
          go_roundg (gk - 1)
          case measure => omega
          case rel => exact .mk _ (by first | exact PZ.out | exact PZ.out.alloc _ | exact (PZ.out.alloc _).alloc _) (by rw [meP_snoc]; simp only; omega) (by rw [List.length_append, List.length_singleton]; have := HL.out; omega) (by rw [E.out, myP_snoc, Nat.zero_add, ML.out])
        · have hy0 : 0 < yk.length := List.length_pos_iff.2 hy
          have F := hide (my_bad R2.out (by cases yk with | nil => exact absurd rfl hy | cons _ _ => simp))
          have hy1 : (0 : Int) < yk.length := by omega
          clear hy
          go_wp2_with (first
            | (go_at_call 40; refine TK.out.mono ?_; rintro e w1 h1; obtain ⟨he, z, PZ⟩ := TP.out e w1 h1; subst he; replace PZ := hide PZ; clear h1)
            | (go_at_call 41; refine (isKind_any _ _).mono ?_; rintro e w2 ⟨rfl, rfl⟩; rw [K1.out])
            | (go_at_call 42; refine (closerOf_any _ _).mono ?_; rintro e w3 ⟨rfl, rfl⟩; (try rw [K2.out])))
          go_ret
          exact ⟨ret_bool F.out.symm, by first | exact PZ.out.bel | exact bplus PZ.out.bel _ | exact bplus (bplus PZ.out.bel _) _⟩
      · have hc1 : ¬ cKn k = 0 := hc0
        have hc2 : (cKn k == 0) = false := by simpa using hc0
        rw [if_neg hc0] at R2
        clear hc0
        have K2 := hide (show True from trivial)
        by_cases h64 : m < 64
        · have hd : decide (0 < 64 - m) = true := by simp; omega
          have E := hide (show myL l 64 = (myP qs 0 && (myL yk (64 - m - 1) && myL r (64 - m))) by rw [R2.out, hd]; simp)
          clear R2 hd
          have hm1 : (m : Int) + 1 ≤ 64 := by omega
          go_wp2_with (first
            | (go_at_call 40; refine TK.out.mono ?_; rintro e w1 h1; obtain ⟨he, z, PZ⟩ := TP.out e w1 h1; subst he; replace PZ := hide PZ; clear h1)
            | (go_at_call 41; refine (isKind_any _ _).mono ?_; rintro e w2 ⟨rfl, rfl⟩; rw [K1.out])
            | (go_at_call 42; refine (closerOf_any _ _).mono ?_; rintro e w3 ⟨rfl, rfl⟩; (try rw [K2.out]))
            | (at_builtin; refine wpList_append_own _ rfl _ _ 93 rfl w.heap.size 92 i0 _ 2 32 Tryz.underlying93 hi hz0 hz1 hz2 rfl (by decide) _ _ _ rfl ((PZ.out.alloc _).own.alloc _) ⟨_, 0, none⟩ 1 1 (lvC ⟨.slice ua yk.length uc, yk, 0⟩) rfl rfl (news2 _ _ _ _ _ (by simp)) (by intro u hu; simp [lvC] at hu; rcases hu with rfl | rfl <;> rfl) (by rw [List.length_append, List.length_singleton, ML.out]; unfold maxLen; omega) (by rw [List.length_append, List.length_singleton, ML.out]; omega) (by have := PZ.out.bel.size; simp; omega) ?_; intro v' w5 hown' hgrow _; replace PZ := hide ((PZ.out.alloc _).push (x := ⟨.slice ua yk.length uc, yk, 0⟩) KU.out hown' hgrow); clear hown' hgrow))
          go_roundg (gk - 1)
          case measure => omega
          case rel => exact .mk _ PZ.out (by rw [meP_snoc, meP_snoc]; simp only; omega) (by rw [List.length_append, List.length_append, List.length_singleton, List.length_singleton, ML.out]; omega) (by rw [E.out, myP_snoc, myP_snoc, List.length_append, List.length_singleton, ML.out]; simp only [Nat.zero_add]; rw [show 64 - m - 1 = 64 - (m + 1) by omega, Bool.and_assoc, Bool.and_comm (myL yk _)])
        · have F := hide (my_bad R2.out (by rw [show decide (0 < 64 - m) = false by simp; omega]; simp))
          have hm1 : (64 : Int) < (m : Int) + 1 := by omega
          go_wp2_with (first
            | (go_at_call 40; refine TK.out.mono ?_; rintro e w1 h1; obtain ⟨he, z, PZ⟩ := TP.out e w1 h1; subst he; replace PZ := hide PZ; clear h1)
            | (go_at_call 41; refine (isKind_any _ _).mono ?_; rintro e w2 ⟨rfl, rfl⟩; rw [K1.out])
            | (go_at_call 42; refine (closerOf_any _ _).mono ?_; rintro e w3 ⟨rfl, rfl⟩; (try rw [K2.out])))
          go_ret
          exact ⟨ret_bool F.out.symm, by first | exact PZ.out.bel | exact bplus PZ.out.bel _ | exact bplus (bplus PZ.out.bel _) _⟩
end Go.Proofs.YtmkbjcoagfnegaaGreatDoor
set_option linter.unusedVariables false
set_option linter.unusedSimpArgs false
namespace Go.Proofs.YtmkbjcoagfnegaaGreatDoor
open Go.RowKit

theorem lowC9 {w w1 w2 : World} {o : Obj} (h : Below w.heap.size w w1) (m : (w1.alloc o).grownBy w2 (some w1.heap.size)) : Below w.heap.size w w2 := by
  have s1 := h.size
  have s2 := m.size
  refine ⟨m.os.trans h.os, m.tape.trans h.tape, m.output.trans h.output, by simp at s2; omega, fun k hk => ?_⟩
  exact (m.block k (by simp; omega) (by intro e; cases e; omega)).trans ((Below.heap_alloc w1 o k (by omega)).trans (h.block k hk))
set_option maxRecDepth 100000 in
set_option maxHeartbeats 4000000 in
theorem newReader9_any (w0 : World) : Calls Tryz.prog 26 #[] w0 fun e w' => ∃ b c, e = .returned (.agg #[.map (some b), .map (some c)]) ∧ Below w0.heap.size w0 w' := by
  have C1 := hide (fun (w : World) => wordKinds9_any w)
  have C2 := hide (fun (w : World) => functionKinds9_any w)
  obtain ⟨Wa, hWa⟩ : ∃ Wa, w0.alloc (.cells #[.map none, .map none] 55) = Wa := ⟨_, rfl⟩
  have PQ := hide (show Wa.heap[w0.heap.size]? = some (.cells #[.map none, .map none] 55) by rw [← hWa]; exact heap_alloc_new w0 _)
  have HB := hide (show Below w0.heap.size w0 Wa by rw [← hWa]; exact bplus (Below.refl _ _) _)
  go_enter Tryz.func26, Tryz.ntmps26
  go_wp2_with (first
    | (go_at_call 43; refine ((C1).out _).mono ?_; rintro e w1 ⟨rfl, B1⟩; try clear hWa; replace PQ := hide ((B1.block _ (Array.getElem?_eq_some_iff.1 PQ.out).1).trans PQ.out); replace HB := hide (bto HB.out B1); clear B1)
    | (go_at_call 44; refine (C2.out _).mono ?_; rintro e w2 ⟨rfl, B2⟩; replace PQ := hide ((B2.block _ (Array.getElem?_eq_some_iff.1 PQ.out).1).trans PQ.out); replace HB := hide (bto HB.out B2); have r0 := (bxk_2' PQ.out).1; have r1 := (bxk_2' PQ.out).2; have y := fz_of PQ.out; clear B2))
  generalize Wa.heap.size = b1 at *
  generalize w1.heap.size = b2 at *
  refine ret_cell (b := w0.heap.size) (cs := [.map (some b1), .map (some b2)]) Tryz.results26 rfl (fun j v hv => ?_) Tryz.underlying55 rfl (by kernel_rfl) rfl ?_
  · match j, hv with
    | 0, hv => simp at hv; subst hv; exact (World.cell?_setCell_other _ ⟨w0.heap.size, 1, none⟩ ⟨w0.heap.size, 0, none⟩ _ (by simp)).trans (World.cell?_setCell_same' _ _ _ (by rw [r0]; rfl))
    | 1, hv => simp at hv; subst hv; exact World.cell?_setCell_same' _ _ _ (by rw [World.cell?_setCell_other _ ⟨w0.heap.size, 0, none⟩ ⟨w0.heap.size, 1, none⟩ _ (by simp), r1]; rfl)
  · exact ⟨b1, b2, rfl, low_mod (low_mod HB.out (grownBy_setC _ _ _ _)) (grownBy_setC _ _ _ _)⟩
set_option maxRecDepth 100000 in
set_option maxHeartbeats 4000000 in
theorem parse9_two (w0 : World) (v : Value) (h : VM w0 v [tA, tS, tG, tS, tP, tB]) (hK : KT w0) (hT : Tabs w0) :
    Calls Tryz.prog 9 #[v] w0 fun e w' => ∃ b cp gp cpp, e = .returned (.tuple #[.slice (some ⟨b, 0, none⟩) 1 cp, .int .i64 0]) ∧ w'.cell? ⟨b, 0, none⟩ = some (.slice (some ⟨gp, 0, none⟩) 2 cpp) ∧ w'.cell? ⟨gp, 2, none⟩ = some (.int .i64 2) ∧ Below w0.heap.size w0 w' := by
  have C1 := hide (may5_any _ v w0 h)
  rw [show myL [tA, tS, tG, tS, tP, tB] 64 = true by decide] at C1
  have C2 := hide (fun (w : World) => newReader9_any w)
  have C3 := hide (fun (W w0 : World) (g b c : Nat) (h : Cu W w0 g [tA, tS, tG, tS, tP, tB]) (hK : KT W) (hT : Tabs W) => list9_two W w0 g (.map (some b)) (.map (some c)) rfl rfl h hK hT)
  obtain ⟨a, cc, rfl, hl9⟩ := h.shape
  have HV := hide h
  have HK := hide hK
  have HT := hide hT
  clear h hK hT
  go_enter Tryz.func9, Tryz.ntmps9
  go_wp2_with (first
    | (go_at_call 25; refine (C1).out.mono ?_; rintro e w1 ⟨rfl, B1⟩; have HB := hide B1; clear B1 C1)
    | (go_at_call 26; refine (C2.out _).mono ?_; rintro e w2 ⟨b, c, rfl, B2⟩; replace HB := hide (bto HB.out B2); clear B2 C2)
    | (go_at_call 27; refine (C3.out w0 _ _ b c ⟨_, heap_alloc_new _ _, HV.out, HB.out.size, HB.out.trans ((bplus (Below.refl _ _) _).mono HB.out.size)⟩ HK.out HT.out).mono ?_; rintro e w3 ⟨b1, cp, gp, cpp, rfl, c1, c2, M3⟩; replace HB := hide (lowC9 HB.out M3); clear M3 C3))
  go_ret2
  exact ⟨b1, cp, gp, cpp, rfl, c1, c2, HB.out⟩
end Go.Proofs.YtmkbjcoagfnegaaGreatDoor
set_option linter.unusedVariables false
set_option linter.unusedSimpArgs false
namespace Go.Proofs.YtmkbjcoagfnegaaGreatDoor
open Go.RowKit

/-- A token's cells. -/
def tsC (t : TS) : List Value := [.int .i64 t.k, .string t.s, .int .i64 t.n, .int .i64 t.d, .bool t.i, .bool t.h]
def tsCs (ts : List TS) : List Value := ts.flatMap tsC
theorem tsCs_app (a b : List TS) : tsCs (a ++ b) = tsCs a ++ tsCs b := by simp [tsCs]
theorem tsCs_one (t : TS) : tsCs [t] = tsC t := by simp [tsCs]
theorem tsCs_at (ts : List TS) : ∀ (i j : Nat) (t : TS), ts[i]? = some t → j < 6 → (tsCs ts)[i * 6 + j]? = (tsC t)[j]? := by
  induction ts with
  | nil => intro i j τ h; cases h
  | cons x r ih =>
    intro i j τ h hj
    have e : tsCs (x :: r) = tsC x ++ tsCs r := rfl
    have l : (tsC x).length = 6 := rfl
    rw [e]
    cases i with
    | zero =>
      cases h
      rw [List.getElem?_append_left (by rw [l]; omega)]
      simp
    | succ i =>
      rw [List.getElem?_append_right (by rw [l]; omega), l, ← ih i j τ h hj]
      congr 1; omega
/-- An own row of tokens. -/
def OwnS (w wr : World) (v : Value) (ts : List TS) : Prop := wr.ownsRow w.heap.size 73 6 v ts.length (tsCs ts)
theorem OwnS.toks {w wr : World} {v : Value} {ts : List TS} (h : OwnS w wr v ts) (hl : ts.length ≤ 1000000000000) : Toks4 wr v ts := by
  rcases h.2 with ⟨rfl, h0⟩ | ⟨g, cap, cur, rfl, hb, hg, hn, hm, hs, ht⟩
  · exact .inl ⟨_, _, rfl, List.eq_nil_of_length_eq_zero h0⟩
  · by_cases h0 : ts.length = 0
    · obtain rfl : ts = [] := List.eq_nil_of_length_eq_zero h0
      exact .inl ⟨_, _, rfl, rfl⟩
    · refine .inr ⟨g, 0, ts.length, cap, rfl, rfl, by omega, (Array.getElem?_eq_some_iff.1 hg).1, hn, hl, by unfold maxLen at hm; exact hm, fun i t hi => ?_⟩
      have hi' := (List.getElem?_eq_some_iff.1 hi).1
      have C : ∀ j, j < 6 → wr.cell? ⟨g, 0 + i * 6 + j, none⟩ = (tsC t)[j]? := fun j hj => by
        have e := tsCs_at ts i j t hi hj
        rw [← e, ← ht, List.getElem?_take_of_lt (by omega), row_blk hg, Nat.zero_add, Array.getElem?_toList]
      exact ⟨C 0 (by omega), C 1 (by omega), C 2 (by omega), C 3 (by omega), C 4 (by omega), C 5 (by omega)⟩
theorem own_ne {w : World} {b1 b2 : Nat} {e1 e2 : TypeId} {s1 s2 : Nat} {v1 v2 : Value} {n1 n2 : Nat} {xs1 xs2 : List Value} (h1 : w.ownsRow b1 e1 s1 v1 n1 xs1) (h2 : w.ownsRow b2 e2 s2 v2 n2 xs2) (he : e1 ≠ e2) : v1.ownBlock = none ∨ v1.ownBlock ≠ v2.ownBlock := by
  rcases h1.2 with ⟨rfl, _⟩ | ⟨g, cap, cur, rfl, hb, hg, _⟩
  · exact .inl rfl
  · right
    rcases h2.2 with ⟨rfl, _⟩ | ⟨g', cap', cur', rfl, hb', hg', _⟩
    · intro h; cases h
    · intro h
      have : g = g' := by simpa [Value.ownBlock] using h
      subst this
      rw [hg] at hg'
      cases hg'
      exact he rfl
theorem grownBy_setCell (w : World) (g j : Nat) (u : Value) : w.grownBy (w.setCell ⟨g, j, none⟩ u) (some g) := by
  refine ⟨rfl, rfl, rfl, by simp [World.setCell], fun k hk hne => ?_⟩
  have : g ≠ k := fun h => hne (by rw [h])
  simp [World.setCell, Array.getElem?_modify, this]
/-- What the levels still have to say. -/
def rsP : List Lv → List TS
  | [] => []
  | x :: r => rsP r ++ (flL x.r ++ clT x.c)
def RelFl (w : World) (l : List VT) (g : Nat) (fv pv : Value) (wr : World) : Prop := ∃ ps ts, PathM w wr pv ps ∧ OwnS w wr fv ts ∧ meP ps ≤ g ∧ ps.length + g ≤ 2 * szL l + 1 + ps.length ∧ Hid (flL l = ts ++ rsP ps)
theorem RelFl.mk {w : World} {l : List VT} {g : Nat} {fv pv : Value} {wr : World} (ps : List Lv) (ts : List TS) (h1 : PathM w wr pv ps) (h2 : OwnS w wr fv ts) (h3 : meP ps ≤ g) (h5 : g ≤ 2 * szL l + 1) (h4 : flL l = ts ++ rsP ps) : RelFl w l g fv pv wr := ⟨ps, ts, h1, h2, h3, by omega, h4⟩
theorem PathM.kept {w wr w1 : World} {v : Value} {ps : List Lv} {fv : Value} {ts : List TS} {o : Obj} (h : PathM w wr v ps) (hf : OwnS w wr fv ts) (hg : (wr.alloc o).grownBy w1 fv.ownBlock) : PathM w w1 v ps :=
  ⟨(h.own.alloc o).kept hg (own_ne h.own hf (by decide)), h.vm, (h.bel.alloc h.bel.size o).grown hg (by have := h.bel.size; simp; omega) (fun k hk => (hf.lt k hk).1)⟩
theorem OwnS.kept {w wr w1 : World} {v : Value} {ps : List Lv} {fv : Value} {ts : List TS} {o : Obj} (hf : OwnS w wr fv ts) (h : PathM w wr v ps) (hg : (wr.alloc o).grownBy w1 v.ownBlock) : OwnS w w1 fv ts :=
  World.ownsRow.kept (hf.alloc o) hg (own_ne hf h.own (by decide))
theorem OwnS.taken {w wr w1 : World} {g p b o c m : Nat} {t : TS} {u : Value} {e : Ending} {n cap : Nat} {ps : List Lv} {fv : Value} {ts : List TS} (hf : OwnS w wr fv ts) (h : PathM w wr (.slice (some ⟨g, 0, none⟩) n cap) ps) (T : PostTk g p b o c m t u wr e w1) : OwnS w w1 fv ts := by
  obtain ⟨_, a, o1, o2, _, rfl⟩ := T
  exact ((World.ownsRow.kept hf (grownBy_setCell wr g p _) (own_ne hf h.own (by decide))).alloc o1).alloc o2
theorem OwnS.grow {w w1 : World} {v' : Value} {ts : List TS} {t : TS} (h1 : w1.ownsRow w.heap.size 73 6 v' (ts.length + 1) (tsCs ts ++ tsC t)) : OwnS w w1 v' (ts ++ [t]) := by
  unfold OwnS
  rw [List.length_append, List.length_singleton, tsCs_app, tsCs_one]; exact h1
theorem OwnS.alloc {w wr : World} {v : Value} {ts : List TS} (h : OwnS w wr v ts) (o : Obj) : OwnS w (wr.alloc o) v ts := World.ownsRow.alloc h o
theorem bxk_at {w : World} {b : Nat} {cs : Array Value} {T : TypeId} (h : w.heap[b]? = some (.cells cs T)) (j : Nat) (hj : j < cs.size) : w.cell? ⟨b, j, none⟩ = some cs[j] := by
  rw [row_blk h, Array.getElem?_eq_getElem hj]
theorem PathM.drew {w wr : World} {v : Value} {ps : List Lv} (h : PathM w wr v ps) : PathM w wr.drew v ps := ⟨h.own, h.vm, h.bel.drew⟩
theorem OwnS.drew {w wr : World} {v : Value} {ts : List TS} (h : OwnS w wr v ts) : OwnS w wr.drew v ts := h
end Go.Proofs.YtmkbjcoagfnegaaGreatDoor
set_option linter.unusedVariables false
set_option linter.unusedSimpArgs false
namespace Go.Proofs.YtmkbjcoagfnegaaGreatDoor
open Go.RowKit

/-- Values in memory whose blocks are all of F. -/
inductive VMA (F : Nat → Prop) (w : World) : Value → List VT → Prop
  | nil (a : Option Addr) (c : Nat) : VMA F w (.slice a 0 c) []
  | row (b o c : Nat) (l : List VT) (u : Nat → Value) (h0 : 0 < l.length) (hF : F b) (hb : b < w.heap.size) (hc : l.length ≤ c) (hn : l.length ≤ 1000000000) (hm : c ≤ 9223372036854775807)
      (ht : ∀ i v, l[i]? = some v → Six4 w b (o + i * 7) v.t) (hu : ∀ i v, l[i]? = some v → w.cell? ⟨b, o + i * 7 + 6, none⟩ = some (u i))
      (hk : ∀ i v, l[i]? = some v → VMA F w (u i) v.ks) : VMA F w (.slice (some ⟨b, o, none⟩) l.length c) l
theorem VMA.vm {F : Nat → Prop} {w : World} {v : Value} {l : List VT} (h : VMA F w v l) : VM w v l := by
  induction h with
  | nil a c => exact .nil a c
  | row b o c l u h0 hF hb hc hn hm ht hu _ ih => exact .row b o c l u h0 hb hc hn hm ht hu ih
theorem six_of_block {w w' : World} {b o : Nat} {t : TS} (h : Six4 w b o t) (e : w'.heap[b]? = w.heap[b]?) : Six4 w' b o t := by
  have C : ∀ j, w'.cell? ⟨b, j, none⟩ = w.cell? ⟨b, j, none⟩ := fun j => World.cell?_of_block (w := w) e
  exact ⟨(C _).trans h.c0, (C _).trans h.c1, (C _).trans h.c2, (C _).trans h.c3, (C _).trans h.c4, (C _).trans h.c5⟩
theorem VMA.kept {F G : Nat → Prop} {w w' : World} {v : Value} {l : List VT} (h : VMA F w v l) (hs : w.heap.size ≤ w'.heap.size) (hk : ∀ b, F b → b < w.heap.size → G b ∧ w'.heap[b]? = w.heap[b]?) : VMA G w' v l := by
  induction h with
  | nil a c => exact .nil a c
  | row b o c l u h0 hF hb hc hn hm ht hu _ ih =>
    obtain ⟨g, e⟩ := hk b hF hb
    exact .row b o c l u h0 g (Nat.lt_of_lt_of_le hb hs) hc hn hm (fun i v hi => six_of_block (ht i v hi) e) (fun i v hi => (World.cell?_of_block (w := w) (a := ⟨b, o + i * 7 + 6, none⟩) e).trans (hu i v hi)) ih
theorem VM.vma {w : World} {v : Value} {l : List VT} (h : VM w v l) : VMA (fun b => b < w.heap.size) w v l := by
  induction h with
  | nil a c => exact .nil a c
  | row b o c l u h0 hb hc hn hm ht hu _ ih => exact .row b o c l u h0 hb hb hc hn hm ht hu ih
/-- A value of a row: its token, the slice of its kids, what that holds. -/
structure It where
  t : TS
  s : Value
  ks : List VT
def itC (x : It) : List Value := [.int .i64 x.t.k, .string x.t.s, .int .i64 x.t.n, .int .i64 x.t.d, .bool x.t.i, .bool x.t.h, x.s]
def itCs (l : List It) : List Value := l.flatMap itC
theorem itCs_len (l : List It) : (itCs l).length = l.length * 7 := by
  induction l with
  | nil => rfl
  | cons x r ih => unfold itCs at *; rw [List.flatMap_cons, List.length_append, ih]; simp [itC]; omega
theorem itCs_snoc (l : List It) (x : It) : itCs (l ++ [x]) = itCs l ++ itC x := by simp [itCs]
theorem itCs_at (l : List It) : ∀ (i j : Nat) (x : It), l[i]? = some x → j < 7 → (itCs l)[i * 7 + j]? = (itC x)[j]? := by
  induction l with
  | nil => intro i j τ h; cases h
  | cons x r ih =>
    intro i j τ h hj
    have e : itCs (x :: r) = itC x ++ itCs r := rfl
    have l : (itC x).length = 7 := rfl
    rw [e]
    cases i with
    | zero =>
      cases h
      rw [List.getElem?_append_left (by rw [l]; omega)]
      simp
    | succ i =>
      rw [List.getElem?_append_right (by rw [l]; omega), l, ← ih i j τ h hj]
      congr 1; omega
def vtL (l : List It) : List VT := l.map fun x => .mk x.t x.ks
theorem vtL_snoc (l : List It) (x : It) : vtL (l ++ [x]) = vtL l ++ [.mk x.t x.ks] := by simp [vtL]
theorem vtL_len (l : List It) : (vtL l).length = l.length := by simp [vtL]
/-- A row of values that a call owns. -/
def OwnV (w wr : World) (u : Value) (its : List It) : Prop := wr.ownsRow w.heap.size 80 7 u its.length (itCs its)
theorem OwnV.vma {F : Nat → Prop} {w wr : World} {u : Value} {its : List It} (h : OwnV w wr u its) (hl : its.length ≤ 1000000000) (hF : ∀ b, u.ownBlock = some b → F b) (hs : ∀ x ∈ its, VMA F wr x.s x.ks) : VMA F wr u (vtL its) := by
  rcases h.2 with ⟨rfl, h0⟩ | ⟨g, cap, cur, rfl, hb, hg, hn, hm, hsz, ht⟩
  · obtain rfl : its = [] := List.eq_nil_of_length_eq_zero h0
    exact .nil _ _
  · by_cases h0 : its.length = 0
    · obtain rfl : its = [] := List.eq_nil_of_length_eq_zero h0
      exact .nil _ _
    · have C : ∀ (i : Nat) (x : It), its[i]? = some x → ∀ j, j < 7 → wr.cell? ⟨g, 0 + i * 7 + j, none⟩ = (itC x)[j]? := fun i x hi j hj => by
        have hi' := (List.getElem?_eq_some_iff.1 hi).1
        have e := itCs_at its i j x hi hj
        rw [← e, ← ht, List.getElem?_take_of_lt (by omega), row_blk hg, Nat.zero_add, Array.getElem?_toList]
      have IX : ∀ (i : Nat) (v : VT), (vtL its)[i]? = some v → ∃ x : It, its[i]? = some x ∧ v = VT.mk x.t x.ks := fun i v hi => by
        unfold vtL at hi
        rw [List.getElem?_map, Option.map_eq_some_iff] at hi
        obtain ⟨x, h1, h2⟩ := hi
        exact ⟨x, h1, h2.symm⟩
      have R := VMA.row (F := F) (w := wr) g 0 cap (vtL its) (fun i => ((its[i]?).map It.s).getD (.bool false)) (by rw [vtL_len]; omega) (hF g rfl) (Array.getElem?_eq_some_iff.1 hg).1 (by rw [vtL_len]; exact hn) (by rw [vtL_len]; exact hl) (by unfold maxLen at hm; exact hm)
        (fun i v hi => by obtain ⟨x, h1, rfl⟩ := IX i v hi; exact ⟨C i x h1 0 (by omega), C i x h1 1 (by omega), C i x h1 2 (by omega), C i x h1 3 (by omega), C i x h1 4 (by omega), C i x h1 5 (by omega)⟩)
        (fun i v hi => by obtain ⟨x, h1, rfl⟩ := IX i v hi; rw [h1]; exact C i x h1 6 (by omega))
        (fun i v hi => by obtain ⟨x, h1, rfl⟩ := IX i v hi; rw [h1]; exact hs x (List.mem_of_getElem? h1))
      rw [vtL_len] at R
      exact R
/-- A frame: its token, its row, what is in it, what else it has. -/
structure Fm where
  t : TS
  u : Value
  its : List It
  x : List Value
def fmC (f : Fm) : List Value := [.int .i64 f.t.k, .string f.t.s, .int .i64 f.t.n, .int .i64 f.t.d, .bool f.t.i, .bool f.t.h, f.u] ++ f.x
def fmCs (fs : List Fm) : List Value := fs.flatMap fmC
theorem fmCs_snoc (fs : List Fm) (f : Fm) : fmCs (fs ++ [f]) = fmCs fs ++ fmC f := by simp [fmCs]
theorem fmC_len {f : Fm} {sz : Nat} (h : f.x.length + 7 = sz) : (fmC f).length = sz := by simp [fmC]; omega
theorem fmCs_len {sz : Nat} : ∀ (fs : List Fm), (∀ f ∈ fs, f.x.length + 7 = sz) → (fmCs fs).length = fs.length * sz := by
  intro fs
  induction fs with
  | nil => intro _; simp [fmCs]
  | cons x r ih =>
    intro h
    have e : fmCs (x :: r) = fmC x ++ fmCs r := rfl
    rw [e, List.length_append, fmC_len (h x (by simp)), ih (fun f hf => h f (by simp [hf])), List.length_cons, Nat.add_mul]
    omega
/-- No block of the stack's own. -/
def Fre (sv : Value) (fs : List Fm) (b : Nat) : Prop := sv.ownBlock ≠ some b ∧ ∀ f ∈ fs, f.u.ownBlock ≠ some b
def Ap (a b : Fm) : Prop := ∀ g, a.u.ownBlock = some g → b.u.ownBlock ≠ some g
/-- The stack in memory. -/
structure SM (T : TypeId) (sz : Nat) (w wr : World) (sv : Value) (fs : List Fm) : Prop where
  own : wr.ownsRow w.heap.size T sz sv fs.length (fmCs fs)
  wid : ∀ f ∈ fs, f.x.length + 7 = sz
  kid : ∀ f ∈ fs, OwnV w wr f.u f.its
  ap : fs.Pairwise Ap
  sub : ∀ f ∈ fs, ∀ x ∈ f.its, VMA (Fre sv fs) wr x.s x.ks
  bel : Below w.heap.size w wr
variable {T : TypeId} {sz : Nat} {w wr : World} {sv : Value}
theorem gr_low {w w' : World} (h : Below w.heap.size w w') (r : Option Nat) : w.grownBy w' r := ⟨h.os, h.tape, h.output, h.size, fun k hk _ => h.block k hk⟩
theorem none_or (v : Value) : v.ownBlock = none ∨ v.ownBlock ≠ none := by cases hv : v.ownBlock with | none => exact .inl rfl | some k => exact .inr (by simp)
theorem OwnV.low {w wr w1 : World} {u : Value} {its : List It} (h : OwnV w wr u its) (hb : Below wr.heap.size wr w1) : OwnV w w1 u its := World.ownsRow.kept h (gr_low hb none) (none_or u)
theorem SM.low {fs : List Fm} {w1 : World} (h : SM T sz w wr sv fs) (hb : Below wr.heap.size wr w1) : SM T sz w w1 sv fs :=
  ⟨h.own.kept (gr_low hb none) (none_or sv), h.wid, fun f hf => (h.kid f hf).low hb, h.ap, fun f hf x hx => (h.sub f hf x hx).kept hb.size (fun b g hlt => ⟨g, hb.block b hlt⟩), bto h.bel hb⟩
theorem SM.alloc {fs : List Fm} (h : SM T sz w wr sv fs) (o : Obj) : SM T sz w (wr.alloc o) sv fs := h.low (bplus (Below.refl _ _) o)
theorem SM.drew {fs : List Fm} (h : SM T sz w wr sv fs) : SM T sz w wr.drew sv fs := h.low (Below.refl _ _).drew
/-- The innermost. -/
theorem SM.top {qs : List Fm} {f : Fm} (h : SM T sz w wr sv (qs ++ [f])) : ∃ g cap, sv = .slice (some ⟨g, 0, none⟩) (qs.length + 1) cap ∧ w.heap.size ≤ g ∧ g < wr.heap.size ∧ qs.length + 1 ≤ cap ∧ cap ≤ 9223372036854775807 ∧
    (∀ j, wr.frozen? ⟨g, j, none⟩ = false) ∧ Six4 wr g (qs.length * sz) f.t ∧ wr.cell? ⟨g, qs.length * sz + 6, none⟩ = some f.u ∧ ∀ j v, f.x[j]? = some v → wr.cell? ⟨g, qs.length * sz + 7 + j, none⟩ = some v := by
  have h1 := h.own
  have hw := h.wid f (by simp)
  have hq : (fmCs qs).length = qs.length * sz := fmCs_len qs (fun q hq => h.wid q (by simp [hq]))
  rw [List.length_append, List.length_singleton] at h1
  obtain ⟨g, cap, cur, hv, hb, hg, hn, hm, hs, ht⟩ := ownsRow_blk h1 (by omega)
  unfold maxLen at hm
  have C : ∀ j, j < sz → wr.cell? ⟨g, qs.length * sz + j, none⟩ = (fmC f)[j]? := fun j hj => by
    have a0 : (fmCs (qs ++ [f]))[qs.length * sz + j]? = (fmC f)[j]? := by
      rw [fmCs_snoc, List.getElem?_append_right (by omega), hq]; congr 1; omega
    rw [← a0, ← ht, List.getElem?_take_of_lt (by rw [Nat.add_mul]; omega), row_blk hg, Array.getElem?_toList]
  refine ⟨g, cap, hv, hb, (Array.getElem?_eq_some_iff.1 hg).1, hn, hm, fun j => by simp [World.frozen?, hg], ⟨C 0 (by omega), C 1 (by omega), C 2 (by omega), C 3 (by omega), C 4 (by omega), C 5 (by omega)⟩, C 6 (by omega), fun j v hj => ?_⟩
  have hj' := (List.getElem?_eq_some_iff.1 hj).1
  rw [show qs.length * sz + 7 + j = qs.length * sz + (7 + j) by omega, C (7 + j) (by omega)]
  unfold fmC
  rw [List.getElem?_append_right (by simp)]
  simpa using hj
theorem SM.len {fs : List Fm} (h : SM T sz w wr sv fs) : ∃ a c, sv = .slice a fs.length c := by
  rcases h.own.2 with ⟨h1, h2⟩ | ⟨g, cap, cur, h1, _⟩
  · exact ⟨_, _, by rw [h1, h2]⟩
  · exact ⟨_, _, h1⟩
/-- The innermost is taken off: its row is what it is. -/
theorem SM.pop {qs : List Fm} {f : Fm} {g cap : Nat} (h : SM T sz w wr (.slice (some ⟨g, 0, none⟩) (qs.length + 1) cap) (qs ++ [f])) (hT : T ≠ 80) (hl : f.its.length ≤ 1000000000) :
    SM T sz w wr (.slice (some ⟨g, 0, none⟩) qs.length cap) qs ∧ VMA (Fre (.slice (some ⟨g, 0, none⟩) qs.length cap) qs) wr f.u (vtL f.its) := by
  have h1 := h.own
  rw [List.length_append, List.length_singleton, fmCs_snoc] at h1
  have hf : f ∈ qs ++ [f] := by simp
  have hq : ∀ q ∈ qs, q ∈ qs ++ [f] := fun q hq => by simp [hq]
  have W : ∀ b, Fre (.slice (some ⟨g, 0, none⟩) (qs.length + 1) cap) (qs ++ [f]) b → Fre (.slice (some ⟨g, 0, none⟩) qs.length cap) qs b := fun b hb => ⟨hb.1, fun q hqq => hb.2 q (hq q hqq)⟩
  have S : ∀ q ∈ qs ++ [f], ∀ x ∈ q.its, VMA (Fre (.slice (some ⟨g, 0, none⟩) qs.length cap) qs) wr x.s x.ks := fun q hqq x hx => (h.sub q hqq x hx).kept (Nat.le_refl _) (fun b g hlt => ⟨W b g, rfl⟩)
  have P := List.pairwise_append.1 h.ap
  refine ⟨⟨ownsRow_cut h1 (fmCs_len qs fun q hqq => h.wid q (hq q hqq)), fun q hqq => h.wid q (hq q hqq), fun q hqq => h.kid q (hq q hqq), P.1, fun q hqq => S q (hq q hqq), h.bel⟩, (h.kid f hf).vma hl (fun b hb => ⟨?_, fun q hqq e => ?_⟩) (S f hf)⟩
  · intro e
    rcases own_ne h.own (h.kid f hf) hT with e2 | e2
    · cases e2
    · exact e2 (by rw [hb]; exact e)
  · exact (P.2.2 q hqq f (by simp)) b e hb
/-- One more frame. -/
theorem SM.push {fs : List Fm} {f : Fm} {w1 : World} {g n cap : Nat} (h : SM T sz w wr sv fs) (hT : T ≠ 80) (hx : f.x.length + 7 = sz) (hu : f.u = .slice none 0 0) (hi : f.its = [])
    (h1 : w1.ownsRow w.heap.size T sz (.slice (some ⟨g, 0, none⟩) n cap) (fs.length + 1) (fmCs fs ++ fmC f)) (hg : wr.grownBy w1 sv.ownBlock) (hl : sv.ownBlock = some g ∨ g = wr.heap.size) : SM T sz w w1 (.slice (some ⟨g, 0, none⟩) n cap) (fs ++ [f]) := by
  have B : Below w.heap.size w w1 := h.bel.grown hg h.bel.size (fun k hk => (h.own.lt k hk).1)
  have N : ∀ q ∈ fs, q.u.ownBlock = none ∨ q.u.ownBlock ≠ sv.ownBlock := fun q hq => own_ne (h.kid q hq) h.own (Ne.symm hT)
  refine ⟨by rw [List.length_append, List.length_singleton, fmCs_snoc]; exact h1, fun q hq => ?_, fun q hq => ?_, ?_, fun q hq x hxx => ?_, B⟩
  · rcases List.mem_append.1 hq with hq | hq
    · exact h.wid q hq
    · rw [List.mem_singleton] at hq; subst hq; exact hx
  · rcases List.mem_append.1 hq with hq | hq
    · exact World.ownsRow.kept (h.kid q hq) hg (N q hq)
    · rw [List.mem_singleton] at hq; subst hq; unfold OwnV; rw [hu, hi]; exact World.ownsRow_nil _ _ _ _
  · rw [List.pairwise_append]
    refine ⟨h.ap, List.pairwise_singleton _ _, fun a ha b hb k hk => ?_⟩
    rw [List.mem_singleton] at hb; subst hb; rw [hu]; intro e; cases e
  · rcases List.mem_append.1 hq with hq | hq
    · refine (h.sub q hq x hxx).kept hg.size (fun b hb hlt => ⟨⟨?_, fun y hy => ?_⟩, hg.block b hlt (fun e => hb.1 e.symm)⟩)
      · intro e
        have e' : g = b := by simpa [Value.ownBlock] using e
        rcases hl with hl | hl
        · exact hb.1 (by rw [hl, e'])
        · omega
      · rcases List.mem_append.1 hy with hy | hy
        · exact hb.2 y hy
        · rw [List.mem_singleton] at hy; subst hy; rw [hu]; intro e; cases e
    · rw [List.mem_singleton] at hq; subst hq; rw [hi] at hxx; cases hxx
theorem fmCs_put {qs : List Fm} {f : Fm} (hq : ∀ q ∈ qs, q.x.length + 7 = sz) (u' : Value) (its' : List It) : (fmCs (qs ++ [f])).set (qs.length * sz + 6) u' = fmCs (qs ++ [⟨f.t, u', its', f.x⟩]) := by
  rw [fmCs_snoc, fmCs_snoc, List.set_append_right _ _ (by rw [fmCs_len qs hq]; omega), fmCs_len qs hq, Nat.add_sub_cancel_left]
  rfl
/-- One more value in the innermost: its row has grown, and is put. -/
theorem SM.add {qs : List Fm} {f : Fm} {x : It} {w1 : World} {G C g n cap : Nat} (h : SM T sz w wr (.slice (some ⟨G, 0, none⟩) (qs.length + 1) C) (qs ++ [f])) (hT : T ≠ 80)
    (hs : VMA (Fre (.slice (some ⟨G, 0, none⟩) (qs.length + 1) C) (qs ++ [f])) wr x.s x.ks)
    (h1 : w1.ownsRow w.heap.size 80 7 (.slice (some ⟨g, 0, none⟩) n cap) (f.its.length + 1) (itCs f.its ++ itC x)) (hg : wr.grownBy w1 f.u.ownBlock) (hl : f.u.ownBlock = some g ∨ g = wr.heap.size) :
    SM T sz w (w1.setCell ⟨G, qs.length * sz + 6, none⟩ (.slice (some ⟨g, 0, none⟩) n cap)) (.slice (some ⟨G, 0, none⟩) (qs.length + 1) C) (qs ++ [⟨f.t, .slice (some ⟨g, 0, none⟩) n cap, f.its ++ [x], f.x⟩]) := by
  have hf : f ∈ qs ++ [f] := by simp
  have hq : ∀ q ∈ qs, q ∈ qs ++ [f] := fun q hq => by simp [hq]
  have P := List.pairwise_append.1 h.ap
  have GB := h.own.lt G rfl
  have B1 : Below w.heap.size w w1 := h.bel.grown hg h.bel.size (fun k hk => (World.ownsRow.lt (h.kid f hf) k hk).1)
  have B2 := B1.setCell (p := ⟨G, qs.length * sz + 6, none⟩) GB.1 (.slice (some ⟨g, 0, none⟩) n cap)
  have G2 := grownBy_setCell w1 G (qs.length * sz + 6) (.slice (some ⟨g, 0, none⟩) n cap)
  have O1 := h.own.kept hg (own_ne h.own (h.kid f hf) hT)
  rw [List.length_append, List.length_singleton] at O1
  have O2 := ownsRow_set O1 (qs.length * sz + 6) (.slice (some ⟨g, 0, none⟩) n cap)
  rw [fmCs_put (fun q hqq => h.wid q (hq q hqq)) _ (f.its ++ [x])] at O2
  have NE : ∀ {e : TypeId} {k : Nat} {v : Value} {n : Nat} {xs : List Value}, w1.ownsRow w.heap.size e k v n xs → e ≠ T → v.ownBlock = none ∨ v.ownBlock ≠ some G := fun {e k v n xs} hr he => own_ne hr O1 he
  have KQ : ∀ q ∈ qs, OwnV w w1 q.u q.its := fun q hqq => World.ownsRow.kept (h.kid q (hq q hqq)) hg (by
    cases hb : q.u.ownBlock with
    | none => exact .inl rfl
    | some k => exact .inr (fun e => (P.2.2 q hqq f (by simp)) k hb e.symm))
  refine ⟨by rw [List.length_append, List.length_singleton]; exact O2, fun q hqq => ?_, fun q hqq => ?_, ?_, ?_, B2⟩
  · rcases List.mem_append.1 hqq with hqq | hqq
    · exact h.wid q (hq q hqq)
    · rw [List.mem_singleton] at hqq; subst hqq; exact h.wid f hf
  · rcases List.mem_append.1 hqq with hqq | hqq
    · exact World.ownsRow.kept (KQ q hqq) G2 (NE (KQ q hqq) (Ne.symm hT))
    · rw [List.mem_singleton] at hqq; subst hqq
      have h1' : OwnV w w1 (.slice (some ⟨g, 0, none⟩) n cap) (f.its ++ [x]) := by unfold OwnV; rw [List.length_append, List.length_singleton, itCs_snoc]; exact h1
      exact World.ownsRow.kept h1' G2 (NE h1' (Ne.symm hT))
  · rw [List.pairwise_append]
    refine ⟨P.1, List.pairwise_singleton _ _, fun a ha b hb k hk => ?_⟩
    rw [List.mem_singleton] at hb
    subst hb
    intro e
    have e' : g = k := by simpa [Value.ownBlock] using e
    rcases hl with hl | hl
    · exact (P.2.2 a ha f (by simp)) k hk (by rw [hl, e'])
    · have := World.ownsRow.lt (h.kid a (hq a ha)) k hk; omega
  · have SB : ∀ {v : Value} {l : List VT}, VMA (Fre (.slice (some ⟨G, 0, none⟩) (qs.length + 1) C) (qs ++ [f])) wr v l → VMA (Fre (.slice (some ⟨G, 0, none⟩) (qs.length + 1) C) (qs ++ [⟨f.t, .slice (some ⟨g, 0, none⟩) n cap, f.its ++ [x], f.x⟩])) (w1.setCell ⟨G, qs.length * sz + 6, none⟩ (.slice (some ⟨g, 0, none⟩) n cap)) v l := fun {v l} hv => by
      refine hv.kept (Nat.le_trans hg.size G2.size) (fun b hb hlt => ⟨⟨hb.1, fun y hy => ?_⟩, (G2.block b (Nat.lt_of_lt_of_le hlt hg.size) (fun e => hb.1 e.symm)).trans (hg.block b hlt (fun e => hb.2 f hf e.symm))⟩)
      rcases List.mem_append.1 hy with hy | hy
      · exact hb.2 y (hq y hy)
      · rw [List.mem_singleton] at hy; subst hy
        intro e
        have e' : g = b := by simpa [Value.ownBlock] using e
        rcases hl with hl | hl
        · exact hb.2 f hf (by rw [hl, e'])
        · omega
    intro q hqq y hy
    rcases List.mem_append.1 hqq with hqq | hqq
    · exact SB (h.sub q (hq q hqq) y hy)
    · rw [List.mem_singleton] at hqq; subst hqq
      rcases List.mem_append.1 hy with hy | hy
      · exact SB (h.sub f hf y hy)
      · rw [List.mem_singleton] at hy; subst hy; exact SB hs
/-- One frame alone. -/
theorem SM.one (w : World) (f : Fm) (hx : f.x.length + 7 = sz) (hs : 0 < sz) (hu : f.u = .slice none 0 0) (hi : f.its = []) : SM T sz w (w.alloc (.cells (fmC f).toArray T)) (.slice (some ⟨w.heap.size, 0, none⟩) 1 1) [f] := by
  have l0 : (fmC f).length = sz := fmC_len hx
  refine ⟨⟨by simp [fmCs, l0], .inr ⟨w.heap.size, 1, (fmC f).toArray, rfl, Nat.le_refl _, heap_alloc_new w _, Nat.le_refl _, by decide, by simp [l0], ?_⟩⟩, fun q hq => ?_, fun q hq => ?_, List.pairwise_singleton _ _, fun q hq x hxx => ?_, bplus (Below.refl _ _) _⟩
  · have e : fmCs [f] = fmC f := by simp [fmCs]
    rw [e]
    exact List.take_of_length_le (by simp [l0])
  · rw [List.mem_singleton] at hq; subst hq; exact hx
  · rw [List.mem_singleton] at hq; subst hq; unfold OwnV; rw [hu, hi]; exact World.ownsRow_nil _ _ _ _
  · rw [List.mem_singleton] at hq; subst hq; rw [hi] at hxx; cases hxx
theorem infoV5 : (Tryz.prog.info? 80).map (fun i => (i.zero, i.size, i.bytes)) = some (some (.agg #[.int .i64 0, .string ⟨#[]⟩, .int .i64 0, .int .i64 0, .bool false, .bool false, .slice none 0 0]), 7, 72) := by kernel_rfl
end Go.Proofs.YtmkbjcoagfnegaaGreatDoor

