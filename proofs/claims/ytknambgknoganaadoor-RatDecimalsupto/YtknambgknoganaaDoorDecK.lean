/-
  A number of a stylesheet, by the reference.
-/
import Derived.Test.YtknambgknoganaaDoorDecJ
import Derived.Test.YtknambgknoganaaDoorDecI
import Derived.Deep.DeepCutAuto
import Derived.Outline
set_option linter.unusedVariables false
set_option linter.unusedSimpArgs false
namespace Go.Proofs.YtknambgknoganaaDoor
open Go.RowKit

theorem dgs_eq (l : List Int) : dgs l = l.drop (tkd l).length := by
  unfold dgs tkd
  induction l with
  | nil => rfl
  | cons x l ih =>
    by_cases h : isDig x = true
    · rw [List.dropWhile_cons_of_pos h, List.takeWhile_cons_of_pos h]; simpa using ih
    · rw [List.dropWhile_cons_of_neg h, List.takeWhile_cons_of_neg h]; rfl
theorem tkd_eq (l : List Int) : tkd l = l.take (tkd l).length := by
  unfold tkd
  induction l with
  | nil => rfl
  | cons x l ih =>
    by_cases h : isDig x = true
    · rw [List.takeWhile_cons_of_pos h]
      simp only [List.length_cons, List.take_succ_cons]
      rw [← ih]
    · rw [List.takeWhile_cons_of_neg h]; rfl
theorem nx_tkd (l : List Int) (q : Nat) (h : q < (tkd l).length) : nx (tkd l) q = nx l q := by
  have e : l = tkd l ++ dgs l := (List.takeWhile_append_dropWhile (p := isDig)).symm
  have e2 : nx l q = nx (tkd l ++ dgs l) q := by rw [← e]
  rw [e2]
  simp only [nx, List.getD_eq_getElem?_getD]
  rw [List.getElem?_append_left h]
/-- How many a sign takes. -/
def sgK (S : List Int) : Nat := if isSg (nx S 0) then 1 else 0
theorem sgn_K (S : List Int) : (sgn S).2 = S.drop (sgK S) := by unfold sgn sgK; split <;> simp
theorem sgn_casesK (s : ByteArray) : (s.size = 0 ∧ (sgn (bl s)).1 = false ∧ sgK (bl s) = 0) ∨ ∃ h : 0 < s.size, ((s[0].toNat : Int) = 43 ∧ (sgn (bl s)).1 = false ∧ sgK (bl s) = 1) ∨ ((s[0].toNat : Int) = 45 ∧ (sgn (bl s)).1 = true ∧ sgK (bl s) = 1) ∨ ((s[0].toNat : Int) ≠ 43 ∧ (s[0].toNat : Int) ≠ 45 ∧ (sgn (bl s)).1 = false ∧ sgK (bl s) = 0) := by
  by_cases h : 0 < s.size
  · right
    refine ⟨h, ?_⟩
    unfold sgn sgK
    rw [bl_nx s 0 h]
    generalize (s[0].toNat : Int) = x
    rcases (show x = 43 ∨ x = 45 ∨ (x ≠ 43 ∧ x ≠ 45) by omega) with rfl | rfl | ⟨h1, h2⟩
    · left; exact ⟨rfl, rfl, rfl⟩
    · right; left; exact ⟨rfl, rfl, rfl⟩
    · right; right; refine ⟨h1, h2, ?_⟩; rw [if_neg (by simp [isSg, h1, h2]), if_neg (by simp [isSg, h1, h2])]; exact ⟨rfl, rfl⟩
  · left
    refine ⟨by omega, ?_⟩
    unfold sgn sgK
    rw [bl_out s 0 (by omega)]; exact ⟨rfl, rfl⟩
theorem pA_K (S : List Int) : pA S = tkd (S.drop (sgK S)) := by unfold pA p0; rw [sgn_K]
theorem p1_K (S : List Int) : p1 S = S.drop (sgK S + (tkd (S.drop (sgK S))).length) := by unfold p1 p0; rw [sgn_K, dgs_eq, List.drop_drop]
/-- Where the digits ahead of the e have ended. -/
def RelDot (s : ByteArray) (neg : Bool) (i j ds fr wh : Value) : Prop := ∃ (r jj k : Nat) (t : ByteArray) (h : Bool), i = .int .i64 r ∧ j = .int .i64 jj ∧ ds = .string t ∧ fr = .int .i64 k ∧ wh = .bool h ∧
  r ≤ s.size ∧ k ≤ s.size ∧ Hid ((bl t).length ≤ s.size ∧ Digs (bl t) ∧ dec (bl s) = decE neg (bl t) k h ((bl s).drop r))
theorem RelDot.mk {s : ByteArray} {neg : Bool} {i j ds fr wh : Value} (r jj k : Nat) (t : ByteArray) (h : Bool) (h1 : i = .int .i64 r) (h2 : j = .int .i64 jj) (h3 : ds = .string t) (h4 : fr = .int .i64 k) (h5 : wh = .bool h)
    (h6 : r ≤ s.size) (h7 : k ≤ s.size) (h8 : (bl t).length ≤ s.size) (h9 : Digs (bl t)) (h10 : dec (bl s) = decE neg (bl t) k h ((bl s).drop r)) : RelDot s neg i j ds fr wh := ⟨r, jj, k, t, h, h1, h2, h3, h4, h5, h6, h7, h8, h9, h10⟩
/-- The state of the reference's loop over an exponent's digits. -/
def RelXr (ds : List Int) (i3 : Nat) (i e : Value) : Prop := ∃ q m : Nat, q ≤ ds.length ∧ i = .int .i64 ((i3 + q : Nat) : Int) ∧ e = .int .i64 m ∧ m ≤ 1099511627776 ∧ Hid (m = natOf (ds.take q) ∨ (m = 1099511627776 ∧ 1099511627776 ≤ natOf (ds.take q)))
theorem RelXr.mk {ds : List Int} {i3 : Nat} {i e : Value} (q m : Nat) (h1 : q ≤ ds.length) (h2 : i = .int .i64 ((i3 + q : Nat) : Int)) (h3 : e = .int .i64 m) (h4 : m ≤ 1099511627776) (h5 : m = natOf (ds.take q) ∨ (m = 1099511627776 ∧ 1099511627776 ≤ natOf (ds.take q))) : RelXr ds i3 i e := ⟨q, m, h1, h2, h3, h4, h5⟩
theorem near_r {m N : Nat} (h : m = N ∨ (m = 1099511627776 ∧ 1099511627776 ≤ N)) : Near (m : Int) (N : Int) := by unfold Near; omega
theorem sgK_one {S : List Int} (h : sgK S = 1) : isSg (nx S 0) = true := by unfold sgK at h; revert h; cases isSg (nx S 0) <;> simp
theorem sgK_zero {S : List Int} (h : sgK S = 0) : isSg (nx S 0) = false := by unfold sgK at h; revert h; cases isSg (nx S 0) <;> simp
set_option maxRecDepth 100000 in
set_option maxHeartbeats 4000000 in
theorem decR_any (s : ByteArray) (w : World) (hs : s.size ≤ 1000000000) :
    Calls Tryd.prog 5 #[.string s] w fun e w' => e = .returned (decV (bl s)) ∧ Below w.heap.size w w' := by
  have BEL := hide (Below.refl w.heap.size w)
  have K1 : sgK (bl s) ≤ s.size ∧ sgK (bl s) ≤ 1 := by
    rcases sgn_casesK s with ⟨h0, _, e⟩ | ⟨h0, ⟨_, _, e⟩ | ⟨_, _, e⟩ | ⟨_, _, _, e⟩⟩ <;> omega
  obtain ⟨k1, k2⟩ := K1
  obtain ⟨p1', p2', p3', p4', p5'⟩ := p_len (bl s)
  rw [bl_len] at p3' p4' p5'
  obtain ⟨c, hc⟩ : ∃ c, isSg (nx (bl s) 0) = c := ⟨_, rfl⟩
  have HC := hide hc
  clear hc
  go_enter Tryd.func5, Tryd.ntmps5
  go_upto_region 2 with fail
  go_cut [28] (fun x wx => wx = w.alloc (.cells #[.int .i64 0, .int .i64 0] 23) ∧ x = .bool c)
  case first =>
    as_aux_lemma =>
      rcases sgn_casesK s with ⟨h0, e1, e2⟩ | ⟨h0, ⟨h, e1, e2⟩ | ⟨h, e1, e2⟩ | ⟨h, g, e1, e2⟩⟩
      all_goals
        try (have h' : ((s[0].toNat : Int) == 43) = false := by simpa using h)
        try (have g' : ((s[0].toNat : Int) == 45) = false := by simpa using g)
        have E2 := hide e2
        clear e1 e2 k1 k2
        go_wp2
        go_meet
        refine ⟨rfl, ?_⟩
        congr 1
        have := E2.out
        unfold sgK at this
        rw [HC.out] at this
        revert this
        cases c <;> simp
  case rest =>
    obtain ⟨rfl, rfl⟩ := hcut
    go_upto_if 28 with fail
    go_cut [5, 6] (fun i ng wx => wx = w.alloc (.cells #[.int .i64 0, .int .i64 0] 23) ∧ i = .int .i64 (sgK (bl s)) ∧ ng = .bool (sgn (bl s)).1)
    case first =>
      as_aux_lemma =>
        rcases sgn_casesK s with ⟨h0, e1, e2⟩ | ⟨h0, ⟨h, e1, e2⟩ | ⟨h, e1, e2⟩ | ⟨h, g, e1, e2⟩⟩
        · have E1 := hide e1
          have E2 := hide e2
          obtain rfl : c = false := by rw [← HC.out]; exact sgK_zero e2
          clear e1 e2 k1 k2
          go_wp2
          go_meet
          exact ⟨rfl, by rw [E2.out]; rfl, by rw [E1.out]⟩
        · have E1 := hide e1
          have E2 := hide e2
          obtain rfl : c = true := by rw [← HC.out]; exact sgK_one e2
          clear e1 e2 k1 k2
          go_wp2
          go_meet
          exact ⟨rfl, by rw [E2.out]; rfl, by rw [E1.out]⟩
        · have E1 := hide e1
          have E2 := hide e2
          obtain rfl : c = true := by rw [← HC.out]; exact sgK_one e2
          clear e1 e2 k1 k2
          go_wp2
          go_meet
          exact ⟨rfl, by rw [E2.out]; rfl, by rw [E1.out]⟩
        · have E1 := hide e1
          have E2 := hide e2
          obtain rfl : c = false := by rw [← HC.out]; exact sgK_zero e2
          clear e1 e2 k1 k2
          go_wp2
          go_meet
          exact ⟨rfl, by rw [E2.out]; rfl, by rw [E1.out]⟩
    case rest =>
      obtain ⟨rfl, rfl, rfl⟩ := hcut
      have PA := hide (pA_K (bl s))
      have P1 := hide (p1_K (bl s))
      have RUN := hide fun W i hi => run_any s i W (by omega) hi
      obtain ⟨i0, hi0⟩ : ∃ i0, sgK (bl s) = i0 := ⟨_, rfl⟩
      rw [hi0] at PA P1 k1 k2 ⊢
      have HI0 := hide hi0
      clear hi0
      obtain ⟨neg, hneg⟩ : ∃ neg, (sgn (bl s)).1 = neg := ⟨_, rfl⟩
      rw [hneg]
      have HNG := hide hneg
      clear hneg
      obtain ⟨j1, hj1⟩ : ∃ j1, i0 + (tkd ((bl s).drop i0)).length = j1 := ⟨_, rfl⟩
      have HJ1 := hide hj1
      have j1s : i0 ≤ j1 ∧ j1 ≤ s.size := by
        have h1 := tkd_len ((bl s).drop i0)
        rw [List.length_drop, bl_len] at h1
        omega
      rw [hj1] at P1
      have T1 := hide (show bl (s.extract i0 j1) = pA (bl s) by rw [bl_mid, PA.out, show j1 - i0 = (tkd ((bl s).drop i0)).length by omega]; exact (tkd_eq _).symm)
      obtain ⟨t1, ht1⟩ : ∃ t1, s.extract i0 j1 = t1 := ⟨_, rfl⟩
      rw [ht1] at T1
      have i0j : (i0 : Int) ≤ j1 := by omega
      have j1z : (j1 : Int) ≤ s.size := by omega
      clear hj1 p1' p2' p3'
      obtain ⟨dt, hdt⟩ : ∃ dt, (nx (p1 (bl s)) 0 == 46) = dt := ⟨_, rfl⟩
      have NX := hide (show nx (p1 (bl s)) 0 = nx (bl s) j1 by rw [P1.out, nx_drop]; rfl)
      have HDT := hide hdt
      clear hdt
      go_upto_region 8 with (go_at_call 8; refine (RUN.out _ _ k1).mono ?_; rintro e1 w1 ⟨he1, rfl⟩; rw [HJ1.out] at he1; subst he1)
      go_cut [52] (fun x wx => wx = w.alloc (.cells #[.int .i64 0, .int .i64 0] 23) ∧ x = .bool dt)
      case first =>
        as_aux_lemma =>
          by_cases hlt : j1 < s.size
          · have cx := bl_nx s j1 hlt
            have DT := hide (show ((s[j1].toNat : Int) == 46) = dt by rw [← cx, ← NX.out]; exact HDT.out)
            have hlt2 : (j1 : Int) < s.size := by omega
            clear cx ht1
            go_wp2
            go_meet
            exact ⟨rfl, by rw [DT.out]⟩
          · have DT := hide (show dt = false by rw [← HDT.out, NX.out, bl_out s j1 (by omega)]; rfl)
            have hlt2 : ¬ (j1 : Int) < s.size := by omega
            clear ht1
            go_wp2
            go_meet
            exact ⟨rfl, by rw [DT.out]⟩
      case rest =>
        obtain ⟨rfl, rfl⟩ := hcut
        have RUN2 := hide (show j1 < s.size → ∀ W, Calls Tryd.prog 8 #[.string s, .int .i64 ((j1 : Int) + 1)] W fun e w' => e = .returned (.int .i64 ((j1 + 1 + (pB (bl s)).length : Nat) : Int)) ∧ w' = W from fun h W => by
          have := RUN.out W (j1 + 1) (by omega)
          rw [show ((j1 + 1 : Nat) : Int) = (j1 : Int) + 1 by omega] at this
          unfold pB
          rw [P1.out, List.drop_drop]
          exact this)
        by_cases hA1 : dt = true ∧ pB (bl s) = []
        · as_aux_lemma =>
            obtain ⟨rfl, hB⟩ := hA1
            have hd46 : nx (p1 (bl s)) 0 = 46 := by simpa using HDT.out
            have hj1l : j1 < s.size := Nat.lt_of_not_le fun h => by rw [NX.out, bl_out s j1 h] at hd46; omega
            have V := hide (decV_none (show dec (bl s) = none by rw [dec_dot hd46, if_pos hB]))
            replace RUN2 := RUN2.out hj1l
            rw [hB] at RUN2
            replace RUN2 := hide RUN2
            clear hB hd46 ht1
            go_wp2_with (first | (go_at_call 8; refine (RUN2.out _).mono ?_; rintro e1 w1 ⟨rfl, rfl⟩) | (go_at_call 9; refine (over_any _).mono ?_; rintro e1 w1 ⟨rfl, cc, rfl⟩))
            refine bodyPost_ret (v := .tuple #[.agg #[.int .i64 0, .int .i64 0], .bool false, .int .i64 3]) (by simp [results, Tryd.results5, go_sem]) rfl ?_
            exact ⟨by rw [V.out]; rfl, by repeat (first | (with_reducible exact BEL.out) | (with_reducible refine Below.setCell ?_ (by simp) _) | (with_reducible refine bplus ?_ _))⟩
        · go_upto_if 52 with fail
          go_cut [5, 7, 8, 9, 10] (fun i j ds fr wh wx => wx = w.alloc (.cells #[.int .i64 0, .int .i64 0] 23) ∧ RelDot s neg i j ds fr wh)
          case first =>
            as_aux_lemma =>
              cases dt
              · have hd46 : nx (p1 (bl s)) 0 ≠ 46 := by simpa using HDT.out
                have D := hide (dec_nodot hd46)
                rw [HNG.out, ← T1.out, P1.out] at D
                have LT := hide (show (bl t1).length ≤ s.size by rw [T1.out]; omega)
                have DG := hide (show Digs (bl t1) by rw [T1.out]; exact tkd_digs _)
                clear hd46 hA1 ht1
                go_wp2
                go_meet
                exact ⟨rfl, .mk j1 j1 0 t1 true rfl rfl rfl rfl rfl j1s.2 (by omega) LT.out DG.out D.out⟩
              · have hB : pB (bl s) ≠ [] := fun h => hA1 ⟨rfl, h⟩
                have hd46 : nx (p1 (bl s)) 0 = 46 := by simpa using HDT.out
                have hj1l : j1 < s.size := Nat.lt_of_not_le fun h => by rw [NX.out, bl_out s j1 h] at hd46; omega
                replace RUN2 := RUN2.out hj1l
                have lB : 0 < (pB (bl s)).length := List.length_pos_iff.2 hB
                have PB := hide (show pB (bl s) = tkd ((bl s).drop (j1 + 1)) by unfold pB; rw [P1.out, List.drop_drop])
                have P2 := hide (show p2 (bl s) = (bl s).drop (j1 + 1 + (pB (bl s)).length) by rw [PB.out]; unfold p2; rw [P1.out, List.drop_drop, dgs_eq, List.drop_drop])
                have D := hide (show dec (bl s) = decE (sgn (bl s)).1 (pA (bl s) ++ pB (bl s)) (pB (bl s)).length false (p2 (bl s)) by rw [dec_dot hd46, if_neg hB])
                have j2s : j1 + 1 + (pB (bl s)).length ≤ s.size := by
                  have h1 := tkd_len ((bl s).drop (j1 + 1))
                  rw [List.length_drop, bl_len, ← PB.out] at h1
                  omega
                have T2 := hide (show bl (s.extract (j1 + 1) (j1 + 1 + (pB (bl s)).length)) = pB (bl s) by
                  rw [bl_mid, show j1 + 1 + (pB (bl s)).length - (j1 + 1) = (pB (bl s)).length by omega]
                  rw [PB.out]; exact (tkd_eq _).symm)
                have LB := hide (rfl : (pB (bl s)).length = (pB (bl s)).length)
                rw [HNG.out, ← T1.out, P2.out] at D
                have DG := hide (digs_ab (bl s))
                have L4 := hide p4'
                have L1 := hide (show t1.size = (pA (bl s)).length by rw [← bl_len, T1.out])
                generalize pB (bl s) = B at *
                obtain ⟨n, hn⟩ : ∃ n, B.length = n := ⟨_, rfl⟩
                rw [hn] at RUN2 lB D j2s T2 L4
                obtain ⟨t2, ht2⟩ : ∃ t2, s.extract (j1 + 1) (j1 + 1 + n) = t2 := ⟨_, rfl⟩
                rw [ht2] at T2
                have sz : t1.size + t2.size ≤ 1000000000 := by
                  have := L1.out; have := L4.out
                  have h2 : t2.size = n := by rw [← bl_len, T2.out, hn]
                  omega
                have HN := hide hn
                replace RUN2 := hide RUN2
                have hne : (((j1 + 1 + n : Nat) : Int) == (j1 : Int) + 1) = false := by simp; omega
                have q1 : (j1 : Int) + 1 ≤ ((j1 + 1 + n : Nat) : Int) := by omega
                have q2 : ((j1 + 1 + n : Nat) : Int) ≤ s.size := by omega
                clear hB hd46 hA1 hn P2 PB p4' p5' ht1
                go_wp2_with (go_at_call 8; refine (RUN2.out _).mono ?_; rintro e1 w1 ⟨rfl, rfl⟩)
                go_meet
                exact ⟨rfl, .mk (j1 + 1 + n) (j1 + 1 + n) n (t1 ++ t2) false (by first | rfl | (congr 1; done) | (congr 1; omega)) (by first | rfl | (congr 1; done) | (congr 1; omega)) rfl (by first | rfl | (congr 1; done) | (congr 1; omega)) rfl j2s (by omega)
                  (by rw [bl_app, T1.out, T2.out, List.length_append, HN.out]; exact L4.out) (by rw [bl_app, T1.out, T2.out]; exact DG.out) (by rw [bl_app, T2.out]; exact D.out)⟩
          case rest =>
            obtain ⟨rfl, hrel⟩ := hcut
            obtain ⟨r, jj, k, t, h, rfl, rfl, rfl, rfl, rfl, hr, hk, HD⟩ := hrel
            clear RUN2 hA1 ht1 NX HDT T1 P1 PA HJ1 j1s i0j j1z p4' p5' HNG HI0 k1 k2 HC
            have tz : t.size ≤ 1000000000 := by have := HD.out.1; rw [bl_len] at this; omega
            have VAL := hide fun W x hx => valueR_any neg t x W tz hx HD.out.2.1
            by_cases hD : bl t = []
            · as_aux_lemma =>
                have V := hide (decV_none (show dec (bl s) = none by rw [HD.out.2.2, hD]; exact decE_none))
                have n1 := emp_of rfl hD
                clear hD
                go_wp2_with (go_at_call 9; refine (over_any _).mono ?_; rintro e1 w1 ⟨rfl, cc, rfl⟩)
                refine bodyPost_ret (v := .tuple #[.agg #[.int .i64 0, .int .i64 0], .bool false, .int .i64 3]) (by simp [results, Tryd.results5, go_sem]) rfl ?_
                exact ⟨by rw [V.out]; rfl, by repeat (first | (with_reducible exact BEL.out) | (with_reducible refine Below.setCell ?_ (by simp) _) | (with_reducible refine bplus ?_ _))⟩
            · have n1 := full_of rfl hD
              by_cases hrl : r < s.size
              · have cx := bl_nx s r hrl
                have hne : (bl s).drop r ≠ [] := by intro q; have := congrArg List.length q; rw [List.length_drop, bl_len] at this; simp at this; omega
                have DE := hide (show dec (bl s) = (expo ((bl s).drop r)).map fun e => (valOf neg (bl t) (e - k), false) by rw [HD.out.2.2]; exact decE_exp hD hne)
                have X0 := hide (show nx ((bl s).drop r) 0 = nx (bl s) r by rw [nx_drop]; rfl)
                have hrl2 : (r : Int) < s.size := by omega
                clear hne hD
                by_cases he : nx (bl s) r = 101 ∨ nx (bl s) r = 69
                · have HE := hide he
                  rw [cx] at he
                  have Q1 := hide (show ((bl s).drop r).drop 1 = (bl s).drop (r + 1) by rw [List.drop_drop])
                  have NX1 := hide (show nx ((bl s).drop (r + 1)) 0 = nx (bl s) (r + 1) by rw [nx_drop])
                  have SK := hide (sgn_K ((bl s).drop (r + 1)))
                  have SKd := hide (rfl : sgK ((bl s).drop (r + 1)) = sgK ((bl s).drop (r + 1)))
                  obtain ⟨c3, hc3⟩ : ∃ c3, isSg (nx (bl s) (r + 1)) = c3 := ⟨_, rfl⟩
                  have C3 := hide hc3
                  have hsk : sgK ((bl s).drop (r + 1)) = if c3 then 1 else 0 := by unfold sgK; rw [NX1.out, hc3]
                  have hdn : (sgn ((bl s).drop (r + 1))).1 = (c3 && (nx (bl s) (r + 1) == 45)) := by unfold sgn; rw [NX1.out, hc3]; cases c3 <;> rfl
                  have c3z : c3 = true → r + 1 < s.size := fun h => Nat.lt_of_not_le fun g => by rw [bl_out s (r + 1) g, h] at hc3; exact absurd hc3 (by decide)
                  obtain ⟨i3, hi3⟩ : ∃ i3, r + 1 + sgK ((bl s).drop (r + 1)) = i3 := ⟨_, rfl⟩
                  obtain ⟨dn, hdn'⟩ : ∃ dn, (sgn ((bl s).drop (r + 1))).1 = dn := ⟨_, rfl⟩
                  have i3s : r + 1 ≤ i3 ∧ i3 ≤ s.size := by rw [hsk] at hi3; cases c3 <;> simp at hi3 c3z <;> omega
                  have HDN := hide (hdn'.symm.trans hdn)
                  have HSK := hide hsk
                  have HI3 := hide hi3
                  have SG1 := hide hdn'
                  have U := hide (show (sgn ((bl s).drop (r + 1))).2 = (bl s).drop i3 by rw [SK.out, List.drop_drop, hi3])
                  have C3z := hide c3z
                  clear hc3 hdn hsk hi3 hdn' c3z cx
                  rcases he with he | he
                  all_goals
                    as_aux_lemma =>
                      go_upto_region 24 with fail
                      go_cut [109] (fun x wx => wx = w.alloc (.cells #[.int .i64 0, .int .i64 0] 23) ∧ x = .bool c3)
                      case first =>
                        as_aux_lemma =>
                          by_cases hlt : r + 1 < s.size
                          · have cy := bl_nx s (r + 1) hlt
                            have C3' := C3.out
                            rw [cy] at C3'
                            have hlt2 : (r : Int) + 1 < s.size := by omega
                            rcases (show (s[r + 1].toNat : Int) = 43 ∨ (s[r + 1].toNat : Int) = 45 ∨ ((s[r + 1].toNat : Int) ≠ 43 ∧ (s[r + 1].toNat : Int) ≠ 45) by omega) with g | g | ⟨g, g'⟩
                            · have CC := hide (show c3 = true by rw [← C3', g]; rfl)
                              clear cy C3'
                              go_wp2
                              go_meet
                              exact ⟨rfl, by rw [CC.out]⟩
                            · have CC := hide (show c3 = true by rw [← C3', g]; rfl)
                              clear cy C3'
                              go_wp2
                              go_meet
                              exact ⟨rfl, by rw [CC.out]⟩
                            · have CC := hide (show c3 = false by rw [← C3']; simp [isSg, g, g'])
                              have g1 : ((s[r + 1].toNat : Int) == 43) = false := by simpa using g
                              have g2 : ((s[r + 1].toNat : Int) == 45) = false := by simpa using g'
                              clear cy C3' g g'
                              go_wp2
                              go_meet
                              exact ⟨rfl, by rw [CC.out]⟩
                          · have CC := hide (show c3 = false by rw [← C3.out, bl_out s (r + 1) (by omega)]; rfl)
                            have hlt2 : ¬ (r : Int) + 1 < s.size := by omega
                            go_wp2
                            go_meet
                            exact ⟨rfl, by rw [CC.out]⟩
                      case rest =>
                        obtain ⟨rfl, rfl⟩ := hcut
                        go_upto_if 109 with fail
                        go_cut [5, 12] (fun i d wx => wx = w.alloc (.cells #[.int .i64 0, .int .i64 0] 23) ∧ i = .int .i64 i3 ∧ d = .bool dn)
                        case first =>
                          as_aux_lemma =>
                            cases c3
                            · have E1 := hide (show i3 = r + 1 by rw [← HI3.out, HSK.out]; rfl)
                              have E2 := hide (show dn = false by rw [HDN.out]; rfl)
                              go_wp2
                              go_meet
                              exact ⟨rfl, by rw [E1.out]; first | rfl | (congr 1; done) | (congr 1; omega), by rw [E2.out]⟩
                            · have hlt := C3z.out rfl
                              have cy := bl_nx s (r + 1) hlt
                              have E1 := hide (show i3 = r + 1 + 1 by rw [← HI3.out, HSK.out]; rfl)
                              have E2 := hide (show dn = ((s[r + 1].toNat : Int) == 45) by rw [HDN.out, cy]; rfl)
                              have hlt2 : (r : Int) + 1 < s.size := by omega
                              clear cy
                              go_wp2
                              go_meet
                              exact ⟨rfl, by rw [E1.out]; first | rfl | (congr 1; done) | (congr 1; omega), by rw [E2.out]⟩
                        case rest =>
                          obtain ⟨rfl, rfl, rfl⟩ := hcut
                          have TK := hide (show tkd (sgn (((bl s).drop r).drop 1)).2 = tkd ((bl s).drop i3) by rw [Q1.out, U.out])
                          have TG := hide (show dgs (sgn (((bl s).drop r).drop 1)).2 = (bl s).drop (i3 + (tkd ((bl s).drop i3)).length) by rw [Q1.out, U.out, dgs_eq, List.drop_drop])
                          have SG2 := hide (show (sgn (((bl s).drop r).drop 1)).1 = dn by rw [Q1.out]; exact SG1.out)
                          have HE2 := hide (show nx ((bl s).drop r) 0 = 101 ∨ nx ((bl s).drop r) 0 = 69 by rw [X0.out]; exact HE.out)
                          have j3s : i3 + (tkd ((bl s).drop i3)).length ≤ s.size := by
                            have h1 := tkd_len ((bl s).drop i3)
                            rw [List.length_drop, bl_len] at h1
                            omega
                          have DG := hide (tkd_digs ((bl s).drop i3))
                          have NXD := hide (show ∀ q, q < (tkd ((bl s).drop i3)).length → nx (tkd ((bl s).drop i3)) q = nx (bl s) (i3 + q) from fun q hq => by rw [nx_tkd _ q hq, nx_drop])
                          have RUN3 := RUN.out
                          replace RUN3 := hide fun W => RUN3 W i3 i3s.2
                          generalize tkd ((bl s).drop i3) = ds3 at *
                          obtain ⟨j3, hj3⟩ : ∃ j3, i3 + ds3.length = j3 := ⟨_, rfl⟩
                          rw [hj3] at RUN3 j3s TG
                          have HJ3 := hide hj3
                          clear RUN hj3
                          by_cases hbad : ds3 = [] ∨ j3 < s.size
                          · have V := hide (decV_none (show dec (bl s) = none by
                              rw [DE.out, expo_no2 HE2.out]; rfl
                              rcases hbad with h | h
                              · left; rw [TK.out]; exact h
                              · right; rw [TG.out]; intro q; have := congrArg List.length q; rw [List.length_drop, bl_len] at this; simp at this; omega))
                            by_cases hz : j3 = i3
                            · have z1 : ((j3 : Int) == (i3 : Int)) = true := by simp; omega
                              clear hbad hz
                              go_wp2_with (first | (go_at_call 8; refine (RUN3.out _).mono ?_; rintro e1 w1 ⟨rfl, rfl⟩) | (go_at_call 9; refine (over_any _).mono ?_; rintro e1 w1 ⟨rfl, cc, rfl⟩))
                              refine bodyPost_ret (v := .tuple #[.agg #[.int .i64 0, .int .i64 0], .bool false, .int .i64 3]) (by simp [results, Tryd.results5, go_sem]) rfl ?_
                              exact ⟨by rw [V.out]; rfl, by repeat (first | (with_reducible exact BEL.out) | (with_reducible refine Below.setCell ?_ (by simp) _) | (with_reducible refine bplus ?_ _))⟩
                            · have z1 : ((j3 : Int) == (i3 : Int)) = false := by simp; omega
                              have hjl : j3 < s.size := by
                                rcases hbad with h | h
                                · have := HJ3.out; rw [h] at this; simp at this; omega
                                · exact h
                              have z2 : ((j3 : Int) == (s.size : Int)) = false := by simp; omega
                              have z3 : ((j3 : Int) != (s.size : Int)) = true := by simp; omega
                              clear hbad hz
                              go_wp2_with (first | (go_at_call 8; refine (RUN3.out _).mono ?_; rintro e1 w1 ⟨rfl, rfl⟩) | (go_at_call 9; refine (over_any _).mono ?_; rintro e1 w1 ⟨rfl, cc, rfl⟩))
                              refine bodyPost_ret (v := .tuple #[.agg #[.int .i64 0, .int .i64 0], .bool false, .int .i64 3]) (by simp [results, Tryd.results5, go_sem]) rfl ?_
                              exact ⟨by rw [V.out]; rfl, by repeat (first | (with_reducible exact BEL.out) | (with_reducible refine Below.setCell ?_ (by simp) _) | (with_reducible refine bplus ?_ _))⟩
                          · have hd3 : ds3 ≠ [] := fun q => hbad (.inl q)
                            have hjz : j3 = s.size := by omega
                            have DX := hide (show dec (bl s) = some (valOf neg (bl t) ((if dn then -(natOf ds3 : Int) else natOf ds3) - k), false) by
                              rw [DE.out, expo_yes HE2.out (by rw [TK.out]; exact hd3) (by rw [TG.out, List.drop_of_length_le (by rw [bl_len]; omega)]), TK.out, SG2.out]; rfl)
                            have l3 : 0 < ds3.length := List.length_pos_iff.2 hd3
                            have z1 : ((j3 : Int) == (i3 : Int)) = false := by have := HJ3.out; simp; omega
                            have z2 : ((j3 : Int) == (s.size : Int)) = true := by simp; omega
                            have z3 : ((j3 : Int) != (s.size : Int)) = false := by simp; omega
                            have HZ := hide hjz
                            clear hbad hd3 hjz l3
                            go_wp2_with (go_at_call 8; refine (RUN3.out _).mono ?_; rintro e1 w1 ⟨rfl, rfl⟩)
                            have LZ := hide (show i3 + ds3.length = s.size by rw [HJ3.out]; exact HZ.out)
                            have TZ := hide (show (bl t).length ≤ 1000000000 by rw [bl_len]; exact tz)
                            have kz : k ≤ 1000000000 := by omega
                            go_loop [5, 11] (fun i e => RelXr ds3 i3 i e) (fun i _ => j3 - (intOf i).toNat)
                            case atStart => exact .mk 0 0 (by omega) rfl rfl (by omega) (.inl (by simp [natOf]))
                            case round =>
                              as_aux_lemma =>
                                obtain ⟨q, m, hq, rfl, rfl, hm, R⟩ := hrel
                                by_cases hlt : q < ds3.length
                                · have hz : i3 + q < s.size := by have := LZ.out; omega
                                  have cy := bl_nx s (i3 + q) hz
                                  obtain ⟨s1, s2, s3⟩ := natOf_step DG.out hlt
                                  rw [NXD.out q hlt, cy] at s1 s2 s3
                                  have S := hide s1
                                  have HL := hide hlt
                                  have jl : ((i3 + q : Nat) : Int) < (j3 : Int) := by have := HJ3.out; omega
                                  have zl : ((i3 + q : Nat) : Int) < (s.size : Int) := by omega
                                  have MJ := hide (show j3 - (i3 + q + 1) < j3 - (i3 + q) by have := HJ3.out; omega)
                                  clear s1 cy hq hlt
                                  by_cases hX : (m : Int) * 10 + ((s[i3 + q].toNat : Int) - 48) ≤ 1099511627776
                                  · go_wp2
                                    go_round
                                    case rel =>
                                      exact .mk (q + 1) (m * 10 + ((s[i3 + q].toNat : Int) - 48).toNat) HL.out (by first | rfl | (congr 1; done) | (congr 1; omega)) (by first | (congr 1; done) | (congr 1; omega)) (by omega) (by
                                        rcases R.out with h | ⟨h, h'⟩
                                        · left; rw [S.out, ← h]
                                        · omega)
                                    case measure => have := MJ.out; simp [intOf]; omega
                                  · go_wp2
                                    go_round
                                    case rel =>
                                      exact .mk (q + 1) 1099511627776 HL.out (by first | rfl | (congr 1; done) | (congr 1; omega)) (by first | rfl | (congr 1; done) | (congr 1; omega)) (by omega) (by
                                        right; refine ⟨rfl, ?_⟩
                                        rw [S.out]
                                        rcases R.out with h | ⟨h, h'⟩ <;> omega)
                                    case measure => have := MJ.out; simp [intOf]; omega
                                · have NR := hide (near_r (m := m) (N := natOf ds3) (by have := R.out; rwa [List.take_of_length_le (by omega)] at this))
                                  have jl : ¬ ((i3 + q : Nat) : Int) < (j3 : Int) := by have := HJ3.out; omega
                                  clear hlt hq R
                                  cases dn
                                  · have V := hide (decV_some (show dec (bl s) = some (valOf neg (bl t) ((m : Int) - k), false) by rw [DX.out, val_near HD.out.2.1 TZ.out kz NR.out]; rfl))
                                    go_wp2_with (go_at_call 10; refine (VAL.out _ _ (by omega)).mono ?_; rintro e1 w1 ⟨rfl, B1⟩; unfold ratV; have m0 : w1.cell? ⟨w.heap.size, 0, none⟩ = some (.int .i64 0) := (B1.cell (p := ⟨w.heap.size, 0, none⟩) (by simp)).trans (by simp [go_sem]); have m1 : w1.cell? ⟨w.heap.size, 1, none⟩ = some (.int .i64 0) := (B1.cell (p := ⟨w.heap.size, 1, none⟩) (by simp)).trans (by simp [go_sem]); have f0 : w1.frozen? ⟨w.heap.size, 0, none⟩ = false := (B1.frozen (p := ⟨w.heap.size, 0, none⟩) (by simp)).trans (by simp [go_sem]); have f1 : w1.frozen? ⟨w.heap.size, 1, none⟩ = false := (B1.frozen (p := ⟨w.heap.size, 1, none⟩) (by simp)).trans (by simp [go_sem]); replace BEL := hide (bto (bplus BEL.out _) B1); clear B1)
                                    refine bodyPost_ret (v := .tuple #[.agg #[.int .i64 (valOf neg (bl t) ((m : Int) - k)).1, .int .i64 (valOf neg (bl t) ((m : Int) - k)).2], .bool false, .int .i64 0]) (by simp [results, Tryd.results5, go_sem, m0, m1]) rfl ?_
                                    exact ⟨by rw [V.out]; rfl, by repeat (first | (with_reducible exact BEL.out) | (with_reducible refine Below.setCell ?_ (by simp) _) | (with_reducible refine bplus ?_ _))⟩
                                  · have V := hide (decV_some (show dec (bl s) = some (valOf neg (bl t) (-(m : Int) - k), false) by rw [DX.out, val_near HD.out.2.1 TZ.out kz NR.out.neg]; rfl))
                                    go_wp2_with (go_at_call 10; refine (VAL.out _ _ (by omega)).mono ?_; rintro e1 w1 ⟨rfl, B1⟩; unfold ratV; have m0 : w1.cell? ⟨w.heap.size, 0, none⟩ = some (.int .i64 0) := (B1.cell (p := ⟨w.heap.size, 0, none⟩) (by simp)).trans (by simp [go_sem]); have m1 : w1.cell? ⟨w.heap.size, 1, none⟩ = some (.int .i64 0) := (B1.cell (p := ⟨w.heap.size, 1, none⟩) (by simp)).trans (by simp [go_sem]); have f0 : w1.frozen? ⟨w.heap.size, 0, none⟩ = false := (B1.frozen (p := ⟨w.heap.size, 0, none⟩) (by simp)).trans (by simp [go_sem]); have f1 : w1.frozen? ⟨w.heap.size, 1, none⟩ = false := (B1.frozen (p := ⟨w.heap.size, 1, none⟩) (by simp)).trans (by simp [go_sem]); replace BEL := hide (bto (bplus BEL.out _) B1); clear B1)
                                    refine bodyPost_ret (v := .tuple #[.agg #[.int .i64 (valOf neg (bl t) (-(m : Int) - k)).1, .int .i64 (valOf neg (bl t) (-(m : Int) - k)).2], .bool false, .int .i64 0]) (by simp [results, Tryd.results5, go_sem, m0, m1]) rfl ?_
                                    exact ⟨by rw [V.out]; rfl, by repeat (first | (with_reducible exact BEL.out) | (with_reducible refine Below.setCell ?_ (by simp) _) | (with_reducible refine bplus ?_ _))⟩
                · as_aux_lemma =>
                    have V := hide (decV_none (show dec (bl s) = none by rw [DE.out, expo_no (by rw [X0.out]; omega) (by rw [X0.out]; omega)]; rfl))
                    rw [cx] at he
                    have e1 : ((s[r].toNat : Int) == 101) = false := by simp; omega
                    have e2 : ((s[r].toNat : Int) == 69) = false := by simp; omega
                    have e3 : ((s[r].toNat : Int) != 101) = true := by simp; omega
                    have e4 : ((s[r].toNat : Int) != 69) = true := by simp; omega
                    clear he cx
                    go_wp2_with (go_at_call 9; refine (over_any _).mono ?_; rintro e1 w1 ⟨rfl, cc, rfl⟩)
                    refine bodyPost_ret (v := .tuple #[.agg #[.int .i64 0, .int .i64 0], .bool false, .int .i64 3]) (by simp [results, Tryd.results5, go_sem]) rfl ?_
                    exact ⟨by rw [V.out]; rfl, by repeat (first | (with_reducible exact BEL.out) | (with_reducible refine Below.setCell ?_ (by simp) _) | (with_reducible refine bplus ?_ _))⟩
              · as_aux_lemma =>
                  have hrl2 : ¬ (r : Int) < s.size := by omega
                  have V := hide (decV_some (show dec (bl s) = some (valOf neg (bl t) (-(k : Int)), h) by rw [HD.out.2.2, List.drop_of_length_le (by rw [bl_len]; omega)]; exact decE_end hD))
                  clear hD
                  go_wp2_with (go_at_call 10; refine (VAL.out _ _ (by omega)).mono ?_; rintro e1 w1 ⟨rfl, B1⟩; unfold ratV; have m0 : w1.cell? ⟨w.heap.size, 0, none⟩ = some (.int .i64 0) := (B1.cell (p := ⟨w.heap.size, 0, none⟩) (by simp)).trans (by simp [go_sem]); have m1 : w1.cell? ⟨w.heap.size, 1, none⟩ = some (.int .i64 0) := (B1.cell (p := ⟨w.heap.size, 1, none⟩) (by simp)).trans (by simp [go_sem]); have f0 : w1.frozen? ⟨w.heap.size, 0, none⟩ = false := (B1.frozen (p := ⟨w.heap.size, 0, none⟩) (by simp)).trans (by simp [go_sem]); have f1 : w1.frozen? ⟨w.heap.size, 1, none⟩ = false := (B1.frozen (p := ⟨w.heap.size, 1, none⟩) (by simp)).trans (by simp [go_sem]); replace BEL := hide (bto (bplus BEL.out _) B1); clear B1)
                  refine bodyPost_ret (v := .tuple #[.agg #[.int .i64 (valOf neg (bl t) (-(k : Int))).1, .int .i64 (valOf neg (bl t) (-(k : Int))).2], .bool h, .int .i64 0]) (by simp [results, Tryd.results5, go_sem, m0, m1]) rfl ?_
                  exact ⟨by rw [V.out]; rfl, by repeat (first | (with_reducible exact BEL.out) | (with_reducible refine Below.setCell ?_ (by simp) _) | (with_reducible refine bplus ?_ _))⟩
end Go.Proofs.YtknambgknoganaaDoor
