/-
  A number of a stylesheet, by the reference.
  The reference's numbers.
  Plain: one token, in the order in which the reference looks.
-/
import Derived.Test.YtlkocepoohhglaaDoorA22
import Derived.Test.YtlkocepoohhglaaDoorA15
import Derived.Deep.DeepCutAuto
import Derived.Test.YtlkocepoohhglaaDoorA21
import Derived.Deep.CutBlock
import Derived.Test.YtlkocepoohhglaaDoorA18
set_option linter.unusedVariables false
set_option linter.unusedSimpArgs false
namespace Go.Proofs.YtlkocepoohhglaaDoor
open Go.RowKit

theorem dgs_eq (l : List Int) : dgs l = l.drop (tkd l).length := by
  unfold dgs tkd
  induction l with
  | nil => rfl
  | cons x l ih =>
    by_cases h : isDig x = true
    · rw [List.dropWhile_cons_of_pos h, List.takeWhile_cons_of_pos h]; simpa using ih
    · rw [List.dropWhile_cons_of_neg h, List.takeWhile_cons_of_neg h]; rfl
theorem tkd_eq (l : List Int) : tkd l = l.take (tkd l).length := by
  unfold tkd
  induction l with
  | nil => rfl
  | cons x l ih =>
    by_cases h : isDig x = true
    · rw [List.takeWhile_cons_of_pos h]
      simp only [List.length_cons, List.take_succ_cons]
      rw [← ih]
    · rw [List.takeWhile_cons_of_neg h]; rfl
theorem nx_tkd (l : List Int) (q : Nat) (h : q < (tkd l).length) : nx (tkd l) q = nx l q := by
  have e : l = tkd l ++ dgs l := (List.takeWhile_append_dropWhile (p := isDig)).symm
  have e2 : nx l q = nx (tkd l ++ dgs l) q := by rw [← e]
  rw [e2]
  simp only [nx, List.getD_eq_getElem?_getD]
  rw [List.getElem?_append_left h]
/-- How many a sign takes. -/
def sgK (S : List Int) : Nat := if isSg (nx S 0) then 1 else 0
theorem sgn_K (S : List Int) : (sgn S).2 = S.drop (sgK S) := by unfold sgn sgK; split <;> simp
theorem sgn_casesK (s : ByteArray) : (s.size = 0 ∧ (sgn (bl s)).1 = false ∧ sgK (bl s) = 0) ∨ ∃ h : 0 < s.size, ((s[0].toNat : Int) = 43 ∧ (sgn (bl s)).1 = false ∧ sgK (bl s) = 1) ∨ ((s[0].toNat : Int) = 45 ∧ (sgn (bl s)).1 = true ∧ sgK (bl s) = 1) ∨ ((s[0].toNat : Int) ≠ 43 ∧ (s[0].toNat : Int) ≠ 45 ∧ (sgn (bl s)).1 = false ∧ sgK (bl s) = 0) := by
  by_cases h : 0 < s.size
  · right
    refine ⟨h, ?_⟩
    unfold sgn sgK
    rw [bl_nx s 0 h]
    generalize (s[0].toNat : Int) = x
    rcases (show x = 43 ∨ x = 45 ∨ (x ≠ 43 ∧ x ≠ 45) by omega) with rfl | rfl | ⟨h1, h2⟩
    · left; exact ⟨rfl, rfl, rfl⟩
    · right; left; exact ⟨rfl, rfl, rfl⟩
    · right; right; refine ⟨h1, h2, ?_⟩; rw [if_neg (by simp [isSg, h1, h2]), if_neg (by simp [isSg, h1, h2])]; exact ⟨rfl, rfl⟩
  · left
    refine ⟨by omega, ?_⟩
    unfold sgn sgK
    rw [bl_out s 0 (by omega)]; exact ⟨rfl, rfl⟩
theorem pA_K (S : List Int) : pA S = tkd (S.drop (sgK S)) := by unfold pA p0; rw [sgn_K]
theorem p1_K (S : List Int) : p1 S = S.drop (sgK S + (tkd (S.drop (sgK S))).length) := by unfold p1 p0; rw [sgn_K, dgs_eq, List.drop_drop]
/-- Where the digits ahead of the e have ended. -/
def RelDot (s : ByteArray) (neg : Bool) (i j ds fr wh : Value) : Prop := ∃ (r jj k : Nat) (t : ByteArray) (h : Bool), i = .int .i64 r ∧ j = .int .i64 jj ∧ ds = .string t ∧ fr = .int .i64 k ∧ wh = .bool h ∧
  r ≤ s.size ∧ k ≤ s.size ∧ Hid ((bl t).length ≤ s.size ∧ Digs (bl t) ∧ dec (bl s) = decE neg (bl t) k h ((bl s).drop r))
theorem RelDot.mk {s : ByteArray} {neg : Bool} {i j ds fr wh : Value} (r jj k : Nat) (t : ByteArray) (h : Bool) (h1 : i = .int .i64 r) (h2 : j = .int .i64 jj) (h3 : ds = .string t) (h4 : fr = .int .i64 k) (h5 : wh = .bool h)
    (h6 : r ≤ s.size) (h7 : k ≤ s.size) (h8 : (bl t).length ≤ s.size) (h9 : Digs (bl t)) (h10 : dec (bl s) = decE neg (bl t) k h ((bl s).drop r)) : RelDot s neg i j ds fr wh := ⟨r, jj, k, t, h, h1, h2, h3, h4, h5, h6, h7, h8, h9, h10⟩
/-- The state of the reference's loop over an exponent's digits. -/
def RelXr (ds : List Int) (i3 : Nat) (i e : Value) : Prop := ∃ q m : Nat, q ≤ ds.length ∧ i = .int .i64 ((i3 + q : Nat) : Int) ∧ e = .int .i64 m ∧ m ≤ 1099511627776 ∧ Hid (m = natOf (ds.take q) ∨ (m = 1099511627776 ∧ 1099511627776 ≤ natOf (ds.take q)))
theorem RelXr.mk {ds : List Int} {i3 : Nat} {i e : Value} (q m : Nat) (h1 : q ≤ ds.length) (h2 : i = .int .i64 ((i3 + q : Nat) : Int)) (h3 : e = .int .i64 m) (h4 : m ≤ 1099511627776) (h5 : m = natOf (ds.take q) ∨ (m = 1099511627776 ∧ 1099511627776 ≤ natOf (ds.take q))) : RelXr ds i3 i e := ⟨q, m, h1, h2, h3, h4, h5⟩
theorem near_r {m N : Nat} (h : m = N ∨ (m = 1099511627776 ∧ 1099511627776 ≤ N)) : Near (m : Int) (N : Int) := by unfold Near; omega
theorem sgK_one {S : List Int} (h : sgK S = 1) : isSg (nx S 0) = true := by unfold sgK at h; revert h; cases isSg (nx S 0) <;> simp
theorem sgK_zero {S : List Int} (h : sgK S = 0) : isSg (nx S 0) = false := by unfold sgK at h; revert h; cases isSg (nx S 0) <;> simp
set_option maxRecDepth 100000 in
set_option maxHeartbeats 4000000 in
theorem decR_any (s : ByteArray) (w : World) (hs : s.size ≤ 1000000000) :
    Calls Tryd.prog 78 #[.string s] w fun e w' => e = .returned (decV (bl s)) ∧ Below w.heap.size w w' := by
  have BEL := hide (Below.refl w.heap.size w)
  have K1 : sgK (bl s) ≤ s.size ∧ sgK (bl s) ≤ 1 := by
    rcases sgn_casesK s with ⟨h0, _, e⟩ | ⟨h0, ⟨_, _, e⟩ | ⟨_, _, e⟩ | ⟨_, _, _, e⟩⟩ <;> omega
  obtain ⟨k1, k2⟩ := K1
  obtain ⟨p1', p2', p3', p4', p5'⟩ := p_len (bl s)
  rw [bl_len] at p3' p4' p5'
  obtain ⟨c, hc⟩ : ∃ c, isSg (nx (bl s) 0) = c := ⟨_, rfl⟩
  have HC := hide hc
  clear hc
  go_enter Tryd.func78, Tryd.ntmps78
  go_upto_region 2 with fail
  go_cut [28] (fun x wx => wx = w.alloc (.cells #[.int .i64 0, .int .i64 0] 23) ∧ x = .bool c)
  case first =>
    as_aux_lemma =>
      rcases sgn_casesK s with ⟨h0, e1, e2⟩ | ⟨h0, ⟨h, e1, e2⟩ | ⟨h, e1, e2⟩ | ⟨h, g, e1, e2⟩⟩
      all_goals
        try (have h' : ((s[0].toNat : Int) == 43) = false := by simpa using h)
        try (have g' : ((s[0].toNat : Int) == 45) = false := by simpa using g)
        have E2 := hide e2
        clear e1 e2 k1 k2
        go_wp2
        go_meet
        refine ⟨rfl, ?_⟩
        congr 1
        have := E2.out
        unfold sgK at this
        rw [HC.out] at this
        revert this
        cases c <;> simp
  case rest =>
    obtain ⟨rfl, rfl⟩ := hcut
    go_upto_if 28 with fail
    go_cut [5, 6] (fun i ng wx => wx = w.alloc (.cells #[.int .i64 0, .int .i64 0] 23) ∧ i = .int .i64 (sgK (bl s)) ∧ ng = .bool (sgn (bl s)).1)
    case first =>
      as_aux_lemma =>
        rcases sgn_casesK s with ⟨h0, e1, e2⟩ | ⟨h0, ⟨h, e1, e2⟩ | ⟨h, e1, e2⟩ | ⟨h, g, e1, e2⟩⟩
        · have E1 := hide e1
          have E2 := hide e2
          obtain rfl : c = false := by rw [← HC.out]; exact sgK_zero e2
          clear e1 e2 k1 k2
          go_wp2
          go_meet
          exact ⟨rfl, by rw [E2.out]; rfl, by rw [E1.out]⟩
        · have E1 := hide e1
          have E2 := hide e2
          obtain rfl : c = true := by rw [← HC.out]; exact sgK_one e2
          clear e1 e2 k1 k2
          go_wp2
          go_meet
          exact ⟨rfl, by rw [E2.out]; rfl, by rw [E1.out]⟩
        · have E1 := hide e1
          have E2 := hide e2
          obtain rfl : c = true := by rw [← HC.out]; exact sgK_one e2
          clear e1 e2 k1 k2
          go_wp2
          go_meet
          exact ⟨rfl, by rw [E2.out]; rfl, by rw [E1.out]⟩
        · have E1 := hide e1
          have E2 := hide e2
          obtain rfl : c = false := by rw [← HC.out]; exact sgK_zero e2
          clear e1 e2 k1 k2
          go_wp2
          go_meet
          exact ⟨rfl, by rw [E2.out]; rfl, by rw [E1.out]⟩
    case rest =>
      obtain ⟨rfl, rfl, rfl⟩ := hcut
      have PA := hide (pA_K (bl s))
      have P1 := hide (p1_K (bl s))
      have RUN := hide fun W i hi => run_any s i W (by omega) hi
      obtain ⟨i0, hi0⟩ : ∃ i0, sgK (bl s) = i0 := ⟨_, rfl⟩
      rw [hi0] at PA P1 k1 k2 ⊢
      have HI0 := hide hi0
      clear hi0
      obtain ⟨neg, hneg⟩ : ∃ neg, (sgn (bl s)).1 = neg := ⟨_, rfl⟩
      rw [hneg]
      have HNG := hide hneg
      clear hneg
      obtain ⟨j1, hj1⟩ : ∃ j1, i0 + (tkd ((bl s).drop i0)).length = j1 := ⟨_, rfl⟩
      have HJ1 := hide hj1
      have j1s : i0 ≤ j1 ∧ j1 ≤ s.size := by
        have h1 := tkd_len ((bl s).drop i0)
        rw [List.length_drop, bl_len] at h1
        omega
      rw [hj1] at P1
      have T1 := hide (show bl (s.extract i0 j1) = pA (bl s) by rw [bl_mid, PA.out, show j1 - i0 = (tkd ((bl s).drop i0)).length by omega]; exact (tkd_eq _).symm)
      obtain ⟨t1, ht1⟩ : ∃ t1, s.extract i0 j1 = t1 := ⟨_, rfl⟩
      rw [ht1] at T1
      have i0j : (i0 : Int) ≤ j1 := by omega
      have j1z : (j1 : Int) ≤ s.size := by omega
      clear hj1 p1' p2' p3'
      obtain ⟨dt, hdt⟩ : ∃ dt, (nx (p1 (bl s)) 0 == 46) = dt := ⟨_, rfl⟩
      have NX := hide (show nx (p1 (bl s)) 0 = nx (bl s) j1 by rw [P1.out, nx_drop]; rfl)
      have HDT := hide hdt
      clear hdt
      go_upto_region 8 with (go_at_call 84; refine (RUN.out _ _ k1).mono ?_; rintro e1 w1 ⟨he1, rfl⟩; rw [HJ1.out] at he1; subst he1)
      go_cut [52] (fun x wx => wx = w.alloc (.cells #[.int .i64 0, .int .i64 0] 23) ∧ x = .bool dt)
      case first =>
        as_aux_lemma =>
          by_cases hlt : j1 < s.size
          · have cx := bl_nx s j1 hlt
            have DT := hide (show ((s[j1].toNat : Int) == 46) = dt by rw [← cx, ← NX.out]; exact HDT.out)
            have hlt2 : (j1 : Int) < s.size := by omega
            clear cx ht1
            go_wp2
            go_meet
            exact ⟨rfl, by rw [DT.out]⟩
          · have DT := hide (show dt = false by rw [← HDT.out, NX.out, bl_out s j1 (by omega)]; rfl)
            have hlt2 : ¬ (j1 : Int) < s.size := by omega
            clear ht1
            go_wp2
            go_meet
            exact ⟨rfl, by rw [DT.out]⟩
      case rest =>
        obtain ⟨rfl, rfl⟩ := hcut
        have RUN2 := hide (show j1 < s.size → ∀ W, Calls Tryd.prog 84 #[.string s, .int .i64 ((j1 : Int) + 1)] W fun e w' => e = .returned (.int .i64 ((j1 + 1 + (pB (bl s)).length : Nat) : Int)) ∧ w' = W from fun h W => by
          have := RUN.out W (j1 + 1) (by omega)
          rw [show ((j1 + 1 : Nat) : Int) = (j1 : Int) + 1 by omega] at this
          unfold pB
          rw [P1.out, List.drop_drop]
          exact this)
        by_cases hA1 : dt = true ∧ pB (bl s) = []
        · as_aux_lemma =>
            obtain ⟨rfl, hB⟩ := hA1
            have hd46 : nx (p1 (bl s)) 0 = 46 := by simpa using HDT.out
            have hj1l : j1 < s.size := Nat.lt_of_not_le fun h => by rw [NX.out, bl_out s j1 h] at hd46; omega
            have V := hide (decV_none (show dec (bl s) = none by rw [dec_dot hd46, if_pos hB]))
            replace RUN2 := RUN2.out hj1l
            rw [hB] at RUN2
            replace RUN2 := hide RUN2
            clear hB hd46 ht1
            go_wp2_with (first | (go_at_call 84; refine (RUN2.out _).mono ?_; rintro e1 w1 ⟨rfl, rfl⟩) | (go_at_call 85; refine (over_any _).mono ?_; rintro e1 w1 ⟨rfl, cc, rfl⟩))
            refine bodyPost_ret (v := .tuple #[.agg #[.int .i64 0, .int .i64 0], .bool false, .int .i64 3]) (by simp [results, Tryd.results78, go_sem]) rfl ?_
            exact ⟨by rw [V.out]; rfl, by repeat (first | (with_reducible exact BEL.out) | (with_reducible refine Below.setCell ?_ (by simp) _) | (with_reducible refine bplus ?_ _))⟩
        · go_upto_if 52 with fail
          go_cut [5, 7, 8, 9, 10] (fun i j ds fr wh wx => wx = w.alloc (.cells #[.int .i64 0, .int .i64 0] 23) ∧ RelDot s neg i j ds fr wh)
          case first =>
            as_aux_lemma =>
              cases dt
              · have hd46 : nx (p1 (bl s)) 0 ≠ 46 := by simpa using HDT.out
                have D := hide (dec_nodot hd46)
                rw [HNG.out, ← T1.out, P1.out] at D
                have LT := hide (show (bl t1).length ≤ s.size by rw [T1.out]; omega)
                have DG := hide (show Digs (bl t1) by rw [T1.out]; exact tkd_digs _)
                clear hd46 hA1 ht1
                go_wp2
                go_meet
                exact ⟨rfl, .mk j1 j1 0 t1 true rfl rfl rfl rfl rfl j1s.2 (by omega) LT.out DG.out D.out⟩
              · have hB : pB (bl s) ≠ [] := fun h => hA1 ⟨rfl, h⟩
                have hd46 : nx (p1 (bl s)) 0 = 46 := by simpa using HDT.out
                have hj1l : j1 < s.size := Nat.lt_of_not_le fun h => by rw [NX.out, bl_out s j1 h] at hd46; omega
                replace RUN2 := RUN2.out hj1l
                have lB : 0 < (pB (bl s)).length := List.length_pos_iff.2 hB
                have PB := hide (show pB (bl s) = tkd ((bl s).drop (j1 + 1)) by unfold pB; rw [P1.out, List.drop_drop])
                have P2 := hide (show p2 (bl s) = (bl s).drop (j1 + 1 + (pB (bl s)).length) by rw [PB.out]; unfold p2; rw [P1.out, List.drop_drop, dgs_eq, List.drop_drop])
                have D := hide (show dec (bl s) = decE (sgn (bl s)).1 (pA (bl s) ++ pB (bl s)) (pB (bl s)).length false (p2 (bl s)) by rw [dec_dot hd46, if_neg hB])
                have j2s : j1 + 1 + (pB (bl s)).length ≤ s.size := by
                  have h1 := tkd_len ((bl s).drop (j1 + 1))
                  rw [List.length_drop, bl_len, ← PB.out] at h1
                  omega
                have T2 := hide (show bl (s.extract (j1 + 1) (j1 + 1 + (pB (bl s)).length)) = pB (bl s) by
                  rw [bl_mid, show j1 + 1 + (pB (bl s)).length - (j1 + 1) = (pB (bl s)).length by omega]
                  rw [PB.out]; exact (tkd_eq _).symm)
                have LB := hide (rfl : (pB (bl s)).length = (pB (bl s)).length)
                rw [HNG.out, ← T1.out, P2.out] at D
                have DG := hide (digs_ab (bl s))
                have L4 := hide p4'
                have L1 := hide (show t1.size = (pA (bl s)).length by rw [← bl_len, T1.out])
                generalize pB (bl s) = B at *
                obtain ⟨n, hn⟩ : ∃ n, B.length = n := ⟨_, rfl⟩
                rw [hn] at RUN2 lB D j2s T2 L4
                obtain ⟨t2, ht2⟩ : ∃ t2, s.extract (j1 + 1) (j1 + 1 + n) = t2 := ⟨_, rfl⟩
                rw [ht2] at T2
                have sz : t1.size + t2.size ≤ 1000000000 := by
                  have := L1.out; have := L4.out
                  have h2 : t2.size = n := by rw [← bl_len, T2.out, hn]
                  omega
                have HN := hide hn
                replace RUN2 := hide RUN2
                have hne : (((j1 + 1 + n : Nat) : Int) == (j1 : Int) + 1) = false := by simp; omega
                have q1 : (j1 : Int) + 1 ≤ ((j1 + 1 + n : Nat) : Int) := by omega
                have q2 : ((j1 + 1 + n : Nat) : Int) ≤ s.size := by omega
                clear hB hd46 hA1 hn P2 PB p4' p5' ht1
                go_wp2_with (go_at_call 84; refine (RUN2.out _).mono ?_; rintro e1 w1 ⟨rfl, rfl⟩)
                go_meet
                exact ⟨rfl, .mk (j1 + 1 + n) (j1 + 1 + n) n (t1 ++ t2) false (by first | rfl | (congr 1; done) | (congr 1; omega)) (by first | rfl | (congr 1; done) | (congr 1; omega)) rfl (by first | rfl | (congr 1; done) | (congr 1; omega)) rfl j2s (by omega)
                  (by rw [bl_app, T1.out, T2.out, List.length_append, HN.out]; exact L4.out) (by rw [bl_app, T1.out, T2.out]; exact DG.out) (by rw [bl_app, T2.out]; exact D.out)⟩
          case rest =>
            obtain ⟨rfl, hrel⟩ := hcut
            obtain ⟨r, jj, k, t, h, rfl, rfl, rfl, rfl, rfl, hr, hk, HD⟩ := hrel
            clear RUN2 hA1 ht1 NX HDT T1 P1 PA HJ1 j1s i0j j1z p4' p5' HNG HI0 k1 k2 HC
            have tz : t.size ≤ 1000000000 := by have := HD.out.1; rw [bl_len] at this; omega
            have VAL := hide fun W x hx => valueR_any neg t x W tz hx HD.out.2.1
            by_cases hD : bl t = []
            · as_aux_lemma =>
                have V := hide (decV_none (show dec (bl s) = none by rw [HD.out.2.2, hD]; exact decE_none))
                have n1 := emp_of rfl hD
                clear hD
                go_wp2_with (go_at_call 85; refine (over_any _).mono ?_; rintro e1 w1 ⟨rfl, cc, rfl⟩)
                refine bodyPost_ret (v := .tuple #[.agg #[.int .i64 0, .int .i64 0], .bool false, .int .i64 3]) (by simp [results, Tryd.results78, go_sem]) rfl ?_
                exact ⟨by rw [V.out]; rfl, by repeat (first | (with_reducible exact BEL.out) | (with_reducible refine Below.setCell ?_ (by simp) _) | (with_reducible refine bplus ?_ _))⟩
            · have n1 := full_of rfl hD
              by_cases hrl : r < s.size
              · have cx := bl_nx s r hrl
                have hne : (bl s).drop r ≠ [] := by intro q; have := congrArg List.length q; rw [List.length_drop, bl_len] at this; simp at this; omega
                have DE := hide (show dec (bl s) = (expo ((bl s).drop r)).map fun e => (valOf neg (bl t) (e - k), false) by rw [HD.out.2.2]; exact decE_exp hD hne)
                have X0 := hide (show nx ((bl s).drop r) 0 = nx (bl s) r by rw [nx_drop]; rfl)
                have hrl2 : (r : Int) < s.size := by omega
                clear hne hD
                by_cases he : nx (bl s) r = 101 ∨ nx (bl s) r = 69
                · have HE := hide he
                  rw [cx] at he
                  have Q1 := hide (show ((bl s).drop r).drop 1 = (bl s).drop (r + 1) by rw [List.drop_drop])
                  have NX1 := hide (show nx ((bl s).drop (r + 1)) 0 = nx (bl s) (r + 1) by rw [nx_drop])
                  have SK := hide (sgn_K ((bl s).drop (r + 1)))
                  have SKd := hide (rfl : sgK ((bl s).drop (r + 1)) = sgK ((bl s).drop (r + 1)))
                  obtain ⟨c3, hc3⟩ : ∃ c3, isSg (nx (bl s) (r + 1)) = c3 := ⟨_, rfl⟩
                  have C3 := hide hc3
                  have hsk : sgK ((bl s).drop (r + 1)) = if c3 then 1 else 0 := by unfold sgK; rw [NX1.out, hc3]
                  have hdn : (sgn ((bl s).drop (r + 1))).1 = (c3 && (nx (bl s) (r + 1) == 45)) := by unfold sgn; rw [NX1.out, hc3]; cases c3 <;> rfl
                  have c3z : c3 = true → r + 1 < s.size := fun h => Nat.lt_of_not_le fun g => by rw [bl_out s (r + 1) g, h] at hc3; exact absurd hc3 (by decide)
                  obtain ⟨i3, hi3⟩ : ∃ i3, r + 1 + sgK ((bl s).drop (r + 1)) = i3 := ⟨_, rfl⟩
                  obtain ⟨dn, hdn'⟩ : ∃ dn, (sgn ((bl s).drop (r + 1))).1 = dn := ⟨_, rfl⟩
                  have i3s : r + 1 ≤ i3 ∧ i3 ≤ s.size := by rw [hsk] at hi3; cases c3 <;> simp at hi3 c3z <;> omega
                  have HDN := hide (hdn'.symm.trans hdn)
                  have HSK := hide hsk
                  have HI3 := hide hi3
                  have SG1 := hide hdn'
                  have U := hide (show (sgn ((bl s).drop (r + 1))).2 = (bl s).drop i3 by rw [SK.out, List.drop_drop, hi3])
                  have C3z := hide c3z
                  clear hc3 hdn hsk hi3 hdn' c3z cx
                  rcases he with he | he
                  all_goals
                    as_aux_lemma =>
                      go_upto_region 24 with fail
                      go_cut [109] (fun x wx => wx = w.alloc (.cells #[.int .i64 0, .int .i64 0] 23) ∧ x = .bool c3)
                      case first =>
                        as_aux_lemma =>
                          by_cases hlt : r + 1 < s.size
                          · have cy := bl_nx s (r + 1) hlt
                            have C3' := C3.out
                            rw [cy] at C3'
                            have hlt2 : (r : Int) + 1 < s.size := by omega
                            rcases (show (s[r + 1].toNat : Int) = 43 ∨ (s[r + 1].toNat : Int) = 45 ∨ ((s[r + 1].toNat : Int) ≠ 43 ∧ (s[r + 1].toNat : Int) ≠ 45) by omega) with g | g | ⟨g, g'⟩
                            · have CC := hide (show c3 = true by rw [← C3', g]; rfl)
                              clear cy C3'
                              go_wp2
                              go_meet
                              exact ⟨rfl, by rw [CC.out]⟩
                            · have CC := hide (show c3 = true by rw [← C3', g]; rfl)
                              clear cy C3'
                              go_wp2
                              go_meet
                              exact ⟨rfl, by rw [CC.out]⟩
                            · have CC := hide (show c3 = false by rw [← C3']; simp [isSg, g, g'])
                              have g1 : ((s[r + 1].toNat : Int) == 43) = false := by simpa using g
                              have g2 : ((s[r + 1].toNat : Int) == 45) = false := by simpa using g'
                              clear cy C3' g g'
                              go_wp2
                              go_meet
                              exact ⟨rfl, by rw [CC.out]⟩
                          · have CC := hide (show c3 = false by rw [← C3.out, bl_out s (r + 1) (by omega)]; rfl)
                            have hlt2 : ¬ (r : Int) + 1 < s.size := by omega
                            go_wp2
                            go_meet
                            exact ⟨rfl, by rw [CC.out]⟩
                      case rest =>
                        obtain ⟨rfl, rfl⟩ := hcut
                        go_upto_if 109 with fail
                        go_cut [5, 12] (fun i d wx => wx = w.alloc (.cells #[.int .i64 0, .int .i64 0] 23) ∧ i = .int .i64 i3 ∧ d = .bool dn)
                        case first =>
                          as_aux_lemma =>
                            cases c3
                            · have E1 := hide (show i3 = r + 1 by rw [← HI3.out, HSK.out]; rfl)
                              have E2 := hide (show dn = false by rw [HDN.out]; rfl)
                              go_wp2
                              go_meet
                              exact ⟨rfl, by rw [E1.out]; first | rfl | (congr 1; done) | (congr 1; omega), by rw [E2.out]⟩
                            · have hlt := C3z.out rfl
                              have cy := bl_nx s (r + 1) hlt
                              have E1 := hide (show i3 = r + 1 + 1 by rw [← HI3.out, HSK.out]; rfl)
                              have E2 := hide (show dn = ((s[r + 1].toNat : Int) == 45) by rw [HDN.out, cy]; rfl)
                              have hlt2 : (r : Int) + 1 < s.size := by omega
                              clear cy
                              go_wp2
                              go_meet
                              exact ⟨rfl, by rw [E1.out]; first | rfl | (congr 1; done) | (congr 1; omega), by rw [E2.out]⟩
                        case rest =>
                          obtain ⟨rfl, rfl, rfl⟩ := hcut
                          have TK := hide (show tkd (sgn (((bl s).drop r).drop 1)).2 = tkd ((bl s).drop i3) by rw [Q1.out, U.out])
                          have TG := hide (show dgs (sgn (((bl s).drop r).drop 1)).2 = (bl s).drop (i3 + (tkd ((bl s).drop i3)).length) by rw [Q1.out, U.out, dgs_eq, List.drop_drop])
                          have SG2 := hide (show (sgn (((bl s).drop r).drop 1)).1 = dn by rw [Q1.out]; exact SG1.out)
                          have HE2 := hide (show nx ((bl s).drop r) 0 = 101 ∨ nx ((bl s).drop r) 0 = 69 by rw [X0.out]; exact HE.out)
                          have j3s : i3 + (tkd ((bl s).drop i3)).length ≤ s.size := by
                            have h1 := tkd_len ((bl s).drop i3)
                            rw [List.length_drop, bl_len] at h1
                            omega
                          have DG := hide (tkd_digs ((bl s).drop i3))
                          have NXD := hide (show ∀ q, q < (tkd ((bl s).drop i3)).length → nx (tkd ((bl s).drop i3)) q = nx (bl s) (i3 + q) from fun q hq => by rw [nx_tkd _ q hq, nx_drop])
                          have RUN3 := RUN.out
                          replace RUN3 := hide fun W => RUN3 W i3 i3s.2
                          generalize tkd ((bl s).drop i3) = ds3 at *
                          obtain ⟨j3, hj3⟩ : ∃ j3, i3 + ds3.length = j3 := ⟨_, rfl⟩
                          rw [hj3] at RUN3 j3s TG
                          have HJ3 := hide hj3
                          clear RUN hj3
                          by_cases hbad : ds3 = [] ∨ j3 < s.size
                          · have V := hide (decV_none (show dec (bl s) = none by
                              rw [DE.out, expo_no2 HE2.out]; rfl
                              rcases hbad with h | h
                              · left; rw [TK.out]; exact h
                              · right; rw [TG.out]; intro q; have := congrArg List.length q; rw [List.length_drop, bl_len] at this; simp at this; omega))
                            by_cases hz : j3 = i3
                            · have z1 : ((j3 : Int) == (i3 : Int)) = true := by simp; omega
                              clear hbad hz
                              go_wp2_with (first | (go_at_call 84; refine (RUN3.out _).mono ?_; rintro e1 w1 ⟨rfl, rfl⟩) | (go_at_call 85; refine (over_any _).mono ?_; rintro e1 w1 ⟨rfl, cc, rfl⟩))
                              refine bodyPost_ret (v := .tuple #[.agg #[.int .i64 0, .int .i64 0], .bool false, .int .i64 3]) (by simp [results, Tryd.results78, go_sem]) rfl ?_
                              exact ⟨by rw [V.out]; rfl, by repeat (first | (with_reducible exact BEL.out) | (with_reducible refine Below.setCell ?_ (by simp) _) | (with_reducible refine bplus ?_ _))⟩
                            · have z1 : ((j3 : Int) == (i3 : Int)) = false := by simp; omega
                              have hjl : j3 < s.size := by
                                rcases hbad with h | h
                                · have := HJ3.out; rw [h] at this; simp at this; omega
                                · exact h
                              have z2 : ((j3 : Int) == (s.size : Int)) = false := by simp; omega
                              have z3 : ((j3 : Int) != (s.size : Int)) = true := by simp; omega
                              clear hbad hz
                              go_wp2_with (first | (go_at_call 84; refine (RUN3.out _).mono ?_; rintro e1 w1 ⟨rfl, rfl⟩) | (go_at_call 85; refine (over_any _).mono ?_; rintro e1 w1 ⟨rfl, cc, rfl⟩))
                              refine bodyPost_ret (v := .tuple #[.agg #[.int .i64 0, .int .i64 0], .bool false, .int .i64 3]) (by simp [results, Tryd.results78, go_sem]) rfl ?_
                              exact ⟨by rw [V.out]; rfl, by repeat (first | (with_reducible exact BEL.out) | (with_reducible refine Below.setCell ?_ (by simp) _) | (with_reducible refine bplus ?_ _))⟩
                          · have hd3 : ds3 ≠ [] := fun q => hbad (.inl q)
                            have hjz : j3 = s.size := by omega
                            have DX := hide (show dec (bl s) = some (valOf neg (bl t) ((if dn then -(natOf ds3 : Int) else natOf ds3) - k), false) by
                              rw [DE.out, expo_yes HE2.out (by rw [TK.out]; exact hd3) (by rw [TG.out, List.drop_of_length_le (by rw [bl_len]; omega)]), TK.out, SG2.out]; rfl)
                            have l3 : 0 < ds3.length := List.length_pos_iff.2 hd3
                            have z1 : ((j3 : Int) == (i3 : Int)) = false := by have := HJ3.out; simp; omega
                            have z2 : ((j3 : Int) == (s.size : Int)) = true := by simp; omega
                            have z3 : ((j3 : Int) != (s.size : Int)) = false := by simp; omega
                            have HZ := hide hjz
                            clear hbad hd3 hjz l3
                            go_wp2_with (go_at_call 84; refine (RUN3.out _).mono ?_; rintro e1 w1 ⟨rfl, rfl⟩)
                            have LZ := hide (show i3 + ds3.length = s.size by rw [HJ3.out]; exact HZ.out)
                            have TZ := hide (show (bl t).length ≤ 1000000000 by rw [bl_len]; exact tz)
                            have kz : k ≤ 1000000000 := by omega
                            go_loop [5, 11] (fun i e => RelXr ds3 i3 i e) (fun i _ => j3 - (intOf i).toNat)
                            case atStart => exact .mk 0 0 (by omega) rfl rfl (by omega) (.inl (by simp [natOf]))
                            case round =>
                              as_aux_lemma =>
                                obtain ⟨q, m, hq, rfl, rfl, hm, R⟩ := hrel
                                by_cases hlt : q < ds3.length
                                · have hz : i3 + q < s.size := by have := LZ.out; omega
                                  have cy := bl_nx s (i3 + q) hz
                                  obtain ⟨s1, s2, s3⟩ := natOf_step DG.out hlt
                                  rw [NXD.out q hlt, cy] at s1 s2 s3
                                  have S := hide s1
                                  have HL := hide hlt
                                  have jl : ((i3 + q : Nat) : Int) < (j3 : Int) := by have := HJ3.out; omega
                                  have zl : ((i3 + q : Nat) : Int) < (s.size : Int) := by omega
                                  have MJ := hide (show j3 - (i3 + q + 1) < j3 - (i3 + q) by have := HJ3.out; omega)
                                  clear s1 cy hq hlt
                                  by_cases hX : (m : Int) * 10 + ((s[i3 + q].toNat : Int) - 48) ≤ 1099511627776
                                  · go_wp2
                                    go_round
                                    case rel =>
                                      exact .mk (q + 1) (m * 10 + ((s[i3 + q].toNat : Int) - 48).toNat) HL.out (by first | rfl | (congr 1; done) | (congr 1; omega)) (by first | (congr 1; done) | (congr 1; omega)) (by omega) (by
                                        rcases R.out with h | ⟨h, h'⟩
                                        · left; rw [S.out, ← h]
                                        · omega)
                                    case measure => have := MJ.out; simp [intOf]; omega
                                  · go_wp2
                                    go_round
                                    case rel =>
                                      exact .mk (q + 1) 1099511627776 HL.out (by first | rfl | (congr 1; done) | (congr 1; omega)) (by first | rfl | (congr 1; done) | (congr 1; omega)) (by omega) (by
                                        right; refine ⟨rfl, ?_⟩
                                        rw [S.out]
                                        rcases R.out with h | ⟨h, h'⟩ <;> omega)
                                    case measure => have := MJ.out; simp [intOf]; omega
                                · have NR := hide (near_r (m := m) (N := natOf ds3) (by have := R.out; rwa [List.take_of_length_le (by omega)] at this))
                                  have jl : ¬ ((i3 + q : Nat) : Int) < (j3 : Int) := by have := HJ3.out; omega
                                  clear hlt hq R
                                  cases dn
                                  · have V := hide (decV_some (show dec (bl s) = some (valOf neg (bl t) ((m : Int) - k), false) by rw [DX.out, val_near HD.out.2.1 TZ.out kz NR.out]; rfl))
                                    go_wp2_with (go_at_call 86; refine (VAL.out _ _ (by omega)).mono ?_; rintro e1 w1 ⟨rfl, B1⟩; unfold ratV; have m0 : w1.cell? ⟨w.heap.size, 0, none⟩ = some (.int .i64 0) := (B1.cell (p := ⟨w.heap.size, 0, none⟩) (by simp)).trans (by simp [go_sem]); have m1 : w1.cell? ⟨w.heap.size, 1, none⟩ = some (.int .i64 0) := (B1.cell (p := ⟨w.heap.size, 1, none⟩) (by simp)).trans (by simp [go_sem]); have f0 : w1.frozen? ⟨w.heap.size, 0, none⟩ = false := (B1.frozen (p := ⟨w.heap.size, 0, none⟩) (by simp)).trans (by simp [go_sem]); have f1 : w1.frozen? ⟨w.heap.size, 1, none⟩ = false := (B1.frozen (p := ⟨w.heap.size, 1, none⟩) (by simp)).trans (by simp [go_sem]); replace BEL := hide (bto (bplus BEL.out _) B1); clear B1)
                                    refine bodyPost_ret (v := .tuple #[.agg #[.int .i64 (valOf neg (bl t) ((m : Int) - k)).1, .int .i64 (valOf neg (bl t) ((m : Int) - k)).2], .bool false, .int .i64 0]) (by simp [results, Tryd.results78, go_sem, m0, m1]) rfl ?_
                                    exact ⟨by rw [V.out]; rfl, by repeat (first | (with_reducible exact BEL.out) | (with_reducible refine Below.setCell ?_ (by simp) _) | (with_reducible refine bplus ?_ _))⟩
                                  · have V := hide (decV_some (show dec (bl s) = some (valOf neg (bl t) (-(m : Int) - k), false) by rw [DX.out, val_near HD.out.2.1 TZ.out kz NR.out.neg]; rfl))
                                    go_wp2_with (go_at_call 86; refine (VAL.out _ _ (by omega)).mono ?_; rintro e1 w1 ⟨rfl, B1⟩; unfold ratV; have m0 : w1.cell? ⟨w.heap.size, 0, none⟩ = some (.int .i64 0) := (B1.cell (p := ⟨w.heap.size, 0, none⟩) (by simp)).trans (by simp [go_sem]); have m1 : w1.cell? ⟨w.heap.size, 1, none⟩ = some (.int .i64 0) := (B1.cell (p := ⟨w.heap.size, 1, none⟩) (by simp)).trans (by simp [go_sem]); have f0 : w1.frozen? ⟨w.heap.size, 0, none⟩ = false := (B1.frozen (p := ⟨w.heap.size, 0, none⟩) (by simp)).trans (by simp [go_sem]); have f1 : w1.frozen? ⟨w.heap.size, 1, none⟩ = false := (B1.frozen (p := ⟨w.heap.size, 1, none⟩) (by simp)).trans (by simp [go_sem]); replace BEL := hide (bto (bplus BEL.out _) B1); clear B1)
                                    refine bodyPost_ret (v := .tuple #[.agg #[.int .i64 (valOf neg (bl t) (-(m : Int) - k)).1, .int .i64 (valOf neg (bl t) (-(m : Int) - k)).2], .bool false, .int .i64 0]) (by simp [results, Tryd.results78, go_sem, m0, m1]) rfl ?_
                                    exact ⟨by rw [V.out]; rfl, by repeat (first | (with_reducible exact BEL.out) | (with_reducible refine Below.setCell ?_ (by simp) _) | (with_reducible refine bplus ?_ _))⟩
                · as_aux_lemma =>
                    have V := hide (decV_none (show dec (bl s) = none by rw [DE.out, expo_no (by rw [X0.out]; omega) (by rw [X0.out]; omega)]; rfl))
                    rw [cx] at he
                    have e1 : ((s[r].toNat : Int) == 101) = false := by simp; omega
                    have e2 : ((s[r].toNat : Int) == 69) = false := by simp; omega
                    have e3 : ((s[r].toNat : Int) != 101) = true := by simp; omega
                    have e4 : ((s[r].toNat : Int) != 69) = true := by simp; omega
                    clear he cx
                    go_wp2_with (go_at_call 85; refine (over_any _).mono ?_; rintro e1 w1 ⟨rfl, cc, rfl⟩)
                    refine bodyPost_ret (v := .tuple #[.agg #[.int .i64 0, .int .i64 0], .bool false, .int .i64 3]) (by simp [results, Tryd.results78, go_sem]) rfl ?_
                    exact ⟨by rw [V.out]; rfl, by repeat (first | (with_reducible exact BEL.out) | (with_reducible refine Below.setCell ?_ (by simp) _) | (with_reducible refine bplus ?_ _))⟩
              · as_aux_lemma =>
                  have hrl2 : ¬ (r : Int) < s.size := by omega
                  have V := hide (decV_some (show dec (bl s) = some (valOf neg (bl t) (-(k : Int)), h) by rw [HD.out.2.2, List.drop_of_length_le (by rw [bl_len]; omega)]; exact decE_end hD))
                  clear hD
                  go_wp2_with (go_at_call 86; refine (VAL.out _ _ (by omega)).mono ?_; rintro e1 w1 ⟨rfl, B1⟩; unfold ratV; have m0 : w1.cell? ⟨w.heap.size, 0, none⟩ = some (.int .i64 0) := (B1.cell (p := ⟨w.heap.size, 0, none⟩) (by simp)).trans (by simp [go_sem]); have m1 : w1.cell? ⟨w.heap.size, 1, none⟩ = some (.int .i64 0) := (B1.cell (p := ⟨w.heap.size, 1, none⟩) (by simp)).trans (by simp [go_sem]); have f0 : w1.frozen? ⟨w.heap.size, 0, none⟩ = false := (B1.frozen (p := ⟨w.heap.size, 0, none⟩) (by simp)).trans (by simp [go_sem]); have f1 : w1.frozen? ⟨w.heap.size, 1, none⟩ = false := (B1.frozen (p := ⟨w.heap.size, 1, none⟩) (by simp)).trans (by simp [go_sem]); replace BEL := hide (bto (bplus BEL.out _) B1); clear B1)
                  refine bodyPost_ret (v := .tuple #[.agg #[.int .i64 (valOf neg (bl t) (-(k : Int))).1, .int .i64 (valOf neg (bl t) (-(k : Int))).2], .bool h, .int .i64 0]) (by simp [results, Tryd.results78, go_sem, m0, m1]) rfl ?_
                  exact ⟨by rw [V.out]; rfl, by repeat (first | (with_reducible exact BEL.out) | (with_reducible refine Below.setCell ?_ (by simp) _) | (with_reducible refine bplus ?_ _))⟩
end Go.Proofs.YtlkocepoohhglaaDoor
set_option linter.unusedVariables false
set_option linter.unusedSimpArgs false
namespace Go.Proofs.YtlkocepoohhglaaDoor
open Go.RowKit

theorem Stand.put {T : TypeId} {W w : World} {b r : Nat} {v : Value} {l s : List Int} {p : Nat} (h : Stand T W w b v l s p) (hr : b < r) (i : Nat) (x : Value) : Stand T W (w.setCell ⟨r, i, none⟩ x) b v l s p := by
  have h1 := h.rd
  have := h1.ge
  exact ⟨⟨h1.bel.setCell (p := ⟨r, i, none⟩) (by simp; omega) _, h1.ge, (Below.heap_setCell _ _ _ _ (by simp; omega)).trans h1.blk, h1.nums, h1.len, h1.le⟩, h.eq⟩
/-- A fraction's block, not written yet. -/
def ratO0 : Obj := .cells #[.int .i64 0, .int .i64 0] 23
theorem rat0_in (w : World) : (w.alloc (.cells #[.int .i64 0, .int .i64 0] 23)).heap[w.heap.size]? = some ratO0 := heap_alloc_new w _
theorem rat0_cells {w : World} {m : Nat} (h : w.heap[m]? = some ratO0) : w.cell? ⟨m, 0, none⟩ = some (.int .i64 0) ∧ w.cell? ⟨m, 1, none⟩ = some (.int .i64 0) ∧ w.frozen? ⟨m, 0, none⟩ = false ∧ w.frozen? ⟨m, 1, none⟩ = false := by
  refine ⟨?_, ?_, ?_, ?_⟩ <;> simp [World.frozen?, World.cell?, h, ratO0]
theorem keepB {w w' : World} {m : Nat} {o : Obj} (h : w.heap[m]? = some o) (hw : Below w.heap.size w w') : w'.heap[m]? = some o := (hw.block m (Array.getElem?_eq_some_iff.1 h).1).trans h
set_option maxRecDepth 100000 in
set_option maxHeartbeats 4000000 in
theorem figureR_any (T : TypeId) (W w : World) (b : Nat) (v : Value) (l s : List Int) (hL : l.length ≤ 250000000) (h0 : nx s 0 ≠ -1) (h : At T W w b v l s) :
    Calls Tryd.prog 69 #[.pointer (some ⟨b, 0, none⟩)] w fun e w' => Tells e (numb s).1 ∧ At T W w' b v l (numb s).2 ∧ w.grownBy w' (some b) := by
  have hb0 := h.lt
  have nb1 : ¬ w.heap.size = b := by omega
  have nb2 : ¬ b = w.heap.size := by omega
  have hbw : b < (w.alloc tok0).heap.size := by simp; omega
  have A1 := hide (h.below (bplus (Below.refl _ _) tok0))
  have M0 := hide (Mod.of b (bplus (Below.refl w.heap.size w) tok0))
  have Z := hide (tok0_alloc w)
  obtain ⟨p0, ST, hpl, hlb⟩ := A1.out.stand
  have c1 := ST.c1
  have HS0 := hide ST.eq
  clear ST
  have M := hide (Mod.refl (w.alloc tok0) b)
  obtain ⟨w0, hw0⟩ : ∃ w0, w.alloc tok0 = w0 := ⟨_, rfl⟩
  rw [hw0] at hbw A1 M0 Z M c1
  have hw0' : w.alloc (.cells #[.int .i64 0, .string ⟨#[]⟩, .int .i64 0, .int .i64 0, .bool false, .bool false] 66) = w0 := hw0
  have HZ := hide hw0'
  obtain ⟨x, hx⟩ : ∃ x, nx s 0 = x := ⟨_, rfl⟩
  have H0 := hide (show nx s (Int.toNat 0) = x from hx)
  clear h
  go_enter Tryd.func69, Tryd.ntmps69
  go_upto_region 3 with (go_at_call 55; refine (atR_any T W _ b v l s _ A1.out.r (by decide) (by decide)).mono ?_; rintro e w1 ⟨he, B1⟩; (first | (rw [H0.out] at he)); subst he; replace A1 := hide (A1.out.below B1); replace M := hide (Mod.trans M.out (Mod.of b B1)); clear B1)
  go_cut [23] (fun s23 wx => s23 = .bool (isSg x) ∧ wx = w1)
  case first =>
    by_cases h43 : x = 43
    · subst h43
      go_wp2_with fail
      go_meet
      case rel => exact ⟨rfl, rfl⟩
    · have e43 : (x == 43) = false := by simpa using h43
      by_cases h45 : x = 45
      · subst h45
        go_wp2_with fail
        go_meet
        case rel => exact ⟨rfl, rfl⟩
      · have e45 : (x == 45) = false := by simpa using h45
        go_wp2_with fail
        go_meet
        case rel => exact ⟨by simp [isSg, h43, h45], rfl⟩
  case rest =>
  obtain ⟨rfl, rfl⟩ := hcut
  go_upto_if 23 with fail
  go_cut [] (fun wx => At T W wx b v l (nmS s) ∧ w0.grownBy wx (some b))
  case first =>
    obtain ⟨p, ST, hpl2, _⟩ := A1.out.stand
    have c1 := ST.c1
    have f1 := ST.f1
    replace ST := hide ST
    have hp9 : p ≤ 140737488355328 := by omega
    have L := nx_pos h0
    obtain ⟨y, hy⟩ : ∃ y, isSg x = y := ⟨_, rfl⟩
    have S1 := hide (show nmS s = if y then s.drop 1 else s by unfold nmS; rw [hx, hy])
    rw [hy]
    clear hy
    cases y
    · go_wp2_with fail
      go_meet
      case rel => exact ⟨by rw [S1.out]; exact A1.out, M.out⟩
    · go_wp2_with fail
      go_meet
      case rel => exact ⟨by rw [S1.out]; exact (ST.out.inc 1 _ (by omega) (by omega)).at (by omega), Mod.trans M.out (ST.out.mod _)⟩
  case rest =>
  obtain ⟨A2, M2⟩ := hcut
  replace A1 := hide A2
  replace M := hide M2
  clear A2 M2 hx H0
  obtain ⟨s1, hs1⟩ : ∃ q, nmS s = q := ⟨_, rfl⟩
  obtain ⟨s2, hs2⟩ : ∃ q, dgs s1 = q := ⟨_, rfl⟩
  rw [hs1] at A1
  have S2 := hide hs2
  obtain ⟨x0, hx0⟩ : ∃ x, nx s2 0 = x := ⟨_, rfl⟩
  have H0 := hide (show nx s2 (Int.toNat 0) = x0 from hx0)
  obtain ⟨x1, hx1⟩ : ∃ x, nx s2 1 = x := ⟨_, rfl⟩
  have H1 := hide (show nx s2 (Int.toNat 1) = x1 from hx1)
  go_upto_region 6 with (go_at_call 77; refine (digitsR_any T W _ b v l s1 A1.out).mono ?_; rintro e w2 ⟨rfl, A2, M2⟩; rw [S2.out] at A2; replace A1 := hide A2; replace M := hide (Mod.trans M.out M2); clear A2 M2)
  go_cut [40] (fun s40 wx => s40 = .bool ((x0 == 46) && isDig x1) ∧ At T W wx b v l s2 ∧ w0.grownBy wx (some b))
  case first =>
    by_cases h46 : x0 = 46
    · subst h46
      go_wp2_with (first
        | (go_at_call 55; refine (atR_any T W _ b v l s2 _ A1.out.r (by decide) (by decide)).mono ?_; rintro e w1 ⟨he, B1⟩; (first | (rw [H0.out] at he) | (rw [H1.out] at he)); subst he; replace A1 := hide (A1.out.below B1); replace M := hide (Mod.trans M.out (Mod.of b B1)); clear B1)
        | (go_at_call 76; refine (isDigR_any _ _).mono ?_; rintro e w3 ⟨rfl, rfl⟩))
      go_meet
      case rel => exact ⟨by simp, A1.out, M.out⟩
    · have e46 : (x0 == 46) = false := by simpa using h46
      go_wp2_with (first
        | (go_at_call 55; refine (atR_any T W _ b v l s2 _ A1.out.r (by decide) (by decide)).mono ?_; rintro e w1 ⟨he, B1⟩; (first | (rw [H0.out] at he) | (rw [H1.out] at he)); subst he; replace A1 := hide (A1.out.below B1); replace M := hide (Mod.trans M.out (Mod.of b B1)); clear B1)
        | (go_at_call 76; refine (isDigR_any _ _).mono ?_; rintro e w3 ⟨rfl, rfl⟩))
      go_meet
      case rel => exact ⟨by simp [h46], A1.out, M.out⟩
  case rest =>
  obtain ⟨rfl, A2, M2⟩ := hcut
  replace A1 := hide A2
  replace M := hide M2
  clear A2 M2
  go_upto_if 40 with fail
  go_cut [] (fun wx => At T W wx b v l (nmP s2) ∧ w0.grownBy wx (some b))
  case first =>
    obtain ⟨p, ST, hpl2, _⟩ := A1.out.stand
    have c1 := ST.c1
    have f1 := ST.f1
    replace ST := hide ST
    have hp9 : p ≤ 140737488355328 := by omega
    obtain ⟨y, hy⟩ : ∃ y, ((x0 == 46) && isDig x1) = y := ⟨_, rfl⟩
    have S1 := hide (show nmP s2 = if y then dgs (s2.drop 1) else s2 by unfold nmP; rw [hx0, hx1, hy])
    have L : y = true → 0 < s2.length := fun e => nx_pos (by rw [hx0]; intro g; rw [g] at hy; rw [← hy] at e; simp at e)
    rw [hy]
    clear hy hs2 hx0 hx1
    obtain ⟨t1, ht1⟩ : ∃ q, s2.drop 1 = q := ⟨_, rfl⟩
    rw [ht1] at S1
    have T1 := hide ht1
    clear ht1
    cases y
    · go_wp2_with fail
      go_meet
      case rel => exact ⟨by rw [S1.out]; exact A1.out, M.out⟩
    · have L' := L rfl
      go_wp2_with (go_at_call 77; refine (digitsR_any T W _ b v l t1 (by have := ST.out.inc 1 ((p : Int) + 1) (by omega) (by omega); rw [T1.out] at this; exact this.at (by omega))).mono ?_; rintro e w3 ⟨rfl, A2, M2⟩; replace A1 := hide A2; replace M := hide (Mod.trans (Mod.trans M.out (ST.out.mod ((p : Int) + 1))) M2); clear A2 M2 c1 f1)
      go_meet
      case rel => exact ⟨by rw [S1.out]; exact A1.out, M.out⟩
  case rest =>
  obtain ⟨A2, M2⟩ := hcut
  replace A1 := hide A2
  replace M := hide M2
  clear A2 M2 hx0 hx1 H0 H1
  obtain ⟨s3, hs3⟩ : ∃ q, nmP s2 = q := ⟨_, rfl⟩
  rw [hs3] at A1
  obtain ⟨x0, hx0⟩ : ∃ x, nx s3 0 = x := ⟨_, rfl⟩
  have H0 := hide (show nx s3 (Int.toNat 0) = x0 from hx0)
  obtain ⟨x1, hx1⟩ : ∃ x, nx s3 1 = x := ⟨_, rfl⟩
  have H1 := hide (show nx s3 (Int.toNat 1) = x1 from hx1)
  obtain ⟨x2, hx2⟩ : ∃ x, nx s3 2 = x := ⟨_, rfl⟩
  have H2 := hide (show nx s3 (Int.toNat 2) = x2 from hx2)
  go_upto_region 10 with (go_at_call 55; refine (atR_any T W _ b v l s3 _ A1.out.r (by decide) (by decide)).mono ?_; rintro e w4 ⟨he, B1⟩; (first | (rw [H0.out] at he)); subst he; replace A1 := hide (A1.out.below B1); replace M := hide (Mod.trans M.out (Mod.of b B1)); clear B1)
  go_cut [57] (fun s57 wx => s57 = .bool ((x0 == 101) || (x0 == 69)) ∧ wx = w4)
  case first =>
    by_cases h43 : x0 = 101
    · subst h43
      go_wp2_with fail
      go_meet
      case rel => exact ⟨rfl, rfl⟩
    · have e43 : (x0 == 101) = false := by simpa using h43
      by_cases h45 : x0 = 69
      · subst h45
        go_wp2_with fail
        go_meet
        case rel => exact ⟨rfl, rfl⟩
      · have e45 : (x0 == 69) = false := by simpa using h45
        go_wp2_with fail
        go_meet
        case rel => exact ⟨by simp [h43, h45], rfl⟩
  case rest =>
  obtain ⟨rfl, rfl⟩ := hcut
  go_upto_if 57 with fail
  go_cut [] (fun wx => At T W wx b v l (nmE s3) ∧ w0.grownBy wx (some b))
  case first =>
    obtain ⟨y, hy⟩ : ∃ y, ((x0 == 101) || (x0 == 69)) = y := ⟨_, rfl⟩
    have S1 := hide (show nmE s3 = if (y && (if isSg x1 then isDig x2 else isDig x1)) then dgs (nmS (s3.drop 1)) else s3 by unfold nmE exB; rw [hx0, hx1, hx2, hy])
    rw [hy]
    have L : y = true → 0 < s3.length := fun e => nx_pos (by rw [hx0]; intro g; rw [g] at hy; rw [← hy] at e; simp at e)
    obtain ⟨p, ST, hpl2, _⟩ := A1.out.stand
    have hp9 : p ≤ 140737488355328 := by omega
    clear hy
    cases y
    · go_wp2_with fail
      go_meet
      case rel => exact ⟨by rw [S1.out]; exact A1.out, M.out⟩
    · have L' := L rfl
      replace ST := hide ST
      clear L
      have NS := hide (show nmS (s3.drop 1) = if isSg x1 then s3.drop 2 else s3.drop 1 by unfold nmS; rw [nx_drop, hx1, List.drop_drop])
      have L2 : x1 ≠ -1 → 1 < s3.length := fun h => nx_len (s := s3) (k := 1) (by rw [hx1]; exact h)
      have L3 : x2 ≠ -1 → 2 < s3.length := fun h => nx_len (s := s3) (k := 2) (by rw [hx2]; exact h)
      clear hx0 hx1 hx2 hs3
      have SG := (show x1 = 43 ∨ x1 = 45 ∨ (x1 ≠ 43 ∧ x1 ≠ 45) by omega)
      rcases SG with rfl | rfl | ⟨n43, n45⟩
      · have E := S1.out
        have N := NS.out
        rw [show isSg 43 = true by decide, if_pos rfl] at E N
        rw [N] at E
        obtain ⟨q, hq⟩ : ∃ q, isDig x2 = q := ⟨_, rfl⟩
        have YD := hide hq
        rw [hq] at E
        have LK : q = true → 2 < s3.length := fun e => L3 (by intro g; rw [g] at hq; rw [← hq] at e; simp [isDig] at e)
        clear hq N L2 L3 S1 NS
        obtain ⟨tk, htk⟩ : ∃ z, s3.drop 2 = z := ⟨_, rfl⟩
        rw [htk] at E
        have TK := hide htk
        clear htk
        cases q
        · replace E := hide (show nmE s3 = s3 by simpa using E)
          clear LK
          go_wp2_with (first
            | (go_at_call 55; refine (standAt_any T W _ b v l s3 p _ ST.out (by decide) (by decide)).mono ?_; rintro e w1 ⟨he, B1⟩; (first | (rw [H1.out] at he) | (rw [H2.out] at he)); subst he; replace ST := hide (ST.out.below B1); replace M := hide (Mod.trans M.out (Mod.of b B1)); (try clear c1 f1); have c1 := ST.out.c1; have f1 := ST.out.f1; clear B1)
            | (go_at_call 76; refine (isDigR_any _ _).mono ?_; rintro e w2 ⟨rfl, rfl⟩; rw [YD.out]))
          go_meet
          case rel => exact ⟨by rw [E.out]; exact ST.out.at (by omega), M.out⟩
        · replace E := hide (show nmE s3 = dgs tk by simpa using E)
          have LK' := LK rfl
          clear LK
          go_wp2_with (first
            | (go_at_call 55; refine (standAt_any T W _ b v l s3 p _ ST.out (by decide) (by decide)).mono ?_; rintro e w1 ⟨he, B1⟩; (first | (rw [H1.out] at he) | (rw [H2.out] at he)); subst he; replace ST := hide (ST.out.below B1); replace M := hide (Mod.trans M.out (Mod.of b B1)); (try clear c1 f1); have c1 := ST.out.c1; have f1 := ST.out.f1; clear B1)
            | (go_at_call 76; refine (isDigR_any _ _).mono ?_; rintro e w2 ⟨rfl, rfl⟩; rw [YD.out])
            | (go_at_call 77; refine (digitsR_any T W _ b v l tk (by have := ST.out.inc 2 ((p : Int) + 2) (by omega) (by omega); rw [TK.out] at this; exact this.at (by omega))).mono ?_; rintro e w7 ⟨rfl, A2, M2⟩; replace A1 := hide A2; replace M := hide (Mod.trans (Mod.trans M.out (ST.out.mod ((p : Int) + 2))) M2); clear A2 M2 c1 f1))
          go_meet
          case rel => exact ⟨by rw [E.out]; exact A1.out, M.out⟩
      · have E := S1.out
        have N := NS.out
        rw [show isSg 45 = true by decide, if_pos rfl] at E N
        rw [N] at E
        obtain ⟨q, hq⟩ : ∃ q, isDig x2 = q := ⟨_, rfl⟩
        have YD := hide hq
        rw [hq] at E
        have LK : q = true → 2 < s3.length := fun e => L3 (by intro g; rw [g] at hq; rw [← hq] at e; simp [isDig] at e)
        clear hq N L2 L3 S1 NS
        obtain ⟨tk, htk⟩ : ∃ z, s3.drop 2 = z := ⟨_, rfl⟩
        rw [htk] at E
        have TK := hide htk
        clear htk
        cases q
        · replace E := hide (show nmE s3 = s3 by simpa using E)
          clear LK
          go_wp2_with (first
            | (go_at_call 55; refine (standAt_any T W _ b v l s3 p _ ST.out (by decide) (by decide)).mono ?_; rintro e w1 ⟨he, B1⟩; (first | (rw [H1.out] at he) | (rw [H2.out] at he)); subst he; replace ST := hide (ST.out.below B1); replace M := hide (Mod.trans M.out (Mod.of b B1)); (try clear c1 f1); have c1 := ST.out.c1; have f1 := ST.out.f1; clear B1)
            | (go_at_call 76; refine (isDigR_any _ _).mono ?_; rintro e w2 ⟨rfl, rfl⟩; rw [YD.out]))
          go_meet
          case rel => exact ⟨by rw [E.out]; exact ST.out.at (by omega), M.out⟩
        · replace E := hide (show nmE s3 = dgs tk by simpa using E)
          have LK' := LK rfl
          clear LK
          go_wp2_with (first
            | (go_at_call 55; refine (standAt_any T W _ b v l s3 p _ ST.out (by decide) (by decide)).mono ?_; rintro e w1 ⟨he, B1⟩; (first | (rw [H1.out] at he) | (rw [H2.out] at he)); subst he; replace ST := hide (ST.out.below B1); replace M := hide (Mod.trans M.out (Mod.of b B1)); (try clear c1 f1); have c1 := ST.out.c1; have f1 := ST.out.f1; clear B1)
            | (go_at_call 76; refine (isDigR_any _ _).mono ?_; rintro e w2 ⟨rfl, rfl⟩; rw [YD.out])
            | (go_at_call 77; refine (digitsR_any T W _ b v l tk (by have := ST.out.inc 2 ((p : Int) + 2) (by omega) (by omega); rw [TK.out] at this; exact this.at (by omega))).mono ?_; rintro e w7 ⟨rfl, A2, M2⟩; replace A1 := hide A2; replace M := hide (Mod.trans (Mod.trans M.out (ST.out.mod ((p : Int) + 2))) M2); clear A2 M2 c1 f1))
          go_meet
          case rel => exact ⟨by rw [E.out]; exact A1.out, M.out⟩
      · have e43 : (x1 == 43) = false := by simpa using n43
        have e45 : (x1 == 45) = false := by simpa using n45
        have E := S1.out
        have N := NS.out
        rw [show isSg x1 = false by simp [isSg, n43, n45]] at E N
        rw [if_neg (by simp)] at N
        rw [N] at E
        obtain ⟨q, hq⟩ : ∃ q, isDig x1 = q := ⟨_, rfl⟩
        have YD := hide hq
        rw [hq] at E
        have LK : q = true → 1 < s3.length := fun e => L2 (by intro g; rw [g] at hq; rw [← hq] at e; simp [isDig] at e)
        clear hq N L2 L3 S1 NS
        obtain ⟨tk, htk⟩ : ∃ z, s3.drop 1 = z := ⟨_, rfl⟩
        rw [htk] at E
        have TK := hide htk
        clear htk
        cases q
        · replace E := hide (show nmE s3 = s3 by simpa using E)
          clear LK
          go_wp2_with (first
            | (go_at_call 55; refine (standAt_any T W _ b v l s3 p _ ST.out (by decide) (by decide)).mono ?_; rintro e w1 ⟨he, B1⟩; (first | (rw [H1.out] at he) | (rw [H2.out] at he)); subst he; replace ST := hide (ST.out.below B1); replace M := hide (Mod.trans M.out (Mod.of b B1)); (try clear c1 f1); have c1 := ST.out.c1; have f1 := ST.out.f1; clear B1)
            | (go_at_call 76; refine (isDigR_any _ _).mono ?_; rintro e w2 ⟨rfl, rfl⟩; rw [YD.out]))
          go_meet
          case rel => exact ⟨by rw [E.out]; exact ST.out.at (by omega), M.out⟩
        · replace E := hide (show nmE s3 = dgs tk by simpa using E)
          have LK' := LK rfl
          clear LK
          go_wp2_with (first
            | (go_at_call 55; refine (standAt_any T W _ b v l s3 p _ ST.out (by decide) (by decide)).mono ?_; rintro e w1 ⟨he, B1⟩; (first | (rw [H1.out] at he) | (rw [H2.out] at he)); subst he; replace ST := hide (ST.out.below B1); replace M := hide (Mod.trans M.out (Mod.of b B1)); (try clear c1 f1); have c1 := ST.out.c1; have f1 := ST.out.f1; clear B1)
            | (go_at_call 76; refine (isDigR_any _ _).mono ?_; rintro e w2 ⟨rfl, rfl⟩; rw [YD.out])
            | (go_at_call 77; refine (digitsR_any T W _ b v l tk (by have := ST.out.inc 1 ((p : Int) + 1) (by omega) (by omega); rw [TK.out] at this; exact this.at (by omega))).mono ?_; rintro e w7 ⟨rfl, A2, M2⟩; replace A1 := hide A2; replace M := hide (Mod.trans (Mod.trans M.out (ST.out.mod ((p : Int) + 1))) M2); clear A2 M2 c1 f1))
          go_meet
          case rel => exact ⟨by rw [E.out]; exact A1.out, M.out⟩
  case rest =>
  obtain ⟨A2, M2⟩ := hcut
  replace A1 := hide A2
  replace M := hide M2
  clear A2 M2 hx0 hx1 hx2 H0 H1 H2
  obtain ⟨s4, hs4⟩ : ∃ q, nmZ s = q := ⟨_, rfl⟩
  have ES : nmE s3 = s4 := by rw [← hs4]; unfold nmZ; rw [hs1, hs2, hs3]
  rw [ES] at A1
  obtain ⟨n, hn⟩ : ∃ x, (dcT (enc (nmT s))).1.1 = x := ⟨_, rfl⟩
  obtain ⟨d, hd⟩ : ∃ x, (dcT (enc (nmT s))).1.2 = x := ⟨_, rfl⟩
  obtain ⟨wh, hwh⟩ : ∃ x, (dcT (enc (nmT s))).2 = x := ⟨_, rfl⟩
  obtain ⟨er, her⟩ : ∃ x, dE (enc (nmT s)) = x := ⟨_, rfl⟩
  have DV := hide (show ∀ t : ByteArray, bl t = enc (nmT s) → decV (bl t) = .tuple #[.agg #[.int .i64 n, .int .i64 d], .bool wh, .int .i64 er] from fun t ht => by
    rw [ht, ← hn, ← hd, ← hwh, ← her]; rfl)
  have hsl : s.length ≤ l.length := by omega
  have TX := hide (fun (t : ByteArray) (ht : bl t = enc (nmT s)) => numText ht hsl hL)
  obtain ⟨nb, hnb⟩ : ∃ x, numb s = x := ⟨_, rfl⟩
  have NB0 := hide hnb
  unfold numb at hnb
  rw [hn, hd, hwh, hs4] at hnb
  clear hn hd hwh her
  have hpl0 : p0 < l.length := by have := nx_pos h0; omega
  obtain ⟨vb, vo, vn, vc, rfl, hvn, hvn0, hvc, hvc9⟩ : ∃ vb vo n c, v = .slice (some ⟨vb, vo, none⟩) n c ∧ n = l.length ∧ 0 < n ∧ n ≤ c ∧ c ≤ 9223372036854775807 := by
    obtain ⟨_, k1, _⟩ := A1.out.ex
    rcases k1.nums with ⟨a, c, rfl, rfl⟩ | ⟨b', o, n, c, rfl, hn, h0, hbw, hl, hn9, hc9, hc⟩
    · simp at hpl0
    · exact ⟨_, _, _, _, rfl, hn, h0, hl, hc9⟩
  go_upto_region 18 with fail
  go_cut [8, 9] (fun s8 s9 wx => ∃ m, s8 = .pointer (some ⟨m, 0, none⟩) ∧ s9 = .bool wh ∧ At T W wx b (.slice (some ⟨vb, vo, none⟩) vn vc) l s4 ∧ w0.grownBy wx (some b) ∧ wx.heap[m]? = some (.cells #[.int .i64 n, .int .i64 d] 23))
  case first =>
    obtain ⟨q, k1, k2, k3⟩ := A1.out.ex
    have d0 := k1.c0
    have d1 := k1.c1
    have hbc := k1.lt
    have pq : p0 ≤ q := by
      have := nmZ_len s
      rw [hs4, k3, List.length_drop, chs_len] at this; omega
    have NP := hide (k1.ns.part p0 q pq (by omega) (by omega))
    have EP := hide (show enc ((l.drop p0).take (q - p0)) = enc (nmT s) by rw [enc_part l p0 q pq k2, ← HS0.out, ← k3]; unfold nmT; rw [hs4])
    have LP := hide (show ((l.drop p0).take (q - p0)).length ≤ 35184372088832 by rw [List.length_take, List.length_drop]; omega)
    have pq1 : (p0 : Int) ≤ q := by omega
    have pq2 : (q : Int) ≤ vc := by omega
    have pq3 : ¬ (vc = p0) := by omega
    have nbb : ¬ wc.heap.size = b := by omega
    clear k1 k3
    have hbc2 := hbc
    have hw0c : w0.heap.size ≤ wc.heap.size := M.out.size
    have AAf := hide (fun (wx : World) (hc : Below wc.heap.size wc wx) => (⟨A1.out.below hc, Mod.trans M.out (Mod.of b hc)⟩ : At T W wx b (.slice (some ⟨vb, vo, none⟩) vn vc) l s4 ∧ w0.grownBy wx (some b)))
    go_region_with (first
      | (go_at_call 71; refine (textR_any _ _ _ (NP.out.below (by repeat (first | (with_reducible exact Below.refl _ _) | (with_reducible refine Below.drew ?_) | (with_reducible refine bplus ?_ _)))) LP.out).mono ?_; rintro e w5 ⟨t, rfl, ht, B5⟩; rw [EP.out] at ht; replace ht := hide ht; (try (have RB := hide ((B5.block wc.heap.size (by simp)).trans (show _ = some ratO0 from rat0_in _)); obtain ⟨r0, r1, r2, r3⟩ := rat0_cells RB.out)); have C5 := hide (bto (show Below wc.heap.size wc _ by repeat (first | (with_reducible exact Below.refl _ _) | (with_reducible refine Below.drew ?_) | (with_reducible refine bplus ?_ _))) B5); clear B5)
      | (go_at_call 78; refine (decR_any t _ (TX.out t ht.out)).mono ?_; rintro e w6 ⟨he, B6⟩; rw [DV.out t ht.out] at he; subst he; (try (have RC := hide (keepB RB.out B6); clear r0 r1 r2 r3; obtain ⟨r0, r1, r2, r3⟩ := rat0_cells RC.out)); (try (have RD := hide ((B6.block w5.heap.size (by simp)).trans (show _ = some ratO0 from rat0_in _)); obtain ⟨q0, q1, q2, q3⟩ := rat0_cells RD.out)); have C6 := hide (bto C5.out (bto (show Below w5.heap.size w5 _ by repeat (first | (with_reducible exact Below.refl _ _) | (with_reducible refine Below.drew ?_) | (with_reducible refine bplus ?_ _))) B6)); clear B6))
    all_goals
      first
      | (go_wp2_with fail
         go_meet
         case rel =>
           have h5 := C5.out.size
           obtain ⟨AA, MM⟩ := AAf.out _ C6.out
           have hb5 : b < w5.heap.size := Nat.lt_of_lt_of_le hbc h5
           have hl5 : w0.heap.size ≤ w5.heap.size := Nat.le_trans hw0c h5
           refine ⟨_, rfl, rfl, ?_, ?_, ?_⟩
           · repeat (first | (with_reducible exact AA) | (with_reducible refine At.put ?_ hbc _ _) | (with_reducible refine At.put ?_ hb5 _ _) | (with_reducible refine At.below ?_ (bplus (Below.refl _ _) _)) | (with_reducible refine At.below ?_ (Below.drew (Below.refl _ _))))
           · repeat (first | (with_reducible exact MM) | (with_reducible refine Mod.put ?_ hw0c _ _) | (with_reducible refine Mod.put ?_ hl5 _ _) | (with_reducible refine Mod.trans ?_ (Mod.of b (bplus (Below.refl _ _) _))) | (with_reducible refine Mod.trans ?_ (Mod.of b (Below.drew (Below.refl _ _)))))
           · first | exact (heap_set (heap_set RC.out 0 _) 1 _).trans rfl | exact (heap_set (heap_set RD.out 0 _) 1 _).trans rfl | exact heap_alloc_new _ _)
      | (trace_state; sorry)
  case rest =>
  obtain ⟨m, rfl, rfl, A2, M2, RR⟩ := hcut
  replace A1 := hide A2
  replace M := hide M2
  have r0 : wc.cell? ⟨m, 0, none⟩ = some (.int .i64 n) := by rw [cell_blk RR]; rfl
  have r1 : wc.cell? ⟨m, 1, none⟩ = some (.int .i64 d) := by rw [cell_blk RR]; rfl
  clear A2 M2 RR
  go_upto_region 20 with fail
  obtain ⟨w9, hw9⟩ : ∃ x, wc.alloc (.cells #[.int .i64 10, .string ⟨#[]⟩, .int .i64 n, .int .i64 d, .bool wh, .bool false] 66) = x := ⟨_, rfl⟩
  have Q := hide (show w9.heap[wc.heap.size]? = some (tokO 10 ⟨#[]⟩ n d wh false) by rw [← hw9]; exact heap_alloc_new _ _)
  have B9 : Below wc.heap.size wc w9 := by rw [← hw9]; exact bplus (Below.refl _ _) _
  have hbm := A1.out.lt
  have hw0c : w0.heap.size ≤ wc.heap.size := M.out.size
  have hrm : w.heap.size < wc.heap.size := Nat.lt_of_lt_of_le (Array.getElem?_eq_some_iff.1 Z.out).1 hw0c
  replace A1 := hide (A1.out.below B9)
  replace M := hide (Mod.trans M.out (Mod.of b B9))
  rw [hw9]
  clear hw9 B9 r0 r1
  generalize wc.heap.size = mm at *
  have hmb : mm ≠ b := Nat.ne_of_gt hbm
  have hmb' : ¬ b = mm := Nat.ne_of_lt hbm
  have hrn : w.heap.size ≠ mm := Nat.ne_of_lt hrm
  have hrn' : ¬ mm = w.heap.size := Nat.ne_of_gt hrm
  have hwm : w.heap.size ≤ mm := Nat.le_of_lt hrm
  obtain ⟨p, ST, hp4, _⟩ := A1.out.stand
  have hp9 : p ≤ 140737488355328 := by omega
  replace ST := hide ST
  clear A1
  obtain ⟨x0, hx0⟩ : ∃ x, nx s4 0 = x := ⟨_, rfl⟩
  have H0 := hide (show nx s4 (Int.toNat 0) = x0 from hx0)
  obtain ⟨x1, hx1⟩ : ∃ x, nx s4 1 = x := ⟨_, rfl⟩
  have H1 := hide (show nx s4 (Int.toNat 1) = x1 from hx1)
  obtain ⟨x2, hx2⟩ : ∃ x, nx s4 2 = x := ⟨_, rfl⟩
  have H2 := hide (show nx s4 (Int.toNat 2) = x2 from hx2)
  rw [hx0, hx1, hx2] at hnb
  obtain ⟨y, hy⟩ : ∃ y, nmB x0 x1 x2 = y := ⟨_, rfl⟩
  have Y := hide hy
  rw [hy] at hnb
  have P37 : x0 = 37 → 0 < s4.length := fun e => nx_pos (by rw [hx0, e]; decide)
  clear hy hx0 hx1 hx2
  cases y
  · rw [if_neg (by simp)] at hnb
    by_cases h37 : x0 = 37
    · subst h37
      rw [if_pos rfl] at hnb
      have E := hide (NB0.out.trans hnb.symm)
      have L := P37 rfl
      clear hnb P37
      go_wp2_with (first
        | (go_at_call 55; refine (standAt_any T W _ b _ l s4 p _ ST.out (by decide) (by decide)).mono ?_; rintro e w10 ⟨he, B1⟩; (first | (rw [H0.out] at he) | (rw [H1.out] at he) | (rw [H2.out] at he)); subst he; replace ST := hide (ST.out.below B1); replace M := hide (Mod.trans M.out (Mod.of b B1)); replace Q := hide (keepB Q.out B1); (try clear c1 f1); have c1 := ST.out.c1; have f1 := ST.out.f1; (try clear f0 f2 f3 f4 f5 c0 c2 c3 c4 c5 g1 d1); obtain ⟨f0, g1, f2, f3, f4, f5, c0, d1, c2, c3, c4, c5⟩ := tok0_free (keep Z.out (Nat.ne_of_gt hb0) M.out); (try clear g0 gg1 e0 e1 e2 e3 e4 e5); obtain ⟨g0, gg1, e0, e1, e2, e3, e4, e5⟩ := tokO_made Q.out; clear B1)
        | (go_at_call 66; refine (begR_any _ _ _ _).mono ?_; rintro e w11 ⟨rfl, rfl⟩; rw [Y.out]))
      have FA := ((ST.out.put hbm 0 (.int .i64 11)).inc 1 ((p : Int) + 1) (by omega) (by omega)).at (by omega)
      have MM := Mod.trans (Mod.put (Mod.trans M0.out M.out) hwm 0 (.int .i64 11)) ((ST.out.put hbm 0 (.int .i64 11)).mod ((p : Int) + 1))
      refine bodyPost_ret (v := tkV 11 ⟨#[]⟩ n d wh false) (by simp [results, Tryd.results69, go_sem, tkV, c0, d1, c2, c3, c4, c5]) rfl ?_
      exact ⟨by rw [E.out]; exact ⟨_, rfl, rfl⟩, by rw [E.out]; repeat (first | (with_reducible exact FA) | (with_reducible refine At.put ?_ hb0 _ _) | (with_reducible refine At.put ?_ hbm _ _)), by repeat (first | (with_reducible exact MM) | (with_reducible refine Mod.put ?_ (Nat.le_refl _) _ _) | (with_reducible refine Mod.put ?_ hwm _ _))⟩
    · rw [if_neg h37] at hnb
      have e37 : (x0 == 37) = false := by simpa using h37
      have E := hide (NB0.out.trans hnb.symm)
      clear hnb P37
      go_wp2_with (first
        | (go_at_call 55; refine (standAt_any T W _ b _ l s4 p _ ST.out (by decide) (by decide)).mono ?_; rintro e w10 ⟨he, B1⟩; (first | (rw [H0.out] at he) | (rw [H1.out] at he) | (rw [H2.out] at he)); subst he; replace ST := hide (ST.out.below B1); replace M := hide (Mod.trans M.out (Mod.of b B1)); replace Q := hide (keepB Q.out B1); (try clear c1 f1); have c1 := ST.out.c1; have f1 := ST.out.f1; (try clear f0 f2 f3 f4 f5 c0 c2 c3 c4 c5 g1 d1); obtain ⟨f0, g1, f2, f3, f4, f5, c0, d1, c2, c3, c4, c5⟩ := tok0_free (keep Z.out (Nat.ne_of_gt hb0) M.out); (try clear g0 gg1 e0 e1 e2 e3 e4 e5); obtain ⟨g0, gg1, e0, e1, e2, e3, e4, e5⟩ := tokO_made Q.out; clear B1)
        | (go_at_call 66; refine (begR_any _ _ _ _).mono ?_; rintro e w11 ⟨rfl, rfl⟩; rw [Y.out]))
      have FA := ST.out.at (by omega)
      have MM := Mod.trans M0.out M.out
      refine bodyPost_ret (v := tkV 10 ⟨#[]⟩ n d wh false) (by simp [results, Tryd.results69, go_sem, tkV, c0, d1, c2, c3, c4, c5]) rfl ?_
      exact ⟨by rw [E.out]; exact ⟨_, rfl, rfl⟩, by rw [E.out]; repeat (first | (with_reducible exact FA) | (with_reducible refine At.put ?_ hb0 _ _) | (with_reducible refine At.put ?_ hbm _ _)), by repeat (first | (with_reducible exact MM) | (with_reducible refine Mod.put ?_ (Nat.le_refl _) _ _) | (with_reducible refine Mod.put ?_ hwm _ _))⟩
  · rw [if_pos rfl] at hnb
    obtain ⟨⟨nm, r⟩, hnm⟩ : ∃ x, nam [] s4 = x := ⟨_, rfl⟩
    have NN := hide hnm
    rw [hnm] at hnb
    have E := hide (NB0.out.trans hnb.symm)
    have L9 := hide (show l.length ≤ 35184372088832 by omega)
    clear hnb hnm P37
    go_wp2_with (first
      | (go_at_call 55; refine (standAt_any T W _ b _ l s4 p _ ST.out (by decide) (by decide)).mono ?_; rintro e w10 ⟨he, B1⟩; (first | (rw [H0.out] at he) | (rw [H1.out] at he) | (rw [H2.out] at he)); subst he; replace ST := hide (ST.out.below B1); replace M := hide (Mod.trans M.out (Mod.of b B1)); replace Q := hide (keepB Q.out B1); (try clear c1 f1); have c1 := ST.out.c1; have f1 := ST.out.f1; (try clear f0 f2 f3 f4 f5 c0 c2 c3 c4 c5 g1 d1); obtain ⟨f0, g1, f2, f3, f4, f5, c0, d1, c2, c3, c4, c5⟩ := tok0_free (keep Z.out (Nat.ne_of_gt hb0) M.out); (try clear g0 gg1 e0 e1 e2 e3 e4 e5); obtain ⟨g0, gg1, e0, e1, e2, e3, e4, e5⟩ := tokO_made Q.out; clear B1)
      | (go_at_call 66; refine (begR_any _ _ _ _).mono ?_; rintro e w11 ⟨rfl, rfl⟩; rw [Y.out])
      | (go_at_call 67; refine (nameR_any T W _ b _ l s4 L9.out (ST.out.at (by omega))).mono ?_; rintro e w12 ⟨t', rfl, ht', A2, M2⟩; rw [NN.out] at ht' A2; replace ht' := hide ht'; have A1 := hide A2; replace M := hide (Mod.trans M.out M2); replace Q := hide (keep Q.out hmb M2); clear A2 M2 c1 f1; (try clear f0 f2 f3 f4 f5 c0 c2 c3 c4 c5 g1 d1); obtain ⟨f0, g1, f2, f3, f4, f5, c0, d1, c2, c3, c4, c5⟩ := tok0_free (keep Z.out (Nat.ne_of_gt hb0) M.out); (try clear g0 gg1 e0 e1 e2 e3 e4 e5); obtain ⟨g0, gg1, e0, e1, e2, e3, e4, e5⟩ := tokO_made Q.out))
    have FA := A1.out
    have MM := Mod.trans M0.out M.out
    refine bodyPost_ret (v := tkV 12 t' n d wh false) (by simp [results, Tryd.results69, go_sem, tkV, c0, d1, c2, c3, c4, c5]) rfl ?_
    exact ⟨by rw [E.out]; exact ⟨_, rfl, ht'.out⟩, by rw [E.out]; repeat (first | (with_reducible exact FA) | (with_reducible refine At.put ?_ hb0 _ _) | (with_reducible refine At.put ?_ hbm _ _)), by repeat (first | (with_reducible exact MM) | (with_reducible refine Mod.put ?_ (Nat.le_refl _) _ _) | (with_reducible refine Mod.put ?_ hwm _ _))⟩
end Go.Proofs.YtlkocepoohhglaaDoor
set_option linter.unusedVariables false
set_option linter.unusedSimpArgs false
namespace Go.Proofs.YtlkocepoohhglaaDoor
open Go.RowKit
/-- One token, in the order in which the reference looks. -/
def nextR (s : List Int) : Tk × List Int :=
  if brk (nx s 0) ≠ 9 then (tk (brk (nx s 0)), s.drop 1)
  else if isBl (nx s 0) then (tk 13, bls s)
  else if isQ (nx s 0) then str (nx s 0) [] (s.drop 1)
  else if nx s 0 = 35 ∧ (isLet (nx s 1) || es2 (nx s 1) (nx s 2)) = true then hash s
  else if nuB (nx s 0) (nx s 1) (nx s 2) then numb s
  else if nx s 0 = 45 ∧ nx s 1 = 45 ∧ nx s 2 = 62 then (tk 15, s.drop 3)
  else if nx s 0 = 60 ∧ nx s 1 = 33 ∧ nx s 2 = 45 ∧ nx s 3 = 45 then (tk 14, s.drop 4)
  else if nx s 0 = 64 ∧ nmB (nx s 1) (nx s 2) (nx s 3) = true then (tkt 3 (nam [] (s.drop 1)).1, (nam [] (s.drop 1)).2)
  else if nmB (nx s 0) (nx s 1) (nx s 2) then word s
  else (tkt 9 [nx s 0], s.drop 1)
theorem brk_iff (c : Int) : brk c ≠ 9 ↔ c = 40 ∨ c = 41 ∨ c = 91 ∨ c = 93 ∨ c = 123 ∨ c = 125 ∨ c = 44 ∨ c = 58 ∨ c = 59 := by unfold brk; omega
theorem isBl_iff (c : Int) : isBl c = true ↔ c = 10 ∨ c = 9 ∨ c = 32 := by simp [isBl, or_assoc]
theorem isQ_iff (c : Int) : isQ c = true ↔ c = 34 ∨ c = 39 := by simp [isQ]
theorem isDig_iff (c : Int) : isDig c = true ↔ 48 ≤ c ∧ c ≤ 57 := by simp [isDig]
theorem isFst_iff (c : Int) : isFst c = true ↔ (97 ≤ c ∧ c ≤ 122) ∨ (65 ≤ c ∧ c ≤ 90) ∨ c = 95 ∨ 128 ≤ c := by simp [isFst, or_assoc]
theorem isSg_iff (c : Int) : isSg c = true ↔ c = 43 ∨ c = 45 := by simp [isSg]
theorem es2_iff (a b : Int) : es2 a b = true ↔ a = 92 ∧ b ≠ 10 := by simp [es2]
theorem nuB_iff (a b c : Int) : nuB a b c = true ↔ ((a = 43 ∨ a = 45) ∧ (isDig b = true ∨ (b = 46 ∧ isDig c = true))) ∨ (¬ (a = 43 ∨ a = 45) ∧ (isDig a = true ∨ (a = 46 ∧ isDig b = true))) := by
  unfold nuB
  by_cases h : isSg a = true
  · rw [if_pos h]; have := (isSg_iff a).1 h; simp [this]
  · rw [if_neg h]; have : ¬ (a = 43 ∨ a = 45) := fun k => h ((isSg_iff a).2 k); simp [this]
theorem nmB_iff (a b c : Int) : nmB a b c = true ↔ (a = 45 ∧ (isFst b = true ∨ b = 45 ∨ es2 b c = true)) ∨ (a ≠ 45 ∧ (isFst a = true ∨ es2 a b = true)) := by
  unfold nmB
  by_cases h : a = 45
  · simp [h, or_assoc]
  · simp [h]
theorem one_br {s : List Int} (h : brk (nx s 0) ≠ 9) : one s = (tk (brk (nx s 0)), s.drop 1) := by unfold one; rw [if_neg h]
theorem one_nb {s : List Int} (h : ¬ brk (nx s 0) ≠ 9) : one s = (tkt 9 [nx s 0], s.drop 1) := by unfold one; rw [if_pos (by omega)]
theorem tokn_next (s : List Int) : tokn s = nextR s := by
  unfold tokn nextR
  by_cases hb : brk (nx s 0) ≠ 9
  · rw [if_pos hb]
    have hc := (brk_iff _).1 hb
    rw [if_neg (by rw [isBl_iff]; omega), if_neg (by rw [isQ_iff]; omega), if_neg (by rw [isDig_iff]; omega), if_neg (by rw [isFst_iff]; omega)]
    unfold sgnT
    rw [if_neg (by omega), if_neg (by omega), if_neg (by omega), if_neg (by omega), if_neg (by omega), if_neg (by omega), one_br hb]
  · rw [if_neg hb]
    by_cases h1 : isBl (nx s 0) = true
    · rw [if_pos h1, if_pos h1]
    rw [if_neg h1, if_neg h1]
    by_cases h2 : isQ (nx s 0) = true
    · rw [if_pos h2, if_pos h2]
    rw [if_neg h2, if_neg h2]
    have h1' : ¬ (nx s 0 = 10 ∨ nx s 0 = 9 ∨ nx s 0 = 32) := fun k => h1 ((isBl_iff _).2 k)
    have h2' : ¬ (nx s 0 = 34 ∨ nx s 0 = 39) := fun k => h2 ((isQ_iff _).2 k)
    have NU := nuB_iff (nx s 0) (nx s 1) (nx s 2)
    have NM := nmB_iff (nx s 0) (nx s 1) (nx s 2)
    have E0 := es2_iff (nx s 0) (nx s 1)
    have D0 := isDig_iff (nx s 0)
    have F0 := isFst_iff (nx s 0)
    have o := one_nb hb
    by_cases h3 : isDig (nx s 0) = true
    · have d := D0.1 h3
      rw [if_pos h3, if_neg (by omega), if_pos (NU.2 (.inr ⟨by omega, .inl h3⟩))]
    rw [if_neg h3]
    by_cases h4 : isFst (nx s 0) = true
    · have f := F0.1 h4
      rw [if_pos h4, if_neg (by omega), if_neg (by rw [NU]; rintro (⟨h, _⟩ | ⟨_, h | ⟨h, _⟩⟩); omega; exact h3 h; omega), if_neg (by omega), if_neg (by omega), if_neg (by omega), if_pos (NM.2 (.inr ⟨by omega, .inl h4⟩))]
    rw [if_neg h4]
    unfold sgnT
    by_cases c35 : nx s 0 = 35
    · rw [if_pos c35]
      by_cases g : (isLet (nx s 1) || es2 (nx s 1) (nx s 2)) = true
      · rw [if_pos g, if_pos ⟨c35, g⟩]
      · rw [if_neg g, if_neg (fun k => g k.2), if_neg (by rw [NU]; rintro (⟨h, _⟩ | ⟨_, h | ⟨h, _⟩⟩); omega; exact h3 h; omega), if_neg (by omega), if_neg (by omega), if_neg (by omega), if_neg (by rw [NM]; rintro (⟨h, _⟩ | ⟨_, h | h⟩); omega; exact h4 h; have := E0.1 h; omega), o]
    rw [if_neg c35, if_neg (show ¬ (nx s 0 = 35 ∧ (isLet (nx s 1) || es2 (nx s 1) (nx s 2)) = true) from fun k => c35 k.1)]
    by_cases c43 : nx s 0 = 43 ∨ nx s 0 = 46
    · rw [if_pos c43]
      by_cases g : nuB (nx s 0) (nx s 1) (nx s 2) = true
      · rw [if_pos g, if_pos g]
      · rw [if_neg g, if_neg g, if_neg (by omega), if_neg (by omega), if_neg (by omega), if_neg (by rw [NM]; rintro (⟨h, _⟩ | ⟨_, h | h⟩); omega; exact h4 h; have := E0.1 h; omega), o]
    rw [if_neg c43]
    by_cases c45 : nx s 0 = 45
    · rw [if_pos c45]
      by_cases g : nuB (nx s 0) (nx s 1) (nx s 2) = true
      · rw [if_pos g, if_pos g]
      · rw [if_neg g, if_neg g]
        by_cases g2 : nx s 1 = 45 ∧ nx s 2 = 62
        · rw [if_pos g2, if_pos ⟨c45, g2⟩]
        · rw [if_neg g2, if_neg (show ¬ (nx s 0 = 45 ∧ nx s 1 = 45 ∧ nx s 2 = 62) from fun k => g2 k.2), if_neg (show ¬ (nx s 0 = 60 ∧ nx s 1 = 33 ∧ nx s 2 = 45 ∧ nx s 3 = 45) from by omega), if_neg (show ¬ (nx s 0 = 64 ∧ nmB (nx s 1) (nx s 2) (nx s 3) = true) from fun k => by omega), o]
    rw [if_neg c45]
    have nn : ¬ nuB (nx s 0) (nx s 1) (nx s 2) = true := by rw [NU]; rintro (⟨h, _⟩ | ⟨_, h | ⟨h, _⟩⟩); omega; exact h3 h; omega
    rw [if_neg nn, if_neg (show ¬ (nx s 0 = 45 ∧ nx s 1 = 45 ∧ nx s 2 = 62) from fun k => c45 k.1)]
    by_cases c60 : nx s 0 = 60
    · rw [if_pos c60]
      by_cases g2 : nx s 1 = 33 ∧ nx s 2 = 45 ∧ nx s 3 = 45
      · rw [if_pos g2, if_pos ⟨c60, g2⟩]
      · rw [if_neg g2, if_neg (fun k => g2 k.2), if_neg (by omega), if_neg (by rw [NM]; rintro (⟨h, _⟩ | ⟨_, h | h⟩); omega; exact h4 h; have := E0.1 h; omega), o]
    rw [if_neg c60, if_neg (show ¬ (nx s 0 = 60 ∧ nx s 1 = 33 ∧ nx s 2 = 45 ∧ nx s 3 = 45) from fun k => c60 k.1)]
    by_cases c64 : nx s 0 = 64
    · rw [if_pos c64]
      by_cases g2 : nmB (nx s 1) (nx s 2) (nx s 3) = true
      · rw [if_pos g2, if_pos ⟨c64, g2⟩]
      · rw [if_neg g2, if_neg (fun k => g2 k.2), if_neg (by rw [NM]; rintro (⟨h, _⟩ | ⟨_, h | h⟩); omega; exact h4 h; have := E0.1 h; omega), o]
    rw [if_neg c64, if_neg (show ¬ (nx s 0 = 64 ∧ nmB (nx s 1) (nx s 2) (nx s 3) = true) from fun k => c64 k.1)]
    by_cases c92 : nx s 0 = 92
    · rw [if_pos c92]
      by_cases g : es2 (nx s 0) (nx s 1) = true
      · rw [if_pos g, if_pos (NM.2 (.inr ⟨c45, .inr g⟩))]
      · rw [if_neg g, if_neg (by rw [NM]; rintro (⟨h, _⟩ | ⟨_, h | h⟩); omega; exact h4 h; exact g h), o]
    · rw [if_neg c92, if_neg (by rw [NM]; rintro (⟨h, _⟩ | ⟨_, h | h⟩); omega; exact h4 h; have := E0.1 h; omega), o]
end Go.Proofs.YtlkocepoohhglaaDoor
