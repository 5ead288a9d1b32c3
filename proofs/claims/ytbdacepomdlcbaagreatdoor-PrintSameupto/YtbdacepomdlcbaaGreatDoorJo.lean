/-
  A fraction as a number of a stylesheet, by the reference: the walk.
-/
import Derived.Test.YtbdacepomdlcbaaGreatDoorJn
set_option linter.unusedVariables false
set_option linter.unusedSimpArgs false
namespace Go.Proofs.YtbdacepomdlcbaaGreatDoor
open Go.RowKit

set_option maxRecDepth 100000 in
set_option maxHeartbeats 1000000 in
theorem plainR_no (n d : Int) (wh : Bool) (w : World) (n1 : -9223372036854775808 ≤ n) (n2 : n ≤ 9223372036854775807) (d1 : -9223372036854775808 ≤ d) (d2 : d ≤ 9223372036854775807) (h : mayB n d = false ∨ (mayB n d = true ∧ wh = true ∧ 1 < d)) :
    Calls Tryz.prog 49 #[.agg #[.int .i64 n, .int .i64 d], .bool wh] w fun e w' => PostPl n d wh w e w' := by
  rcases h with hm | ⟨hm, rfl, hd⟩
  · have V := hide (plT_may (wh := wh) hm)
    have HM := hide hm
    clear hm
    go_enter Tryz.func49, Tryz.ntmps49
    go_wp2_with (go_at_call 78; refine (rmay_any _ _ _ n1 n2 d1 d2).mono ?_; rintro e w1 ⟨rfl, U1⟩; rw [HM.out]; replace U1 := hide U1)
    go_ret2
    exact .mk _ _ rfl (.no V.out rfl) (bto (bplus (Below.refl _ _) _) U1.out.1)
  · have V := hide (plT_whole (n := n) hd)
    have HM := hide hm
    clear hm
    go_enter Tryz.func49, Tryz.ntmps49
    go_wp2_with (go_at_call 78; refine (rmay_any _ _ _ n1 n2 d1 d2).mono ?_; rintro e w1 ⟨rfl, U1⟩; rw [HM.out]; have c1 : w1.cell? ⟨w.heap.size, 1, none⟩ = some (.int .i64 d) := (by rw [U1.cell _ _ (by simp)]; simp [go_sem]); replace U1 := hide U1)
    go_ret2
    exact .mk _ _ rfl (.no V.out rfl) (bto (bplus (Below.refl _ _) _) U1.out.1)
set_option maxRecDepth 100000 in
set_option maxHeartbeats 1000000 in
theorem plainR_over (wh : Bool) (w : World) :
    Calls Tryz.prog 49 #[.agg #[.int .i64 0, .int .i64 0], .bool wh] w fun e w' => PostPl 0 0 wh w e w' := by
  have HM := hide (show mayB 0 0 = true from rfl)
  have V := hide (plT_over wh)
  cases wh
  all_goals
    go_enter Tryz.func49, Tryz.ntmps49
    go_wp2_with (first
      | (go_at_call 78; refine (rmay_any 0 0 _ (by omega) (by omega) (by omega) (by omega)).mono ?_; rintro e w1 ⟨rfl, U1⟩; rw [HM.out]; have c0 : w1.cell? ⟨w.heap.size, 0, none⟩ = some (.int .i64 0) := (by rw [U1.cell _ _ (by simp)]; simp [go_sem]); have c1 : w1.cell? ⟨w.heap.size, 1, none⟩ = some (.int .i64 0) := (by rw [U1.cell _ _ (by simp)]; simp [go_sem]); replace U1 := hide U1))
    go_ret2
    exact .mk _ _ rfl (.yes V.out rfl) (bto (bplus (Below.refl _ _) _) U1.out.1)
def mS (v : Value) : Nat := match v with | .string s => s.size | _ => 0
set_option maxRecDepth 100000 in
set_option maxHeartbeats 2000000 in
theorem plainR_val (n : Int) (D : Nat) (wh : Bool) (w : World) (n1 : -9223372036854775808 ≤ n) (n2 : n ≤ 9223372036854775807) (D2 : D ≤ 9223372036854775807) (hv : isV n D = true) (hw : wh = true → D = 1) (hT : Tabs w) :
    Calls Tryz.prog 49 #[.agg #[.int .i64 n, .int .i64 (D : Int)], .bool wh] w fun e w' => PostPl n D wh w e w' := by
  obtain ⟨hd, hmin, hg⟩ := isV_out hv
  have hm : mayB n D = true := by unfold mayB; rw [hv]; simp
  have HM := hide hm
  have dz : ((D : Int) == 0) = false := by simp; omega
  have d1 : (1 : Int) ≤ D := hd
  have d2 : (D : Int) ≤ 9223372036854775807 := by omega
  have V := hide (plT_val (wh := wh) hv (fun h => by rw [hw h]; rfl))
  have W1 := hide (fun (W : World) (h : Below w.heap.size w W) => hT.below h)
  have HW := hide hw
  have HV := hide hv
  have hab : ab n = ((ab n).toNat : Int) := (ab_nat n).symm
  have hN : (ab n).toNat ≤ 9223372036854775807 := by unfold ab; split <;> omega
  have HAB := hide hab
  have hwd : wh = true → ¬ (1 : Int) < D := fun h => by rw [hw h]; omega
  clear hm hv hw hg hT hmin hab
  cases wh
  all_goals
    try (have hw1 := hwd rfl)
    clear hwd
    go_enter Tryz.func49, Tryz.ntmps49
    go_wp2_with (first
      | (go_at_call 78; refine (rmay_any n D _ n1 n2 (by omega) (by omega)).mono ?_; rintro e w1 ⟨rfl, U1⟩; rw [HM.out]; have c0 : w1.cell? ⟨w.heap.size, 0, none⟩ = some (.int .i64 n) := (by rw [U1.cell _ _ (by simp)]; simp [go_sem]); have c1 : w1.cell? ⟨w.heap.size, 1, none⟩ = some (.int .i64 (D : Int)) := (by rw [U1.cell _ _ (by simp)]; simp [go_sem]); have z1 : w.heap.size < w1.heap.size := (by have := U1.size; simp at this; omega); have B1 := hide (bto (bplus (Below.refl _ _) _) U1.1); clear U1))
    go_quiet ((go_at_call 79; exact Calls.quiet_of_same (mag_any _ _ n1 n2)))
    rw [HAB.out]
    have RN := hide (fun m x q (hx : 1 < x) (hr : fin (ab n).toNat D 0 = fin m x q ∧ x * 2 ^ q ≤ D) hm => V.out.trans (rp_no (wh := _) HV.out hx hr hm))
    obtain ⟨N, hNN⟩ : ∃ N, (ab n).toNat = N := ⟨_, rfl⟩
    rw [hNN] at RN hN
    rw [hNN]
    have HN := hide hNN
    clear hNN
    go_wp2
    go_loop [6, 7, 8] (fun a b c => RelRp N D a b c) (fun _ b _ => (intOf b).toNat)
    case atStart => exact .mk N D 0 rfl rfl rfl hN (by omega) D2 (by omega) ⟨rfl, by simp⟩
    case round =>
      obtain ⟨m, x, q, rfl, rfl, rfl, m2, x1, x2, q2, R⟩ := hrel
      by_cases hx : 1 < x
      · have hx' : (1 : Int) < x := by omega
        by_cases h10 : x % 10 = 0
        · have hb2 : ((x : Int) % 2 != 0) = false := by simp; omega
          have hb10 : ((x : Int) % 10 == 0) = true := by simp; omega
          have RR := hide (show fin N D 0 = fin m (x / 10) (q + 1) ∧ x / 10 * 2 ^ (q + 1) ≤ D from ⟨R.out.1.trans (fin_ten hx h10), rp_half R.out.2 (by omega)⟩)
          have Q3 := hide (rp_q RR.out.2 (by omega) D2)
          go_wp2
          go_round
          case rel => exact .mk m (x / 10) (q + 1) rfl (by go_num) (by go_num) m2 (by omega) (by omega) (by have := Q3.out; omega) RR.out
          case measure => simp [intOf]; omega
        · have hb10 : ((x : Int) % 10 == 0) = false := by simp; omega
          by_cases h5 : x % 5 = 0
          · have hb2 : ((x : Int) % 2 != 0) = true := by simp; omega
            have hb5 : ((x : Int) % 5 != 0) = false := by simp; omega
            have hb5' : ((x : Int) % 5 == 0) = true := by simp; omega
            by_cases hbig : 1000000000000000000 ≤ m
            · have F := hide (RN.out m x q hx R.out (.inl hbig))
              have hbig' : (1000000000000000000 : Int) ≤ m := by omega
              go_wp2
              go_ret2
              exact .mk _ _ rfl (.no F.out rfl) (below_drewN B1.out _)
            · have RR := hide (show fin N D 0 = fin (m * 2) (x / 5) (q + 1) ∧ x / 5 * 2 ^ (q + 1) ≤ D from ⟨R.out.1.trans (fin_five hx h10 h5), rp_half R.out.2 (by omega)⟩)
              have Q3 := hide (rp_q RR.out.2 (by omega) D2)
              have y2 : (m : Int) ≤ 999999999999999999 := by omega
              have y0 : (0 : Int) ≤ m := by omega
              have M9 := hide (show m < 1000000000000000000 by omega)
              clear hbig m2
              obtain ⟨y, hy⟩ : ∃ y : Int, (m : Int) = y := ⟨_, rfl⟩
              rw [hy] at y0 y2
              rw [hy]
              replace hy := hide hy
              go_wp2
              go_round
              case rel => exact .mk (m * 2) (x / 5) (q + 1) (by rw [← hy.out]; go_num) (by go_num) (by go_num) (by have := M9.out; omega) (by omega) (by omega) (by have := Q3.out; omega) RR.out
              case measure => simp [intOf]; omega
          · have hb5 : ((x : Int) % 5 != 0) = true := by simp; omega
            have hb5' : ((x : Int) % 5 == 0) = false := by simp; omega
            by_cases h2 : x % 2 = 0
            · have hb2 : ((x : Int) % 2 != 0) = false := by simp; omega
              by_cases hbig : 1000000000000000000 ≤ m
              · have F := hide (RN.out m x q hx R.out (.inl hbig))
                have hbig' : (1000000000000000000 : Int) ≤ m := by omega
                go_wp2
                go_ret2
                exact .mk _ _ rfl (.no F.out rfl) (below_drewN B1.out _)
              · have RR := hide (show fin N D 0 = fin (m * 5) (x / 2) (q + 1) ∧ x / 2 * 2 ^ (q + 1) ≤ D from ⟨R.out.1.trans (fin_two hx h5 h2), rp_half R.out.2 (by omega)⟩)
                have Q3 := hide (rp_q RR.out.2 (by omega) D2)
                have y2 : (m : Int) ≤ 999999999999999999 := by omega
                have y0 : (0 : Int) ≤ m := by omega
                have M9 := hide (show m < 1000000000000000000 by omega)
                clear hbig m2
                obtain ⟨y, hy⟩ : ∃ y : Int, (m : Int) = y := ⟨_, rfl⟩
                rw [hy] at y0 y2
                rw [hy]
                replace hy := hide hy
                go_wp2
                go_round
                case rel => exact .mk (m * 5) (x / 2) (q + 1) (by rw [← hy.out]; go_num) (by go_num) (by go_num) (by have := M9.out; omega) (by omega) (by omega) (by have := Q3.out; omega) RR.out
                case measure => simp [intOf]; omega
            · have hb2 : ((x : Int) % 2 != 0) = true := by simp; omega
              have F := hide (RN.out m x q hx R.out (.inr ⟨h2, h5⟩))
              go_wp2
              go_ret2
              exact .mk _ _ rfl (.no F.out rfl) (below_drewN B1.out _)
      · obtain rfl : x = 1 := by omega
        have F0 : fin (ab n).toNat ((D : Int)).toNat 0 = some (m, q) := by rw [Int.toNat_natCast, HN.out, R.out.1]; exact fin_one (by omega)
        have QW := hide (show D = 1 → q = 0 from fun h => by
          have := R.out.2
          rw [h] at this
          have h2 : q < 2 ^ q := Nat.lt_two_pow_self
          omega)
        have PS := V.out.trans (plV_some F0)
        clear F0 R
        have FM := hide (fmt_any m (w1.drewN nq) (by omega) (W1.out _ (below_drewN B1.out _)))
        obtain ⟨ds, hds⟩ : ∃ ds : ByteArray, ds = ⟨(Lib.decDigits m).toArray⟩ := ⟨_, rfl⟩
        have bds := bl_dgt m
        have sds := dd_size (u := m) (by omega)
        rw [← hds] at FM bds sds
        have lds : 1 ≤ ds.size := by rw [← bl_len, bds, dgt_len]; exact Lib.nDigits_pos m
        have ld := hide (show (dgt m).length = ds.size by rw [← bds, bl_len])
        have BD := hide bds
        clear hds bds
        go_wp2_with (go_at_call 80; refine FM.out.mono ?_; rintro e w2 ⟨rfl, B2⟩; have c2 : w2.cell? ⟨w.heap.size, 0, none⟩ = some (.int .i64 n) := (by rw [B2.cell (p := ⟨w.heap.size, 0, none⟩) z1]; exact c0); replace B2 := hide (bto (below_drewN B1.out _) B2))
        go_loop [11] (fun c => RelCt (dgt m) c) (fun c => (intOf c).toNat)
        case atStart => exact .mk ds.size rfl lds (by rw [ld.out]; exact Nat.le_refl _) (by rw [List.take_of_length_le (by rw [ld.out]; exact Nat.le_refl _)])
        case round =>
          obtain ⟨k, rfl, k1, k2, RC⟩ := hrel
          rw [ld.out] at k2
          obtain ⟨j, rfl⟩ : ∃ j, k = j + 1 := ⟨k - 1, by omega⟩
          have ks : j < ds.size := by omega
          have cx := bl_nx ds j ks
          rw [BD.out] at cx
          have kj : ((j + 1 : Nat) : Int) - 1 = (j : Int) := by omega
          by_cases hgo : 0 < j ∧ nx (dgt m) j = 48
          · obtain ⟨hk, h48⟩ := hgo
            have RR := hide (ct_step (k := j) (by rw [ld.out]; omega) h48 RC.out)
            have hk' : (1 : Int) < ((j + 1 : Nat) : Int) := by omega
            rw [h48] at cx
            have hb : ((ds[j].toNat : Int) == 48) = true := by rw [← cx]; rfl
            clear cx h48
            go_wp2
            go_round
            case rel => exact .mk j (by go_num) hk (by rw [ld.out]; omega) RR.out
            case measure => first | (simp [intOf]; done) | (simp [intOf]; omega)
          · have CE := ct_end (k := j + 1) (by omega) (by rw [ld.out]; omega) RC.out (by rw [Nat.add_sub_cancel]; by_cases h : j = 0; exact .inl (by omega); exact .inr fun h2 => hgo ⟨by omega, h2⟩)
            by_cases h18 : 18 < (cutR (dgt m)).length
            · rw [if_pos h18] at PS
              replace PS := hide PS
              have hj : 0 < j := by have := CE.1 h18; omega
              have h48 : ((ds[j].toNat : Int) == 48) = false := by rw [← cx]; simp; exact fun h => hgo ⟨hj, h⟩
              have hk' : (1 : Int) < ((j + 1 : Nat) : Int) := by omega
              have hk2 : (18 : Int) < ((j + 1 : Nat) : Int) := by have := CE.1 h18; omega
              clear CE h18 hgo cx RC
              go_wp2
              go_ret2
              exact .mk _ _ rfl (.no PS.out rfl) B2.out
            · rw [if_neg h18] at PS
              simp only [Bool.false_eq_true, reduceIte] at PS
              replace PS := hide PS
              have hk2 : ¬ (18 : Int) < ((j + 1 : Nat) : Int) := by have h := mt CE.2 h18; omega
              clear CE h18 RC
              by_cases hj : j = 0
              · have hk' : ¬ (1 : Int) < ((j + 1 : Nat) : Int) := by omega
                clear hgo cx hj
                go_wp2
                go_loop [10] (fun v => RelPd (dgt m) q v) (fun v => q + 1 - mS v)
                case atStart => exact .mk ds rfl (by omega) lds 0 (by rw [BD.out]; rfl) (by omega)
                case round =>
                  obtain ⟨s, rfl, s100, s1, P⟩ := hrel
                  by_cases hl : s.size ≤ q
                  · have hl' : (s.size : Int) ≤ q := by omega
                    go_wp2
                    go_round
                    case rel =>
                      obtain ⟨i, e, hi⟩ := P.out
                      have pl := pd_len e
                      have z : ((⟨#[48]⟩ : ByteArray) ++ s).size = s.size + 1 := by rw [ByteArray.size_append, Nat.add_comm]; rfl
                      exact .mk _ rfl (by omega) (by omega) (i + 1) (pd_step e) (by omega)
                    case measure =>
                      have z : ((⟨#[48]⟩ : ByteArray) ++ s).size = s.size + 1 := by rw [ByteArray.size_append, Nat.add_comm]; rfl
                      show q + 1 - ((⟨#[48]⟩ : ByteArray) ++ s).size < q + 1 - s.size
                      omega
                  · have hl' : (q : Int) < s.size := by omega
                    have E := hide (show bl s = pad (dgt m) q from by obtain ⟨i, e, hi⟩ := P.out; exact pd_end e hi (by omega))
                    have T := hide (rp_text E.out (by rw [ld.out]; omega) n)
                    obtain ⟨t, ht⟩ : ∃ t, s.size - q = t := ⟨_, rfl⟩
                    rw [ht] at T
                    have hat : (s.size : Int) - q = t := by omega
                    have t1 : (t : Int) ≤ s.size := by omega
                    have t0 : (0 : Int) ≤ t := by omega
                    have t2 : (s.extract 0 t).size ≤ 100 := by rw [ByteArray.size_extract]; omega
                    have t3 : (s.extract t s.size).size ≤ 100 := by rw [ByteArray.size_extract]; omega
                    clear E P ht
                    by_cases hq : q = 0
                    · have hq' : ((q : Int) == 0) = true := by simp; omega
                      have hq2 := hide hq
                      clear hq
                      by_cases hn : n < 0
                      all_goals
                        go_wp2
                        go_ret2
                        exact .mk _ _ rfl (.yes PS.out (by first | exact (T.out.2.1 hq2.out).1 hn | exact (T.out.2.1 hq2.out).2 (by omega) | exact (T.out.2.2 hq2.out).1 hn | exact (T.out.2.2 hq2.out).2 (by omega))) B2.out
                    · first
                        | exact absurd (QW.out (show D = 1 by omega)) hq
                        | (have hq' : ((q : Int) == 0) = false := by simp; omega
                           have hq2 := hide hq
                           clear hq
                           by_cases hn : n < 0
                           all_goals
                             go_wp2
                             go_ret2
                             exact .mk _ _ rfl (.yes PS.out (by first | exact (T.out.1 hq2.out).1 hn | exact (T.out.1 hq2.out).2 (by omega))) B2.out)
              · have h48 : ((ds[j].toNat : Int) == 48) = false := by rw [← cx]; simp; exact fun h => hgo ⟨by omega, h⟩
                have hk' : (1 : Int) < ((j + 1 : Nat) : Int) := by omega
                clear hgo cx hj
                go_wp2
                go_loop [10] (fun v => RelPd (dgt m) q v) (fun v => q + 1 - mS v)
                case atStart => exact .mk ds rfl (by omega) lds 0 (by rw [BD.out]; rfl) (by omega)
                case round =>
                  obtain ⟨s, rfl, s100, s1, P⟩ := hrel
                  by_cases hl : s.size ≤ q
                  · have hl' : (s.size : Int) ≤ q := by omega
                    go_wp2
                    go_round
                    case rel =>
                      obtain ⟨i, e, hi⟩ := P.out
                      have pl := pd_len e
                      have z : ((⟨#[48]⟩ : ByteArray) ++ s).size = s.size + 1 := by rw [ByteArray.size_append, Nat.add_comm]; rfl
                      exact .mk _ rfl (by omega) (by omega) (i + 1) (pd_step e) (by omega)
                    case measure =>
                      have z : ((⟨#[48]⟩ : ByteArray) ++ s).size = s.size + 1 := by rw [ByteArray.size_append, Nat.add_comm]; rfl
                      show q + 1 - ((⟨#[48]⟩ : ByteArray) ++ s).size < q + 1 - s.size
                      omega
                  · have hl' : (q : Int) < s.size := by omega
                    have E := hide (show bl s = pad (dgt m) q from by obtain ⟨i, e, hi⟩ := P.out; exact pd_end e hi (by omega))
                    have T := hide (rp_text E.out (by rw [ld.out]; omega) n)
                    obtain ⟨t, ht⟩ : ∃ t, s.size - q = t := ⟨_, rfl⟩
                    rw [ht] at T
                    have hat : (s.size : Int) - q = t := by omega
                    have t1 : (t : Int) ≤ s.size := by omega
                    have t0 : (0 : Int) ≤ t := by omega
                    have t2 : (s.extract 0 t).size ≤ 100 := by rw [ByteArray.size_extract]; omega
                    have t3 : (s.extract t s.size).size ≤ 100 := by rw [ByteArray.size_extract]; omega
                    clear E P ht
                    by_cases hq : q = 0
                    · have hq' : ((q : Int) == 0) = true := by simp; omega
                      have hq2 := hide hq
                      clear hq
                      by_cases hn : n < 0
                      all_goals
                        go_wp2
                        go_ret2
                        exact .mk _ _ rfl (.yes PS.out (by first | exact (T.out.2.1 hq2.out).1 hn | exact (T.out.2.1 hq2.out).2 (by omega) | exact (T.out.2.2 hq2.out).1 hn | exact (T.out.2.2 hq2.out).2 (by omega))) B2.out
                    · first
                        | exact absurd (QW.out (show D = 1 by omega)) hq
                        | (have hq' : ((q : Int) == 0) = false := by simp; omega
                           have hq2 := hide hq
                           clear hq
                           by_cases hn : n < 0
                           all_goals
                             go_wp2
                             go_ret2
                             exact .mk _ _ rfl (.yes PS.out (by first | exact (T.out.1 hq2.out).1 hn | exact (T.out.1 hq2.out).2 (by omega))) B2.out)
/-- A fraction as a number of a stylesheet, by the reference. -/
theorem plainR_any (n d : Int) (wh : Bool) (w : World) (n1 : -9223372036854775808 ≤ n) (n2 : n ≤ 9223372036854775807) (d1 : -9223372036854775808 ≤ d) (d2 : d ≤ 9223372036854775807) (hT : Tabs w) :
    Calls Tryz.prog 49 #[.agg #[.int .i64 n, .int .i64 d], .bool wh] w fun e w' => PostPl n d wh w e w' := by
  by_cases hm : mayB n d = true
  · by_cases hz : (n == 0 && d == 0) = true
    · simp at hz
      obtain ⟨rfl, rfl⟩ := hz
      exact plainR_over wh w
    · have hv : isV n d = true := by rw [isV_of_may hm, Bool.eq_false_iff.2 hz]; rfl
      have hd := (isV_out hv).1
      by_cases hw : wh = true ∧ 1 < d
      · exact plainR_no n d wh w n1 n2 d1 d2 (.inr ⟨hm, hw.1, hw.2⟩)
      · obtain ⟨D, rfl⟩ := Int.eq_ofNat_of_zero_le (show 0 ≤ d by omega)
        exact plainR_val n D wh w n1 n2 (by omega) hv (fun h => by have : ¬ (1 : Int) < D := fun g => hw ⟨h, g⟩; omega) hT
  · exact plainR_no n d wh w n1 n2 d1 d2 (.inl (by simpa using hm))
/-! ### How long such a text is -/
theorem plT_len {n d : Int} {wh : Bool} {t : List Int} (n1 : -9223372036854775808 ≤ n) (n2 : n ≤ 9223372036854775807) (d2 : d ≤ 9223372036854775807) (h : plT n d wh = some t) : t.length ≤ 100 := by
  unfold plT at h
  split at h
  · cases h
  split at h
  · cases h; cases wh <;> decide
  rename_i h1 h0
  have hm : mayB n d = true := by
    cases hb : mayB n d with
    | true => rfl
    | false => exact absurd (.inl hb) h1
  have hv : isV n d = true := by unfold mayB at hm; simp [h0] at hm; exact hm
  obtain ⟨hd, _, hg⟩ := isV_out hv
  unfold plV at h
  cases hf : fin (ab n).toNat d.toNat 0 with
  | none => rw [hf] at h; cases h
  | some r =>
    obtain ⟨M, p⟩ := r
    rw [hf] at h
    simp only at h
    split at h
    · cases h
    rename_i hl
    cases h
    have hp : p ≤ 63 := by
      obtain ⟨a, b, m, hs, m2, m5⟩ := split10 d.toNat (by omega)
      have hf2 := hf
      rw [hs, fin_eq a b m m2 m5] at hf2
      split at hf2
      · rename_i hm1
        cases hf2
        have hb := fives_le (k := b) (m := m) hs (by omega) (by omega)
        have ha : a ≤ 62 := by
          refine Nat.le_of_not_lt fun h => ?_
          have h1 : 2 ^ 63 ≤ 2 ^ a := Nat.pow_le_pow_right (by omega) h
          have h2 : 2 ^ a * 1 ≤ 2 ^ a * 5 ^ b := Nat.mul_le_mul_left _ (Nat.pow_pos (by omega))
          have h3 : (2 : Nat) ^ 63 = 9223372036854775808 := by decide
          rw [hm1, Nat.mul_one] at hs
          omega
        omega
      · cases hf2
    have hM : (dgt M).length ≤ 20 := by
      by_cases hd1 : d.toNat ≤ 1
      · rw [fin_one hd1] at hf
        cases hf
        have hN : (ab n).toNat ≤ 9223372036854775807 := by unfold ab; split <;> omega
        have := dd_size (u := (ab n).toNat) (by omega)
        rw [← bl_len, bl_dgt] at this
        exact this
      · rw [cutR_dgt (fin_ten_no hf (by omega) hg)] at hl; omega
    have hn : (neg1 n).length ≤ 1 := by unfold neg1; split <;> simp
    have hpt := ptd_len (dgt M) p
    rw [List.length_append]
    split <;> omega
end Go.Proofs.YtbdacepomdlcbaaGreatDoor
