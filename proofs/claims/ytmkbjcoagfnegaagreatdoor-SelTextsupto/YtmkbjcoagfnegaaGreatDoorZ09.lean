/-
  A fraction as a number of a stylesheet, by the reference: the walk.
  Plain: which tokens may be, which must stand apart.
  Texts as bytes; characters, signs and digits of a token's text: by the program and by the reference.
  A name that begins as no identifier does; texts of characters without 0; the reference's characters.
-/
import Derived.Test.YtmkbjcoagfnegaaGreatDoorZ08
import Derived.Test.YtmkbjcoagfnegaaGreatDoorZ04
import Derived.Laws.IdiomStrings
set_option linter.unusedVariables false
set_option linter.unusedSimpArgs false
namespace Go.Proofs.YtmkbjcoagfnegaaGreatDoor
open Go.RowKit

set_option maxRecDepth 100000 in
set_option maxHeartbeats 1000000 in
theorem plainR_no (n d : Int) (wh : Bool) (w : World) (n1 : -9223372036854775808 ≤ n) (n2 : n ≤ 9223372036854775807) (d1 : -9223372036854775808 ≤ d) (d2 : d ≤ 9223372036854775807) (h : mayB n d = false ∨ (mayB n d = true ∧ wh = true ∧ 1 < d)) :
    Calls Tryz.prog 121 #[.agg #[.int .i64 n, .int .i64 d], .bool wh] w fun e w' => PostPl n d wh w e w' := by
  rcases h with hm | ⟨hm, rfl, hd⟩
  · have V := hide (plT_may (wh := wh) hm)
    have HM := hide hm
    clear hm
    go_enter Tryz.func121, Tryz.ntmps121
    go_wp2_with (go_at_call 151; refine (rmay_any _ _ _ n1 n2 d1 d2).mono ?_; rintro e w1 ⟨rfl, U1⟩; rw [HM.out]; replace U1 := hide U1)
    go_ret2
    exact .mk _ _ rfl (.no V.out rfl) (bto (bplus (Below.refl _ _) _) U1.out.1)
  · have V := hide (plT_whole (n := n) hd)
    have HM := hide hm
    clear hm
    go_enter Tryz.func121, Tryz.ntmps121
    go_wp2_with (go_at_call 151; refine (rmay_any _ _ _ n1 n2 d1 d2).mono ?_; rintro e w1 ⟨rfl, U1⟩; rw [HM.out]; have c1 : w1.cell? ⟨w.heap.size, 1, none⟩ = some (.int .i64 d) := (by rw [U1.cell _ _ (by simp)]; simp [go_sem]); replace U1 := hide U1)
    go_ret2
    exact .mk _ _ rfl (.no V.out rfl) (bto (bplus (Below.refl _ _) _) U1.out.1)
set_option maxRecDepth 100000 in
set_option maxHeartbeats 1000000 in
theorem plainR_over (wh : Bool) (w : World) :
    Calls Tryz.prog 121 #[.agg #[.int .i64 0, .int .i64 0], .bool wh] w fun e w' => PostPl 0 0 wh w e w' := by
  have HM := hide (show mayB 0 0 = true from rfl)
  have V := hide (plT_over wh)
  cases wh
  all_goals
    go_enter Tryz.func121, Tryz.ntmps121
    go_wp2_with (first
      | (go_at_call 151; refine (rmay_any 0 0 _ (by omega) (by omega) (by omega) (by omega)).mono ?_; rintro e w1 ⟨rfl, U1⟩; rw [HM.out]; have c0 : w1.cell? ⟨w.heap.size, 0, none⟩ = some (.int .i64 0) := (by rw [U1.cell _ _ (by simp)]; simp [go_sem]); have c1 : w1.cell? ⟨w.heap.size, 1, none⟩ = some (.int .i64 0) := (by rw [U1.cell _ _ (by simp)]; simp [go_sem]); replace U1 := hide U1))
    go_ret2
    exact .mk _ _ rfl (.yes V.out rfl) (bto (bplus (Below.refl _ _) _) U1.out.1)
def mS (v : Value) : Nat := match v with | .string s => s.size | _ => 0
set_option maxRecDepth 100000 in
set_option maxHeartbeats 2000000 in
theorem plainR_val (n : Int) (D : Nat) (wh : Bool) (w : World) (n1 : -9223372036854775808 ≤ n) (n2 : n ≤ 9223372036854775807) (D2 : D ≤ 9223372036854775807) (hv : isV n D = true) (hw : wh = true → D = 1) (hT : Tabs w) :
    Calls Tryz.prog 121 #[.agg #[.int .i64 n, .int .i64 (D : Int)], .bool wh] w fun e w' => PostPl n D wh w e w' := by
  obtain ⟨hd, hmin, hg⟩ := isV_out hv
  have hm : mayB n D = true := by unfold mayB; rw [hv]; simp
  have HM := hide hm
  have dz : ((D : Int) == 0) = false := by simp; omega
  have d1 : (1 : Int) ≤ D := hd
  have d2 : (D : Int) ≤ 9223372036854775807 := by omega
  have V := hide (plT_val (wh := wh) hv (fun h => by rw [hw h]; rfl))
  have W1 := hide (fun (W : World) (h : Below w.heap.size w W) => hT.below h)
  have HW := hide hw
  have HV := hide hv
  have hab : ab n = ((ab n).toNat : Int) := (ab_nat n).symm
  have hN : (ab n).toNat ≤ 9223372036854775807 := by unfold ab; split <;> omega
  have HAB := hide hab
  have hwd : wh = true → ¬ (1 : Int) < D := fun h => by rw [hw h]; omega
  clear hm hv hw hg hT hmin hab
  cases wh
  all_goals
    try (have hw1 := hwd rfl)
    clear hwd
    go_enter Tryz.func121, Tryz.ntmps121
    go_wp2_with (first
      | (go_at_call 151; refine (rmay_any n D _ n1 n2 (by omega) (by omega)).mono ?_; rintro e w1 ⟨rfl, U1⟩; rw [HM.out]; have c0 : w1.cell? ⟨w.heap.size, 0, none⟩ = some (.int .i64 n) := (by rw [U1.cell _ _ (by simp)]; simp [go_sem]); have c1 : w1.cell? ⟨w.heap.size, 1, none⟩ = some (.int .i64 (D : Int)) := (by rw [U1.cell _ _ (by simp)]; simp [go_sem]); have z1 : w.heap.size < w1.heap.size := (by have := U1.size; simp at this; omega); have B1 := hide (bto (bplus (Below.refl _ _) _) U1.1); clear U1))
    go_quiet ((go_at_call 152; exact Calls.quiet_of_same (mag_any _ _ n1 n2)))
    rw [HAB.out]
    have RN := hide (fun m x q (hx : 1 < x) (hr : fin (ab n).toNat D 0 = fin m x q ∧ x * 2 ^ q ≤ D) hm => V.out.trans (rp_no (wh := _) HV.out hx hr hm))
    obtain ⟨N, hNN⟩ : ∃ N, (ab n).toNat = N := ⟨_, rfl⟩
    rw [hNN] at RN hN
    rw [hNN]
    have HN := hide hNN
    clear hNN
    go_wp2
    go_loop [6, 7, 8] (fun a b c => RelRp N D a b c) (fun _ b _ => (intOf b).toNat)
    case atStart => exact .mk N D 0 rfl rfl rfl hN (by omega) D2 (by omega) ⟨rfl, by simp⟩
    case round =>
      obtain ⟨m, x, q, rfl, rfl, rfl, m2, x1, x2, q2, R⟩ := hrel
      by_cases hx : 1 < x
      · have hx' : (1 : Int) < x := by omega
        by_cases h10 : x % 10 = 0
        · have hb2 : ((x : Int) % 2 != 0) = false := by simp; omega
          have hb10 : ((x : Int) % 10 == 0) = true := by simp; omega
          have RR := hide (show fin N D 0 = fin m (x / 10) (q + 1) ∧ x / 10 * 2 ^ (q + 1) ≤ D from ⟨R.out.1.trans (fin_ten hx h10), rp_half R.out.2 (by omega)⟩)
          have Q3 := hide (rp_q RR.out.2 (by omega) D2)
          go_wp2
          go_round
          case rel => exact .mk m (x / 10) (q + 1) rfl (by go_num) (by go_num) m2 (by omega) (by omega) (by have := Q3.out; omega) RR.out
          case measure => simp [intOf]; omega
        · have hb10 : ((x : Int) % 10 == 0) = false := by simp; omega
          by_cases h5 : x % 5 = 0
          · have hb2 : ((x : Int) % 2 != 0) = true := by simp; omega
            have hb5 : ((x : Int) % 5 != 0) = false := by simp; omega
            have hb5' : ((x : Int) % 5 == 0) = true := by simp; omega
            by_cases hbig : 1000000000000000000 ≤ m
            · have F := hide (RN.out m x q hx R.out (.inl hbig))
              have hbig' : (1000000000000000000 : Int) ≤ m := by omega
              go_wp2
              go_ret2
              exact .mk _ _ rfl (.no F.out rfl) (below_drewN B1.out _)
            · have RR := hide (show fin N D 0 = fin (m * 2) (x / 5) (q + 1) ∧ x / 5 * 2 ^ (q + 1) ≤ D from ⟨R.out.1.trans (fin_five hx h10 h5), rp_half R.out.2 (by omega)⟩)
              have Q3 := hide (rp_q RR.out.2 (by omega) D2)
              have y2 : (m : Int) ≤ 999999999999999999 := by omega
              have y0 : (0 : Int) ≤ m := by omega
              have M9 := hide (show m < 1000000000000000000 by omega)
              clear hbig m2
              obtain ⟨y, hy⟩ : ∃ y : Int, (m : Int) = y := ⟨_, rfl⟩
              rw [hy] at y0 y2
              rw [hy]
              replace hy := hide hy
              go_wp2
              go_round
              case rel => exact .mk (m * 2) (x / 5) (q + 1) (by rw [← hy.out]; go_num) (by go_num) (by go_num) (by have := M9.out; omega) (by omega) (by omega) (by have := Q3.out; omega) RR.out
              case measure => simp [intOf]; omega
          · have hb5 : ((x : Int) % 5 != 0) = true := by simp; omega
            have hb5' : ((x : Int) % 5 == 0) = false := by simp; omega
            by_cases h2 : x % 2 = 0
            · have hb2 : ((x : Int) % 2 != 0) = false := by simp; omega
              by_cases hbig : 1000000000000000000 ≤ m
              · have F := hide (RN.out m x q hx R.out (.inl hbig))
                have hbig' : (1000000000000000000 : Int) ≤ m := by omega
                go_wp2
                go_ret2
                exact .mk _ _ rfl (.no F.out rfl) (below_drewN B1.out _)
              · have RR := hide (show fin N D 0 = fin (m * 5) (x / 2) (q + 1) ∧ x / 2 * 2 ^ (q + 1) ≤ D from ⟨R.out.1.trans (fin_two hx h5 h2), rp_half R.out.2 (by omega)⟩)
                have Q3 := hide (rp_q RR.out.2 (by omega) D2)
                have y2 : (m : Int) ≤ 999999999999999999 := by omega
                have y0 : (0 : Int) ≤ m := by omega
                have M9 := hide (show m < 1000000000000000000 by omega)
                clear hbig m2
                obtain ⟨y, hy⟩ : ∃ y : Int, (m : Int) = y := ⟨_, rfl⟩
                rw [hy] at y0 y2
                rw [hy]
                replace hy := hide hy
                go_wp2
                go_round
                case rel => exact .mk (m * 5) (x / 2) (q + 1) (by rw [← hy.out]; go_num) (by go_num) (by go_num) (by have := M9.out; omega) (by omega) (by omega) (by have := Q3.out; omega) RR.out
                case measure => simp [intOf]; omega
            · have hb2 : ((x : Int) % 2 != 0) = true := by simp; omega
              have F := hide (RN.out m x q hx R.out (.inr ⟨h2, h5⟩))
              go_wp2
              go_ret2
              exact .mk _ _ rfl (.no F.out rfl) (below_drewN B1.out _)
      · obtain rfl : x = 1 := by omega
        have F0 : fin (ab n).toNat ((D : Int)).toNat 0 = some (m, q) := by rw [Int.toNat_natCast, HN.out, R.out.1]; exact fin_one (by omega)
        have QW := hide (show D = 1 → q = 0 from fun h => by
          have := R.out.2
          rw [h] at this
          have h2 : q < 2 ^ q := Nat.lt_two_pow_self
          omega)
        have PS := V.out.trans (plV_some F0)
        clear F0 R
        have FM := hide (fmt_any m (w1.drewN nq) (by omega) (W1.out _ (below_drewN B1.out _)))
        obtain ⟨ds, hds⟩ : ∃ ds : ByteArray, ds = ⟨(Lib.decDigits m).toArray⟩ := ⟨_, rfl⟩
        have bds := bl_dgt m
        have sds := dd_size (u := m) (by omega)
        rw [← hds] at FM bds sds
        have lds : 1 ≤ ds.size := by rw [← bl_len, bds, dgt_len]; exact Lib.nDigits_pos m
        have ld := hide (show (dgt m).length = ds.size by rw [← bds, bl_len])
        have BD := hide bds
        clear hds bds
        go_wp2_with (go_at_call 153; refine FM.out.mono ?_; rintro e w2 ⟨rfl, B2⟩; have c2 : w2.cell? ⟨w.heap.size, 0, none⟩ = some (.int .i64 n) := (by rw [B2.cell (p := ⟨w.heap.size, 0, none⟩) z1]; exact c0); replace B2 := hide (bto (below_drewN B1.out _) B2))
        go_loop [11] (fun c => RelCt (dgt m) c) (fun c => (intOf c).toNat)
        case atStart => exact .mk ds.size rfl lds (by rw [ld.out]; exact Nat.le_refl _) (by rw [List.take_of_length_le (by rw [ld.out]; exact Nat.le_refl _)])
        case round =>
          obtain ⟨k, rfl, k1, k2, RC⟩ := hrel
          rw [ld.out] at k2
          obtain ⟨j, rfl⟩ : ∃ j, k = j + 1 := ⟨k - 1, by omega⟩
          have ks : j < ds.size := by omega
          have cx := bl_nx ds j ks
          rw [BD.out] at cx
          have kj : ((j + 1 : Nat) : Int) - 1 = (j : Int) := by omega
          by_cases hgo : 0 < j ∧ nx (dgt m) j = 48
          · obtain ⟨hk, h48⟩ := hgo
            have RR := hide (ct_step (k := j) (by rw [ld.out]; omega) h48 RC.out)
            have hk' : (1 : Int) < ((j + 1 : Nat) : Int) := by omega
            rw [h48] at cx
            have hb : ((ds[j].toNat : Int) == 48) = true := by rw [← cx]; rfl
            clear cx h48
            go_wp2
            go_round
            case rel => exact .mk j (by go_num) hk (by rw [ld.out]; omega) RR.out
            case measure => first | (simp [intOf]; done) | (simp [intOf]; omega)
          · have CE := ct_end (k := j + 1) (by omega) (by rw [ld.out]; omega) RC.out (by rw [Nat.add_sub_cancel]; by_cases h : j = 0; exact .inl (by omega); exact .inr fun h2 => hgo ⟨by omega, h2⟩)
            by_cases h18 : 18 < (cutR (dgt m)).length
            · rw [if_pos h18] at PS
              replace PS := hide PS
              have hj : 0 < j := by have := CE.1 h18; omega
              have h48 : ((ds[j].toNat : Int) == 48) = false := by rw [← cx]; simp; exact fun h => hgo ⟨hj, h⟩
              have hk' : (1 : Int) < ((j + 1 : Nat) : Int) := by omega
              have hk2 : (18 : Int) < ((j + 1 : Nat) : Int) := by have := CE.1 h18; omega
              clear CE h18 hgo cx RC
              go_wp2
              go_ret2
              exact .mk _ _ rfl (.no PS.out rfl) B2.out
            · rw [if_neg h18] at PS
              simp only [Bool.false_eq_true, reduceIte] at PS
              replace PS := hide PS
              have hk2 : ¬ (18 : Int) < ((j + 1 : Nat) : Int) := by have h := mt CE.2 h18; omega
              clear CE h18 RC
              by_cases hj : j = 0
              · have hk' : ¬ (1 : Int) < ((j + 1 : Nat) : Int) := by omega
                clear hgo cx hj
                go_wp2
                go_loop [10] (fun v => RelPd (dgt m) q v) (fun v => q + 1 - mS v)
                case atStart => exact .mk ds rfl (by omega) lds 0 (by rw [BD.out]; rfl) (by omega)
                case round =>
                  obtain ⟨s, rfl, s100, s1, P⟩ := hrel
                  by_cases hl : s.size ≤ q
                  · have hl' : (s.size : Int) ≤ q := by omega
                    go_wp2
                    go_round
                    case rel =>
                      obtain ⟨i, e, hi⟩ := P.out
                      have pl := pd_len e
                      have z : ((⟨#[48]⟩ : ByteArray) ++ s).size = s.size + 1 := by rw [ByteArray.size_append, Nat.add_comm]; rfl
                      exact .mk _ rfl (by omega) (by omega) (i + 1) (pd_step e) (by omega)
                    case measure =>
                      have z : ((⟨#[48]⟩ : ByteArray) ++ s).size = s.size + 1 := by rw [ByteArray.size_append, Nat.add_comm]; rfl
                      show q + 1 - ((⟨#[48]⟩ : ByteArray) ++ s).size < q + 1 - s.size
                      omega
                  · have hl' : (q : Int) < s.size := by omega
                    have E := hide (show bl s = pad (dgt m) q from by obtain ⟨i, e, hi⟩ := P.out; exact pd_end e hi (by omega))
                    have T := hide (rp_text E.out (by rw [ld.out]; omega) n)
                    obtain ⟨t, ht⟩ : ∃ t, s.size - q = t := ⟨_, rfl⟩
                    rw [ht] at T
                    have hat : (s.size : Int) - q = t := by omega
                    have t1 : (t : Int) ≤ s.size := by omega
                    have t0 : (0 : Int) ≤ t := by omega
                    have t2 : (s.extract 0 t).size ≤ 100 := by rw [ByteArray.size_extract]; omega
                    have t3 : (s.extract t s.size).size ≤ 100 := by rw [ByteArray.size_extract]; omega
                    clear E P ht
                    by_cases hq : q = 0
                    · have hq' : ((q : Int) == 0) = true := by simp; omega
                      have hq2 := hide hq
                      clear hq
                      by_cases hn : n < 0
                      all_goals
                        go_wp2
                        go_ret2
                        exact .mk _ _ rfl (.yes PS.out (by first | exact (T.out.2.1 hq2.out).1 hn | exact (T.out.2.1 hq2.out).2 (by omega) | exact (T.out.2.2 hq2.out).1 hn | exact (T.out.2.2 hq2.out).2 (by omega))) B2.out
                    · first
                        | exact absurd (QW.out (show D = 1 by omega)) hq
                        | (have hq' : ((q : Int) == 0) = false := by simp; omega
                           have hq2 := hide hq
                           clear hq
                           by_cases hn : n < 0
                           all_goals
                             go_wp2
                             go_ret2
                             exact .mk _ _ rfl (.yes PS.out (by first | exact (T.out.1 hq2.out).1 hn | exact (T.out.1 hq2.out).2 (by omega))) B2.out)
              · have h48 : ((ds[j].toNat : Int) == 48) = false := by rw [← cx]; simp; exact fun h => hgo ⟨by omega, h⟩
                have hk' : (1 : Int) < ((j + 1 : Nat) : Int) := by omega
                clear hgo cx hj
                go_wp2
                go_loop [10] (fun v => RelPd (dgt m) q v) (fun v => q + 1 - mS v)
                case atStart => exact .mk ds rfl (by omega) lds 0 (by rw [BD.out]; rfl) (by omega)
                case round =>
                  obtain ⟨s, rfl, s100, s1, P⟩ := hrel
                  by_cases hl : s.size ≤ q
                  · have hl' : (s.size : Int) ≤ q := by omega
                    go_wp2
                    go_round
                    case rel =>
                      obtain ⟨i, e, hi⟩ := P.out
                      have pl := pd_len e
                      have z : ((⟨#[48]⟩ : ByteArray) ++ s).size = s.size + 1 := by rw [ByteArray.size_append, Nat.add_comm]; rfl
                      exact .mk _ rfl (by omega) (by omega) (i + 1) (pd_step e) (by omega)
                    case measure =>
                      have z : ((⟨#[48]⟩ : ByteArray) ++ s).size = s.size + 1 := by rw [ByteArray.size_append, Nat.add_comm]; rfl
                      show q + 1 - ((⟨#[48]⟩ : ByteArray) ++ s).size < q + 1 - s.size
                      omega
                  · have hl' : (q : Int) < s.size := by omega
                    have E := hide (show bl s = pad (dgt m) q from by obtain ⟨i, e, hi⟩ := P.out; exact pd_end e hi (by omega))
                    have T := hide (rp_text E.out (by rw [ld.out]; omega) n)
                    obtain ⟨t, ht⟩ : ∃ t, s.size - q = t := ⟨_, rfl⟩
                    rw [ht] at T
                    have hat : (s.size : Int) - q = t := by omega
                    have t1 : (t : Int) ≤ s.size := by omega
                    have t0 : (0 : Int) ≤ t := by omega
                    have t2 : (s.extract 0 t).size ≤ 100 := by rw [ByteArray.size_extract]; omega
                    have t3 : (s.extract t s.size).size ≤ 100 := by rw [ByteArray.size_extract]; omega
                    clear E P ht
                    by_cases hq : q = 0
                    · have hq' : ((q : Int) == 0) = true := by simp; omega
                      have hq2 := hide hq
                      clear hq
                      by_cases hn : n < 0
                      all_goals
                        go_wp2
                        go_ret2
                        exact .mk _ _ rfl (.yes PS.out (by first | exact (T.out.2.1 hq2.out).1 hn | exact (T.out.2.1 hq2.out).2 (by omega) | exact (T.out.2.2 hq2.out).1 hn | exact (T.out.2.2 hq2.out).2 (by omega))) B2.out
                    · first
                        | exact absurd (QW.out (show D = 1 by omega)) hq
                        | (have hq' : ((q : Int) == 0) = false := by simp; omega
                           have hq2 := hide hq
                           clear hq
                           by_cases hn : n < 0
                           all_goals
                             go_wp2
                             go_ret2
                             exact .mk _ _ rfl (.yes PS.out (by first | exact (T.out.1 hq2.out).1 hn | exact (T.out.1 hq2.out).2 (by omega))) B2.out)
/-- A fraction as a number of a stylesheet, by the reference. -/
theorem plainR_any (n d : Int) (wh : Bool) (w : World) (n1 : -9223372036854775808 ≤ n) (n2 : n ≤ 9223372036854775807) (d1 : -9223372036854775808 ≤ d) (d2 : d ≤ 9223372036854775807) (hT : Tabs w) :
    Calls Tryz.prog 121 #[.agg #[.int .i64 n, .int .i64 d], .bool wh] w fun e w' => PostPl n d wh w e w' := by
  by_cases hm : mayB n d = true
  · by_cases hz : (n == 0 && d == 0) = true
    · simp at hz
      obtain ⟨rfl, rfl⟩ := hz
      exact plainR_over wh w
    · have hv : isV n d = true := by rw [isV_of_may hm, Bool.eq_false_iff.2 hz]; rfl
      have hd := (isV_out hv).1
      by_cases hw : wh = true ∧ 1 < d
      · exact plainR_no n d wh w n1 n2 d1 d2 (.inr ⟨hm, hw.1, hw.2⟩)
      · obtain ⟨D, rfl⟩ := Int.eq_ofNat_of_zero_le (show 0 ≤ d by omega)
        exact plainR_val n D wh w n1 n2 (by omega) hv (fun h => by have : ¬ (1 : Int) < D := fun g => hw ⟨h, g⟩; omega) hT
  · exact plainR_no n d wh w n1 n2 d1 d2 (.inl (by simpa using hm))
/-! ### How long such a text is -/
end Go.Proofs.YtmkbjcoagfnegaaGreatDoor
set_option linter.unusedVariables false
set_option linter.unusedSimpArgs false
namespace Go.Proofs.YtmkbjcoagfnegaaGreatDoor
open Go.RowKit

/-! ### Kinds -/
def tx (k : Int) : Bool := (k == 1) || (k == 2) || (k == 3) || (k == 4) || (k == 5) || (k == 7) || (k == 9) || (k == 12)
def nm (k : Int) : Bool := (k == 1) || (k == 2) || (k == 3) || (k == 4) || (k == 12)
def nu (k : Int) : Bool := (k == 10) || (k == 11) || (k == 12)
def ro (k : Int) : Bool := (k == 1) || (k == 3) || (k == 4) || (k == 9) || (k == 10) || (k == 12)
def jo (k : Int) : Bool := (k == 1) || (k == 2) || (k == 7) || (k == 8) || (k == 9) || (k == 10) || (k == 11) || (k == 12) || (k == 15) || (k == 21)
def fx (k : Int) : ByteArray :=
  if k = 6 then ⟨#[34, 10]⟩ else if k = 8 then ⟨#[117, 114, 108, 40, 40, 41]⟩ else if k = 13 then ⟨#[32]⟩ else if k = 14 then ⟨#[60, 33, 45, 45]⟩ else if k = 15 then ⟨#[45, 45, 62]⟩
  else if k = 16 then ⟨#[58]⟩ else if k = 17 then ⟨#[59]⟩ else if k = 18 then ⟨#[44]⟩ else if k = 19 then ⟨#[91]⟩ else if k = 20 then ⟨#[93]⟩ else if k = 21 then ⟨#[40]⟩ else if k = 22 then ⟨#[41]⟩ else if k = 23 then ⟨#[123]⟩ else if k = 24 then ⟨#[125]⟩ else ⟨#[]⟩
def isDl (c : Int) : Bool := [35, 36, 37, 38, 42, 43, 45, 46, 47, 60, 61, 62, 63, 64, 92, 94, 96, 124, 126, 33].contains c
def isCt (c : Int) : Bool := (decide (1 ≤ c) && decide (c ≤ 8)) || (c == 11) || (decide (14 ≤ c) && decide (c ≤ 31)) || (c == 127)
/-- Whole bytes of characters without 0. -/
def chB (bs : List Int) : Bool := whole bs && !(bs.contains 0)
/-- It begins as no identifier does. -/
def fB (bs : List Int) : Bool := isDig (nx bs 0) || ((nx bs 0 == 45) && ((bs.length == 1) || isDig (nx bs 1)))
def dlB (bs : List Int) : Bool := (bs.length == 1) && (isDl (nx bs 0) || isCt (nx bs 0))
def fdB (k : Int) (bs : List Int) (n d : Int) (i h : Bool) : Bool := (tx k || bs.isEmpty) && ((nu k || (((n == 0) && (d == 0)) && !i)) && ((k == 4) || !h))
def txB (k : Int) (bs : List Int) (h : Bool) : Bool := if k = 9 then dlB bs else if k = 4 ∧ h = false ∧ fB bs = false then false else if nm k = true ∧ bs = [] then false else chB bs
def nuB1 (k n d : Int) (i : Bool) : Bool := !nu k || (plT n d i).isSome
/-- May the token be? -/
def mayT (k : Int) (bs : List Int) (n d : Int) (i h : Bool) : Bool := (decide (1 ≤ k) && decide (k ≤ 24)) && ((fdB k bs n d i h && txB k bs h) && nuB1 k n d i)
def apB (a b : Int) : Bool := ((a == 13) && (b == 13)) || (ro a && jo b)
/-! ### Characters -/
theorem enc1_zero {c : Int} (h : isC c = true) : (enc1 c).contains 0 = (c == 0) := by
  rw [isC_iff] at h
  unfold enc1
  rw [Bool.eq_iff_iff]
  split
  · simp; omega
  split
  · simp; omega
  split
  · simp; omega
  · simp; omega
theorem zero_raw (n : Nat) : ∀ bs : List Int, bs.length ≤ n → By bs → whole bs = true → (raw bs).contains 0 = bs.contains 0 := by
  induction n with
  | zero => intro bs h _ _; rw [List.eq_nil_of_length_eq_zero (by omega : bs.length = 0), raw_nil]
  | succ n ih =>
    intro bs h hb hw
    by_cases hn : bs = []
    · subst hn; rw [raw_nil]
    rw [whole_cut hn, Bool.and_eq_true] at hw
    obtain ⟨h1, h2⟩ := stp_back bs hb hn hw.1
    have hl := stp_len bs hn
    have e : bs.contains 0 = ((enc1 (stp bs).1).contains 0 || (bs.drop (stp bs).2.1).contains 0) := by
      refine (congrArg (fun l : List Int => l.contains 0) h2).trans ?_
      show (enc1 (stp bs).1 ++ bs.drop (stp bs).2.1).contains 0 = _
      rw [Bool.eq_iff_iff]
      simp
    rw [raw_cut hn, List.contains_cons, ih _ (by rw [List.length_drop]; omega) (hb.drop _) hw.2, e, enc1_zero h1]
    congr 1
    rw [Bool.eq_iff_iff]
    simp only [beq_iff_eq]
    exact ⟨fun h => h.symm, fun h => h.symm⟩
theorem chB_raw (bs : List Int) (hb : By bs) : chB bs = (!((raw bs).contains 0) && whole bs) := by
  unfold chB
  cases hw : whole bs with
  | false => simp
  | true => rw [zero_raw _ bs (Nat.le_refl _) hb hw]; simp
/-- How whole bytes begin. -/
theorem raw_head (bs : List Int) (hb : By bs) (hn : bs ≠ []) (hw : whole bs = true) :
    (raw bs = nx bs 0 :: raw (bs.drop 1) ∧ whole (bs.drop 1) = true ∧ nx bs 0 < 128) ∨ (128 ≤ nx bs 0 ∧ 128 ≤ nx (raw bs) 0) := by
  have hl := stp_len bs hn
  have hw2 := hw
  rw [whole_cut hn, Bool.and_eq_true] at hw
  obtain ⟨h1, h2⟩ := stp_back bs hb hn hw.1
  have hc := h1
  rw [isC_iff] at hc
  by_cases h : (stp bs).1 ≤ 127
  · left
    have e1 : enc1 (stp bs).1 = [(stp bs).1] := by unfold enc1; rw [if_pos h]
    rw [e1] at h2
    have hnx : nx bs 0 = (stp bs).1 := (congrArg (fun l => nx l 0) h2).trans rfl
    have hl1 : (stp bs).2.1 = 1 := by
      have := congrArg List.length h2
      rw [List.length_append, List.length_drop] at this
      simp at this
      omega
    rw [hnx]
    rw [hl1] at hw
    exact ⟨by rw [raw_cut hn, hl1], hw.2, by omega⟩
  · right
    have e0 : nx (raw bs) 0 = (stp bs).1 := by rw [raw_cut hn]; rfl
    refine ⟨?_, by rw [e0]; omega⟩
    have e2 : nx bs 0 = nx (enc1 (stp bs).1 ++ bs.drop (stp bs).2.1) 0 := congrArg (fun l => nx l 0) h2
    rw [e2]
    generalize (stp bs).1 = c at *
    unfold enc1
    rw [if_neg h]
    split
    · show 128 ≤ 192 + _; omega
    split
    · show 128 ≤ 224 + _; omega
    · show 128 ≤ 240 + _; omega
def gB (l : List Int) : Bool := isDig (nx l 0) || ((nx l 0 == 45) && ((l.length == 1) || isDig (nx l 1)))
theorem dig_big {c : Int} (h : 128 ≤ c) : isDig c = false := by simp [isDig]; omega
theorem nx_cons1 (c : Int) (l : List Int) : nx (c :: l) 1 = nx l 0 := by simp [nx]
theorem nx_drop1 (bs : List Int) : nx bs 1 = nx (bs.drop 1) 0 := by rw [nx_drop]
theorem hash_raw (bs : List Int) (hb : By bs) (hn : bs ≠ []) (hw : whole bs = true) : gB (raw bs) = fB bs := by
  unfold gB fB
  rcases raw_head bs hb hn hw with ⟨h1, h2, h3⟩ | ⟨h1, h2⟩
  · rw [h1, show nx (nx bs 0 :: raw (bs.drop 1)) 0 = nx bs 0 by rfl, nx_cons1, nx_drop1]
    congr 1
    congr 1
    by_cases he : bs.drop 1 = []
    · have hl : bs.length = 1 := by
        have h0 := congrArg List.length he
        rw [List.length_drop] at h0
        simp at h0
        have := List.length_pos_iff.2 hn
        omega
      rw [he, raw_nil, hl]; simp
    · have hl : 1 < bs.length := by
        refine Nat.lt_of_not_le fun h => he (List.drop_of_length_le h)
      have hr : raw (bs.drop 1) ≠ [] := by rw [raw_cut he]; simp
      have hb1 : ((nx bs 0 :: raw (bs.drop 1)).length == 1) = false := by
        have hp := List.length_pos_iff.2 hr
        rw [List.length_cons, beq_eq_false_iff_ne]
        omega
      have hb2 : (bs.length == 1) = false := by simp; omega
      rw [hb1, hb2, Bool.false_or, Bool.false_or]
      rcases raw_head (bs.drop 1) (hb.drop 1) he h2 with ⟨g1, _, _⟩ | ⟨g1, g2⟩
      · rw [g1]; rfl
      · rw [dig_big g1, dig_big g2]
  · rw [dig_big h1, dig_big h2]
    have e1 : (nx (raw bs) 0 == 45) = false := by simp; omega
    have e2 : (nx bs 0 == 45) = false := by simp; omega
    rw [e1, e2]; rfl
theorem raw_empty (bs : List Int) : (raw bs).length = 0 ↔ bs = [] := by
  constructor
  · intro h
    have := raw_le bs
    exact List.eq_nil_of_length_eq_zero (by omega)
  · rintro rfl; rw [raw_nil]; rfl
/-! ### The reference's words, by kinds -/
def zB (n d : Int) (i : Bool) : Bool := ((n == 0) && (d == 0)) && !i
theorem may_name {k : Int} (hk : k = 1 ∨ k = 2 ∨ k = 3) (bs : List Int) (n d : Int) (i h : Bool) : mayT k bs n d i h = ((zB n d i && !h) && (chB bs && !bs.isEmpty)) := by
  rcases hk with rfl | rfl | rfl
  all_goals
    cases bs <;> simp [mayT, fdB, txB, nuB1, tx, nm, nu, zB] <;> (cases i <;> cases h <;> simp)
theorem may_hash (bs : List Int) (n d : Int) (i h : Bool) : mayT 4 bs n d i h = (zB n d i && ((chB bs && !bs.isEmpty) && (h || fB bs))) := by
  cases bs <;> simp [mayT, fdB, txB, nuB1, tx, nm, nu, zB]
  cases h <;> simp
  rename_i c r
  cases fB (c :: r) <;> simp
theorem may_text {k : Int} (hk : k = 5 ∨ k = 7) (bs : List Int) (n d : Int) (i h : Bool) : mayT k bs n d i h = ((zB n d i && !h) && chB bs) := by
  rcases hk with rfl | rfl
  all_goals simp [mayT, fdB, txB, nuB1, tx, nm, nu, zB]
theorem may_delim (bs : List Int) (n d : Int) (i h : Bool) : mayT 9 bs n d i h = ((zB n d i && !h) && dlB bs) := by
  simp [mayT, fdB, txB, nuB1, tx, nm, nu, zB]
theorem may_num {k : Int} (hk : k = 10 ∨ k = 11) (bs : List Int) (n d : Int) (i h : Bool) : mayT k bs n d i h = ((bs.isEmpty && !h) && (plT n d i).isSome) := by
  have c0 : chB [] = true := by unfold chB; rw [whole_nil]; rfl
  rcases hk with rfl | rfl
  all_goals
    cases bs <;> simp [mayT, fdB, txB, nuB1, tx, nm, nu, c0]
theorem may_dim (bs : List Int) (n d : Int) (i h : Bool) : mayT 12 bs n d i h = ((chB bs && !bs.isEmpty) && (!h && (plT n d i).isSome)) := by
  cases bs <;> simp [mayT, fdB, txB, nuB1, tx, nm, nu]
  cases h <;> simp
theorem may_rest {k : Int} (hk : ¬ (k = 1 ∨ k = 2 ∨ k = 3 ∨ k = 4 ∨ k = 5 ∨ k = 7 ∨ k = 9 ∨ k = 10 ∨ k = 11 ∨ k = 12)) (bs : List Int) (n d : Int) (i h : Bool) : mayT k bs n d i h = ((decide (1 ≤ k) && decide (k ≤ 24)) && (bs.isEmpty && (zB n d i && !h))) := by
  have c0 : chB [] = true := by unfold chB; rw [whole_nil]; rfl
  have e1 : tx k = false := by simp [tx]; omega
  have e2 : nm k = false := by simp [nm]; omega
  have e3 : nu k = false := by simp [nu]; omega
  have e4 : (k == 4) = false := by simp; omega
  have e9 : ¬ k = 9 := by omega
  have e5 : ¬ k = 4 := by omega
  cases bs with
  | nil => simp [mayT, fdB, txB, nuB1, e1, e2, e3, e4, e9, e5, zB, c0]
  | cons c r => simp [mayT, fdB, txB, nuB1, e1, e2, e3, e4, e9, e5, zB]
end Go.Proofs.YtmkbjcoagfnegaaGreatDoor
set_option linter.unusedVariables false
set_option linter.unusedSimpArgs false
namespace Go.Proofs.YtmkbjcoagfnegaaGreatDoor
open Go.RowKit

theorem row_at (s : ByteArray) (c i : Nat) (h : i < s.size) : (bytesRow s c)[i]? = some (.int .u8 (s[i].toNat : Int)) := by
  unfold bytesRow
  have h' : i < s.data.size := h
  rw [Array.getElem?_append_left (by simpa using h'), Array.getElem?_map, Array.getElem?_eq_getElem h']
  rfl
/-- A text as bytes. -/
theorem conv_any (s : ByteArray) (w : World) (hs : s.size ≤ 140737488355328) : ∃ v w1, (convert 9 30 (.string s)).run Tryz.prog w = .ok v w1 ∧ Nums .u8 w1 v (bl s) ∧ Below w.heap.size w w1 := by
  refine ⟨_, _, run_bytes_of_string (P := Tryz.prog) w 9 30 5 s Tryz.underlying9 Tryz.underlying30 Tryz.underlying5, ?_, bplus (Below.refl _ _).drew _⟩
  have hc1 := grownCap_ge w s.size 0 5
  have hc2 := grownCap_le_maxLen w s.size 0 5 (by unfold maxLen; omega)
  unfold maxLen at hc2
  generalize grownCap w s.size 0 5 = c at *
  by_cases h0 : 0 < s.size
  · right
    refine ⟨w.heap.size, 0, s.size, c, rfl, (bl_len s).symm, h0, ?_, hc1, by omega, by omega, fun i hi => ?_⟩
    · have hb : (w.drew.alloc (.cells (bytesRow s c) 5 ((bytesRow s c).size, (bytesRow s c).size + 1))).heap[w.heap.size]? = some (.cells (bytesRow s c) 5 ((bytesRow s c).size, (bytesRow s c).size + 1)) := heap_alloc_new w.drew _
      exact (Array.getElem?_eq_some_iff.1 hb).1
    · have hb : (w.drew.alloc (.cells (bytesRow s c) 5 ((bytesRow s c).size, (bytesRow s c).size + 1))).heap[w.heap.size]? = some (.cells (bytesRow s c) 5 ((bytesRow s c).size, (bytesRow s c).size + 1)) := heap_alloc_new w.drew _
      rw [Nat.zero_add, row_blk hb, row_at s c i hi, bl_at s i hi]
  · left
    have e : s.size = 0 := by omega
    refine ⟨some ⟨w.heap.size, 0, none⟩, c, by rw [e], bl_nil e⟩
/-! ### Small tests -/
theorem dig3 (c : Int) : c < 48 ∨ (48 ≤ c ∧ c ≤ 57) ∨ 57 < c := by omega
theorem isDigitS_any (c : Int) (w : World) : Calls Tryz.prog 214 #[.int .i32 c] w fun e w' => e = .returned (.bool (isDig c)) ∧ w' = w := by
  rcases dig3 c with h | ⟨h, g⟩ | h
  all_goals
    go_enter Tryz.func214, Tryz.ntmps214
    go_wp2
    go_ret
    exact ⟨ret_bool (by simp [isDig]; omega), rfl⟩
theorem digitR_any (c : Int) (w : World) : Calls Tryz.prog 149 #[.int .i32 c] w fun e w' => e = .returned (.bool (isDig c)) ∧ w' = w := by
  rcases dig3 c with h | ⟨h, g⟩ | h
  all_goals
    go_enter Tryz.func149, Tryz.ntmps149
    go_wp2
    go_ret
    exact ⟨ret_bool (by simp [isDig]; omega), rfl⟩
theorem ct_cases (c : Int) : (c < 1 ∧ isCt c = false) ∨ (1 ≤ c ∧ c ≤ 8 ∧ isCt c = true) ∨ (8 < c ∧ c < 11 ∧ isCt c = false) ∨ (c = 11) ∨ (11 < c ∧ c < 14 ∧ isCt c = false) ∨ (14 ≤ c ∧ c ≤ 31 ∧ isCt c = true) ∨ (31 < c ∧ c < 127 ∧ isCt c = false) ∨ (c = 127) ∨ (127 < c ∧ isCt c = false) := by
  simp only [isCt]
  rcases (show c < 1 ∨ (1 ≤ c ∧ c ≤ 8) ∨ (8 < c ∧ c < 11) ∨ c = 11 ∨ (11 < c ∧ c < 14) ∨ (14 ≤ c ∧ c ≤ 31) ∨ (31 < c ∧ c < 127) ∨ c = 127 ∨ 127 < c by omega) with h | h | h | h | h | h | h | h | h
  all_goals simp <;> omega
set_option maxHeartbeats 1000000 in
theorem isControl_any (c : Int) (w : World) : Calls Tryz.prog 212 #[.int .u8 c] w fun e w' => e = .returned (.bool (isCt c)) ∧ w' = w := by
  rcases ct_cases c with ⟨h, e⟩ | ⟨h, g, e⟩ | ⟨h, g, e⟩ | rfl | ⟨h, g, e⟩ | ⟨h, g, e⟩ | ⟨h, g, e⟩ | rfl | ⟨h, e⟩
  case inr.inr.inr.inl =>
    go_enter Tryz.func212, Tryz.ntmps212
    go_wp2
    go_ret
    exact ⟨rfl, rfl⟩
  case inr.inr.inr.inr.inr.inr.inr.inl =>
    go_enter Tryz.func212, Tryz.ntmps212
    go_wp2
    go_ret
    exact ⟨rfl, rfl⟩
  all_goals
    have n1 : (c == 11) = false := by simp; omega
    have n2 : (c == 127) = false := by simp; omega
    clear e
    go_enter Tryz.func212, Tryz.ntmps212
    go_wp2
    go_ret
    exact ⟨ret_bool (by rw [Bool.eq_iff_iff]; simp [isCt]; try omega), rfl⟩
/-! ### A sign of its own -/
theorem one_byte {s : ByteArray} (h : s.size = 1) : ∃ c : UInt8, s = ⟨#[c]⟩ ∧ bl s = [(c.toNat : Int)] := by
  obtain ⟨⟨l⟩⟩ := s
  match l, h with
  | [c], _ => exact ⟨c, rfl, rfl⟩
def dls : List UInt8 := [35, 36, 37, 38, 42, 43, 45, 46, 47, 60, 61, 62, 63, 64, 92, 94, 96, 124, 126, 33]
theorem dls_at : ∀ n : Fin 256, decide (0 ≤ Lib.indexByte dls (UInt8.ofNat n.val)) = isDl (n.val : Int) := by decide +kernel
theorem dls_in (c : UInt8) : decide (0 ≤ Lib.indexByte dls c) = isDl (c.toNat : Int) := by
  have := dls_at ⟨c.toNat, c.toNat_lt⟩
  simpa using this
set_option maxHeartbeats 1000000 in
theorem isDelim_any (s : ByteArray) (w : World) (hs : s.size ≤ 140737488355328) : Calls Tryz.prog 190 #[.string s] w fun e w' => e = .returned (.bool (dlB (bl s))) ∧ w' = w := by
  by_cases h1 : s.size = 1
  · obtain ⟨c, rfl, hb⟩ := one_byte h1
    have E := hide (show dlB (bl ⟨#[c]⟩) = (isDl (c.toNat : Int) || isCt (c.toNat : Int)) by rw [hb]; rfl)
    have C := hide (sh_strings_Contains_one ⟨#[35, 36, 37, 38, 42, 43, 45, 46, 47, 60, 61, 62, 63, 64, 92, 94, 96, 124, 126, 33]⟩ c w)
    have D := hide (dls_in c)
    clear hb h1 hs
    cases hd : isDl (c.toNat : Int)
    all_goals
      have HD := hide hd
      clear hd
      go_enter Tryz.func190, Tryz.ntmps190
      go_wp2_with (first
        | (go_at_call 211; refine C.out.mono ?_; rintro e w1 ⟨rfl, rfl⟩; rw [show decide (0 ≤ Lib.indexByte (⟨#[35, 36, 37, 38, 42, 43, 45, 46, 47, 60, 61, 62, 63, 64, 92, 94, 96, 124, 126, 33]⟩ : ByteArray).data.toList c) = decide (0 ≤ Lib.indexByte dls c) from rfl, D.out, HD.out])
        | (go_at_call 212; refine (isControl_any _ _).mono ?_; rintro e w1 ⟨rfl, rfl⟩))
      go_ret
      exact ⟨ret_bool (by rw [E.out, HD.out]; simp [ByteArray.getElem_eq_getElem_data]), rfl⟩
  · have E := hide (show dlB (bl s) = false by unfold dlB; rw [bl_len]; simp [h1])
    have h2 : ((s.size : Int) != 1) = true := by simp; omega
    go_enter Tryz.func190, Tryz.ntmps190
    go_wp2
    go_ret
    exact ⟨ret_bool E.out.symm, rfl⟩
end Go.Proofs.YtmkbjcoagfnegaaGreatDoor
set_option linter.unusedVariables false
set_option linter.unusedSimpArgs false
namespace Go.Proofs.YtmkbjcoagfnegaaGreatDoor
open Go.RowKit

def trm (s : ByteArray) : ByteArray := ⟨(Lib.trimPrefix s.data.toList (⟨#[45]⟩ : ByteArray).data.toList).toArray⟩
theorem trm_bl (s : ByteArray) : bl (trm s) = if nx (bl s) 0 = 45 then (bl s).drop 1 else bl s := by
  unfold trm bl Lib.trimPrefix Lib.hasPrefix
  simp only [List.toList_toArray]
  show List.map _ (if List.isPrefixOf [45] s.data.toList = true then s.data.toList.drop 1 else s.data.toList) = _
  cases hl : s.data.toList with
  | nil => rfl
  | cons x r =>
    by_cases hx : x = 45
    · subst hx
      simp [nx, List.isPrefixOf]
    · have : ¬ ((x.toNat : Int) = 45) := fun h => hx (UInt8.toNat_inj.1 (by show x.toNat = 45; omega))
      have hp : List.isPrefixOf [45] (x :: r) = false := by simp [List.isPrefixOf]; exact fun h => hx h.symm
      rw [hp]
      simp [nx, this]
theorem trm_num (s : ByteArray) (h : bl s ≠ [45]) : fB (bl s) = isDig (nx (bl (trm s)) 0) := by
  rw [trm_bl]
  unfold fB
  by_cases h0 : nx (bl s) 0 = 45
  · rw [if_pos h0, h0, ← nx_drop1]
    have hl : ((bl s).length == 1) = false := by
      rw [beq_eq_false_iff_ne]
      intro h1
      refine h ?_
      match hb : bl s, h1 with
      | [c], _ => rw [hb] at h0; simpa [nx] using h0
    rw [hl]; simp [isDig]
  · rw [if_neg h0]
    have : (nx (bl s) 0 == 45) = false := by simpa using h0
    rw [this]; simp
theorem nx_neg (l : List Int) (h : l = []) : isDig (nx l 0) = false := by subst h; rfl
set_option maxHeartbeats 1000000 in
theorem isNumeric_any (s : ByteArray) (w : World) (hs : s.size ≤ 140737488355328) : Calls Tryz.prog 191 #[.string s] w fun e w' => e = .returned (.bool (fB (bl s))) ∧ w' = w := by
  have C := hide (sh_strings_TrimPrefix s ⟨#[45]⟩ w)
  by_cases hd : bl s = [45]
  · obtain rfl : s = ⟨#[45]⟩ := bl_inj hd
    go_enter Tryz.func191, Tryz.ntmps191
    go_wp2_with (go_at_call 213; refine C.out.mono ?_; rintro e w1 ⟨rfl, rfl⟩)
    go_ret
    exact ⟨rfl, rfl⟩
  · have E := hide (trm_num s hd)
    have hne : ¬ s = ⟨#[45]⟩ := fun h => hd (by rw [h]; rfl)
    have hne2 : (s.toList == [45]) = false := by
      rw [beq_eq_false_iff_ne]
      intro h
      rw [Lib.toList_data] at h
      exact hd (by unfold bl; rw [h]; rfl)
    have C' : Hid (Calls Tryz.prog 213 #[.string s, .string ⟨#[45]⟩] w fun e w' => e = .returned (.string (trm s)) ∧ w' = w) := C
    generalize trm s = r at *
    clear C hd hne
    by_cases h0 : r.size = 0
    · have n1 := emp_t h0
      have F := hide (show fB (bl s) = false by rw [E.out]; exact nx_neg _ (bl_nil h0))
      go_enter Tryz.func191, Tryz.ntmps191
      go_wp2_with (go_at_call 213; refine C'.out.mono ?_; rintro e w1 ⟨rfl, rfl⟩)
      go_ret
      exact ⟨ret_bool F.out.symm, rfl⟩
    · have h1 : 0 < r.size := by omega
      have n1 := emp_f h1
      have cx := bl_nx r 0 h1
      have b8 : (r[0].toNat : Int) ≤ 255 := by have := r[0].toNat_lt; omega
      have b0 : (0 : Int) ≤ (r[0].toNat : Int) := by omega
      have F := hide (show fB (bl s) = isDig (r[0].toNat : Int) by rw [E.out, cx])
      clear E cx
      go_enter Tryz.func191, Tryz.ntmps191
      go_wp2_with (first
        | (go_at_call 213; refine C'.out.mono ?_; rintro e w1 ⟨rfl, rfl⟩)
        | (go_at_call 214; refine (isDigitS_any _ _).mono ?_; rintro e w1 ⟨rfl, rfl⟩))
      go_ret
      exact ⟨ret_bool F.out.symm, rfl⟩
theorem idx_ge (l : List UInt8) : -1 ≤ Lib.indexByte l 0 := by
  induction l with
  | nil => simp [Lib.indexByte]
  | cons y t ih => simp only [Lib.indexByte]; split; omega; split; omega; omega
theorem idx0' (l : List UInt8) : 0 ≤ Lib.indexByte l 0 ↔ (0 : Int) ∈ l.map fun b => (b.toNat : Int) := by
  induction l with
  | nil => simp [Lib.indexByte]
  | cons x r ih =>
    have hge := idx_ge r
    rw [List.map_cons, List.mem_cons, ← ih]
    simp only [Lib.indexByte]
    by_cases hx : x = 0
    · subst hx; simp
    · have h1 : (x == 0) = false := by simpa using hx
      have h2 : ¬ (0 : Int) = (x.toNat : Int) := fun h => hx (UInt8.toNat_inj.1 (by show x.toNat = 0; omega))
      simp only [h1, h2, Bool.false_eq_true, if_false, false_or]
      split
      · rename_i h; simp at h; omega
      · rename_i h; simp at h; omega
theorem idx0 (l : List UInt8) : decide (0 ≤ Lib.indexByte l 0) = (l.map fun b => (b.toNat : Int)).contains 0 := by
  rw [Bool.eq_iff_iff, decide_eq_true_iff, idx0']
  simp
set_option maxHeartbeats 1000000 in
theorem isText_any (s : ByteArray) (w : World) (hs : s.size ≤ 140737488355328) : Calls Tryz.prog 192 #[.string s] w fun e w' => e = .returned (.bool (chB (bl s))) ∧ Below w.heap.size w w' := by
  obtain ⟨v, w1, hc, hn, hb⟩ := conv_any s w hs
  have Z := hide (idx0 s.data.toList)
  have C := hide (fun W => sh_strings_Contains_one s 0 W)
  have WH := hide (wholeP_any (bl s) v w1 (bl_by s) hn)
  have HB := hide hb
  have E := hide (show chB (bl s) = (whole (bl s) && !((bl s).contains 0)) from rfl)
  clear hn hb
  cases hw : whole (bl s)
  all_goals
    have HW := hide hw
    clear hw
    go_enter Tryz.func192, Tryz.ntmps192
    go_wp2_with (first
      | (go_at_call 215; refine WH.out.mono ?_; rintro e w2 ⟨rfl, rfl⟩; rw [HW.out])
      | (go_at_call 211; refine (C.out _).mono ?_; rintro e w3 ⟨rfl, rfl⟩))
    go_ret
    exact ⟨ret_bool (by rw [E.out, HW.out]; first | rfl | (rw [Z.out]; rfl)), HB.out⟩
end Go.Proofs.YtmkbjcoagfnegaaGreatDoor

