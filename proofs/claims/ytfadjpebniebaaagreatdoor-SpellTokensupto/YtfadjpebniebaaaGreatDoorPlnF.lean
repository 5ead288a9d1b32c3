/-
  A fraction as a number of a stylesheet, by the program: what is over, what is a value.
-/
import Derived.Test.YtfadjpebniebaaaGreatDoorPlnE
set_option linter.unusedVariables false
set_option linter.unusedSimpArgs false
namespace Go.Proofs.YtfadjpebniebaaaGreatDoor
open Go.RowKit

set_option maxRecDepth 100000 in
set_option maxHeartbeats 1000000 in
theorem plainP_over (wh : Bool) (w : World) :
    Calls Tryz.prog 67 #[.agg #[.int .i64 0, .int .i64 0], .bool wh] w fun e w' => PostPl 0 0 wh w e w' := by
  have HM := hide (show mayB 0 0 = true from rfl)
  have V := hide (plT_over wh)
  have C := hide (plainOver_any wh)
  cases wh
  all_goals
    go_enter Tryz.func67, Tryz.ntmps67
    go_wp2_with (first
      | (go_at_call 102; refine (may_any 0 0 _ (by omega) (by omega) (by omega) (by omega)).mono ?_; rintro e w1 ⟨rfl, U1⟩; rw [HM.out]; have c0 : w1.cell? ⟨w.heap.size, 0, none⟩ = some (.int .i64 0) := (by rw [U1.cell _ _ (by simp)]; simp [go_sem]); have c1 : w1.cell? ⟨w.heap.size, 1, none⟩ = some (.int .i64 0) := (by rw [U1.cell _ _ (by simp)]; simp [go_sem]); replace U1 := hide U1)
      | (go_at_call 103; refine (isOver_any 0 0 _).mono ?_; rintro e w2 ⟨rfl, c, rfl⟩)
      | (go_at_call 104; refine (C.out _).mono ?_; rintro e w3 ⟨s, rfl, hs, rfl⟩; replace hs := hide hs))
    go_ret2
    exact .mk _ _ rfl (.yes V.out hs.out) (bplus (bto (bplus (Below.refl _ _) _) U1.out.1) _)
theorem ptd_len (ds : List Int) (p : Nat) : (ptd ds p).length ≤ max (p + 1) ds.length + 2 := by
  have := pad_len ds p
  unfold ptd
  rw [List.length_append, List.length_cons, List.length_take]
  split
  · simp; omega
  · rw [List.length_drop]; omega
set_option maxRecDepth 100000 in
set_option maxHeartbeats 1000000 in
theorem plainP_val (n : Int) (D : Nat) (wh : Bool) (w : World) (n1 : -9223372036854775808 ≤ n) (n2 : n ≤ 9223372036854775807) (D2 : D ≤ 9223372036854775807) (hv : isV n D = true) (hw : wh = true → D = 1) (hT : Tabs w) :
    Calls Tryz.prog 67 #[.agg #[.int .i64 n, .int .i64 (D : Int)], .bool wh] w fun e w' => PostPl n D wh w e w' := by
  obtain ⟨hd, hmin, hg⟩ := isV_out hv
  rw [Int.toNat_natCast] at hg
  have hm : mayB n D = true := by unfold mayB; rw [hv]; simp
  have hz : n = 0 → D = 1 := fun h => by rw [h] at hg; exact gcd_zero hg
  have HM := hide hm
  have dz : ((D : Int) == 0) = false := by simp; omega
  have d1 : (1 : Int) ≤ D := hd
  have d2 : (D : Int) ≤ 9223372036854775807 := by omega
  have V := hide (plT_val (wh := wh) hv (fun h => by rw [hw h]; rfl))
  have VN := hide (plV_no (wh := wh) hv n1 n2)
  have C := hide (fun W hT => finite_any n D W n1 n2 hmin (by omega) D2 hz hT)
  have W1 := hide (fun (W : World) (h : Below w.heap.size w W) => hT.below h)
  have hwd : wh = true → ¬ (1 : Int) < D := fun h => by rw [hw h]; omega
  have c00 : (n == 0 && (D : Int) == 0) = false := by rw [dz]; simp
  have HZ := hide c00
  clear hm hz hv hw hg hT hmin c00
  cases wh
  all_goals
    try (have hw1 := hwd rfl)
    clear hwd
    go_enter Tryz.func67, Tryz.ntmps67
    go_wp2_with (first
      | (go_at_call 102; refine (may_any n D _ n1 n2 (by omega) (by omega)).mono ?_; rintro e w1 ⟨rfl, U1⟩; rw [HM.out]; have c0 : w1.cell? ⟨w.heap.size, 0, none⟩ = some (.int .i64 n) := (by rw [U1.cell _ _ (by simp)]; simp [go_sem]); have c1 : w1.cell? ⟨w.heap.size, 1, none⟩ = some (.int .i64 (D : Int)) := (by rw [U1.cell _ _ (by simp)]; simp [go_sem]); have z1 : w.heap.size < w1.heap.size := (by have := U1.size; simp at this; omega); have B1 := hide (bto (bplus (Below.refl _ _) _) U1.1); clear U1)
      | (go_at_call 103; refine (isOver_any n D _).mono ?_; rintro e w2 ⟨rfl, c, rfl⟩; rw [HZ.out]))
    go_at_call 105
    refine (C.out _ (W1.out _ (bplus B1.out _))).mono ?_
    rintro e w3 ⟨s, p, ok, rfl, s20, p0, p64, fr, B3⟩
    have c3 : w3.cell? ⟨w.heap.size, 0, none⟩ = some (.int .i64 n) := (by rw [B3.cell (p := ⟨w.heap.size, 0, none⟩) (by simp; omega)]; simp [go_sem, c0, z1, Nat.ne_of_lt z1])
    have z3 : w.heap.size < w3.heap.size := by have := B3.size; simp at this; omega
    replace B3 := hide (bto (bplus B1.out _) B3)
    clear c0 c1 z1
    rcases fr with ⟨rfl, hno⟩ | ⟨rfl, M, q, hf, hM, rfl, hs⟩
    · have R := hide (V.out.trans (VN.out (by rw [Int.toNat_natCast]; exact hno)))
      clear hno
      go_wp2
      go_ret2
      exact .mk _ _ rfl (.no R.out rfl) B3.out
    · have PS := V.out.trans (plV_some (by rw [Int.toNat_natCast]; exact hf))
      have hs1 : 1 ≤ s.size := by
        rw [← bl_len, hs, dgt_len]; exact Lib.nDigits_pos M
      have HS := hide hs
      clear hs hf
      by_cases h18 : 18 < (cutR (dgt M)).length
      · rw [if_pos h18] at PS
        replace PS := hide PS
        go_wp2_with (go_at_call 106; refine (trimR_any s _ (by omega)).mono ?_; rintro e1 w4 ⟨ct, rfl, hc, rfl⟩; rw [HS.out] at hc; have n2 : (18 : Int) < (ct.size : Int) := (by have := h18; rw [← hc, bl_len] at this; omega); clear hc)
        go_ret2
        exact .mk _ _ rfl (.no PS.out rfl) B3.out
      · rw [if_neg h18] at PS
        simp only [Bool.false_eq_true, reduceIte] at PS
        replace PS := hide PS
        have LP := hide (show (ptd (dgt M) q).length ≤ 90 by have h1 := ptd_len (dgt M) q; have h2 := congrArg List.length HS.out; rw [bl_len] at h2; omega)
        have q64 : q ≤ 64 := by omega
        have PC := hide (pointed_any s q w3 hs1 s20 q64)
        by_cases hn : n < 0
        all_goals
          go_wp2_with (first
            | (go_at_call 106; refine (trimR_any s _ (by omega)).mono ?_; rintro e1 w4 ⟨ct, rfl, hc, rfl⟩; rw [HS.out] at hc; have n2 : ¬ (18 : Int) < (ct.size : Int) := (by have := h18; rw [← hc, bl_len] at this; omega); clear hc)
            | (go_at_call 107; refine PC.out.mono ?_; rintro e1 w4 ⟨pt, rfl, hp, B4⟩; rw [HS.out] at hp; have np : pt.size ≤ 90 := (by rw [← bl_len, hp]; exact LP.out); replace hp := hide hp; have c3 : w4.cell? ⟨w.heap.size, 0, none⟩ = some (.int .i64 n) := (by rw [B4.cell (p := ⟨w.heap.size, 0, none⟩) z3]; exact c3); replace B3 := hide (bto B3.out B4)))
          go_ret2
          exact .mk _ _ rfl (.yes PS.out (by first | exact (neg_bl hp.out).1 hn | exact (neg_bl hp.out).2 (by omega) | exact (neg_bl HS.out).1 hn | exact (neg_bl HS.out).2 (by omega))) B3.out
/-- A fraction as a number of a stylesheet, by the program. -/
theorem plainP_any (n d : Int) (wh : Bool) (w : World) (n1 : -9223372036854775808 ≤ n) (n2 : n ≤ 9223372036854775807) (d1 : -9223372036854775808 ≤ d) (d2 : d ≤ 9223372036854775807) (hT : Tabs w) :
    Calls Tryz.prog 67 #[.agg #[.int .i64 n, .int .i64 d], .bool wh] w fun e w' => PostPl n d wh w e w' := by
  by_cases hm : mayB n d = true
  · by_cases hz : (n == 0 && d == 0) = true
    · simp at hz
      obtain ⟨rfl, rfl⟩ := hz
      exact plainP_over wh w
    · have hv : isV n d = true := by rw [isV_of_may hm, Bool.eq_false_iff.2 hz]; rfl
      have hd := (isV_out hv).1
      by_cases hw : wh = true ∧ 1 < d
      · exact plainP_no n d wh w n1 n2 d1 d2 hT (.inr ⟨hm, hw.1, hw.2⟩)
      · obtain ⟨D, rfl⟩ := Int.eq_ofNat_of_zero_le (show 0 ≤ d by omega)
        exact plainP_val n D wh w n1 n2 (by omega) hv (fun h => by have : ¬ (1 : Int) < D := fun g => hw ⟨h, g⟩; omega) hT
  · exact plainP_no n d wh w n1 n2 d1 d2 hT (.inl (by simpa using hm))
end Go.Proofs.YtfadjpebniebaaaGreatDoor
