/-
  A number of a stylesheet, by the program: the whole.
  A decimal with its point; a fraction as a number of a stylesheet, by the program.
  A fraction as a number of a stylesheet, by the program: what is over, what is a value.
  A fraction as a number of a stylesheet, by the reference.
-/
import Derived.Test.YtmkbjcoagfnegaaGreatDoorZ07
import Derived.Deep.RegionHeld3
set_option linter.unusedVariables false
set_option linter.unusedSimpArgs false
namespace Go.Proofs.YtmkbjcoagfnegaaGreatDoor
open Go.RowKit

/-- What is told of a text as a number. -/
def dN (S : List Int) : Int := ((dec S).getD ((0, 0), false)).1.1
def dD (S : List Int) : Int := ((dec S).getD ((0, 0), false)).1.2
def dW (S : List Int) : Bool := ((dec S).getD ((0, 0), false)).2
def dE (S : List Int) : Int := if (dec S).isSome then 0 else 3
def decV (S : List Int) : Value := .tuple #[ratV (dN S) (dD S), .bool (dW S), .int .i64 (dE S)]
theorem decV_none {S : List Int} (h : dec S = none) : decV S = .tuple #[ratV 0 0, .bool false, .int .i64 3] := by unfold decV dN dD dW dE; rw [h]; rfl
theorem decV_some {S : List Int} {r : Int × Int} {b : Bool} (h : dec S = some (r, b)) : decV S = .tuple #[ratV r.1 r.2, .bool b, .int .i64 0] := by unfold decV dN dD dW dE; rw [h]; rfl
end Go.Proofs.YtmkbjcoagfnegaaGreatDoor
set_option linter.unusedVariables false
set_option linter.unusedSimpArgs false
namespace Go.Proofs.YtmkbjcoagfnegaaGreatDoor
open Go.RowKit

theorem bl_point (x : ByteArray) (a : Nat) : bl (x.extract 0 a ++ ⟨#[46]⟩ ++ x.extract a x.size) = (bl x).take a ++ 46 :: (bl x).drop a := by
  rw [bl_app, bl_app, bl_take, bl_drop, List.append_assoc]; rfl
theorem ptd_any {ds : List Int} {p : Nat} (hp : p ≠ 0) {x : ByteArray} (hx : bl x = pad ds p) : bl (x.extract 0 (x.size - p) ++ ⟨#[46]⟩ ++ x.extract (x.size - p) x.size) = ptd ds p := by
  rw [bl_point, hx]
  unfold ptd
  rw [if_neg hp, ← hx, bl_len]
theorem pad_none {ds : List Int} {p : Nat} (h : p < ds.length) : pad ds p = ds := by unfold pad; rw [show p + 1 - ds.length = 0 by omega]; rfl
theorem ptd_zero {ds : List Int} (h : 0 < ds.length) {x : ByteArray} (hx : bl x = ds) : bl (x ++ ⟨#[46, 48]⟩) = ptd ds 0 := by
  unfold ptd
  rw [if_pos rfl, pad_none h, Nat.sub_zero, List.take_length, bl_app, hx]; rfl
theorem bl_repeat (c : Nat) : bl ⟨(Lib.repeatL (⟨#[48]⟩ : ByteArray).data.toList c).toArray⟩ = List.replicate c 48 := by
  unfold bl
  simp only [List.toList_toArray]
  induction c with
  | zero => rfl
  | succ c ih => rw [List.replicate_succ, ← ih]; rfl
def PostStr (P : ByteArray → Prop) (w : World) (e : Ending) (w' : World) : Prop := ∃ s, e = .returned (.string s) ∧ P s ∧ Below w.heap.size w w'
theorem PostStr.mk {P : ByteArray → Prop} {w w' : World} {e : Ending} (s : ByteArray) (h1 : e = .returned (.string s)) (h2 : P s) (h3 : Below w.heap.size w w') : PostStr P w e w' := ⟨s, h1, h2, h3⟩
set_option maxHeartbeats 600000 in
theorem pointed_any (s : ByteArray) (p : Nat) (w : World) (h1 : 1 ≤ s.size) (h2 : s.size ≤ 20) (hp : p ≤ 64) :
    Calls Tryz.prog 221 #[.string s, .int .i64 (p : Int)] w fun e w' => PostStr (fun t => bl t = ptd (bl s) p) w e w' := by
  have p2 : (p : Int) ≤ 64 := by omega
  have p3 : (0 : Int) ≤ p := by omega
  by_cases hl : s.size ≤ p
  · have hl' : (s.size : Int) ≤ p := by omega
    have hp0 : ((p : Int) == 0) = false := by simp; omega
    obtain ⟨z, hz⟩ : ∃ z, p + 1 - s.size = z := ⟨_, rfl⟩
    have hz' : (p : Int) - s.size + 1 = (z : Int) := by omega
    have R := sh_strings_Repeat ⟨#[48]⟩ z w (by omega) (by show 1 * z ≤ _; omega)
    obtain ⟨r, hr⟩ : ∃ r : ByteArray, r = ⟨(Lib.repeatL (⟨#[48]⟩ : ByteArray).data.toList z).toArray⟩ := ⟨_, rfl⟩
    have br := bl_repeat z
    rw [← hr] at R br
    have hx : bl (r ++ s) = pad (bl s) p := by rw [bl_app, br]; unfold pad; rw [bl_len, hz]
    have hs : (r ++ s).size = p + 1 := by rw [← bl_len, hx, pad_len, bl_len]; omega
    have F := ptd_any (by omega) hx
    rw [hs, show p + 1 - p = 1 by omega] at F
    replace F := hide F
    have HR := hide R
    have rs : r.size ≤ 65 := by rw [← bl_len, br, List.length_replicate]; omega
    have hat : (p : Int) + 1 - p = 1 := by omega
    have h9 : (1 : Int) ≤ ((r ++ s).size : Int) := by omega
    clear hx br hr R hz
    go_enter Tryz.func221, Tryz.ntmps221
    go_wp2_with (go_at_call 245; refine HR.out.mono ?_; rintro e w1 ⟨rfl, hb⟩; replace hb := hide hb)
    go_quiet (fail)
    go_wp2
    go_ret
    exact .mk _ rfl F.out (below_drewN hb.out _)
  · have hl' : (p : Int) < s.size := by omega
    by_cases h0 : p = 0
    · have hp0 : ((p : Int) == 0) = true := by simp; omega
      have F := hide (show bl (s ++ ⟨#[46, 48]⟩) = ptd (bl s) p by rw [h0]; exact ptd_zero (ds := bl s) (by rw [bl_len]; omega) rfl)
      clear h0
      go_enter Tryz.func221, Tryz.ntmps221
      go_wp2
      go_ret
      exact .mk _ rfl F.out (Below.refl _ _)
    · have hp0 : ((p : Int) == 0) = false := by simp; omega
      have F := ptd_any (ds := bl s) h0 (x := s) (pad_none (by rw [bl_len]; omega)).symm
      obtain ⟨q, hq⟩ : ∃ q, s.size - p = q := ⟨_, rfl⟩
      rw [hq] at F
      replace F := hide F
      have hat : (s.size : Int) - p = q := by omega
      have h9 : (q : Int) ≤ s.size := by omega
      have h8 : (0 : Int) ≤ q := by omega
      clear hq
      go_enter Tryz.func221, Tryz.ntmps221
      go_wp2
      go_quiet (fail)
      go_wp2
      go_ret
      exact .mk _ rfl F.out (below_drewN (Below.refl _ _) _)
/-! ### The whole -/
def PlR (n d : Int) (wh : Bool) (s : ByteArray) (x : Int) : Prop := match plT n d wh with | none => x = 1 ∧ s.size = 0 | some t => x = 0 ∧ bl s = t
theorem PlR.no {n d : Int} {wh : Bool} {s : ByteArray} (h : plT n d wh = none) (hs : s.size = 0) : PlR n d wh s 1 := by unfold PlR; rw [h]; exact ⟨rfl, hs⟩
theorem PlR.yes {n d : Int} {wh : Bool} {s : ByteArray} {t : List Int} (h : plT n d wh = some t) (hs : bl s = t) : PlR n d wh s 0 := by unfold PlR; rw [h]; exact ⟨rfl, hs⟩
def PostPl (n d : Int) (wh : Bool) (w : World) (e : Ending) (w' : World) : Prop := ∃ s x, e = .returned (.tuple #[.string s, .int .i64 x]) ∧ PlR n d wh s x ∧ Below w.heap.size w w'
theorem PostPl.mk {n d : Int} {wh : Bool} {w w' : World} {e : Ending} (s : ByteArray) (x : Int) (h1 : e = .returned (.tuple #[.string s, .int .i64 x])) (h2 : PlR n d wh s x) (h3 : Below w.heap.size w w') : PostPl n d wh w e w' := ⟨s, x, h1, h2, h3⟩
theorem plT_may {n d : Int} {wh : Bool} (h : mayB n d = false) : plT n d wh = none := by unfold plT; rw [if_pos (.inl h)]
theorem plT_whole {n d : Int} (h : 1 < d) : plT n d true = none := by unfold plT; rw [if_pos (.inr ⟨rfl, h⟩)]
theorem plT_over (wh : Bool) : plT 0 0 wh = some (plO wh) := by unfold plT; rw [if_neg (by rintro (h | ⟨_, h⟩); exact absurd h (by decide); omega), if_pos rfl]
theorem plT_val {n d : Int} {wh : Bool} (h : isV n d = true) (g : wh = true → d = 1) : plT n d wh = plV n d wh := by
  have hd := (isV_out h).1
  unfold plT
  rw [if_neg, if_neg (by omega)]
  rintro (h1 | ⟨h1, h2⟩)
  · unfold mayB at h1; rw [h] at h1; simp at h1
  · have := g h1; omega
theorem plV_no {n d : Int} {wh : Bool} (h : isV n d = true) (n1 : -9223372036854775808 ≤ n) (n2 : n ≤ 9223372036854775807) (g : ∀ M q, fin (ab n).toNat d.toNat 0 = some (M, q) → 9223372036854775807 < M) : plV n d wh = none := by
  obtain ⟨hd, hm, hg⟩ := isV_out h
  unfold plV
  cases hf : fin (ab n).toNat d.toNat 0 with
  | none => rfl
  | some r =>
    obtain ⟨M, q⟩ := r
    have hM := g M q hf
    have hN : (ab n).toNat ≤ 9223372036854775807 := by unfold ab; split <;> omega
    simp only
    rw [if_pos]
    have hd1 : 1 < d.toNat := by
      refine Nat.lt_of_not_le fun hle => ?_
      rw [fin_one hle] at hf; cases hf; omega
    rw [cutR_dgt (fin_ten_no hf hd1 hg)]
    exact dgt_len18.2 (by omega)
theorem plV_some {n d : Int} {wh : Bool} {M p : Nat} (hf : fin (ab n).toNat d.toNat 0 = some (M, p)) : plV n d wh = if 18 < (cutR (dgt M)).length then none else some (neg1 n ++ if wh then dgt M else ptd (dgt M) p) := by unfold plV; rw [hf]
theorem neg_bl {n : Int} {s : ByteArray} {t : List Int} (h : bl s = t) : (n < 0 → bl ((⟨#[45]⟩ : ByteArray) ++ s) = neg1 n ++ t) ∧ (¬ n < 0 → bl s = neg1 n ++ t) := by
  unfold neg1
  refine ⟨fun hn => ?_, fun hn => ?_⟩
  · rw [if_pos hn, bl_app, h]; rfl
  · rw [if_neg hn, h]; rfl
set_option maxRecDepth 100000 in
set_option maxHeartbeats 1000000 in
theorem plainP_no (n d : Int) (wh : Bool) (w : World) (n1 : -9223372036854775808 ≤ n) (n2 : n ≤ 9223372036854775807) (d1 : -9223372036854775808 ≤ d) (d2 : d ≤ 9223372036854775807) (hT : Tabs w) (h : mayB n d = false ∨ (mayB n d = true ∧ wh = true ∧ 1 < d)) :
    Calls Tryz.prog 193 #[.agg #[.int .i64 n, .int .i64 d], .bool wh] w fun e w' => PostPl n d wh w e w' := by
  rcases h with hm | ⟨hm, rfl, hd⟩
  · have V := hide (plT_may (wh := wh) hm)
    have HM := hide hm
    clear hm
    go_enter Tryz.func193, Tryz.ntmps193
    go_wp2_with (go_at_call 216; refine (may_any _ _ _ n1 n2 d1 d2).mono ?_; rintro e w1 ⟨rfl, U1⟩; rw [HM.out]; replace U1 := hide U1)
    go_ret2
    exact .mk _ _ rfl (.no V.out rfl) (bto (bplus (Below.refl _ _) _) U1.out.1)
  · have V := hide (plT_whole (n := n) hd)
    have HM := hide hm
    clear hm
    go_enter Tryz.func193, Tryz.ntmps193
    go_wp2_with (go_at_call 216; refine (may_any _ _ _ n1 n2 d1 d2).mono ?_; rintro e w1 ⟨rfl, U1⟩; rw [HM.out]; have c1 : w1.cell? ⟨w.heap.size, 1, none⟩ = some (.int .i64 d) := (by rw [U1.cell _ _ (by simp)]; simp [go_sem]); replace U1 := hide U1)
    go_ret2
    exact .mk _ _ rfl (.no V.out rfl) (bto (bplus (Below.refl _ _) _) U1.out.1)
end Go.Proofs.YtmkbjcoagfnegaaGreatDoor
set_option linter.unusedVariables false
set_option linter.unusedSimpArgs false
namespace Go.Proofs.YtmkbjcoagfnegaaGreatDoor
open Go.RowKit

set_option maxRecDepth 100000 in
set_option maxHeartbeats 1000000 in
theorem plainP_over (wh : Bool) (w : World) :
    Calls Tryz.prog 193 #[.agg #[.int .i64 0, .int .i64 0], .bool wh] w fun e w' => PostPl 0 0 wh w e w' := by
  have HM := hide (show mayB 0 0 = true from rfl)
  have V := hide (plT_over wh)
  have C := hide (plainOver_any wh)
  cases wh
  all_goals
    go_enter Tryz.func193, Tryz.ntmps193
    go_wp2_with (first
      | (go_at_call 216; refine (may_any 0 0 _ (by omega) (by omega) (by omega) (by omega)).mono ?_; rintro e w1 ⟨rfl, U1⟩; rw [HM.out]; have c0 : w1.cell? ⟨w.heap.size, 0, none⟩ = some (.int .i64 0) := (by rw [U1.cell _ _ (by simp)]; simp [go_sem]); have c1 : w1.cell? ⟨w.heap.size, 1, none⟩ = some (.int .i64 0) := (by rw [U1.cell _ _ (by simp)]; simp [go_sem]); replace U1 := hide U1)
      | (go_at_call 217; refine (isOver_any 0 0 _).mono ?_; rintro e w2 ⟨rfl, c, rfl⟩)
      | (go_at_call 218; refine (C.out _).mono ?_; rintro e w3 ⟨s, rfl, hs, rfl⟩; replace hs := hide hs))
    go_ret2
    exact .mk _ _ rfl (.yes V.out hs.out) (bplus (bto (bplus (Below.refl _ _) _) U1.out.1) _)
theorem ptd_len (ds : List Int) (p : Nat) : (ptd ds p).length ≤ max (p + 1) ds.length + 2 := by
  have := pad_len ds p
  unfold ptd
  rw [List.length_append, List.length_cons, List.length_take]
  split
  · simp; omega
  · rw [List.length_drop]; omega
set_option maxRecDepth 100000 in
set_option maxHeartbeats 1000000 in
theorem plainP_val (n : Int) (D : Nat) (wh : Bool) (w : World) (n1 : -9223372036854775808 ≤ n) (n2 : n ≤ 9223372036854775807) (D2 : D ≤ 9223372036854775807) (hv : isV n D = true) (hw : wh = true → D = 1) (hT : Tabs w) :
    Calls Tryz.prog 193 #[.agg #[.int .i64 n, .int .i64 (D : Int)], .bool wh] w fun e w' => PostPl n D wh w e w' := by
  obtain ⟨hd, hmin, hg⟩ := isV_out hv
  rw [Int.toNat_natCast] at hg
  have hm : mayB n D = true := by unfold mayB; rw [hv]; simp
  have hz : n = 0 → D = 1 := fun h => by rw [h] at hg; exact gcd_zero hg
  have HM := hide hm
  have dz : ((D : Int) == 0) = false := by simp; omega
  have d1 : (1 : Int) ≤ D := hd
  have d2 : (D : Int) ≤ 9223372036854775807 := by omega
  have V := hide (plT_val (wh := wh) hv (fun h => by rw [hw h]; rfl))
  have VN := hide (plV_no (wh := wh) hv n1 n2)
  have C := hide (fun W hT => finite_any n D W n1 n2 hmin (by omega) D2 hz hT)
  have W1 := hide (fun (W : World) (h : Below w.heap.size w W) => hT.below h)
  have hwd : wh = true → ¬ (1 : Int) < D := fun h => by rw [hw h]; omega
  have c00 : (n == 0 && (D : Int) == 0) = false := by rw [dz]; simp
  have HZ := hide c00
  clear hm hz hv hw hg hT hmin c00
  cases wh
  all_goals
    try (have hw1 := hwd rfl)
    clear hwd
    go_enter Tryz.func193, Tryz.ntmps193
    go_wp2_with (first
      | (go_at_call 216; refine (may_any n D _ n1 n2 (by omega) (by omega)).mono ?_; rintro e w1 ⟨rfl, U1⟩; rw [HM.out]; have c0 : w1.cell? ⟨w.heap.size, 0, none⟩ = some (.int .i64 n) := (by rw [U1.cell _ _ (by simp)]; simp [go_sem]); have c1 : w1.cell? ⟨w.heap.size, 1, none⟩ = some (.int .i64 (D : Int)) := (by rw [U1.cell _ _ (by simp)]; simp [go_sem]); have z1 : w.heap.size < w1.heap.size := (by have := U1.size; simp at this; omega); have B1 := hide (bto (bplus (Below.refl _ _) _) U1.1); clear U1)
      | (go_at_call 217; refine (isOver_any n D _).mono ?_; rintro e w2 ⟨rfl, c, rfl⟩; rw [HZ.out]))
    go_at_call 219
    refine (C.out _ (W1.out _ (bplus B1.out _))).mono ?_
    rintro e w3 ⟨s, p, ok, rfl, s20, p0, p64, fr, B3⟩
    have c3 : w3.cell? ⟨w.heap.size, 0, none⟩ = some (.int .i64 n) := (by rw [B3.cell (p := ⟨w.heap.size, 0, none⟩) (by simp; omega)]; simp [go_sem, c0, z1, Nat.ne_of_lt z1])
    have z3 : w.heap.size < w3.heap.size := by have := B3.size; simp at this; omega
    replace B3 := hide (bto (bplus B1.out _) B3)
    clear c0 c1 z1
    rcases fr with ⟨rfl, hno⟩ | ⟨rfl, M, q, hf, hM, rfl, hs⟩
    · have R := hide (V.out.trans (VN.out (by rw [Int.toNat_natCast]; exact hno)))
      clear hno
      go_wp2
      go_ret2
      exact .mk _ _ rfl (.no R.out rfl) B3.out
    · have PS := V.out.trans (plV_some (by rw [Int.toNat_natCast]; exact hf))
      have hs1 : 1 ≤ s.size := by
        rw [← bl_len, hs, dgt_len]; exact Lib.nDigits_pos M
      have HS := hide hs
      clear hs hf
      by_cases h18 : 18 < (cutR (dgt M)).length
      · rw [if_pos h18] at PS
        replace PS := hide PS
        go_wp2_with (go_at_call 220; refine (trimR_any s _ (by omega)).mono ?_; rintro e1 w4 ⟨ct, rfl, hc, rfl⟩; rw [HS.out] at hc; have n2 : (18 : Int) < (ct.size : Int) := (by have := h18; rw [← hc, bl_len] at this; omega); clear hc)
        go_ret2
        exact .mk _ _ rfl (.no PS.out rfl) B3.out
      · rw [if_neg h18] at PS
        simp only [Bool.false_eq_true, reduceIte] at PS
        replace PS := hide PS
        have LP := hide (show (ptd (dgt M) q).length ≤ 90 by have h1 := ptd_len (dgt M) q; have h2 := congrArg List.length HS.out; rw [bl_len] at h2; omega)
        have q64 : q ≤ 64 := by omega
        have PC := hide (pointed_any s q w3 hs1 s20 q64)
        by_cases hn : n < 0
        all_goals
          go_wp2_with (first
            | (go_at_call 220; refine (trimR_any s _ (by omega)).mono ?_; rintro e1 w4 ⟨ct, rfl, hc, rfl⟩; rw [HS.out] at hc; have n2 : ¬ (18 : Int) < (ct.size : Int) := (by have := h18; rw [← hc, bl_len] at this; omega); clear hc)
            | (go_at_call 221; refine PC.out.mono ?_; rintro e1 w4 ⟨pt, rfl, hp, B4⟩; rw [HS.out] at hp; have np : pt.size ≤ 90 := (by rw [← bl_len, hp]; exact LP.out); replace hp := hide hp; have c3 : w4.cell? ⟨w.heap.size, 0, none⟩ = some (.int .i64 n) := (by rw [B4.cell (p := ⟨w.heap.size, 0, none⟩) z3]; exact c3); replace B3 := hide (bto B3.out B4)))
          go_ret2
          exact .mk _ _ rfl (.yes PS.out (by first | exact (neg_bl hp.out).1 hn | exact (neg_bl hp.out).2 (by omega) | exact (neg_bl HS.out).1 hn | exact (neg_bl HS.out).2 (by omega))) B3.out
/-- A fraction as a number of a stylesheet, by the program. -/
theorem plainP_any (n d : Int) (wh : Bool) (w : World) (n1 : -9223372036854775808 ≤ n) (n2 : n ≤ 9223372036854775807) (d1 : -9223372036854775808 ≤ d) (d2 : d ≤ 9223372036854775807) (hT : Tabs w) :
    Calls Tryz.prog 193 #[.agg #[.int .i64 n, .int .i64 d], .bool wh] w fun e w' => PostPl n d wh w e w' := by
  by_cases hm : mayB n d = true
  · by_cases hz : (n == 0 && d == 0) = true
    · simp at hz
      obtain ⟨rfl, rfl⟩ := hz
      exact plainP_over wh w
    · have hv : isV n d = true := by rw [isV_of_may hm, Bool.eq_false_iff.2 hz]; rfl
      have hd := (isV_out hv).1
      by_cases hw : wh = true ∧ 1 < d
      · exact plainP_no n d wh w n1 n2 d1 d2 hT (.inr ⟨hm, hw.1, hw.2⟩)
      · obtain ⟨D, rfl⟩ := Int.eq_ofNat_of_zero_le (show 0 ≤ d by omega)
        exact plainP_val n D wh w n1 n2 (by omega) hv (fun h => by have : ¬ (1 : Int) < D := fun g => hw ⟨h, g⟩; omega) hT
  · exact plainP_no n d wh w n1 n2 d1 d2 hT (.inl (by simpa using hm))
end Go.Proofs.YtmkbjcoagfnegaaGreatDoor
set_option linter.unusedVariables false
set_option linter.unusedSimpArgs false
namespace Go.Proofs.YtmkbjcoagfnegaaGreatDoor
open Go.RowKit

/-! ### Plain -/
def RelRp (N D : Nat) (a b c : Value) : Prop := ∃ m x q : Nat, a = .int .u64 m ∧ b = .int .u64 x ∧ c = .int .i64 q ∧ m ≤ 9223372036854775807 ∧ 1 ≤ x ∧ x ≤ 9223372036854775807 ∧ q ≤ 63 ∧ Hid (fin N D 0 = fin m x q ∧ x * 2 ^ q ≤ D)
theorem RelRp.mk {N D : Nat} {a b c : Value} (m x q : Nat) (h1 : a = .int .u64 m) (h2 : b = .int .u64 x) (h3 : c = .int .i64 q) (h4 : m ≤ 9223372036854775807) (h5 : 1 ≤ x) (h6 : x ≤ 9223372036854775807) (h7 : q ≤ 63) (h8 : fin N D 0 = fin m x q ∧ x * 2 ^ q ≤ D) : RelRp N D a b c := ⟨m, x, q, h1, h2, h3, h4, h5, h6, h7, h8⟩
theorem rp_q {x q D : Nat} (h : x * 2 ^ q ≤ D) (hx : 1 ≤ x) (hD : D ≤ 9223372036854775807) : q ≤ 62 := by
  refine Nat.le_of_not_lt fun hq => ?_
  have h1 : 2 ^ 63 ≤ 2 ^ q := Nat.pow_le_pow_right (by omega) hq
  have h2 : 1 * 2 ^ q ≤ x * 2 ^ q := Nat.mul_le_mul_right _ hx
  have h3 : (2 : Nat) ^ 63 = 9223372036854775808 := by decide
  omega
theorem rp_half {x y q D : Nat} (h : x * 2 ^ q ≤ D) (hy : 2 * y ≤ x) : y * 2 ^ (q + 1) ≤ D := by
  rw [Nat.pow_succ]
  have h1 : 2 * y * 2 ^ q ≤ x * 2 ^ q := Nat.mul_le_mul_right _ hy
  have e : y * (2 ^ q * 2) = 2 * y * 2 ^ q := by grind
  omega
theorem rp_one {x q D : Nat} (h : x * 2 ^ q ≤ D) : x ≤ D := by
  have : x * 1 ≤ x * 2 ^ q := Nat.mul_le_mul_left _ (Nat.pow_pos (by omega))
  omega
/-- Too many digits, ahead of the end. -/
theorem rp_no {n : Int} {D m x q : Nat} {wh : Bool} (hv : isV n D = true) (hx : 1 < x) (hr : fin (ab n).toNat D 0 = fin m x q ∧ x * 2 ^ q ≤ D) (hm : 1000000000000000000 ≤ m ∨ (x % 2 ≠ 0 ∧ x % 5 ≠ 0)) : plV n D wh = none := by
  obtain ⟨hd, hmin, hg⟩ := isV_out hv
  unfold plV
  rw [Int.toNat_natCast] at *
  have hD : 1 < D := Nat.lt_of_lt_of_le hx (rp_one hr.2)
  cases hf : fin (ab n).toNat D 0 with
  | none => rfl
  | some r =>
    obtain ⟨M, p⟩ := r
    simp only
    rw [if_pos]
    rw [cutR_dgt (fin_ten_no hf hD hg)]
    rw [hr.1] at hf
    rcases hm with hm | ⟨h2, h5⟩
    · have := fin_ge hf
      exact dgt_len18.2 (by omega)
    · rw [fin_none hx h5 h2] at hf; cases hf
/-! ### The digits that count -/
def RelCt (ds : List Int) (c : Value) : Prop := ∃ k : Nat, c = .int .i64 k ∧ 1 ≤ k ∧ k ≤ ds.length ∧ Hid (cutR ds = cutR (ds.take k))
theorem RelCt.mk {ds : List Int} {c : Value} (k : Nat) (h1 : c = .int .i64 k) (h2 : 1 ≤ k) (h3 : k ≤ ds.length) (h4 : cutR ds = cutR (ds.take k)) : RelCt ds c := ⟨k, h1, h2, h3, h4⟩
theorem ct_take {ds : List Int} {k : Nat} (h : k < ds.length) : ds.take (k + 1) = ds.take k ++ [nx ds k] := by
  rw [List.take_succ_eq_append_getElem h]
  congr 2
  simp [nx, List.getD_eq_getElem?_getD, List.getElem?_eq_getElem h]
theorem ct_step {ds : List Int} {k : Nat} (h : k < ds.length) (h0 : nx ds k = 48) (hr : cutR ds = cutR (ds.take (k + 1))) : cutR ds = cutR (ds.take k) := by
  rw [hr, ct_take h, h0, cutR_zero]
theorem ct_len (l : List Int) : (cutR l).length ≤ l.length := by
  have := congrArg List.length (cutR_ends l)
  rw [List.length_append] at this; omega
theorem ct_end {ds : List Int} {k : Nat} (hk : 1 ≤ k) (hl : k ≤ ds.length) (hr : cutR ds = cutR (ds.take k)) (h : k = 1 ∨ nx ds (k - 1) ≠ 48) : 18 < (cutR ds).length ↔ 18 < k := by
  rcases h with rfl | h
  · have := ct_len (ds.take 1)
    rw [← hr, List.length_take] at this
    omega
  · obtain ⟨j, rfl⟩ : ∃ j, k = j + 1 := ⟨k - 1, by omega⟩
    rw [Nat.add_sub_cancel] at h
    rw [hr, ct_take (by omega), cutR_snoc h, List.length_append, List.length_take]
    simp; omega
/-! ### Noughts ahead -/
def RelPd (ds : List Int) (p : Nat) (v : Value) : Prop := ∃ s : ByteArray, v = .string s ∧ s.size ≤ 100 ∧ 1 ≤ s.size ∧ Hid (∃ j, bl s = List.replicate j 48 ++ ds ∧ j ≤ p + 1 - ds.length)
theorem RelPd.mk {ds : List Int} {p : Nat} {v : Value} (s : ByteArray) (h1 : v = .string s) (h2 : s.size ≤ 100) (h3 : 1 ≤ s.size) (j : Nat) (h4 : bl s = List.replicate j 48 ++ ds) (h5 : j ≤ p + 1 - ds.length) : RelPd ds p v := ⟨s, h1, h2, h3, j, h4, h5⟩
theorem pd_end {ds : List Int} {p j : Nat} {s : ByteArray} (h : bl s = List.replicate j 48 ++ ds) (hj : j ≤ p + 1 - ds.length) (hs : p < s.size) : bl s = pad ds p := by
  have hl := congrArg List.length h
  rw [bl_len, List.length_append, List.length_replicate] at hl
  unfold pad
  rw [h, show j = p + 1 - ds.length by omega]
theorem pd_step {ds : List Int} {j : Nat} {s : ByteArray} (h : bl s = List.replicate j 48 ++ ds) : bl ((⟨#[48]⟩ : ByteArray) ++ s) = List.replicate (j + 1) 48 ++ ds := by
  rw [bl_app, h, List.replicate_succ]; rfl
theorem pd_len {ds : List Int} {j : Nat} {s : ByteArray} (h : bl s = List.replicate j 48 ++ ds) : s.size = j + ds.length := by
  rw [← bl_len, h, List.length_append, List.length_replicate]
/-- The text, put together. -/
theorem rp_text {ds : List Int} {p : Nat} {s : ByteArray} (h : bl s = pad ds p) (hl : 0 < ds.length) (n : Int) :
    (p ≠ 0 → (n < 0 → bl ((⟨#[45]⟩ : ByteArray) ++ (s.extract 0 (s.size - p) ++ ⟨#[46]⟩ ++ s.extract (s.size - p) s.size)) = neg1 n ++ ptd ds p) ∧ (¬ n < 0 → bl (s.extract 0 (s.size - p) ++ ⟨#[46]⟩ ++ s.extract (s.size - p) s.size) = neg1 n ++ ptd ds p)) ∧
    (p = 0 → (n < 0 → bl ((⟨#[45]⟩ : ByteArray) ++ (s.extract 0 (s.size - p) ++ ⟨#[46]⟩ ++ ⟨#[48]⟩ ++ s.extract (s.size - p) s.size)) = neg1 n ++ ptd ds p) ∧ (¬ n < 0 → bl (s.extract 0 (s.size - p) ++ ⟨#[46]⟩ ++ ⟨#[48]⟩ ++ s.extract (s.size - p) s.size) = neg1 n ++ ptd ds p)) ∧
    (p = 0 → (n < 0 → bl ((⟨#[45]⟩ : ByteArray) ++ s.extract 0 (s.size - p)) = neg1 n ++ ds) ∧ (¬ n < 0 → bl (s.extract 0 (s.size - p)) = neg1 n ++ ds)) := by
  refine ⟨fun hp => ?_, fun hp => ?_, fun hp => ?_⟩
  · have := ptd_any hp h
    exact ⟨(neg_bl this).1, (neg_bl this).2⟩
  · subst hp
    have e : bl (s.extract 0 (s.size - 0) ++ ⟨#[46]⟩ ++ ⟨#[48]⟩ ++ s.extract (s.size - 0) s.size) = ptd ds 0 := by
      rw [bl_app, bl_app, bl_app, bl_take, bl_drop, h]
      unfold ptd
      rw [if_pos rfl, Nat.sub_zero, Nat.sub_zero, ← bl_len, h, List.drop_length, List.take_length, List.append_nil, List.append_assoc]
      rfl
    exact ⟨(neg_bl e).1, (neg_bl e).2⟩
  · subst hp
    have e : bl (s.extract 0 (s.size - 0)) = ds := by
      rw [bl_take, Nat.sub_zero, ← bl_len, List.take_length, h, pad_none hl]
    exact ⟨(neg_bl e).1, (neg_bl e).2⟩
end Go.Proofs.YtmkbjcoagfnegaaGreatDoor

