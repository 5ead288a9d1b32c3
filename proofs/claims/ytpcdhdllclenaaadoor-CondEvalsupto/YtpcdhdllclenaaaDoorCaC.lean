/-
  May an expression be: by the reference.
-/
import Derived.Test.YtpcdhdllclenaaaDoorCaB
import Derived.Deep.DeepCutAuto
set_option linter.unusedVariables false
set_option linter.unusedSimpArgs false
namespace Go.Proofs.YtpcdhdllclenaaaDoor
open Go.RowKit

theorem cnt_true {k : Int} {n : Nat} (h : cntM k n = true) : ((k = 2 ∨ k = 4 ∨ k = 6 ∨ k = 7) ∧ 1 ≤ n) ∨ (k = 3 ∧ n = 1) ∨ (k = 5 ∧ n = 1) ∨ (k = 8 ∧ n = 3) := by
  unfold cntM at h
  split at h
  · rename_i g; exact .inl ⟨g, by simpa using h⟩
  split at h
  · rename_i g; rcases g with g | g
    · exact .inr (.inl ⟨g, by simpa using h⟩)
    · exact .inr (.inr (.inl ⟨g, by simpa using h⟩))
  split at h
  · rename_i g; exact .inr (.inr (.inr ⟨g, by simpa using h⟩))
  · cases h
theorem cnt_false {k : Int} {n : Nat} (h : cntM k n = false) (h1 : 1 < k) (h2 : k ≤ 8) : n = 0 ∨ (k = 3 ∧ ¬ n = 1) ∨ (k = 5 ∧ ¬ n = 1) ∨ (k = 8 ∧ ¬ n = 3) := by
  unfold cntM at h
  split at h
  · left; have : ¬ 1 ≤ n := by simpa using h
    omega
  split at h
  · rename_i g
    have : ¬ n = 1 := by simpa using h
    rcases g with g | g
    · exact .inr (.inl ⟨g, this⟩)
    · exact .inr (.inr (.inl ⟨g, this⟩))
  split at h
  · rename_i g; exact .inr (.inr (.inr ⟨g, by simpa using h⟩))
  · exfalso; omega
theorem cnt_out {k : Int} {n : Nat} (h : k < 1 ∨ 8 < k) : cntM k n = false := by
  unfold cntM; rw [if_neg (by omega), if_neg (by omega), if_neg (by omega)]
set_option maxRecDepth 100000 in
set_option maxHeartbeats 8000000 in
theorem mayRat_any (N : Nat) : ∀ (x : Ex) (j : Nat) (u : Value) (w : World), szE x ≤ N → x.Ok → j ≤ 340 → EM w u x.ks →
    Calls Tryd.prog 73 #[exV x u, .int .i64 j] w fun e w' => e = .returned (.bool (exM x j)) ∧ Below w.heap.size w w' := by
  induction N with
  | zero => intro x j u w hN; rw [szE_ks] at hN; omega
  | succ N ih =>
    intro x j u w hN hx hj hv
    obtain ⟨a, c, rfl, hl9⟩ := hv.shape
    obtain ⟨k, n, d, q, ks⟩ := x
    obtain ⟨⟨k1, k2⟩, ⟨n1, n2⟩, ⟨d1, d2⟩, ⟨q1, q2⟩⟩ := hx
    have E := hide (exM_eq (.mk k n d q ks) j)
    rw [szE_ks] at hN
    simp only [Ex.k, Ex.n, Ex.d, Ex.u, Ex.ks] at k1 k2 n1 n2 d1 d2 q1 q2 hN hl9 E
    replace hv : EM w (.slice a ks.length c) ks := hv
    show Calls Tryd.prog 73 #[.agg #[.int .i64 k, .int .i64 n, .int .i64 d, .int .i64 q, .slice a ks.length c], .int .i64 j] w _
    have HV := hide hv
    have IH := hide ih
    clear hv ih
    by_cases hj0 : j = 0
    · subst hj0
      have F := hide (show exM (.mk k n d q ks) 0 = false by rw [E.out]; rfl)
      clear E
      go_enter Tryd.func73, Tryd.ntmps73
      go_wp2
      go_ret
      exact ⟨ret_bool F.out.symm, bplus (Below.refl _ _) _⟩
    have hj1 : ¬ (j : Int) = 0 := by omega
    have hj2 : ((j : Int) == 0) = false := by simpa using hj1
    replace E := hide (show exM (.mk k n d q ks) j = (if k = 1 then mayB n d && (decide (0 ≤ q) && decide (q ≤ 7)) && ks.isEmpty else ((n == 0 && d == 0) && (q == 0) && cntM k ks.length) && exMs ks (j - 1)) by
      rw [E.out, show decide (0 < j) = true by simp; omega]; rfl)
    by_cases hk0 : k < 1
    · have F := hide (show exM (.mk k n d q ks) j = false by rw [E.out, if_neg (by omega), cnt_out (.inl hk0)]; simp)
      clear E hj0
      go_enter Tryd.func73, Tryd.ntmps73
      go_wp2
      go_ret
      exact ⟨ret_bool F.out.symm, bplus (Below.refl _ _) _⟩
    by_cases hk8 : 8 < k
    · have F := hide (show exM (.mk k n d q ks) j = false by rw [E.out, if_neg (by omega), cnt_out (.inr hk8)]; simp)
      have hk01 : 1 ≤ k := by omega
      clear E hj0
      go_enter Tryd.func73, Tryd.ntmps73
      go_wp2
      go_ret
      exact ⟨ret_bool F.out.symm, bplus (Below.refl _ _) _⟩
    have hk3 : 1 ≤ k := by omega
    have hk4 : k ≤ 8 := by omega
    clear hj0
    by_cases hk : k = 1
    · subst hk
      replace E := hide (show exM (.mk 1 n d q ks) j = (mayB n d && (decide (0 ≤ q) && decide (q ≤ 7)) && ks.isEmpty) by rw [E.out]; simp)
      have C := hide (fun (W : World) => rmay_any n d W n1 n2 d1 d2)
      have B0 := hide (bplus (Below.refl w.heap.size w) (.cells #[.int .i64 1, .int .i64 n, .int .i64 d, .int .i64 q, .slice a ks.length c] 35))
      have P0 := hide (heap_alloc_new w (.cells #[.int .i64 1, .int .i64 n, .int .i64 d, .int .i64 q, .slice a ks.length c] 35))
      by_cases hl : ks = []
      case neg =>
        have F := hide (show exM (.mk 1 n d q ks) j = false by rw [E.out]; cases ks with | nil => exact absurd rfl hl | cons _ _ => simp)
        have hl0 : ¬ (ks.length : Int) = 0 := by have := List.length_pos_iff.2 hl; omega
        have hl1 : ((ks.length : Int) == 0) = false := by simpa using hl0
        clear E hl
        go_enter Tryd.func73, Tryd.ntmps73
        go_wp2_with fail
        go_ret
        exact ⟨ret_bool F.out.symm, B0.out⟩
      subst hl
      cases hm : mayB n d
      · have HM := hide hm
        have F := hide (show exM (.mk 1 n d q []) j = false by rw [E.out, hm]; rfl)
        clear hm E
        go_enter Tryd.func73, Tryd.ntmps73
        go_wp2_with (go_at_call 77; refine (C.out _).mono ?_; rintro e w1 ⟨rfl, U1⟩; rw [HM.out]; obtain ⟨z0, z1, z2, z3, z4⟩ := bxk_5' ((U1.1.block _ (by simp)).trans P0.out); have HB := hide (bto B0.out U1.1); clear U1 C)
        go_ret
        exact ⟨ret_bool F.out.symm, HB.out⟩
      have HM := hide hm
      by_cases hq0 : q < 0
      · have F := hide (show exM (.mk 1 n d q []) j = false by rw [E.out, show decide (0 ≤ q) = false by simp; omega]; simp)
        clear hm E
        go_enter Tryd.func73, Tryd.ntmps73
        go_wp2_with (go_at_call 77; refine (C.out _).mono ?_; rintro e w1 ⟨rfl, U1⟩; rw [HM.out]; obtain ⟨z0, z1, z2, z3, z4⟩ := bxk_5' ((U1.1.block _ (by simp)).trans P0.out); have HB := hide (bto B0.out U1.1); clear U1 C)
        go_ret
        exact ⟨ret_bool F.out.symm, HB.out⟩
      have hq1 : 0 ≤ q := by omega
      have F := hide (show exM (.mk 1 n d q []) j = decide (q ≤ 7) by rw [E.out, hm]; simp [hq1])
      clear hm E hq0
      go_enter Tryd.func73, Tryd.ntmps73
      go_wp2_with (go_at_call 77; refine (C.out _).mono ?_; rintro e w1 ⟨rfl, U1⟩; rw [HM.out]; obtain ⟨z0, z1, z2, z3, z4⟩ := bxk_5' ((U1.1.block _ (by simp)).trans P0.out); have HB := hide (bto B0.out U1.1); clear U1 C)
      go_ret
      exact ⟨ret_bool F.out.symm, HB.out⟩
    · have hk1 : (k == 1) = false := by simpa using hk
      replace E := hide (show exM (.mk k n d q ks) j = (((n == 0 && d == 0) && (q == 0) && cntM k ks.length) && exMs ks (j - 1)) by rw [E.out, if_neg hk])
      by_cases hnd : n = 0 ∧ d = 0
      case neg =>
        have F := hide (show exM (.mk k n d q ks) j = false by
          rw [E.out, show (n == 0 && d == 0) = false by simpa using hnd]; rfl)
        clear E
        by_cases hn : n = 0
        · subst hn
          have hd0 : ¬ d = 0 := fun h => hnd ⟨rfl, h⟩
          have hd1 : (d == 0) = false := by simpa using hd0
          clear hnd
          go_enter Tryd.func73, Tryd.ntmps73
          go_wp2
          go_ret
          exact ⟨ret_bool F.out.symm, bplus (Below.refl _ _) _⟩
        · have hn1 : (n == 0) = false := by simpa using hn
          clear hnd
          go_enter Tryd.func73, Tryd.ntmps73
          go_wp2
          go_ret
          exact ⟨ret_bool F.out.symm, bplus (Below.refl _ _) _⟩
      obtain ⟨rfl, rfl⟩ := hnd
      by_cases hq : q = 0
      case neg =>
        have hq0 : (q == 0) = false := by simpa using hq
        have F := hide (show exM (.mk k 0 0 q ks) j = false by rw [E.out, hq0]; simp)
        clear E
        go_enter Tryd.func73, Tryd.ntmps73
        go_wp2
        go_ret
        exact ⟨ret_bool F.out.symm, bplus (Below.refl _ _) _⟩
      subst hq
      cases hc : cntM k ks.length
      · have F := hide (show exM (.mk k 0 0 0 ks) j = false by rw [E.out, hc]; simp)
        have hd := cnt_false hc (by omega) hk4
        clear E hc
        have hd2 : ks.length = 0 ∨ (¬ ks.length = 0 ∧ k = 3 ∧ ¬ ks.length = 1) ∨ (¬ ks.length = 0 ∧ k = 5 ∧ ¬ ks.length = 1) ∨ (¬ ks.length = 0 ∧ k = 8 ∧ ¬ ks.length = 3) := by omega
        clear hd
        generalize ks.length = m at *
        rcases hd2 with rfl | ⟨m0, rfl, m1⟩ | ⟨m0, rfl, m1⟩ | ⟨m0, rfl, m1⟩
        · go_enter Tryd.func73, Tryd.ntmps73
          go_wp2
          go_ret
          exact ⟨ret_bool F.out.symm, bplus (Below.refl _ _) _⟩
        all_goals
          have n0 : ¬ (m : Int) = 0 := by omega
          have n1' : ((m : Int) == 0) = false := by simpa using n0
          try (have n2' : ((m : Int) == 1) = false := by simp; omega)
          try (have n3' : ((m : Int) == 3) = false := by simp; omega)
          go_enter Tryd.func73, Tryd.ntmps73
          go_wp2
          go_ret
          exact ⟨ret_bool F.out.symm, bplus (Below.refl _ _) _⟩
      replace E := hide (show exM (.mk k 0 0 0 ks) j = exMs ks (j - 1) by rw [E.out, hc]; simp)
      have B0 := hide (bplus (Below.refl w.heap.size w) (.cells #[.int .i64 k, .int .i64 0, .int .i64 0, .int .i64 0, .slice a ks.length c] 35))
      obtain ⟨p, hp⟩ : ∃ p, p = j - 1 := ⟨_, rfl⟩
      have HP := hide (show (p : Int) = (j : Int) - 1 by omega)
      rw [← hp] at E
      have hp9 := hide (show p ≤ 340 by omega)
      clear hp
      have n0 : ¬ (ks.length : Int) = 0 := by have := cnt_true hc; omega
      have n1' : ((ks.length : Int) == 0) = false := by simpa using n0
      obtain ⟨W1, hW1⟩ : ∃ W1, w.alloc (.cells #[.int .i64 k, .int .i64 0, .int .i64 0, .int .i64 0, .slice a ks.length c] 35) = W1 := ⟨_, rfl⟩
      have HW1 := hide hW1
      rw [hW1] at B0
      have P0 := hide (show W1.heap[w.heap.size]? = some (.cells #[.int .i64 k, .int .i64 0, .int .i64 0, .int .i64 0, .slice a ks.length c] 35) by rw [← hW1]; exact heap_alloc_new w _)
      have y := bxk_5' P0.out
      obtain ⟨y0, y1, y2, y3, y4⟩ := y
      clear hW1
      have HC := hide hc
      clear hc hk0 hk8
      go_enter Tryd.func73, Tryd.ntmps73
      go_upto_region 6 with fail
      rw [HW1.out]
      go_cut [78] from 92 (fun x wx => x = .bool false ∧ wx = W1)
      case first =>
        rcases cnt_true HC.out with ⟨g, g'⟩ | ⟨rfl, g⟩ | ⟨rfl, g⟩ | ⟨rfl, g⟩
        · have g3 : (k == 3) = false := by simp; omega
          have g5 : (k == 5) = false := by simp; omega
          have g8 : (k == 8) = false := by simp; omega
          clear g g'
          go_wp2
          go_meet
          case rel => exact ⟨rfl, rfl⟩
        all_goals
          go_wp2
          all_goals (first | (exfalso; omega) | (go_meet; case rel => exact ⟨rfl, rfl⟩))
      case rest =>
        obtain ⟨rfl, rfl⟩ := hcut
        go_wp2
        go_loopw [82] (fun i wr => RelEm w ks p i wr) (fun i _ => ks.length - (intOf i).toNat)
        case atStart => exact .mk 0 rfl (by omega) B0.out (by simp)
        case round =>
          obtain ⟨m, rfl, hm, BE, R⟩ := hrel
          replace BE := hide BE
          by_cases hlt : m < ks.length
          · obtain ⟨x, hx⟩ : ∃ x, ks[m]? = some x := ⟨_, List.getElem?_eq_getElem hlt⟩
            obtain ⟨b, o, c', u, hv', hb, -, -, xo, t5, hu5, hku⟩ := HV.out.at hx
            obtain ⟨rfl, rfl⟩ : a = some ⟨b, o, none⟩ ∧ c = c' := by cases hv'; exact ⟨rfl, rfl⟩
            obtain ⟨ua, uc, hus, hks9⟩ := hku.shape
            have SZ := hide (show szE x ≤ N by have := szEs_at hx; omega)
            have KU := hide hku
            have XO := hide xo
            have R2 := hide (show exMs ks p = (exM x p && exMs (ks.drop (m + 1)) p) by rw [R.out, drop_atE hx, exMs_cons])
            have hlt' : (m : Int) < ks.length := by omega
            obtain ⟨c0, c1, c2, c3⟩ := t5.below BE.out hb
            have c4 := (BE.out.cell (p := ⟨b, o + m * 5 + 4, none⟩) hb).trans hu5
            have hbw : b < wr.heap.size := by have := BE.out.size; omega
            have nb : b ≠ wr.heap.size := by omega
            clear hx hv' t5 hu5 hku R xo
            subst hus
            have CI := hide (fun (W : World) (h : Below w.heap.size w W) => IH.out x p (.slice ua x.ks.length uc) W SZ.out XO.out hp9.out (KU.out.low h))
            unfold exV at CI
            rw [HP.out] at CI
            generalize x.k = xk at *
            generalize x.n = xn at *
            generalize x.d = xd at *
            generalize x.u = xu at *
            cases hm2 : exM x p
            · have HM := hide hm2
              have F := hide (show exM (.mk k 0 0 0 ks) j = false by rw [E.out, R2.out, hm2]; rfl)
              clear hm2 R2 E
              go_wp2_with (go_at_call 73; refine (CI.out _ (bplus BE.out _)).mono ?_; rintro e w4 ⟨rfl, B4⟩; rw [HM.out]; replace B4 := hide (bto (bplus BE.out _) B4))
              go_ret
              exact ⟨ret_bool F.out.symm, B4.out⟩
            · have HM := hide hm2
              have E2 := hide (show exMs ks p = exMs (ks.drop (m + 1)) p by rw [R2.out, hm2]; rfl)
              clear hm2 R2
              go_wp2_with (go_at_call 73; refine (CI.out _ (bplus BE.out _)).mono ?_; rintro e w4 ⟨rfl, B4⟩; rw [HM.out]; replace B4 := hide (bto (bplus BE.out _) B4))
              go_roundw
              case rel => exact .mk (m + 1) (by go_num) (by omega) B4.out E2.out
              case measure => simp [intOf]; omega
          · have F := hide (show exM (.mk k 0 0 0 ks) j = true by rw [E.out, R.out, List.drop_of_length_le (by omega), exMs_nil])
            have hlt' : ¬ (m : Int) < ks.length := by omega
            go_wp2
            go_ret
            exact ⟨ret_bool F.out.symm, BE.out⟩
theorem calcMayR_any (x : Ex) (u : Value) (w : World) (hx : x.Ok) (hu : EM w u x.ks) :
    Calls Tryd.prog 63 #[exV x u] w fun e w' => e = .returned (.bool (exM x 340)) ∧ Below w.heap.size w w' := by
  obtain ⟨a, c, rfl, hl9⟩ := hu.shape
  have B0 := bplus (Below.refl w.heap.size w) (.cells #[.int .i64 x.k, .int .i64 x.n, .int .i64 x.d, .int .i64 x.u, .slice a x.ks.length c] 35)
  have C := hide (mayRat_any (szE x) x 340 (.slice a x.ks.length c) _ (Nat.le_refl _) hx (by omega) (hu.low B0))
  replace B0 := hide B0
  unfold exV at C ⊢
  clear hx hu
  go_enter Tryd.func63, Tryd.ntmps63
  go_wp2_with (go_at_call 73; refine C.out.mono ?_; rintro e w1 ⟨rfl, B1⟩)
  go_ret
  exact ⟨rfl, bto B0.out B1⟩
end Go.Proofs.YtpcdhdllclenaaaDoor
