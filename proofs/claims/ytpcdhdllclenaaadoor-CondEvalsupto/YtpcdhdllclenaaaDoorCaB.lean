/-
  May an expression be: by the program.
-/
import Derived.Test.YtpcdhdllclenaaaDoorCaA
import Derived.Test.YtpcdhdllclenaaaDoorPrvB
set_option linter.unusedVariables false
set_option linter.unusedSimpArgs false
namespace Go.Proofs.YtpcdhdllclenaaaDoor
open Go.RowKit

theorem cnt_cases (k : Int) : k = 2 ∨ k = 4 ∨ k = 6 ∨ k = 7 ∨ k = 3 ∨ k = 5 ∨ k = 8 ∨ (¬ k = 2 ∧ ¬ k = 4 ∧ ¬ k = 6 ∧ ¬ k = 7 ∧ ¬ k = 3 ∧ ¬ k = 5 ∧ ¬ k = 8) := by omega
theorem countMay_any (k : Int) (n : Nat) (w : World) : Calls Tryd.prog 76 #[.int .i64 k, .int .i64 n] w fun e w' => e = .returned (.bool (cntM k n)) ∧ w' = w := by
  rcases cnt_cases k with rfl | rfl | rfl | rfl | rfl | rfl | rfl | ⟨g1, g2, g3, g4, g5, g6, g7⟩
  case inr.inr.inr.inr.inr.inr.inr =>
    have h1 : (k == 2) = false := by simpa using g1
    have h2 : (k == 4) = false := by simpa using g2
    have h3 : (k == 6) = false := by simpa using g3
    have h4 : (k == 7) = false := by simpa using g4
    have h5 : (k == 3) = false := by simpa using g5
    have h6 : (k == 5) = false := by simpa using g6
    have h7 : (k == 8) = false := by simpa using g7
    have F := hide (show cntM k n = false by unfold cntM; simp [g1, g2, g3, g4, g5, g6, g7])
    go_enter Tryd.func76, Tryd.ntmps76
    go_wp2
    go_ret
    exact ⟨ret_bool F.out.symm, rfl⟩
  all_goals
    have F := hide (show True from trivial)
    go_enter Tryd.func76, Tryd.ntmps76
    go_wp2
    go_ret
    exact ⟨ret_bool (by rw [Bool.eq_iff_iff]; simp [cntM]; try omega), rfl⟩
theorem bxk_5' {w : World} {b : Nat} {u0 u1 u2 u3 u4 : Value} {T : TypeId} (h : w.heap[b]? = some (.cells #[u0, u1, u2, u3, u4] T)) : w.cell? ⟨b, 0, none⟩ = some u0 ∧ w.cell? ⟨b, 1, none⟩ = some u1 ∧ w.cell? ⟨b, 2, none⟩ = some u2 ∧ w.cell? ⟨b, 3, none⟩ = some u3 ∧ w.cell? ⟨b, 4, none⟩ = some u4 :=
  ⟨by rw [row_blk h]; rfl, by rw [row_blk h]; rfl, by rw [row_blk h]; rfl, by rw [row_blk h]; rfl, by rw [row_blk h]; rfl⟩
def RelEm (w : World) (l : List Ex) (n : Nat) (i : Value) (wr : World) : Prop := ∃ k : Nat, i = .int .i64 k ∧ k ≤ l.length ∧ Below w.heap.size w wr ∧ Hid (exMs l n = exMs (l.drop k) n)
theorem RelEm.mk {w : World} {l : List Ex} {n : Nat} {i : Value} {wr : World} (k : Nat) (h1 : i = .int .i64 k) (h2 : k ≤ l.length) (h3 : Below w.heap.size w wr) (h4 : exMs l n = exMs (l.drop k) n) : RelEm w l n i wr := ⟨k, h1, h2, h3, h4⟩
theorem drop_atE {α : Type} {l : List α} {k : Nat} {x : α} (h : l[k]? = some x) : l.drop k = x :: l.drop (k + 1) := by
  obtain ⟨hk, rfl⟩ := List.getElem?_eq_some_iff.1 h
  exact List.drop_eq_getElem_cons hk
set_option maxRecDepth 100000 in
set_option maxHeartbeats 4000000 in
theorem mayAt_any (N : Nat) : ∀ (x : Ex) (j : Nat) (u : Value) (w : World), szE x ≤ N → x.Ok → 1 ≤ j → j ≤ 341 → EM w u x.ks →
    Calls Tryd.prog 72 #[exV x u, .int .i64 j] w fun e w' => e = .returned (.bool (exM x (341 - j))) ∧ Below w.heap.size w w' := by
  induction N with
  | zero => intro x j u w hN; rw [szE_ks] at hN; omega
  | succ N ih =>
    intro x j u w hN hx hj hj2 hv
    obtain ⟨a, c, rfl, hl9⟩ := hv.shape
    obtain ⟨k, n, d, q, ks⟩ := x
    obtain ⟨⟨k1, k2⟩, ⟨n1, n2⟩, ⟨d1, d2⟩, ⟨q1, q2⟩⟩ := hx
    have E := hide (exM_eq (.mk k n d q ks) (341 - j))
    rw [szE_ks] at hN
    simp only [Ex.k, Ex.n, Ex.d, Ex.u, Ex.ks] at k1 k2 n1 n2 d1 d2 q1 q2 hN hl9 E
    replace hv : EM w (.slice a ks.length c) ks := hv
    show Calls Tryd.prog 72 #[.agg #[.int .i64 k, .int .i64 n, .int .i64 d, .int .i64 q, .slice a ks.length c], .int .i64 j] w _
    have HV := hide hv
    have IH := hide ih
    clear hv ih
    by_cases hj3 : j = 341
    · subst hj3
      have F := hide (show exM (.mk k n d q ks) (341 - 341) = false by rw [E.out]; simp)
      clear E
      go_enter Tryd.func72, Tryd.ntmps72
      go_wp2
      go_ret
      exact ⟨ret_bool F.out.symm, bplus (Below.refl _ _) _⟩
    have hj4 : (j : Int) ≤ 340 := by omega
    replace E := hide (show exM (.mk k n d q ks) (341 - j) = (if k = 1 then mayB n d && (decide (0 ≤ q) && decide (q ≤ 7)) && ks.isEmpty else ((n == 0 && d == 0) && (q == 0) && cntM k ks.length) && exMs ks (340 - j)) by
      rw [E.out, show decide (0 < 341 - j) = true by simp; omega, show 341 - j - 1 = 340 - j by omega]; rfl)
    by_cases hk : k = 1
    · subst hk
      replace E := hide (show exM (.mk 1 n d q ks) (341 - j) = (mayB n d && (decide (0 ≤ q) && decide (q ≤ 7)) && ks.isEmpty) by rw [E.out]; simp)
      have C := hide (fun (W : World) => may_any n d W n1 n2 d1 d2)
      have B0 := hide (bplus (Below.refl w.heap.size w) (.cells #[.int .i64 1, .int .i64 n, .int .i64 d, .int .i64 q, .slice a ks.length c] 35))
      have P0 := hide (heap_alloc_new w (.cells #[.int .i64 1, .int .i64 n, .int .i64 d, .int .i64 q, .slice a ks.length c] 35))
      have LE := hide (show ((ks.length : Int) == 0) = ks.isEmpty by cases ks with | nil => rfl | cons x r => rw [show (((x :: r).length : Int) == 0) = false by rw [beq_eq_false_iff_ne]; simp only [List.length_cons]; omega]; rfl)
      cases hm : mayB n d
      · have HM := hide hm
        have F := hide (show exM (.mk 1 n d q ks) (341 - j) = false by rw [E.out, hm]; rfl)
        clear hm E
        go_enter Tryd.func72, Tryd.ntmps72
        go_wp2_with (go_at_call 56; refine (C.out _).mono ?_; rintro e w1 ⟨rfl, U1⟩; rw [HM.out]; obtain ⟨z0, z1, z2, z3, z4⟩ := bxk_5' ((U1.1.block _ (by simp)).trans P0.out); have HB := hide (bto B0.out U1.1); clear U1 C)
        go_ret
        exact ⟨ret_bool F.out.symm, HB.out⟩
      have HM := hide hm
      by_cases hq0 : q < 0
      · have F := hide (show exM (.mk 1 n d q ks) (341 - j) = false by rw [E.out, show decide (0 ≤ q) = false by simp; omega]; simp)
        clear hm E
        go_enter Tryd.func72, Tryd.ntmps72
        go_wp2_with (go_at_call 56; refine (C.out _).mono ?_; rintro e w1 ⟨rfl, U1⟩; rw [HM.out]; obtain ⟨z0, z1, z2, z3, z4⟩ := bxk_5' ((U1.1.block _ (by simp)).trans P0.out); have HB := hide (bto B0.out U1.1); clear U1 C)
        go_ret
        exact ⟨ret_bool F.out.symm, HB.out⟩
      have hq1 : 0 ≤ q := by omega
      by_cases hq7 : 7 < q
      · have F := hide (show exM (.mk 1 n d q ks) (341 - j) = false by rw [E.out, show decide (q ≤ 7) = false by simp; omega]; simp)
        clear hm E hq0
        go_enter Tryd.func72, Tryd.ntmps72
        go_wp2_with (go_at_call 56; refine (C.out _).mono ?_; rintro e w1 ⟨rfl, U1⟩; rw [HM.out]; obtain ⟨z0, z1, z2, z3, z4⟩ := bxk_5' ((U1.1.block _ (by simp)).trans P0.out); have HB := hide (bto B0.out U1.1); clear U1 C)
        go_ret
        exact ⟨ret_bool F.out.symm, HB.out⟩
      have hq2 : q ≤ 7 := by omega
      have F := hide (show exM (.mk 1 n d q ks) (341 - j) = ((ks.length : Int) == 0) by rw [E.out, hm, LE.out]; simp [hq1, hq2])
      clear hm E hq0 hq7
      go_enter Tryd.func72, Tryd.ntmps72
      go_wp2_with (go_at_call 56; refine (C.out _).mono ?_; rintro e w1 ⟨rfl, U1⟩; rw [HM.out]; obtain ⟨z0, z1, z2, z3, z4⟩ := bxk_5' ((U1.1.block _ (by simp)).trans P0.out); have HB := hide (bto B0.out U1.1); clear U1 C)
      go_ret
      exact ⟨ret_bool F.out.symm, HB.out⟩
    · have hk0 : (k == 1) = false := by simpa using hk
      replace E := hide (show exM (.mk k n d q ks) (341 - j) = (((n == 0 && d == 0) && (q == 0) && cntM k ks.length) && exMs ks (340 - j)) by rw [E.out, if_neg hk])
      have C := hide (fun (W : World) => countMay_any k ks.length W)
      by_cases hnd : n = 0 ∧ d = 0
      case neg =>
        have F := hide (show exM (.mk k n d q ks) (341 - j) = false by
          rw [E.out, show (n == 0 && d == 0) = false by simpa using hnd]; rfl)
        have hnd2 : (n == 0 && d == 0) = false := by simpa using hnd
        have hnd3 : ¬ (n = 0 ∧ d = 0) := hnd
        clear E
        go_enter Tryd.func72, Tryd.ntmps72
        go_wp2_with (go_at_call 76; refine (C.out _).mono ?_; rintro e w1 ⟨rfl, rfl⟩)
        all_goals (first | (exfalso; omega) | (go_ret; exact ⟨ret_bool F.out.symm, bplus (Below.refl _ _) _⟩))
      obtain ⟨rfl, rfl⟩ := hnd
      by_cases hq : q = 0
      case neg =>
        have hq0 : (q == 0) = false := by simpa using hq
        have F := hide (show exM (.mk k 0 0 q ks) (341 - j) = false by rw [E.out, hq0]; simp)
        clear E
        go_enter Tryd.func72, Tryd.ntmps72
        go_wp2_with (go_at_call 76; refine (C.out _).mono ?_; rintro e w1 ⟨rfl, rfl⟩)
        go_ret
        exact ⟨ret_bool F.out.symm, bplus (Below.refl _ _) _⟩
      subst hq
      cases hc : cntM k ks.length
      · have HC := hide hc
        have F := hide (show exM (.mk k 0 0 0 ks) (341 - j) = false by rw [E.out, hc]; simp)
        clear E hc
        go_enter Tryd.func72, Tryd.ntmps72
        go_wp2_with (go_at_call 76; refine (C.out _).mono ?_; rintro e w1 ⟨rfl, rfl⟩; rw [HC.out])
        go_ret
        exact ⟨ret_bool F.out.symm, bplus (Below.refl _ _) _⟩
      have HC := hide hc
      replace E := hide (show exM (.mk k 0 0 0 ks) (341 - j) = exMs ks (340 - j) by rw [E.out, hc]; simp)
      clear hc
      have B0 := hide (bplus (Below.refl w.heap.size w) (.cells #[.int .i64 k, .int .i64 0, .int .i64 0, .int .i64 0, .slice a ks.length c] 35))
      go_enter Tryd.func72, Tryd.ntmps72
      go_wp2_with (go_at_call 76; refine (C.out _).mono ?_; rintro e w1 ⟨rfl, rfl⟩; rw [HC.out])
      go_loopw [52] (fun i wr => RelEm w ks (340 - j) i wr) (fun i _ => ks.length - (intOf i).toNat)
      case atStart => exact .mk 0 rfl (by omega) B0.out (by simp)
      case round =>
        obtain ⟨m, rfl, hm, BE, R⟩ := hrel
        replace BE := hide BE
        by_cases hlt : m < ks.length
        · obtain ⟨x, hx⟩ : ∃ x, ks[m]? = some x := ⟨_, List.getElem?_eq_getElem hlt⟩
          obtain ⟨b, o, c', u, hv', hb, -, -, xo, t5, hu5, hku⟩ := HV.out.at hx
          obtain ⟨rfl, rfl⟩ : a = some ⟨b, o, none⟩ ∧ c = c' := by cases hv'; exact ⟨rfl, rfl⟩
          obtain ⟨ua, uc, hus, hks9⟩ := hku.shape
          have SZ := hide (show szE x ≤ N by have := szEs_at hx; omega)
          have KU := hide hku
          have XO := hide xo
          have R2 := hide (show exMs ks (340 - j) = (exM x (340 - j) && exMs (ks.drop (m + 1)) (340 - j)) by rw [R.out, drop_atE hx, exMs_cons])
          have hlt' : (m : Int) < ks.length := by omega
          obtain ⟨c0, c1, c2, c3⟩ := t5.below BE.out hb
          have c4 := (BE.out.cell (p := ⟨b, o + m * 5 + 4, none⟩) hb).trans hu5
          have hbw : b < wr.heap.size := by have := BE.out.size; omega
          have nb : b ≠ wr.heap.size := by omega
          clear hx hv' t5 hu5 hku R xo
          subst hus
          have CI := hide (fun (W : World) (h : Below w.heap.size w W) => IH.out x (j + 1) (.slice ua x.ks.length uc) W SZ.out XO.out (by omega) (by omega) (KU.out.low h))
          rw [show 341 - (j + 1) = 340 - j by omega] at CI
          unfold exV at CI
          rw [show ((j + 1 : Nat) : Int) = (j : Int) + 1 by omega] at CI
          generalize x.k = xk at *
          generalize x.n = xn at *
          generalize x.d = xd at *
          generalize x.u = xu at *
          cases hm2 : exM x (340 - j)
          · have HM := hide hm2
            have F := hide (show exM (.mk k 0 0 0 ks) (341 - j) = false by rw [E.out, R2.out, hm2]; rfl)
            clear hm2 R2 E
            go_wp2_with (go_at_call 72; refine (CI.out _ (bplus BE.out _)).mono ?_; rintro e w4 ⟨rfl, B4⟩; rw [HM.out]; replace B4 := hide (bto (bplus BE.out _) B4))
            go_ret
            exact ⟨ret_bool F.out.symm, B4.out⟩
          · have HM := hide hm2
            have E2 := hide (show exMs ks (340 - j) = exMs (ks.drop (m + 1)) (340 - j) by rw [R2.out, hm2]; rfl)
            clear hm2 R2
            go_wp2_with (go_at_call 72; refine (CI.out _ (bplus BE.out _)).mono ?_; rintro e w4 ⟨rfl, B4⟩; rw [HM.out]; replace B4 := hide (bto (bplus BE.out _) B4))
            go_roundw
            case rel => exact .mk (m + 1) (by go_num) (by omega) B4.out E2.out
            case measure => simp [intOf]; omega
        · have F := hide (show exM (.mk k 0 0 0 ks) (341 - j) = true by rw [E.out, R.out, List.drop_of_length_le (by omega), exMs_nil])
          have hlt' : ¬ (m : Int) < ks.length := by omega
          go_wp2
          go_ret
          exact ⟨ret_bool F.out.symm, BE.out⟩
theorem calcMay_any (x : Ex) (u : Value) (w : World) (hx : x.Ok) (hu : EM w u x.ks) :
    Calls Tryd.prog 62 #[exV x u] w fun e w' => e = .returned (.bool (exM x 340)) ∧ Below w.heap.size w w' := by
  obtain ⟨a, c, rfl, hl9⟩ := hu.shape
  have B0 := bplus (Below.refl w.heap.size w) (.cells #[.int .i64 x.k, .int .i64 x.n, .int .i64 x.d, .int .i64 x.u, .slice a x.ks.length c] 35)
  have C := hide (mayAt_any (szE x) x 1 (.slice a x.ks.length c) _ (Nat.le_refl _) hx (by omega) (by omega) (hu.low B0))
  replace B0 := hide B0
  unfold exV at C ⊢
  clear hx hu
  go_enter Tryd.func62, Tryd.ntmps62
  go_wp2_with (go_at_call 72; refine C.out.mono ?_; rintro e w1 ⟨rfl, B1⟩)
  go_ret
  exact ⟨rfl, bto B0.out B1⟩
end Go.Proofs.YtpcdhdllclenaaaDoor
