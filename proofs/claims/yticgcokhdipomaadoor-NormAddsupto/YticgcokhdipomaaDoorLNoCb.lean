/-
  Two parts held against each other, by the program.
-/
import Derived.Test.YticgcokhdipomaaDoorLNoC
set_option linter.unusedVariables false
set_option linter.unusedSimpArgs false
namespace Go.Proofs.YticgcokhdipomaaDoor.nm
open Go.RowKit
theorem saP_eq (n : Nat) (a b : Bool) (x y : List Fo) : saP n (a, x) (b, y) = ((a == b) && saX n x y) := rfl
set_option maxRecDepth 100000 in
set_option maxHeartbeats 8000000 in
theorem samePart_of (n : Nat) (IH : ∀ m, n = m + 1 → SaF m) : SaP n := by
  rintro ⟨a, x⟩ ⟨b, y⟩ j u v w hj hu ⟨mv, hv⟩
  simp only at hu hv
  obtain ⟨ua, uc, rfl, hx9⟩ := hu.shape
  obtain ⟨va, vc, rfl, hy9⟩ := hv.shape
  have HU := hide hu
  have HV := hide hv
  replace IH := hide IH
  have E := hide (saP_eq n a b x y)
  clear hu hv
  show Calls Tryd.prog 50 #[.agg #[.bool a, .slice ua x.length uc], .agg #[.bool b, .slice va y.length vc], .int .i64 j] w _
  obtain ⟨r, hr⟩ : ∃ r, saP n (a, x) (b, y) = r := ⟨_, rfl⟩
  rw [hr] at E ⊢
  clear hr
  have hjj : (j : Int) ≤ 65537 := by omega
  have BB := hide (bplus (bplus (Below.refl w.heap.size w) (.cells #[.bool a, .slice ua x.length uc] 41)) (.cells #[.bool b, .slice va y.length vc] 41))
  by_cases hab : a = b
  case neg =>
    have F := hide (show r = false by rw [E.out, show (a == b) = false by simpa using hab]; rfl)
    have h1 : (a != b) = true := by simpa using hab
    have h2 : (a == b) = false := by simpa using hab
    clear E IH HU HV
    have hab' : ¬ a = b := hab
    cases a <;> cases b
    all_goals (first | (exact absurd rfl hab) | skip)
    all_goals
      clear hab hab' h1 h2
      go_enter Tryd.func50, Tryd.ntmps50
      go_wp2
      go_ret
      exact ⟨ret_bool F.out.symm, BB.out⟩
  subst hab
  by_cases hl : x.length = y.length
  case neg =>
    have F := hide (show r = false by rw [E.out, saX_len hl, Bool.and_false])
    have h1 : ((x.length : Int) != y.length) = true := by rw [bne_iff_ne]; omega
    have h2 : ¬ (x.length : Int) = y.length := by omega
    have h3 : ((x.length : Int) == y.length) = false := by rw [beq_eq_false_iff_ne]; omega
    clear E IH HU HV
    go_enter Tryd.func50, Tryd.ntmps50
    go_wp2
    all_goals
      go_ret
      exact ⟨ret_bool F.out.symm, BB.out⟩
  replace E := hide (show r = saX n x y by rw [E.out]; simp)
  have HL := hide hl
  rw [← hl]
  obtain ⟨W1, hW1⟩ : ∃ W1, (w.alloc (.cells #[.bool a, .slice ua x.length uc] 41)).alloc (.cells #[.bool a, .slice va x.length vc] 41) = W1 := ⟨_, rfl⟩
  have B0 := hide (show Below w.heap.size w W1 by rw [← hW1]; exact bplus (bplus (Below.refl _ _) _) _)
  have P0 := hide (show W1.heap[w.heap.size]? = some (.cells #[.bool a, .slice ua x.length uc] 41) by rw [← hW1]; exact (two_newC w _ _).1)
  have P1 := hide (show W1.heap[w.heap.size + 1]? = some (.cells #[.bool a, .slice va x.length vc] 41) by rw [← hW1]; exact (two_newC w _ _).2)
  have hs1 : w.heap.size + 1 < W1.heap.size := by rw [← hW1]; simp
  have HW1 := hide hW1
  obtain ⟨-, p1⟩ := bxk_2n P0.out
  obtain ⟨-, p3⟩ := bxk_2n P1.out
  replace p1 := hide p1
  replace p3 := hide p3
  clear hW1 BB hl
  have E3 := hide (show n = 0 → r = true by intro h; subst h; rw [E.out, saX]; simpa using HL.out)
  obtain ⟨f, hf⟩ : ∃ f : Fo → Fo → Bool, ∀ m, n = m + 1 → f = saF m := ⟨saF (n - 1), fun m h => by subst h; rfl⟩
  have HF := hide hf
  have E4 := hide (show r = al2 f x y by
    cases n with
    | zero =>
      obtain ⟨rfl, -⟩ := HU.out
      have : y = [] := List.eq_nil_of_length_eq_zero (HL.out.symm.trans rfl)
      subst this
      rw [E3.out rfl]; rfl
    | succ m => rw [E.out, saX_succ, HF.out m rfl])
  clear hf E E3
  go_enter Tryd.func50, Tryd.ntmps50
  go_wp2
  rw [HW1.out]
  go_loopw [25] (fun i wr => RelA2 W1 f x y i wr) (fun i _ => x.length - (intOf i).toNat)
  case atStart => exact .mk 0 rfl (by omega) (Below.refl _ _) rfl
  case round =>
    obtain ⟨k, rfl, hk, BE, R⟩ := hrel
    replace BE := hide BE
    by_cases hlt : k < x.length
    · obtain ⟨s, hs⟩ : ∃ s, x[k]? = some s := ⟨_, List.getElem?_eq_getElem hlt⟩
      obtain ⟨t, ht⟩ : ∃ t, y[k]? = some t := ⟨_, List.getElem?_eq_getElem (by have := HL.out; omega)⟩
      obtain ⟨m, hm, b2, o2, c2, u2, hv2, hb2, hc2, hc29, q0, q1, hu2⟩ := HU.out.at hs
      obtain ⟨m', hm', b3, o3, c3, u3, hv3, hb3, hc3, hc39, t0, t1, hu3⟩ := HV.out.at ht
      obtain ⟨rfl, rfl⟩ : ua = some ⟨b2, o2, none⟩ ∧ uc = c2 := by cases hv2; exact ⟨rfl, rfl⟩
      obtain ⟨rfl, rfl⟩ : va = some ⟨b3, o3, none⟩ ∧ vc = c3 := by cases hv3; exact ⟨rfl, rfl⟩
      have hlt' : (k : Int) < x.length := by omega
      have k1 := (BE.out.cell (p := ⟨w.heap.size, 1, none⟩) (show w.heap.size < W1.heap.size by omega)).trans p1.out
      have k3 := (BE.out.cell (p := ⟨w.heap.size + 1, 1, none⟩) hs1).trans p3.out
      have hb2' : b2 < W1.heap.size := by omega
      have hb3' : b3 < W1.heap.size := by omega
      have f14 := (BE.out.cell (p := ⟨b2, o2 + k * 15 + 14, none⟩) hb2').trans ((B0.out.cell (p := ⟨b2, o2 + k * 15 + 14, none⟩) hb2).trans q1)
      have g14 := (BE.out.cell (p := ⟨b3, o3 + k * 15 + 14, none⟩) hb3').trans ((B0.out.cell (p := ⟨b3, o3 + k * 15 + 14, none⟩) hb3).trans t1)
      have R2 := hide (show r = (saF m s t && al2 f (x.drop (k + 1)) (y.drop (k + 1))) by rw [E4.out, R.out, al2_drop hs ht, congrFun (congrFun (HF.out m hm) s) t])
      obtain ⟨sus, sps⟩ := s
      obtain ⟨tus, tps⟩ := t
      simp only [Fo.us, Fo.ps] at q0 t0 hu2 hu3
      obtain ⟨xa, xc, hxs, hx9'⟩ := hu2.shape
      obtain ⟨ya, yc, hys, hy9'⟩ := hu3.shape
      subst hxs hys
      have QU := hide q0.1
      have TU := hide t0.1
      have CI := hide (fun (W : World) (h : Below W1.heap.size W1 W) => IH.out m hm sus tus sps tps j (.slice xa sps.length xc) (.slice ya tps.length yc) W (by omega) QU.out TU.out (hu2.low (bto B0.out h)) ⟨m', hu3.low (bto B0.out h)⟩)
      obtain ⟨n0, d0, n1, d1, n2, d2, n3, d3, n4, d4, n5, d5, n6, d6, rfl⟩ := us7 QU.out
      obtain ⟨m0, e0, m1, e1, m2, e2, m3, e3, m4, e4, m5, e5, m6, e6, rfl⟩ := us7 TU.out
      rw [foV_eq, foV_eq] at CI
      obtain ⟨f0, f1, f2, f3, f4, f5, f6, f7, f8, f9, f10, f11, f12, f13⟩ := ((q0.below B0.out hb2).below BE.out hb2').fa
      obtain ⟨g0, g1, g2, g3, g4, g5, g6, g7, g8, g9, g10, g11, g12, g13⟩ := ((t0.below B0.out hb3).below BE.out hb3').fa
      clear hv2 hv3 hs ht q0 t0 q1 t1 hu2 hu3 hm hm'
      cases hmx : saF m (.mk [(n0, d0), (n1, d1), (n2, d2), (n3, d3), (n4, d4), (n5, d5), (n6, d6)] sps) (.mk [(m0, e0), (m1, e1), (m2, e2), (m3, e3), (m4, e4), (m5, e5), (m6, e6)] tps)
      · have HM := hide hmx
        have F := hide (show r = false by rw [R2.out, hmx]; rfl)
        rw [hmx] at CI
        clear hmx R R2 E4 HM
        go_wp2
        go_region_with ((go_at_call 36; refine (CI.out _ BE.out.drew).mono ?_; rintro e w4 ⟨rfl, B4⟩; replace B4 := hide (bto BE.out.drew B4)))
        all_goals (go_wp2_with fail; go_ret; exact ⟨ret_bool F.out.symm, bto B0.out B4.out⟩)
      · have R5 := hide (show al2 f x y = al2 f (x.drop (k + 1)) (y.drop (k + 1)) by rw [← E4.out, R2.out, hmx]; rfl)
        rw [hmx] at CI
        clear hmx R R2
        go_wp2
        go_region_with ((go_at_call 36; refine (CI.out _ BE.out.drew).mono ?_; rintro e w4 ⟨rfl, B4⟩; replace B4 := hide (bto BE.out.drew B4)))
        all_goals
          go_wp2_with fail
          go_roundw
          case rel => exact .mk (k + 1) (by go_num) (by omega) B4.out R5.out
          case measure => simp [intOf]; omega
    · have hlt' : ¬ (k : Int) < x.length := by omega
      have F := hide (show r = true by rw [E4.out]; exact al2_end R.out (by omega) (by have := HL.out; omega))
      clear R
      go_wp2
      go_ret
      exact ⟨ret_bool F.out.symm, bto B0.out BE.out⟩
end Go.Proofs.YticgcokhdipomaaDoor.nm
