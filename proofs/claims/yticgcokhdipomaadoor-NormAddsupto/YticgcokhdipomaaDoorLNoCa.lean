/-
  Two forms held against each other, by the program.
-/
import Derived.Test.YticgcokhdipomaaDoorLNoC
set_option linter.unusedVariables false
set_option linter.unusedSimpArgs false
namespace Go.Proofs.YticgcokhdipomaaDoor.nm
open Go.RowKit
theorem saF_eq (n : Nat) (us vs : List (Int × Int)) (ps qs : List Pa) : saF n (.mk us ps) (.mk vs qs) = (eq7 us vs && al2 (saP n) ps qs) := rfl
set_option maxRecDepth 100000 in
set_option maxHeartbeats 8000000 in
theorem sameAt_of (n : Nat) (IP : SaP n) : SaF n := by
  intro us vs ps qs j u v w hj hus hvs hu hv
  obtain ⟨mv, hv⟩ := hv
  obtain ⟨ua, uc, rfl, hx9⟩ := hu.shape
  obtain ⟨va, vc, rfl, hy9⟩ := hv.shape
  have HU := hide hu
  have HV := hide hv
  replace IP := hide IP
  have E := hide (saF_eq n us vs ps qs)
  obtain ⟨r, hr⟩ : ∃ r, saF n (.mk us ps) (.mk vs qs) = r := ⟨_, rfl⟩
  rw [hr] at E ⊢
  clear hr hu hv
  obtain ⟨n0, d0, n1, d1, n2, d2, n3, d3, n4, d4, n5, d5, n6, d6, rfl⟩ := us7 hus
  obtain ⟨m0, e0, m1, e1, m2, e2, m3, e3, m4, e4, m5, e5, m6, e6, rfl⟩ := us7 hvs
  rw [foV_eq, foV_eq]
  have hjj : ¬ (65536 : Int) < (j : Int) := by omega
  have hjk : (j : Int) ≤ 65536 := by omega
  have wj : IntKind.i64.wrap ((j : Int) + 1) = (j : Int) + 1 := by simp [IntKind.wrap, go_sem]; omega
  have BB := hide (bplus (bplus (Below.refl w.heap.size w) (.cells #[.int .i64 n0, .int .i64 d0, .int .i64 n1, .int .i64 d1, .int .i64 n2, .int .i64 d2, .int .i64 n3, .int .i64 d3, .int .i64 n4, .int .i64 d4, .int .i64 n5, .int .i64 d5, .int .i64 n6, .int .i64 d6, .slice ua ps.length uc] 29)) (.cells #[.int .i64 m0, .int .i64 e0, .int .i64 m1, .int .i64 e1, .int .i64 m2, .int .i64 e2, .int .i64 m3, .int .i64 e3, .int .i64 m4, .int .i64 e4, .int .i64 m5, .int .i64 e5, .int .i64 m6, .int .i64 e6, .slice va qs.length vc] 29))
  obtain ⟨e7, he7⟩ : ∃ e7, eq7 [(n0, d0), (n1, d1), (n2, d2), (n3, d3), (n4, d4), (n5, d5), (n6, d6)] [(m0, e0), (m1, e1), (m2, e2), (m3, e3), (m4, e4), (m5, e5), (m6, e6)] = e7 := ⟨_, rfl⟩
  rw [he7] at E
  cases e7
  · have F := hide (show r = false by rw [E.out]; rfl)
    clear E IP HU HV hus hvs
    go_enter Tryd.func36, Tryd.ntmps36
    go_wp2
    go_ret
    exact ⟨ret_bool F.out.symm, BB.out⟩
  replace E := hide (show r = al2 (saP n) ps qs by rw [E.out]; rfl)
  by_cases hl : ps.length = qs.length
  case neg =>
    have F := hide (show r = false by rw [E.out, al2_len hl])
    have h1 : ((ps.length : Int) != qs.length) = true := by rw [bne_iff_ne]; omega
    have h2 : ¬ (ps.length : Int) = qs.length := by omega
    have h3 : ((ps.length : Int) == qs.length) = false := by rw [beq_eq_false_iff_ne]; omega
    clear E IP HU HV hus hvs
    go_enter Tryd.func36, Tryd.ntmps36
    go_wp2
    all_goals
      go_ret
      exact ⟨ret_bool F.out.symm, BB.out⟩
  have HL := hide hl
  rw [← hl]
  obtain ⟨W1, hW1⟩ : ∃ W1, (w.alloc (.cells #[.int .i64 n0, .int .i64 d0, .int .i64 n1, .int .i64 d1, .int .i64 n2, .int .i64 d2, .int .i64 n3, .int .i64 d3, .int .i64 n4, .int .i64 d4, .int .i64 n5, .int .i64 d5, .int .i64 n6, .int .i64 d6, .slice ua ps.length uc] 29)).alloc (.cells #[.int .i64 m0, .int .i64 e0, .int .i64 m1, .int .i64 e1, .int .i64 m2, .int .i64 e2, .int .i64 m3, .int .i64 e3, .int .i64 m4, .int .i64 e4, .int .i64 m5, .int .i64 e5, .int .i64 m6, .int .i64 e6, .slice va ps.length vc] 29) = W1 := ⟨_, rfl⟩
  have B0 := hide (show Below w.heap.size w W1 by rw [← hW1]; exact bplus (bplus (Below.refl _ _) _) _)
  have P0 := hide (show W1.heap[w.heap.size]? = some (.cells #[.int .i64 n0, .int .i64 d0, .int .i64 n1, .int .i64 d1, .int .i64 n2, .int .i64 d2, .int .i64 n3, .int .i64 d3, .int .i64 n4, .int .i64 d4, .int .i64 n5, .int .i64 d5, .int .i64 n6, .int .i64 d6, .slice ua ps.length uc] 29) by rw [← hW1]; exact (two_newC w _ _).1)
  have P1 := hide (show W1.heap[w.heap.size + 1]? = some (.cells #[.int .i64 m0, .int .i64 e0, .int .i64 m1, .int .i64 e1, .int .i64 m2, .int .i64 e2, .int .i64 m3, .int .i64 e3, .int .i64 m4, .int .i64 e4, .int .i64 m5, .int .i64 e5, .int .i64 m6, .int .i64 e6, .slice va ps.length vc] 29) by rw [← hW1]; exact (two_newC w _ _).2)
  have hs1 : w.heap.size + 1 < W1.heap.size := by rw [← hW1]; simp
  have HW1 := hide hW1
  obtain ⟨-, p1⟩ := bxk_15 P0.out
  obtain ⟨-, p3⟩ := bxk_15 P1.out
  replace p1 := hide p1
  replace p3 := hide p3
  clear hW1 BB hl hus hvs
  go_enter Tryd.func36, Tryd.ntmps36
  go_wp2
  rw [HW1.out]
  go_loopw [29] (fun i wr => RelA2 W1 (saP n) ps qs i wr) (fun i _ => ps.length - (intOf i).toNat)
  case atStart => exact .mk 0 rfl (by omega) (Below.refl _ _) rfl
  case round =>
    obtain ⟨k, rfl, hk, BE, R⟩ := hrel
    replace BE := hide BE
    by_cases hlt : k < ps.length
    · obtain ⟨s, hs⟩ : ∃ s, ps[k]? = some s := ⟨_, List.getElem?_eq_getElem hlt⟩
      obtain ⟨t, ht⟩ : ∃ t, qs[k]? = some t := ⟨_, List.getElem?_eq_getElem (by have := HL.out; omega)⟩
      obtain ⟨b2, o2, c2, u2, hv2, hb2, hc2, hc29, q0, q1, hu2⟩ := HU.out.at hs
      obtain ⟨b3, o3, c3, u3, hv3, hb3, hc3, hc39, t0, t1, hu3⟩ := HV.out.at ht
      obtain ⟨rfl, rfl⟩ : ua = some ⟨b2, o2, none⟩ ∧ uc = c2 := by cases hv2; exact ⟨rfl, rfl⟩
      obtain ⟨rfl, rfl⟩ : va = some ⟨b3, o3, none⟩ ∧ vc = c3 := by cases hv3; exact ⟨rfl, rfl⟩
      have hlt' : (k : Int) < ps.length := by omega
      have k1 := (BE.out.cell (p := ⟨w.heap.size, 14, none⟩) (show w.heap.size < W1.heap.size by omega)).trans p1.out
      have k3 := (BE.out.cell (p := ⟨w.heap.size + 1, 14, none⟩) hs1).trans p3.out
      have hb2' : b2 < W1.heap.size := by omega
      have hb3' : b3 < W1.heap.size := by omega
      have f0 := (BE.out.cell (p := ⟨b2, o2 + k * 2, none⟩) hb2').trans ((B0.out.cell (p := ⟨b2, o2 + k * 2, none⟩) hb2).trans q0)
      have f1 := (BE.out.cell (p := ⟨b2, o2 + k * 2 + 1, none⟩) hb2').trans ((B0.out.cell (p := ⟨b2, o2 + k * 2 + 1, none⟩) hb2).trans q1)
      have g0 := (BE.out.cell (p := ⟨b3, o3 + k * 2, none⟩) hb3').trans ((B0.out.cell (p := ⟨b3, o3 + k * 2, none⟩) hb3).trans t0)
      have g1 := (BE.out.cell (p := ⟨b3, o3 + k * 2 + 1, none⟩) hb3').trans ((B0.out.cell (p := ⟨b3, o3 + k * 2 + 1, none⟩) hb3).trans t1)
      have R2 := hide (show r = (saP n s t && al2 (saP n) (ps.drop (k + 1)) (qs.drop (k + 1))) by rw [E.out, R.out, al2_drop hs ht])
      have CI := hide (fun (W : World) (h : Below W1.heap.size W1 W) => IP.out s t (j + 1) u2 u3 W (by omega) (hu2.low (bto B0.out h)) ⟨_, hu3.low (bto B0.out h)⟩)
      rw [show ((j + 1 : Nat) : Int) = (j : Int) + 1 by omega] at CI
      generalize s.1 = sx at *
      generalize t.1 = tx at *
      clear hv2 hv3 hs ht hu2 hu3
      clear q0 t0 q1 t1
      cases hmx : saP n s t
      · have F := hide (show r = false by rw [R2.out, hmx]; rfl)
        rw [hmx] at CI
        clear hmx R R2 E
        go_wp2
        go_region_with ((go_at_call 50; refine (CI.out _ BE.out.drew).mono ?_; rintro e w4 ⟨rfl, B4⟩; replace B4 := hide (bto BE.out.drew B4)))
        all_goals (go_wp2_with fail; go_ret; exact ⟨ret_bool F.out.symm, bto B0.out B4.out⟩)
      · have R5 := hide (show al2 (saP n) ps qs = al2 (saP n) (ps.drop (k + 1)) (qs.drop (k + 1)) by rw [← E.out, R2.out, hmx]; rfl)
        rw [hmx] at CI
        clear hmx R R2
        go_wp2
        go_region_with ((go_at_call 50; refine (CI.out _ BE.out.drew).mono ?_; rintro e w4 ⟨rfl, B4⟩; replace B4 := hide (bto BE.out.drew B4)))
        all_goals
          go_wp2_with fail
          go_roundw
          case rel => exact .mk (k + 1) (by go_num) (by omega) B4.out R5.out
          case measure => simp [intOf]; omega
    · have hlt' : ¬ (k : Int) < ps.length := by omega
      have F := hide (show r = true by rw [E.out]; exact al2_end R.out (by omega) (by have := HL.out; omega))
      clear R
      go_wp2
      go_ret
      exact ⟨ret_bool F.out.symm, bto B0.out BE.out⟩
end Go.Proofs.YticgcokhdipomaaDoor.nm
