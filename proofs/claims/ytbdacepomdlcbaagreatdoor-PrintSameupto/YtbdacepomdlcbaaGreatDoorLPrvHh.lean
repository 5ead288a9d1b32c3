/-
  Are two lists of rules the same: by the reference.
-/
import Derived.Test.YtbdacepomdlcbaaGreatDoorLPrvGg
import Derived.Deep.RegionHeld3
set_option linter.unusedVariables false
set_option linter.unusedSimpArgs false
namespace Go.Proofs.YtbdacepomdlcbaaGreatDoor
open Go.RowKit Go.Shelf

def RrC (N : Nat) : Prop := ∀ (w : World) (l1 l2 : List RT) (v1 v2 : Value), zsL l1 < N → RM w v1 l1 → RM w v2 l2 → Calls Tryz.prog 16 #[v1, v2] w fun e w' => e = .returned (.bool (eqP (l1 = l2))) ∧ Below w.heap.size w w'
set_option maxRecDepth 100000 in
set_option maxHeartbeats 2500000 in
theorem rr_step (N : Nat) (hS : RrC N) : RrC (N + 1) := by
  intro w l1 l2 v1 v2 hN h1 h2
  obtain ⟨a1, c1, rfl, hl1⟩ := h1.shape
  obtain ⟨a2, c2, rfl, hl2⟩ := h2.shape
  by_cases hlen : l1.length = l2.length
  case neg =>
    have F := hide (show eqP (l1 = l2) = false from eqP_f (fun h => hlen (by rw [h])))
    have g1 : ¬ (l1.length : Int) = l2.length := by omega
    have g2 : ((l1.length : Int) == l2.length) = false := by simpa using g1
    clear h1 h2 hS hlen
    go_enter Tryz.func16, Tryz.ntmps16
    go_wp2
    go_ret
    exact ⟨ret_bool F.out.symm, Below.refl _ _⟩
  have H1 := hide h1
  have H2 := hide h2
  have HS := hide hS
  obtain ⟨n, hn⟩ : ∃ n, l1.length = n := ⟨_, rfl⟩
  have hn2 : l2.length = n := hlen.symm.trans hn
  have L1 := hide hn
  have L2 := hide hn2
  rw [hn] at hl1
  rw [hn, hn2]
  clear h1 h2 hS hn hn2 hlen hl2
  go_enter Tryz.func16, Tryz.ntmps16
  go_wp2
  go_loopw [15] (fun i wr => RelEqq w l1 l2 i wr) (fun i _ => n - (intOf i).toNat)
  case atStart => exact .mk 0 rfl (Nat.zero_le _) (Below.refl _ _) rfl
  case round =>
    obtain ⟨k, rfl, hk, BE, R⟩ := hrel
    replace BE := hide BE
    rw [L1.out] at hk
    by_cases hlt : k < n
    · obtain ⟨x, hx⟩ : ∃ x, l1[k]? = some x := ⟨_, List.getElem?_eq_getElem (by rw [L1.out]; exact hlt)⟩
      obtain ⟨y, hy⟩ : ∃ y, l2[k]? = some y := ⟨_, List.getElem?_eq_getElem (by rw [L2.out]; exact hlt)⟩
      have hlt' : (k : Int) < n := by omega
      obtain ⟨b1, o1, c1', up, ud, ur, hv1, hb1, ⟨g0, g1, g2, g3, g4⟩, gp1, gd1, gr1⟩ := H1.out.at hx
      obtain ⟨b2, o2, c2', up', ud', ur', hv2, hb2, ⟨k0, k1, k2, k3, k4⟩, gp2, gd2, gr2⟩ := H2.out.at hy
      obtain ⟨rfl, rfl⟩ : a1 = some ⟨b1, o1, none⟩ ∧ c1 = c1' := by cases hv1; exact ⟨rfl, rfl⟩
      obtain ⟨rfl, rfl⟩ : a2 = some ⟨b2, o2, none⟩ ∧ c2 = c2' := by cases hv2; exact ⟨rfl, rfl⟩
      have x0 := (BE.out.cell (p := ⟨b1, o1 + k * 5, none⟩) hb1).trans g0
      have y0 := (BE.out.cell (p := ⟨b2, o2 + k * 5, none⟩) hb2).trans k0
      have x1 := (BE.out.cell (p := ⟨b1, o1 + k * 5 + 1, none⟩) hb1).trans g1
      have y1 := (BE.out.cell (p := ⟨b2, o2 + k * 5 + 1, none⟩) hb2).trans k1
      have x2 := (BE.out.cell (p := ⟨b1, o1 + k * 5 + 2, none⟩) hb1).trans g2
      have y2 := (BE.out.cell (p := ⟨b2, o2 + k * 5 + 2, none⟩) hb2).trans k2
      have x3 := (BE.out.cell (p := ⟨b1, o1 + k * 5 + 3, none⟩) hb1).trans g3
      have y3 := (BE.out.cell (p := ⟨b2, o2 + k * 5 + 3, none⟩) hb2).trans k3
      have x4 := (BE.out.cell (p := ⟨b1, o1 + k * 5 + 4, none⟩) hb1).trans g4
      have y4 := (BE.out.cell (p := ⟨b2, o2 + k * 5 + 4, none⟩) hb2).trans k4
      have w1 : b1 < wr.heap.size := by have := BE.out.size; omega
      have w2 : b2 < wr.heap.size := by have := BE.out.size; omega
      have m1 : b1 ≠ wr.heap.size := by omega
      have m2 : b2 ≠ wr.heap.size := by omega
      have m3 : b2 ≠ wr.heap.size + 1 := by omega
      have m4 : b1 ≠ wr.heap.size + 1 := by omega
      have C1 := hide (fun (V : World) (h : Below w.heap.size w V) => sameVR_any V x.p y.p up up' (gp1.low h) (gp2.low h))
      have C2 := hide (fun (V : World) (h : Below w.heap.size w V) => sameDR_any V x.ds y.ds ud ud' (gd1.low h) (gd2.low h))
      have C3 := hide (fun (V : World) (h : Below w.heap.size w V) => (HS.out V x.rs y.rs ur ur' (by have := zs_at hx; omega) (gr1.low h) (gr2.low h)).mono (fun e w' (g : e = .returned (.bool (eqP (x.rs = y.rs))) ∧ Below V.heap.size V w') => show e = .returned (.bool (eqP (x.rs = y.rs))) ∧ Below w.heap.size w w' from ⟨g.1, bto h g.2⟩))
      obtain ⟨pa, pc, hq1, _⟩ := gp1.shape
      obtain ⟨da, dc, hq2, _⟩ := gd1.shape
      obtain ⟨ra, rc, hq3, _⟩ := gr1.shape
      obtain ⟨pa', pc', hq4, _⟩ := gp2.shape
      obtain ⟨da', dc', hq5, _⟩ := gd2.shape
      obtain ⟨ra', rc', hq6, _⟩ := gr2.shape
      subst hq1 hq2 hq3 hq4 hq5 hq6
      have ST := hide (fun (e : x = y) => take_more R.out hx hy e)
      have NQ := hide (fun (e : ¬ x = y) => ne_at hx hy e)
      clear hx hy R hv1 hv2 g0 g1 g2 g3 g4 k0 k1 k2 k3 k4 gp1 gd1 gr1 gp2 gd2 gr2
      obtain ⟨kk, s, p, ds, rs⟩ := x
      obtain ⟨kk', s', p', ds', rs'⟩ := y
      simp only [RT.k, RT.s, RT.p, RT.ds, RT.rs] at x0 x1 x2 x3 x4 y0 y1 y2 y3 y4 C1 C2 C3
      have EQ := hide (show (RT.mk kk s p ds rs = RT.mk kk' s' p' ds' rs') ↔ (kk = kk' ∧ s = s' ∧ p = p' ∧ ds = ds' ∧ rs = rs') by simp)
      by_cases hk1 : kk = kk'
      case neg =>
        have F := hide (eqP_f (NQ.out (fun h => hk1 (EQ.out.1 h).1)))
        have n1 : (kk == kk') = false := by simpa using hk1
        clear EQ ST NQ C1 C2 C3
        go_wp2
        go_region
        all_goals
          go_wp2
          go_ret
          exact ⟨ret_bool F.out.symm, (by repeat (first | exact BE.out | (with_reducible refine bplus ?_ _) | (with_reducible refine Below.drew ?_) | (with_reducible refine below_drewN ?_ _)))⟩
      subst hk1
      by_cases hs : s = s'
      case neg =>
        have F := hide (eqP_f (NQ.out (fun h => hs (EQ.out.1 h).2.1)))
        have n1 := str_ne hs
        have n2 : ¬ s.toList = s'.toList := by simpa using n1
        clear EQ ST NQ C1 C2 C3 hs
        go_wp2
        go_region
        all_goals
          go_wp2
          go_ret
          exact ⟨ret_bool F.out.symm, (by repeat (first | exact BE.out | (with_reducible refine bplus ?_ _) | (with_reducible refine Below.drew ?_) | (with_reducible refine below_drewN ?_ _)))⟩
      subst hs
      by_cases hp : p = p'
      case neg =>
        have F := hide (eqP_f (NQ.out (fun h => hp (EQ.out.1 h).2.2.1)))
        have Q1 := hide (eqP_f hp)
        clear EQ ST NQ C2 C3 hp
        go_wp2
        go_region
        all_goals
          go_wp2_with (first
            | (go_at_call 32; refine (C1.out _ (by repeat (first | exact BE.out | (with_reducible refine bplus ?_ _) | (with_reducible refine Below.drew ?_) | (with_reducible refine below_drewN ?_ _)))).mono ?_; rintro e w1 ⟨rfl, q1, rfl⟩; rw [Q1.out]))
          go_ret
          exact ⟨ret_bool F.out.symm, (by repeat (first | exact BE.out | (with_reducible refine bplus ?_ _) | (with_reducible refine Below.drew ?_) | (with_reducible refine below_drewN ?_ _)))⟩
      have Q1 := hide (eqP_t hp)
      by_cases hd : ds = ds'
      case neg =>
        have F := hide (eqP_f (NQ.out (fun h => hd (EQ.out.1 h).2.2.2.1)))
        have Q2 := hide (eqP_f hd)
        clear EQ ST NQ C3 hd hp
        go_wp2
        go_region
        all_goals
          go_wp2_with (first
            | (go_at_call 32; refine (C1.out _ (by repeat (first | exact BE.out | (with_reducible refine bplus ?_ _) | (with_reducible refine Below.drew ?_) | (with_reducible refine below_drewN ?_ _)))).mono ?_; rintro e w1 ⟨rfl, q1, rfl⟩; rw [Q1.out])
            | (go_at_call 33; refine (C2.out _ (by repeat (first | exact BE.out | (with_reducible refine bplus ?_ _) | (with_reducible refine Below.drew ?_) | (with_reducible refine below_drewN ?_ _)))).mono ?_; rintro e w2 ⟨rfl, q2, rfl⟩; rw [Q2.out]))
          go_ret
          exact ⟨ret_bool F.out.symm, (by repeat (first | exact BE.out | (with_reducible refine bplus ?_ _) | (with_reducible refine Below.drew ?_) | (with_reducible refine below_drewN ?_ _)))⟩
      have Q2 := hide (eqP_t hd)
      by_cases hr : rs = rs'
      case neg =>
        have F := hide (eqP_f (NQ.out (fun h => hr (EQ.out.1 h).2.2.2.2)))
        have Q3 := hide (eqP_f hr)
        clear EQ ST NQ hd hp hr
        go_wp2
        go_region
        all_goals
          go_wp2_with (first
            | (go_at_call 32; refine (C1.out _ (by repeat (first | exact BE.out | (with_reducible refine bplus ?_ _) | (with_reducible refine Below.drew ?_) | (with_reducible refine below_drewN ?_ _)))).mono ?_; rintro e w1 ⟨rfl, q1, rfl⟩; rw [Q1.out])
            | (go_at_call 33; refine (C2.out _ (by repeat (first | exact BE.out | (with_reducible refine bplus ?_ _) | (with_reducible refine Below.drew ?_) | (with_reducible refine below_drewN ?_ _)))).mono ?_; rintro e w2 ⟨rfl, q2, rfl⟩; rw [Q2.out])
            | (go_at_call 16; refine (C3.out _ (by repeat (first | exact BE.out | (with_reducible refine bplus ?_ _) | (with_reducible refine Below.drew ?_) | (with_reducible refine below_drewN ?_ _)))).mono ?_; rintro e w3 ⟨rfl, B3⟩; rw [Q3.out]; replace B3 := hide B3))
          go_ret
          exact ⟨ret_bool F.out.symm, B3.out⟩
      have Q3 := hide (eqP_t hr)
      have TM := hide (ST.out (EQ.out.2 ⟨rfl, rfl, hp, hd, hr⟩))
      clear EQ ST NQ hd hp hr
      go_wp2
      go_region
      all_goals
        go_wp2_with (first
          | (go_at_call 32; refine (C1.out _ (by repeat (first | exact BE.out | (with_reducible refine bplus ?_ _) | (with_reducible refine Below.drew ?_) | (with_reducible refine below_drewN ?_ _)))).mono ?_; rintro e w1 ⟨rfl, q1, rfl⟩; rw [Q1.out])
          | (go_at_call 33; refine (C2.out _ (by repeat (first | exact BE.out | (with_reducible refine bplus ?_ _) | (with_reducible refine Below.drew ?_) | (with_reducible refine below_drewN ?_ _)))).mono ?_; rintro e w2 ⟨rfl, q2, rfl⟩; rw [Q2.out])
          | (go_at_call 16; refine (C3.out _ (by repeat (first | exact BE.out | (with_reducible refine bplus ?_ _) | (with_reducible refine Below.drew ?_) | (with_reducible refine below_drewN ?_ _)))).mono ?_; rintro e w3 ⟨rfl, B3⟩; rw [Q3.out]; replace B3 := hide B3))
        go_roundw
        case rel => exact .mk (k + 1) (by go_num) (by rw [L1.out]; omega) B3.out TM.out
        case measure => simp [intOf]; omega
    · have hlt' : ¬ (k : Int) < n := by omega
      have F := hide (eqP_t (show l1 = l2 by have h := R.out; rwa [List.take_of_length_le (by rw [L1.out]; omega), List.take_of_length_le (by rw [L2.out]; omega)] at h))
      go_wp2
      go_ret
      exact ⟨ret_bool F.out.symm, BE.out⟩
theorem rr_all (N : Nat) : RrC N := by
  induction N with
  | zero => intro w l1 l2 v1 v2 hN; omega
  | succ N ih => exact rr_step N ih
theorem sameRR_any (w : World) (l1 l2 : List RT) (v1 v2 : Value) (h1 : RM w v1 l1) (h2 : RM w v2 l2) : Calls Tryz.prog 16 #[v1, v2] w fun e w' => e = .returned (.bool (eqP (l1 = l2))) ∧ Below w.heap.size w w' :=
  rr_all (zsL l1 + 1) w l1 l2 v1 v2 (by omega) h1 h2
end Go.Proofs.YtbdacepomdlcbaaGreatDoor
