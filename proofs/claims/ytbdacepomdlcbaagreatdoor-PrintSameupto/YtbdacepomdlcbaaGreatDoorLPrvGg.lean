/-
  Are two lists of declarations, of rules the same: by the reference.
-/
import Derived.Test.YtbdacepomdlcbaaGreatDoorLPrvFf
import Derived.Deep.RegionHeld3
set_option linter.unusedVariables false
set_option linter.unusedSimpArgs false
namespace Go.Proofs.YtbdacepomdlcbaaGreatDoor
open Go.RowKit Go.Shelf

set_option maxRecDepth 100000 in
set_option maxHeartbeats 2500000 in
theorem sameDR_any (w : World) (l1 l2 : List DT) (v1 v2 : Value) (h1 : DM w v1 l1) (h2 : DM w v2 l2) : Calls Tryz.prog 33 #[v1, v2] w fun e w' => e = .returned (.bool (eqP (l1 = l2))) ∧ ∃ q, w' = w.drewN q := by
  obtain ⟨a1, c1, rfl, hl1⟩ := h1.shape
  obtain ⟨a2, c2, rfl, hl2⟩ := h2.shape
  by_cases hlen : l1.length = l2.length
  case neg =>
    have F := hide (show eqP (l1 = l2) = false from eqP_f (fun h => hlen (by rw [h])))
    have g1 : ¬ (l1.length : Int) = l2.length := by omega
    have g2 : ((l1.length : Int) == l2.length) = false := by simpa using g1
    clear h1 h2 hlen
    go_enter Tryz.func33, Tryz.ntmps33
    go_wp2
    go_ret
    exact ⟨ret_bool F.out.symm, 0, rfl⟩
  have H1 := hide h1
  have H2 := hide h2
  obtain ⟨n, hn⟩ : ∃ n, l1.length = n := ⟨_, rfl⟩
  have hn2 : l2.length = n := hlen.symm.trans hn
  have L1 := hide hn
  have L2 := hide hn2
  rw [hn] at hl1
  rw [hn, hn2]
  clear h1 h2 hn hn2 hlen hl2
  go_enter Tryz.func33, Tryz.ntmps33
  go_wp2
  go_loopw [13] (fun i wr => RelQ w l1 l2 i wr) (fun i _ => n - (intOf i).toNat)
  case atStart => exact .mk 0 rfl (Nat.zero_le _) ⟨0, rfl⟩ rfl
  case round =>
    obtain ⟨k, rfl, hk, ⟨q, hq⟩, R⟩ := hrel
    rw [L1.out] at hk
    have HQ := hide hq
    have V1 := hide (show DM wr (.slice a1 l1.length c1) l1 by rw [hq]; exact H1.out.drew q)
    have V2 := hide (show DM wr (.slice a2 l2.length c2) l2 by rw [hq]; exact H2.out.drew q)
    clear hq
    by_cases hlt : k < n
    · obtain ⟨x, hx⟩ : ∃ x, l1[k]? = some x := ⟨_, List.getElem?_eq_getElem (by rw [L1.out]; exact hlt)⟩
      obtain ⟨y, hy⟩ : ∃ y, l2[k]? = some y := ⟨_, List.getElem?_eq_getElem (by rw [L2.out]; exact hlt)⟩
      have hlt' : (k : Int) < n := by omega
      obtain ⟨b1, o1, c1', u1, hv1, hb1, ⟨x0, x1, x2⟩, hk1⟩ := V1.out.at hx
      obtain ⟨b2, o2, c2', u2, hv2, hb2, ⟨y0, y1, y2⟩, hk2⟩ := V2.out.at hy
      obtain ⟨rfl, rfl⟩ : a1 = some ⟨b1, o1, none⟩ ∧ c1 = c1' := by cases hv1; exact ⟨rfl, rfl⟩
      obtain ⟨rfl, rfl⟩ : a2 = some ⟨b2, o2, none⟩ ∧ c2 = c2' := by cases hv2; exact ⟨rfl, rfl⟩
      have CQ := hide (fun (m : Nat) => sameVR_any (wr.drewN m) x.l y.l u1 u2 (hk1.drew m) (hk2.drew m))
      obtain ⟨p1, p2, hp1, _⟩ := hk1.shape
      obtain ⟨p3, p4, hp2, _⟩ := hk2.shape
      subst hp1 hp2
      have ST := hide (fun (e : x = y) => take_more R.out hx hy e)
      have NQ := hide (fun (e : ¬ x = y) => ne_at hx hy e)
      clear hx hy R hv1 hv2 hk1 hk2
      obtain ⟨s, l, i⟩ := x
      obtain ⟨s', l', i'⟩ := y
      simp only at x0 x1 x2 y0 y1 y2 CQ
      have EQ := hide (show (DT.mk s l i = DT.mk s' l' i') ↔ (s = s' ∧ l = l' ∧ i = i') by simp)
      by_cases hs : s = s'
      case neg =>
        have F := hide (eqP_f (NQ.out (fun h => hs (EQ.out.1 h).1)))
        have n1 := str_ne hs
        have n2 : ¬ s.toList = s'.toList := by simpa using n1
        clear hs EQ CQ ST NQ
        go_wp2
        go_quiet (fail)
        go_wp2
        go_ret
        exact ⟨ret_bool F.out.symm, _, by rw [HQ.out]; exact World.drewN_drewN _ _ _⟩
      subst hs
      by_cases hi : i = i'
      case neg =>
        have F := hide (eqP_f (NQ.out (fun h => hi (EQ.out.1 h).2.2)))
        clear EQ CQ ST NQ
        cases i <;> cases i'
        all_goals first
          | exact absurd rfl hi
          | (clear hi
             go_wp2
             go_quiet (fail)
             go_wp2
             go_ret
             exact ⟨ret_bool F.out.symm, _, by rw [HQ.out]; exact World.drewN_drewN _ _ _⟩)
      subst hi
      by_cases hks : l = l'
      · have TM := hide (ST.out (EQ.out.2 ⟨rfl, hks, rfl⟩))
        have Q := hide (eqP_t hks)
        rw [Q.out] at CQ
        clear ST NQ EQ hks
        go_wp2
        go_quiet (first | (go_at_call 32; exact Calls.quiet_of (CQ.out _)))
        go_wp2
        go_roundw
        case rel => exact .mk (k + 1) (by go_num) (by rw [L1.out]; omega) ⟨_, by rw [HQ.out]; exact World.drewN_drewN _ _ _⟩ TM.out
        case measure => simp [intOf]; omega
      · have F := hide (eqP_f (NQ.out (fun h => hks (EQ.out.1 h).2.1)))
        have Q := hide (eqP_f hks)
        rw [Q.out] at CQ
        clear ST NQ EQ hks
        go_wp2
        go_quiet (first | (go_at_call 32; exact Calls.quiet_of (CQ.out _)))
        go_wp2
        go_ret
        exact ⟨ret_bool F.out.symm, _, by rw [HQ.out]; exact World.drewN_drewN _ _ _⟩
    · have hlt' : ¬ (k : Int) < n := by omega
      have F := hide (eqP_t (show l1 = l2 by have h := R.out; rwa [List.take_of_length_le (by rw [L1.out]; omega), List.take_of_length_le (by rw [L2.out]; omega)] at h))
      go_wp2
      go_ret
      exact ⟨ret_bool F.out.symm, _, HQ.out⟩
end Go.Proofs.YtbdacepomdlcbaaGreatDoor
