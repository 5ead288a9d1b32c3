/-
  Are two lists of values, declarations, rules the same: by the reference.
-/
import Derived.Test.YtbdacepomdlcbaaGreatDoorLPrvEe
set_option linter.unusedVariables false
set_option linter.unusedSimpArgs false
namespace Go.Proofs.YtbdacepomdlcbaaGreatDoor
open Go.RowKit Go.Shelf

theorem VM.drew {w : World} {v : Value} {l : List VT} (h : VM w v l) (q : Nat) : VM (w.drewN q) v l := h.low (below_drewN (Below.refl _ _) q)
theorem DM.drew {w : World} {v : Value} {l : List DT} (h : DM w v l) (q : Nat) : DM (w.drewN q) v l := h.low (below_drewN (Below.refl _ _) q)
def RelQ {α : Type} (w : World) (l1 l2 : List α) (i : Value) (wr : World) : Prop := ∃ k : Nat, i = .int .i64 k ∧ k ≤ l1.length ∧ (∃ q, wr = w.drewN q) ∧ Hid (l1.take k = l2.take k)
theorem RelQ.mk {α : Type} {w : World} {l1 l2 : List α} {i : Value} {wr : World} (k : Nat) (h1 : i = .int .i64 k) (h2 : k ≤ l1.length) (h3 : ∃ q, wr = w.drewN q) (h4 : l1.take k = l2.take k) : RelQ w l1 l2 i wr := ⟨k, h1, h2, h3, h4⟩
def RvC (N : Nat) : Prop := ∀ (w : World) (l1 l2 : List VT) (v1 v2 : Value), szL l1 < N → VM w v1 l1 → VM w v2 l2 → Calls Tryz.prog 32 #[v1, v2] w fun e w' => e = .returned (.bool (eqP (l1 = l2))) ∧ ∃ q, w' = w.drewN q
set_option maxRecDepth 100000 in
set_option maxHeartbeats 2500000 in
theorem rv_step (N : Nat) (hS : RvC N) : RvC (N + 1) := by
  intro w l1 l2 v1 v2 hN h1 h2
  obtain ⟨a1, c1, rfl, hl1⟩ := h1.shape
  obtain ⟨a2, c2, rfl, hl2⟩ := h2.shape
  by_cases hlen : l1.length = l2.length
  case neg =>
    have F := hide (show eqP (l1 = l2) = false from eqP_f (fun h => hlen (by rw [h])))
    have g1 : ¬ (l1.length : Int) = l2.length := by omega
    have g2 : ((l1.length : Int) == l2.length) = false := by simpa using g1
    clear h1 h2 hS hlen
    go_enter Tryz.func32, Tryz.ntmps32
    go_wp2
    go_ret
    exact ⟨ret_bool F.out.symm, 0, rfl⟩
  have H1 := hide h1
  have H2 := hide h2
  have HS := hide hS
  obtain ⟨n, hn⟩ : ∃ n, l1.length = n := ⟨_, rfl⟩
  have hn2 : l2.length = n := hlen.symm.trans hn
  have L1 := hide hn
  have L2 := hide hn2
  rw [hn] at hl1
  rw [hn, hn2]
  clear h1 h2 hS hn hn2 hlen hl2
  go_enter Tryz.func32, Tryz.ntmps32
  go_wp2
  go_loopw [13] (fun i wr => RelQ w l1 l2 i wr) (fun i _ => n - (intOf i).toNat)
  case atStart => exact .mk 0 rfl (Nat.zero_le _) ⟨0, rfl⟩ rfl
  case round =>
    obtain ⟨k, rfl, hk, ⟨q, hq⟩, R⟩ := hrel
    rw [L1.out] at hk
    have HQ := hide hq
    have V1 := hide (show VM wr (.slice a1 l1.length c1) l1 by rw [hq]; exact H1.out.drew q)
    have V2 := hide (show VM wr (.slice a2 l2.length c2) l2 by rw [hq]; exact H2.out.drew q)
    clear hq
    by_cases hlt : k < n
    · obtain ⟨x, hx⟩ : ∃ x, l1[k]? = some x := ⟨_, List.getElem?_eq_getElem (by rw [L1.out]; exact hlt)⟩
      obtain ⟨y, hy⟩ : ∃ y, l2[k]? = some y := ⟨_, List.getElem?_eq_getElem (by rw [L2.out]; exact hlt)⟩
      have hlt' : (k : Int) < n := by omega
      obtain ⟨b1, o1, c1', u1, hv1, hb1, t1, hu1, hk1⟩ := V1.out.at hx
      obtain ⟨b2, o2, c2', u2, hv2, hb2, t2, hu2, hk2⟩ := V2.out.at hy
      obtain ⟨rfl, rfl⟩ : a1 = some ⟨b1, o1, none⟩ ∧ c1 = c1' := by cases hv1; exact ⟨rfl, rfl⟩
      obtain ⟨rfl, rfl⟩ : a2 = some ⟨b2, o2, none⟩ ∧ c2 = c2' := by cases hv2; exact ⟨rfl, rfl⟩
      obtain ⟨x0, x1, x2, x3, x4, x5⟩ := t1
      obtain ⟨y0, y1, y2, y3, y4, y5⟩ := t2
      have CQ := hide (fun (m : Nat) => HS.out (wr.drewN m) x.ks y.ks u1 u2 (by have := sz_at hx; omega) (hk1.drew m) (hk2.drew m))
      obtain ⟨p1, p2, hp1, _⟩ := hk1.shape
      obtain ⟨p3, p4, hp2, _⟩ := hk2.shape
      subst hp1 hp2
      have ST := hide (fun (e : x = y) => take_more R.out hx hy e)
      have NQ := hide (fun (e : ¬ x = y) => ne_at hx hy e)
      clear hx hy R hv1 hv2 hk1 hk2
      obtain ⟨t, ks⟩ := x
      obtain ⟨u, ls⟩ := y
      simp only [VT.t, VT.ks] at x0 x1 x2 x3 x4 x5 y0 y1 y2 y3 y4 y5 CQ hu1 hu2
      have EQ := hide (show (VT.mk t ks = VT.mk u ls) ↔ (t = u ∧ ks = ls) by simp)
      rcases tok_cases t u with rfl | ⟨ne, hc⟩
      · by_cases hks : ks = ls
        · have TM := hide (ST.out (EQ.out.2 ⟨rfl, hks⟩))
          have Q := hide (eqP_t hks)
          rw [Q.out] at CQ
          clear ST NQ EQ hks
          go_wp2
          go_quiet (first | (go_at_call 32; exact Calls.quiet_of (CQ.out _)))
          go_wp2
          go_roundw
          case rel => exact .mk (k + 1) (by go_num) (by rw [L1.out]; omega) ⟨_, by rw [HQ.out]; exact World.drewN_drewN _ _ _⟩ TM.out
          case measure => simp [intOf]; omega
        · have F := hide (eqP_f (NQ.out (fun h => hks (EQ.out.1 h).2)))
          have Q := hide (eqP_f hks)
          rw [Q.out] at CQ
          clear ST NQ EQ hks
          go_wp2
          go_quiet (first | (go_at_call 32; exact Calls.quiet_of (CQ.out _)))
          go_wp2
          go_ret
          exact ⟨ret_bool F.out.symm, _, by rw [HQ.out]; exact World.drewN_drewN _ _ _⟩
      · have F := hide (eqP_f (NQ.out (fun h => ne (EQ.out.1 h).1)))
        clear EQ ne ST NQ CQ
        obtain ⟨kk, s, nn, d, i, h⟩ := t
        obtain ⟨k', s', n', d', i', h'⟩ := u
        simp only at hc x0 x1 x2 x3 x4 x5 y0 y1 y2 y3 y4 y5
        rcases hc with e1 | ⟨rfl, e2⟩ | ⟨rfl, rfl, e3⟩ | ⟨rfl, rfl, rfl, e4⟩ | ⟨rfl, rfl, rfl, rfl, e5⟩ | ⟨rfl, rfl, rfl, rfl, rfl, e6⟩
        · have g1 : (kk == k') = false := by simpa using e1
          go_wp2
          go_quiet (fail)
          go_wp2
          go_ret
          exact ⟨ret_bool F.out.symm, _, by rw [HQ.out]; exact World.drewN_drewN _ _ _⟩
        · have g1 : ¬ s.toList = s'.toList := by simpa using e2
          go_wp2
          go_quiet (fail)
          go_wp2
          go_ret
          exact ⟨ret_bool F.out.symm, _, by rw [HQ.out]; exact World.drewN_drewN _ _ _⟩
        · have g1 : (nn == n') = false := by simpa using e3
          go_wp2
          go_quiet (fail)
          go_wp2
          go_ret
          exact ⟨ret_bool F.out.symm, _, by rw [HQ.out]; exact World.drewN_drewN _ _ _⟩
        · have g1 : (d == d') = false := by simpa using e4
          go_wp2
          go_quiet (fail)
          go_wp2
          go_ret
          exact ⟨ret_bool F.out.symm, _, by rw [HQ.out]; exact World.drewN_drewN _ _ _⟩
        · subst e5
          cases i'
          all_goals
            go_wp2
            go_quiet (fail)
            go_wp2
            go_ret
            exact ⟨ret_bool F.out.symm, _, by rw [HQ.out]; exact World.drewN_drewN _ _ _⟩
        · subst e6
          cases h'
          all_goals
            go_wp2
            go_quiet (fail)
            go_wp2
            go_ret
            exact ⟨ret_bool F.out.symm, _, by rw [HQ.out]; exact World.drewN_drewN _ _ _⟩
    · have hlt' : ¬ (k : Int) < n := by omega
      have F := hide (eqP_t (show l1 = l2 by have h := R.out; rwa [List.take_of_length_le (by rw [L1.out]; omega), List.take_of_length_le (by rw [L2.out]; omega)] at h))
      go_wp2
      go_ret
      exact ⟨ret_bool F.out.symm, _, HQ.out⟩
theorem rv_all (N : Nat) : RvC N := by
  induction N with
  | zero => intro w l1 l2 v1 v2 hN; omega
  | succ N ih => exact rv_step N ih
theorem sameVR_any (w : World) (l1 l2 : List VT) (v1 v2 : Value) (h1 : VM w v1 l1) (h2 : VM w v2 l2) : Calls Tryz.prog 32 #[v1, v2] w fun e w' => e = .returned (.bool (eqP (l1 = l2))) ∧ ∃ q, w' = w.drewN q :=
  rv_all (szL l1 + 1) w l1 l2 v1 v2 (by omega) h1 h2
end Go.Proofs.YtbdacepomdlcbaaGreatDoor
