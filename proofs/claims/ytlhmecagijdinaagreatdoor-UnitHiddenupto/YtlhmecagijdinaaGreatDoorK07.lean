/-
  Two forms held against each other: what is asked.
  Two forms held against each other, by the program.
  Two parts held against each other, by the program.
  Are two forms the same: by the program.
  Are two forms the same: by the reference.
-/
import Derived.Test.YtlhmecagijdinaaGreatDoorMNoB
import Derived.Test.YtlhmecagijdinaaGreatDoorH01
import Derived.Deep.RegionHeld3
import Derived.Deep.RegionWith
import Derived.Deep.DeepCutAuto
set_option linter.unusedVariables false
set_option linter.unusedSimpArgs false
namespace Go.Proofs.YtlhmecagijdinaaGreatDoor.nm
open Go.RowKit
def RelA2 {α : Type} (W : World) (f : α → α → Bool) (x y : List α) (i : Value) (wr : World) : Prop := ∃ k : Nat, i = .int .i64 k ∧ k ≤ x.length ∧ Below W.heap.size W wr ∧ Hid (al2 f x y = al2 f (x.drop k) (y.drop k))
theorem RelA2.mk {α : Type} {W : World} {f : α → α → Bool} {x y : List α} {i : Value} {wr : World} (k : Nat) (h1 : i = .int .i64 k) (h2 : k ≤ x.length) (h3 : Below W.heap.size W wr) (h4 : al2 f x y = al2 f (x.drop k) (y.drop k)) : RelA2 W f x y i wr := ⟨k, h1, h2, h3, h4⟩
theorem al2_end {α : Type} {f : α → α → Bool} {x y : List α} {k : Nat} (h : al2 f x y = al2 f (x.drop k) (y.drop k)) (h1 : x.length ≤ k) (h2 : y.length ≤ k) : al2 f x y = true := by rw [h, List.drop_of_length_le h1, List.drop_of_length_le h2]; rfl
theorem bxk_2n {w : World} {b : Nat} {u0 u1 : Value} {T : TypeId} (h : w.heap[b]? = some (.cells #[u0, u1] T)) : w.cell? ⟨b, 0, none⟩ = some u0 ∧ w.cell? ⟨b, 1, none⟩ = some u1 :=
  ⟨by rw [row_blk h]; rfl, by rw [row_blk h]; rfl⟩
theorem two_newC (w : World) (A B : Obj) : ((w.alloc A).alloc B).heap[w.heap.size]? = some A ∧ ((w.alloc A).alloc B).heap[w.heap.size + 1]? = some B := by
  refine ⟨((bplus (Below.refl (w.alloc A).heap.size (w.alloc A)) B).block _ (by simp)).trans (heap_alloc_new w A), ?_⟩
  have := heap_alloc_new (w.alloc A) B
  rwa [show (w.alloc A).heap.size = w.heap.size + 1 by simp] at this
end Go.Proofs.YtlhmecagijdinaaGreatDoor.nm
set_option linter.unusedVariables false
set_option linter.unusedSimpArgs false
namespace Go.Proofs.YtlhmecagijdinaaGreatDoor.nm
open Go.RowKit
theorem saF_eq (n : Nat) (us vs : List (Int × Int)) (ps qs : List Pa) : saF n (.mk us ps) (.mk vs qs) = (eq7 us vs && al2 (saP n) ps qs) := rfl
end Go.Proofs.YtlhmecagijdinaaGreatDoor.nm
set_option linter.unusedVariables false
set_option linter.unusedSimpArgs false
namespace Go.Proofs.YtlhmecagijdinaaGreatDoor.nm
open Go.RowKit
theorem saP_eq (n : Nat) (a b : Bool) (x y : List Fo) : saP n (a, x) (b, y) = ((a == b) && saX n x y) := rfl
end Go.Proofs.YtlhmecagijdinaaGreatDoor.nm
set_option linter.unusedVariables false
set_option linter.unusedSimpArgs false
namespace Go.Proofs.YtlhmecagijdinaaGreatDoor.nm
open Go.RowKit
end Go.Proofs.YtlhmecagijdinaaGreatDoor.nm
set_option linter.unusedVariables false
set_option linter.unusedSimpArgs false
namespace Go.Proofs.YtlhmecagijdinaaGreatDoor.nm
open Go.RowKit

def SaR (n : Nat) : Prop := ∀ (us vs : List (Int × Int)) (ps qs : List Pa) (u v : Value) (w : World), Us us → Us vs → PM w n u ps → (∃ m, PM w m v qs) →
    Calls Tryz.prog 10 #[foV us u, foV vs v] w fun e w' => e = .returned (.bool (saF n (.mk us ps) (.mk vs qs))) ∧ Below w.heap.size w w'
/-- Two parts in blocks of their own. -/
def RelPQ (W1 : World) (A B : Obj) (x y : Value) (wx : World) : Prop := ∃ bp bq : Nat, x = .pointer (some ⟨bp, 0, none⟩) ∧ y = .pointer (some ⟨bq, 0, none⟩) ∧ Hid (wx.heap[bp]? = some A ∧ wx.heap[bq]? = some B ∧ Below W1.heap.size W1 wx)
theorem RelPQ.mk {W1 : World} {A B : Obj} {x y : Value} {wx : World} (bp bq : Nat) (h1 : x = .pointer (some ⟨bp, 0, none⟩)) (h2 : y = .pointer (some ⟨bq, 0, none⟩)) (h3 : wx.heap[bp]? = some A) (h4 : wx.heap[bq]? = some B) (h5 : Below W1.heap.size W1 wx) : RelPQ W1 A B x y wx := ⟨bp, bq, h1, h2, h3, h4, h5⟩
set_option maxRecDepth 100000 in
set_option maxHeartbeats 12000000 in
theorem sameR_of (n : Nat) (IH : ∀ m, n = m + 1 → SaR m) : SaR n := by
  intro us vs ps qs u v w hus hvs hu hv
  obtain ⟨mv, hv⟩ := hv
  obtain ⟨ua, uc, rfl, hx9⟩ := hu.shape
  obtain ⟨va, vc, rfl, hy9⟩ := hv.shape
  have HU := hide hu
  have HV := hide hv
  replace IH := hide IH
  have E := hide (saF_eq n us vs ps qs)
  obtain ⟨r, hr⟩ : ∃ r, saF n (.mk us ps) (.mk vs qs) = r := ⟨_, rfl⟩
  rw [hr] at E ⊢
  clear hr hu hv
  obtain ⟨n0, d0, n1, d1, n2, d2, n3, d3, n4, d4, n5, d5, n6, d6, rfl⟩ := us7 hus
  obtain ⟨m0, e0, m1, e1, m2, e2, m3, e3, m4, e4, m5, e5, m6, e6, rfl⟩ := us7 hvs
  rw [foV_eq, foV_eq]
  have BB := hide (bplus (bplus (Below.refl w.heap.size w) (.cells #[.int .i64 n0, .int .i64 d0, .int .i64 n1, .int .i64 d1, .int .i64 n2, .int .i64 d2, .int .i64 n3, .int .i64 d3, .int .i64 n4, .int .i64 d4, .int .i64 n5, .int .i64 d5, .int .i64 n6, .int .i64 d6, .slice ua ps.length uc] 30)) (.cells #[.int .i64 m0, .int .i64 e0, .int .i64 m1, .int .i64 e1, .int .i64 m2, .int .i64 e2, .int .i64 m3, .int .i64 e3, .int .i64 m4, .int .i64 e4, .int .i64 m5, .int .i64 e5, .int .i64 m6, .int .i64 e6, .slice va qs.length vc] 30))
  obtain ⟨e7, he7⟩ : ∃ e7, eq7 [(n0, d0), (n1, d1), (n2, d2), (n3, d3), (n4, d4), (n5, d5), (n6, d6)] [(m0, e0), (m1, e1), (m2, e2), (m3, e3), (m4, e4), (m5, e5), (m6, e6)] = e7 := ⟨_, rfl⟩
  rw [he7] at E
  cases e7
  · have F := hide (show r = false by rw [E.out]; rfl)
    clear E IH HU HV hus hvs
    go_enter Tryz.func10, Tryz.ntmps10
    go_wp2
    go_ret
    exact ⟨ret_bool F.out.symm, BB.out⟩
  replace E := hide (show r = al2 (saP n) ps qs by rw [E.out]; rfl)
  by_cases hl : ps.length = qs.length
  case neg =>
    have F := hide (show r = false by rw [E.out, al2_len hl])
    have h1 : ((ps.length : Int) != qs.length) = true := by rw [bne_iff_ne]; omega
    have h2 : ¬ (ps.length : Int) = qs.length := by omega
    have h3 : ((ps.length : Int) == qs.length) = false := by rw [beq_eq_false_iff_ne]; omega
    clear E IH HU HV hus hvs
    go_enter Tryz.func10, Tryz.ntmps10
    go_wp2
    all_goals
      go_ret
      exact ⟨ret_bool F.out.symm, BB.out⟩
  have HL := hide hl
  rw [← hl]
  obtain ⟨W1, hW1⟩ : ∃ W1, (w.alloc (.cells #[.int .i64 n0, .int .i64 d0, .int .i64 n1, .int .i64 d1, .int .i64 n2, .int .i64 d2, .int .i64 n3, .int .i64 d3, .int .i64 n4, .int .i64 d4, .int .i64 n5, .int .i64 d5, .int .i64 n6, .int .i64 d6, .slice ua ps.length uc] 30)).alloc (.cells #[.int .i64 m0, .int .i64 e0, .int .i64 m1, .int .i64 e1, .int .i64 m2, .int .i64 e2, .int .i64 m3, .int .i64 e3, .int .i64 m4, .int .i64 e4, .int .i64 m5, .int .i64 e5, .int .i64 m6, .int .i64 e6, .slice va ps.length vc] 30) = W1 := ⟨_, rfl⟩
  have B0 := hide (show Below w.heap.size w W1 by rw [← hW1]; exact bplus (bplus (Below.refl _ _) _) _)
  have P0 := hide (show W1.heap[w.heap.size]? = some (.cells #[.int .i64 n0, .int .i64 d0, .int .i64 n1, .int .i64 d1, .int .i64 n2, .int .i64 d2, .int .i64 n3, .int .i64 d3, .int .i64 n4, .int .i64 d4, .int .i64 n5, .int .i64 d5, .int .i64 n6, .int .i64 d6, .slice ua ps.length uc] 30) by rw [← hW1]; exact (two_newC w _ _).1)
  have P1 := hide (show W1.heap[w.heap.size + 1]? = some (.cells #[.int .i64 m0, .int .i64 e0, .int .i64 m1, .int .i64 e1, .int .i64 m2, .int .i64 e2, .int .i64 m3, .int .i64 e3, .int .i64 m4, .int .i64 e4, .int .i64 m5, .int .i64 e5, .int .i64 m6, .int .i64 e6, .slice va ps.length vc] 30) by rw [← hW1]; exact (two_newC w _ _).2)
  have hs1 : w.heap.size + 1 < W1.heap.size := by rw [← hW1]; simp
  have HW1 := hide hW1
  obtain ⟨-, p1⟩ := bxk_15 P0.out
  obtain ⟨-, p3⟩ := bxk_15 P1.out
  replace p1 := hide p1
  replace p3 := hide p3
  clear hW1 BB hl hus hvs
  go_enter Tryz.func10, Tryz.ntmps10
  go_wp2
  rw [HW1.out]
  clear HW1
  go_loopw [26] (fun i wr => RelA2 W1 (saP n) ps qs i wr) (fun i _ => ps.length - (intOf i).toNat)
  case atStart => exact .mk 0 rfl (by omega) (Below.refl _ _) rfl
  case round =>
    obtain ⟨k, rfl, hk, BE, R⟩ := hrel
    replace BE := hide BE
    by_cases hlt : k < ps.length
    · obtain ⟨s, hs⟩ : ∃ s, ps[k]? = some s := ⟨_, List.getElem?_eq_getElem hlt⟩
      obtain ⟨t, ht⟩ : ∃ t, qs[k]? = some t := ⟨_, List.getElem?_eq_getElem (by have := HL.out; omega)⟩
      obtain ⟨b2, o2, c2, u2, hv2, hb2, hc2, hc29, q0, q1, hu2⟩ := HU.out.at hs
      obtain ⟨b3, o3, c3, u3, hv3, hb3, hc3, hc39, t0, t1, hu3⟩ := HV.out.at ht
      obtain ⟨rfl, rfl⟩ : ua = some ⟨b2, o2, none⟩ ∧ uc = c2 := by cases hv2; exact ⟨rfl, rfl⟩
      obtain ⟨rfl, rfl⟩ : va = some ⟨b3, o3, none⟩ ∧ vc = c3 := by cases hv3; exact ⟨rfl, rfl⟩
      have hlt' : (k : Int) < ps.length := by omega
      have k1 := (BE.out.cell (p := ⟨w.heap.size, 14, none⟩) (show w.heap.size < W1.heap.size by omega)).trans p1.out
      have k3 := (BE.out.cell (p := ⟨w.heap.size + 1, 14, none⟩) hs1).trans p3.out
      have hb2' : b2 < W1.heap.size := by omega
      have hb3' : b3 < W1.heap.size := by omega
      have f0 := (BE.out.cell (p := ⟨b2, o2 + k * 2, none⟩) hb2').trans ((B0.out.cell (p := ⟨b2, o2 + k * 2, none⟩) hb2).trans q0)
      have f1 := (BE.out.cell (p := ⟨b2, o2 + k * 2 + 1, none⟩) hb2').trans ((B0.out.cell (p := ⟨b2, o2 + k * 2 + 1, none⟩) hb2).trans q1)
      have g0 := (BE.out.cell (p := ⟨b3, o3 + k * 2, none⟩) hb3').trans ((B0.out.cell (p := ⟨b3, o3 + k * 2, none⟩) hb3).trans t0)
      have g1 := (BE.out.cell (p := ⟨b3, o3 + k * 2 + 1, none⟩) hb3').trans ((B0.out.cell (p := ⟨b3, o3 + k * 2 + 1, none⟩) hb3).trans t1)
      have hsz := BE.out.size
      have x1 : b2 < wr.heap.size := by omega
      have x2 : b2 ≠ wr.heap.size := by omega
      have x3 : b3 < wr.heap.size := by omega
      have x4 : b3 ≠ wr.heap.size := by omega
      have x5 : w.heap.size < wr.heap.size := by omega
      have x6 : w.heap.size ≠ wr.heap.size := by omega
      have x7 : w.heap.size + 1 < wr.heap.size := by omega
      have x8 : w.heap.size + 1 ≠ wr.heap.size := by omega
      have R2 := hide (show r = (saP n s t && al2 (saP n) (ps.drop (k + 1)) (qs.drop (k + 1))) by rw [E.out, R.out, al2_drop hs ht])
      have HU2 := hide hu2
      have HU3 := hide hu3
      obtain ⟨pa, px⟩ := s
      obtain ⟨qa, qx⟩ := t
      simp only at f0 f1 g0 g1 HU2 HU3
      obtain ⟨u2a, u2c, hu2s, hpx9⟩ := HU2.out.shape
      obtain ⟨u3a, u3c, hu3s, hqx9⟩ := HU3.out.shape
      subst hu2s hu3s
      rw [saP_eq] at R2
      clear hv2 hv3 hs ht hu2 hu3 q0 t0 q1 t1 R hsz
      go_wp2_with fail
      go_cut [6, 7] from 27 to 72 (fun x y wx => RelPQ W1 (.cells #[.bool pa, .slice u2a px.length u2c] 60) (.cells #[.bool qa, .slice u3a qx.length u3c] 60) x y wx)
      case first =>
        clear R2 HU2 HU3
        go_region
        · go_wp2_with fail
          go_meet
          case rel => exact .mk wr.heap.size (wr.heap.size + 1) rfl rfl (two_newC wr _ _).1 (two_newC wr _ _).2 (bplus (bplus BE.out _) _).drew
        · go_wp2_with fail
          go_meet
          case rel => exact .mk (wr.heap.size + 1) wr.heap.size rfl rfl (two_newC wr _ _).2 (two_newC wr _ _).1 (bplus (bplus BE.out _) _).drew
      case rest =>
        obtain ⟨bp, bq, rfl, rfl, HC⟩ := hcut
        have BC := hide (bto B0.out HC.out.2.2)
        have D0 := hide HC.out.1
        have D1 := hide HC.out.2.1
        have BD := hide HC.out.2.2
        have hbp : bp < wc.heap.size := (Array.getElem?_eq_some_iff.1 D0.out).1
        have hbq : bq < wc.heap.size := (Array.getElem?_eq_some_iff.1 D1.out).1
        obtain ⟨y0, y1⟩ := bxk_2n D0.out
        obtain ⟨y2, y3⟩ := bxk_2n D1.out
        clear HC BE k1 k3 f0 f1 g0 g1 x1 x2 x3 x4 x5 x6 x7 x8
        by_cases hab : pa = qa
        case neg =>
          have F := hide (show r = false by rw [R2.out, show (pa == qa) = false by simpa using hab]; rfl)
          clear R2 E IH HU HV HU2 HU3
          cases pa <;> cases qa
          all_goals (first | (exact absurd rfl hab) | skip)
          all_goals
            clear hab
            go_wp2
            go_ret
            exact ⟨ret_bool F.out.symm, BC.out⟩
        subst hab
        by_cases hpl : px.length = qx.length
        case neg =>
          have F := hide (show r = false by rw [R2.out, saX_len hpl, Bool.and_false, Bool.false_and])
          have h1 : ((px.length : Int) != qx.length) = true := by rw [bne_iff_ne]; omega
          have h2 : ¬ (px.length : Int) = qx.length := by omega
          have h3 : ((px.length : Int) == qx.length) = false := by rw [beq_eq_false_iff_ne]; omega
          clear R2 E IH HU HV HU2 HU3
          go_wp2
          all_goals
            go_ret
            exact ⟨ret_bool F.out.symm, BC.out⟩
        have HPL := hide hpl
        rw [← hpl] at y3
        rw [← hpl] at D1
        obtain ⟨f, hf⟩ : ∃ f : Fo → Fo → Bool, ∀ m, n = m + 1 → f = saF m := ⟨saF (n - 1), fun m h => by subst h; rfl⟩
        have HF := hide hf
        have E4 := hide (show saX n px qx = al2 f px qx by
          cases n with
          | zero =>
            obtain ⟨rfl, -⟩ := HU2.out
            have : qx = [] := List.eq_nil_of_length_eq_zero (HPL.out.symm.trans rfl)
            subst this
            rfl
          | succ m => rw [saX_succ, HF.out m rfl])
        replace R2 := hide (show r = (al2 f px qx && al2 (saP n) (ps.drop (k + 1)) (qs.drop (k + 1))) by rw [R2.out, E4.out]; simp)
        clear hf E4 hpl
        go_wp2
        go_loopw [56] (fun i wr => RelA2 wc f px qx i wr) (fun i _ => px.length - (intOf i).toNat)
        case atStart => exact .mk 0 rfl (by omega) (Below.refl _ _) rfl
        case round =>
          clear y0 y1 y2 y3
          obtain ⟨k2, rfl, hk2, BE, R⟩ := hrel
          replace BE := hide BE
          by_cases hlt2 : k2 < px.length
          · obtain ⟨s, hs⟩ : ∃ s, px[k2]? = some s := ⟨_, List.getElem?_eq_getElem hlt2⟩
            obtain ⟨t, ht⟩ : ∃ t, qx[k2]? = some t := ⟨_, List.getElem?_eq_getElem (by have := HPL.out; omega)⟩
            obtain ⟨m, hm, b4, o4, c4, u4, hv4, hb4, hc4, hc49, q0, q1, hu4⟩ := HU2.out.at hs
            obtain ⟨m', hm', b5, o5, c5, u5, hv5, hb5, hc5, hc59, t0, t1, hu5⟩ := HU3.out.at ht
            obtain ⟨rfl, rfl⟩ : u2a = some ⟨b4, o4, none⟩ ∧ u2c = c4 := by cases hv4; exact ⟨rfl, rfl⟩
            obtain ⟨rfl, rfl⟩ : u3a = some ⟨b5, o5, none⟩ ∧ u3c = c5 := by cases hv5; exact ⟨rfl, rfl⟩
            have hlt2' : (k2 : Int) < px.length := by omega
            have y1 := (bxk_2n ((BE.out.block _ hbp).trans D0.out)).2
            have y3 := (bxk_2n ((BE.out.block _ hbq).trans D1.out)).2
            have BX := hide (show Below w.heap.size w wc from BC.out)
            have hb4' : b4 < wc.heap.size := by have := BC.out.size; omega
            have hb5' : b5 < wc.heap.size := by have := BC.out.size; omega
            have f14 := (BE.out.cell (p := ⟨b4, o4 + k2 * 15 + 14, none⟩) hb4').trans ((BC.out.cell (p := ⟨b4, o4 + k2 * 15 + 14, none⟩) hb4).trans q1)
            have g14 := (BE.out.cell (p := ⟨b5, o5 + k2 * 15 + 14, none⟩) hb5').trans ((BC.out.cell (p := ⟨b5, o5 + k2 * 15 + 14, none⟩) hb5).trans t1)
            have R3 := hide (show al2 f px qx = (saF m s t && al2 f (px.drop (k2 + 1)) (qx.drop (k2 + 1))) by rw [R.out, al2_drop hs ht, congrFun (congrFun (HF.out m hm) s) t])
            obtain ⟨sus, sps⟩ := s
            obtain ⟨tus, tps⟩ := t
            simp only [Fo.us, Fo.ps] at q0 t0 hu4 hu5
            obtain ⟨xa, xc, hxs, hx9'⟩ := hu4.shape
            obtain ⟨ya, yc, hys, hy9'⟩ := hu5.shape
            subst hxs hys
            have QU := hide q0.1
            have TU := hide t0.1
            have CI := hide (fun (W : World) (h : Below wc.heap.size wc W) => IH.out m hm sus tus sps tps (.slice xa sps.length xc) (.slice ya tps.length yc) W QU.out TU.out (hu4.low (bto BC.out h)) ⟨m', hu5.low (bto BC.out h)⟩)
            clear E he7 P0 P1 p1 p3
            obtain ⟨xn0, xd0, xn1, xd1, xn2, xd2, xn3, xd3, xn4, xd4, xn5, xd5, xn6, xd6, rfl⟩ := us7 QU.out
            obtain ⟨ym0, ye0, ym1, ye1, ym2, ye2, ym3, ye3, ym4, ye4, ym5, ye5, ym6, ye6, rfl⟩ := us7 TU.out
            rw [foV_eq, foV_eq] at CI
            obtain ⟨f0, f1, f2, f3, f4, f5, f6, f7, f8, f9, f10, f11, f12, f13⟩ := ((q0.below BC.out hb4).below BE.out hb4').fa
            obtain ⟨g0, g1, g2, g3, g4, g5, g6, g7, g8, g9, g10, g11, g12, g13⟩ := ((t0.below BC.out hb5).below BE.out hb5').fa
            clear hv4 hv5 hs ht q0 t0 q1 t1 hu4 hu5 hm hm'
            cases hmx : saF m (.mk [(xn0, xd0), (xn1, xd1), (xn2, xd2), (xn3, xd3), (xn4, xd4), (xn5, xd5), (xn6, xd6)] sps) (.mk [(ym0, ye0), (ym1, ye1), (ym2, ye2), (ym3, ye3), (ym4, ye4), (ym5, ye5), (ym6, ye6)] tps)
            · have F := hide (show r = false by rw [R2.out, R3.out, hmx]; rfl)
              rw [hmx] at CI
              clear hmx R R2 R3
              go_wp2
              go_region_with ((go_at_call 10; refine (CI.out _ BE.out.drew).mono ?_; rintro e w4 ⟨rfl, B4⟩; replace B4 := hide (bto BE.out.drew B4)))
              all_goals (go_wp2_with fail; go_ret; exact ⟨ret_bool F.out.symm, bto BC.out B4.out⟩)
            · have R5 := hide (show al2 f px qx = al2 f (px.drop (k2 + 1)) (qx.drop (k2 + 1)) by rw [R3.out, hmx]; rfl)
              rw [hmx] at CI
              clear hmx R R3
              go_wp2
              go_region_with ((go_at_call 10; refine (CI.out _ BE.out.drew).mono ?_; rintro e w4 ⟨rfl, B4⟩; replace B4 := hide (bto BE.out.drew B4)))
              all_goals
                go_wp2_with fail
                go_roundw
                case rel => exact .mk (k2 + 1) (by go_num) (by omega) B4.out R5.out
                case measure => simp [intOf]; omega
          · have hlt2' : ¬ (k2 : Int) < px.length := by omega
            have R5 := hide (show al2 (saP n) ps qs = al2 (saP n) (ps.drop (k + 1)) (qs.drop (k + 1)) by
              rw [← E.out, R2.out, al2_end R.out (by omega) (by have := HPL.out; omega)]; rfl)
            have B5 := hide (bto BD.out BE.out)
            clear R R2
            go_wp2
            go_roundw
            case rel => exact .mk (k + 1) (by go_num) (by omega) B5.out R5.out
            case measure => simp [intOf]; omega
    · have hlt' : ¬ (k : Int) < ps.length := by omega
      have F := hide (show r = true by rw [E.out]; exact al2_end R.out (by omega) (by have := HL.out; omega))
      clear R
      go_wp2
      go_ret
      exact ⟨ret_bool F.out.symm, bto B0.out BE.out⟩
theorem saR_all (n : Nat) : SaR n := by
  induction n with
  | zero => exact sameR_of 0 (fun m hm => by omega)
  | succ n ih => exact sameR_of (n + 1) (fun m hm => by have e : m = n := (by omega); subst e; exact ih)
end Go.Proofs.YtlhmecagijdinaaGreatDoor.nm
