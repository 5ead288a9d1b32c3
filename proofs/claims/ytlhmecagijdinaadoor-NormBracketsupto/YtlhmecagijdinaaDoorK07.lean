/-
  Two forms held against each other: what is asked.
  Two forms held against each other, by the program.
  Two parts held against each other, by the program.
  Are two forms the same: by the program.
  Are two forms the same: by the reference.
-/
import Derived.Test.YtlhmecagijdinaaDoorMNoB
import Derived.Test.YtlhmecagijdinaaDoorH01
import Derived.Deep.RegionHeld3
import Derived.Deep.RegionWith
import Derived.Deep.DeepCutAuto
set_option linter.unusedVariables false
set_option linter.unusedSimpArgs false
namespace Go.Proofs.YtlhmecagijdinaaDoor.nm
open Go.RowKit
def RelA2 {α : Type} (W : World) (f : α → α → Bool) (x y : List α) (i : Value) (wr : World) : Prop := ∃ k : Nat, i = .int .i64 k ∧ k ≤ x.length ∧ Below W.heap.size W wr ∧ Hid (al2 f x y = al2 f (x.drop k) (y.drop k))
theorem RelA2.mk {α : Type} {W : World} {f : α → α → Bool} {x y : List α} {i : Value} {wr : World} (k : Nat) (h1 : i = .int .i64 k) (h2 : k ≤ x.length) (h3 : Below W.heap.size W wr) (h4 : al2 f x y = al2 f (x.drop k) (y.drop k)) : RelA2 W f x y i wr := ⟨k, h1, h2, h3, h4⟩
theorem al2_end {α : Type} {f : α → α → Bool} {x y : List α} {k : Nat} (h : al2 f x y = al2 f (x.drop k) (y.drop k)) (h1 : x.length ≤ k) (h2 : y.length ≤ k) : al2 f x y = true := by rw [h, List.drop_of_length_le h1, List.drop_of_length_le h2]; rfl
theorem bxk_2n {w : World} {b : Nat} {u0 u1 : Value} {T : TypeId} (h : w.heap[b]? = some (.cells #[u0, u1] T)) : w.cell? ⟨b, 0, none⟩ = some u0 ∧ w.cell? ⟨b, 1, none⟩ = some u1 :=
  ⟨by rw [row_blk h]; rfl, by rw [row_blk h]; rfl⟩
theorem two_newC (w : World) (A B : Obj) : ((w.alloc A).alloc B).heap[w.heap.size]? = some A ∧ ((w.alloc A).alloc B).heap[w.heap.size + 1]? = some B := by
  refine ⟨((bplus (Below.refl (w.alloc A).heap.size (w.alloc A)) B).block _ (by simp)).trans (heap_alloc_new w A), ?_⟩
  have := heap_alloc_new (w.alloc A) B
  rwa [show (w.alloc A).heap.size = w.heap.size + 1 by simp] at this
/-- Parts, held against each other. -/
def SaP (n : Nat) : Prop := ∀ (p q : Pa) (j : Nat) (u v : Value) (w : World), n + j ≤ 65537 → FM w n u p.2 → (∃ m, FM w m v q.2) →
    Calls Tryd.prog 37 #[.agg #[.bool p.1, u], .agg #[.bool q.1, v], .int .i64 j] w fun e w' => e = .returned (.bool (saP n p q)) ∧ Below w.heap.size w w'
def SaF (n : Nat) : Prop := ∀ (us vs : List (Int × Int)) (ps qs : List Pa) (j : Nat) (u v : Value) (w : World), n + j ≤ 65536 → Us us → Us vs → PM w n u ps → (∃ m, PM w m v qs) →
    Calls Tryd.prog 19 #[foV us u, foV vs v, .int .i64 j] w fun e w' => e = .returned (.bool (saF n (.mk us ps) (.mk vs qs))) ∧ Below w.heap.size w w'
end Go.Proofs.YtlhmecagijdinaaDoor.nm
set_option linter.unusedVariables false
set_option linter.unusedSimpArgs false
namespace Go.Proofs.YtlhmecagijdinaaDoor.nm
open Go.RowKit
theorem saF_eq (n : Nat) (us vs : List (Int × Int)) (ps qs : List Pa) : saF n (.mk us ps) (.mk vs qs) = (eq7 us vs && al2 (saP n) ps qs) := rfl
set_option maxRecDepth 100000 in
set_option maxHeartbeats 8000000 in
theorem sameAt_of (n : Nat) (IP : SaP n) : SaF n := by
  intro us vs ps qs j u v w hj hus hvs hu hv
  obtain ⟨mv, hv⟩ := hv
  obtain ⟨ua, uc, rfl, hx9⟩ := hu.shape
  obtain ⟨va, vc, rfl, hy9⟩ := hv.shape
  have HU := hide hu
  have HV := hide hv
  replace IP := hide IP
  have E := hide (saF_eq n us vs ps qs)
  obtain ⟨r, hr⟩ : ∃ r, saF n (.mk us ps) (.mk vs qs) = r := ⟨_, rfl⟩
  rw [hr] at E ⊢
  clear hr hu hv
  obtain ⟨n0, d0, n1, d1, n2, d2, n3, d3, n4, d4, n5, d5, n6, d6, rfl⟩ := us7 hus
  obtain ⟨m0, e0, m1, e1, m2, e2, m3, e3, m4, e4, m5, e5, m6, e6, rfl⟩ := us7 hvs
  rw [foV_eq, foV_eq]
  have hjj : ¬ (65536 : Int) < (j : Int) := by omega
  have hjk : (j : Int) ≤ 65536 := by omega
  have wj : IntKind.i64.wrap ((j : Int) + 1) = (j : Int) + 1 := by simp [IntKind.wrap, go_sem]; omega
  have BB := hide (bplus (bplus (Below.refl w.heap.size w) (.cells #[.int .i64 n0, .int .i64 d0, .int .i64 n1, .int .i64 d1, .int .i64 n2, .int .i64 d2, .int .i64 n3, .int .i64 d3, .int .i64 n4, .int .i64 d4, .int .i64 n5, .int .i64 d5, .int .i64 n6, .int .i64 d6, .slice ua ps.length uc] 30)) (.cells #[.int .i64 m0, .int .i64 e0, .int .i64 m1, .int .i64 e1, .int .i64 m2, .int .i64 e2, .int .i64 m3, .int .i64 e3, .int .i64 m4, .int .i64 e4, .int .i64 m5, .int .i64 e5, .int .i64 m6, .int .i64 e6, .slice va qs.length vc] 30))
  obtain ⟨e7, he7⟩ : ∃ e7, eq7 [(n0, d0), (n1, d1), (n2, d2), (n3, d3), (n4, d4), (n5, d5), (n6, d6)] [(m0, e0), (m1, e1), (m2, e2), (m3, e3), (m4, e4), (m5, e5), (m6, e6)] = e7 := ⟨_, rfl⟩
  rw [he7] at E
  cases e7
  · have F := hide (show r = false by rw [E.out]; rfl)
    clear E IP HU HV hus hvs
    go_enter Tryd.func19, Tryd.ntmps19
    go_wp2
    go_ret
    exact ⟨ret_bool F.out.symm, BB.out⟩
  replace E := hide (show r = al2 (saP n) ps qs by rw [E.out]; rfl)
  by_cases hl : ps.length = qs.length
  case neg =>
    have F := hide (show r = false by rw [E.out, al2_len hl])
    have h1 : ((ps.length : Int) != qs.length) = true := by rw [bne_iff_ne]; omega
    have h2 : ¬ (ps.length : Int) = qs.length := by omega
    have h3 : ((ps.length : Int) == qs.length) = false := by rw [beq_eq_false_iff_ne]; omega
    clear E IP HU HV hus hvs
    go_enter Tryd.func19, Tryd.ntmps19
    go_wp2
    all_goals
      go_ret
      exact ⟨ret_bool F.out.symm, BB.out⟩
  have HL := hide hl
  rw [← hl]
  obtain ⟨W1, hW1⟩ : ∃ W1, (w.alloc (.cells #[.int .i64 n0, .int .i64 d0, .int .i64 n1, .int .i64 d1, .int .i64 n2, .int .i64 d2, .int .i64 n3, .int .i64 d3, .int .i64 n4, .int .i64 d4, .int .i64 n5, .int .i64 d5, .int .i64 n6, .int .i64 d6, .slice ua ps.length uc] 30)).alloc (.cells #[.int .i64 m0, .int .i64 e0, .int .i64 m1, .int .i64 e1, .int .i64 m2, .int .i64 e2, .int .i64 m3, .int .i64 e3, .int .i64 m4, .int .i64 e4, .int .i64 m5, .int .i64 e5, .int .i64 m6, .int .i64 e6, .slice va ps.length vc] 30) = W1 := ⟨_, rfl⟩
  have B0 := hide (show Below w.heap.size w W1 by rw [← hW1]; exact bplus (bplus (Below.refl _ _) _) _)
  have P0 := hide (show W1.heap[w.heap.size]? = some (.cells #[.int .i64 n0, .int .i64 d0, .int .i64 n1, .int .i64 d1, .int .i64 n2, .int .i64 d2, .int .i64 n3, .int .i64 d3, .int .i64 n4, .int .i64 d4, .int .i64 n5, .int .i64 d5, .int .i64 n6, .int .i64 d6, .slice ua ps.length uc] 30) by rw [← hW1]; exact (two_newC w _ _).1)
  have P1 := hide (show W1.heap[w.heap.size + 1]? = some (.cells #[.int .i64 m0, .int .i64 e0, .int .i64 m1, .int .i64 e1, .int .i64 m2, .int .i64 e2, .int .i64 m3, .int .i64 e3, .int .i64 m4, .int .i64 e4, .int .i64 m5, .int .i64 e5, .int .i64 m6, .int .i64 e6, .slice va ps.length vc] 30) by rw [← hW1]; exact (two_newC w _ _).2)
  have hs1 : w.heap.size + 1 < W1.heap.size := by rw [← hW1]; simp
  have HW1 := hide hW1
  obtain ⟨-, p1⟩ := bxk_15 P0.out
  obtain ⟨-, p3⟩ := bxk_15 P1.out
  replace p1 := hide p1
  replace p3 := hide p3
  clear hW1 BB hl hus hvs
  go_enter Tryd.func19, Tryd.ntmps19
  go_wp2
  rw [HW1.out]
  go_loopw [29] (fun i wr => RelA2 W1 (saP n) ps qs i wr) (fun i _ => ps.length - (intOf i).toNat)
  case atStart => exact .mk 0 rfl (by omega) (Below.refl _ _) rfl
  case round =>
    obtain ⟨k, rfl, hk, BE, R⟩ := hrel
    replace BE := hide BE
    by_cases hlt : k < ps.length
    · obtain ⟨s, hs⟩ : ∃ s, ps[k]? = some s := ⟨_, List.getElem?_eq_getElem hlt⟩
      obtain ⟨t, ht⟩ : ∃ t, qs[k]? = some t := ⟨_, List.getElem?_eq_getElem (by have := HL.out; omega)⟩
      obtain ⟨b2, o2, c2, u2, hv2, hb2, hc2, hc29, q0, q1, hu2⟩ := HU.out.at hs
      obtain ⟨b3, o3, c3, u3, hv3, hb3, hc3, hc39, t0, t1, hu3⟩ := HV.out.at ht
      obtain ⟨rfl, rfl⟩ : ua = some ⟨b2, o2, none⟩ ∧ uc = c2 := by cases hv2; exact ⟨rfl, rfl⟩
      obtain ⟨rfl, rfl⟩ : va = some ⟨b3, o3, none⟩ ∧ vc = c3 := by cases hv3; exact ⟨rfl, rfl⟩
      have hlt' : (k : Int) < ps.length := by omega
      have k1 := (BE.out.cell (p := ⟨w.heap.size, 14, none⟩) (show w.heap.size < W1.heap.size by omega)).trans p1.out
      have k3 := (BE.out.cell (p := ⟨w.heap.size + 1, 14, none⟩) hs1).trans p3.out
      have hb2' : b2 < W1.heap.size := by omega
      have hb3' : b3 < W1.heap.size := by omega
      have f0 := (BE.out.cell (p := ⟨b2, o2 + k * 2, none⟩) hb2').trans ((B0.out.cell (p := ⟨b2, o2 + k * 2, none⟩) hb2).trans q0)
      have f1 := (BE.out.cell (p := ⟨b2, o2 + k * 2 + 1, none⟩) hb2').trans ((B0.out.cell (p := ⟨b2, o2 + k * 2 + 1, none⟩) hb2).trans q1)
      have g0 := (BE.out.cell (p := ⟨b3, o3 + k * 2, none⟩) hb3').trans ((B0.out.cell (p := ⟨b3, o3 + k * 2, none⟩) hb3).trans t0)
      have g1 := (BE.out.cell (p := ⟨b3, o3 + k * 2 + 1, none⟩) hb3').trans ((B0.out.cell (p := ⟨b3, o3 + k * 2 + 1, none⟩) hb3).trans t1)
      have R2 := hide (show r = (saP n s t && al2 (saP n) (ps.drop (k + 1)) (qs.drop (k + 1))) by rw [E.out, R.out, al2_drop hs ht])
      have CI := hide (fun (W : World) (h : Below W1.heap.size W1 W) => IP.out s t (j + 1) u2 u3 W (by omega) (hu2.low (bto B0.out h)) ⟨_, hu3.low (bto B0.out h)⟩)
      rw [show ((j + 1 : Nat) : Int) = (j : Int) + 1 by omega] at CI
      generalize s.1 = sx at *
      generalize t.1 = tx at *
      clear hv2 hv3 hs ht hu2 hu3
      clear q0 t0 q1 t1
      cases hmx : saP n s t
      · have F := hide (show r = false by rw [R2.out, hmx]; rfl)
        rw [hmx] at CI
        clear hmx R R2 E
        go_wp2
        go_region_with ((go_at_call 37; refine (CI.out _ BE.out.drew).mono ?_; rintro e w4 ⟨rfl, B4⟩; replace B4 := hide (bto BE.out.drew B4)))
        all_goals (go_wp2_with fail; go_ret; exact ⟨ret_bool F.out.symm, bto B0.out B4.out⟩)
      · have R5 := hide (show al2 (saP n) ps qs = al2 (saP n) (ps.drop (k + 1)) (qs.drop (k + 1)) by rw [← E.out, R2.out, hmx]; rfl)
        rw [hmx] at CI
        clear hmx R R2
        go_wp2
        go_region_with ((go_at_call 37; refine (CI.out _ BE.out.drew).mono ?_; rintro e w4 ⟨rfl, B4⟩; replace B4 := hide (bto BE.out.drew B4)))
        all_goals
          go_wp2_with fail
          go_roundw
          case rel => exact .mk (k + 1) (by go_num) (by omega) B4.out R5.out
          case measure => simp [intOf]; omega
    · have hlt' : ¬ (k : Int) < ps.length := by omega
      have F := hide (show r = true by rw [E.out]; exact al2_end R.out (by omega) (by have := HL.out; omega))
      clear R
      go_wp2
      go_ret
      exact ⟨ret_bool F.out.symm, bto B0.out BE.out⟩
end Go.Proofs.YtlhmecagijdinaaDoor.nm
set_option linter.unusedVariables false
set_option linter.unusedSimpArgs false
namespace Go.Proofs.YtlhmecagijdinaaDoor.nm
open Go.RowKit
theorem saP_eq (n : Nat) (a b : Bool) (x y : List Fo) : saP n (a, x) (b, y) = ((a == b) && saX n x y) := rfl
set_option maxRecDepth 100000 in
set_option maxHeartbeats 8000000 in
theorem samePart_of (n : Nat) (IH : ∀ m, n = m + 1 → SaF m) : SaP n := by
  rintro ⟨a, x⟩ ⟨b, y⟩ j u v w hj hu ⟨mv, hv⟩
  simp only at hu hv
  obtain ⟨ua, uc, rfl, hx9⟩ := hu.shape
  obtain ⟨va, vc, rfl, hy9⟩ := hv.shape
  have HU := hide hu
  have HV := hide hv
  replace IH := hide IH
  have E := hide (saP_eq n a b x y)
  clear hu hv
  show Calls Tryd.prog 37 #[.agg #[.bool a, .slice ua x.length uc], .agg #[.bool b, .slice va y.length vc], .int .i64 j] w _
  obtain ⟨r, hr⟩ : ∃ r, saP n (a, x) (b, y) = r := ⟨_, rfl⟩
  rw [hr] at E ⊢
  clear hr
  have hjj : (j : Int) ≤ 65537 := by omega
  have BB := hide (bplus (bplus (Below.refl w.heap.size w) (.cells #[.bool a, .slice ua x.length uc] 51)) (.cells #[.bool b, .slice va y.length vc] 51))
  by_cases hab : a = b
  case neg =>
    have F := hide (show r = false by rw [E.out, show (a == b) = false by simpa using hab]; rfl)
    have h1 : (a != b) = true := by simpa using hab
    have h2 : (a == b) = false := by simpa using hab
    clear E IH HU HV
    have hab' : ¬ a = b := hab
    cases a <;> cases b
    all_goals (first | (exact absurd rfl hab) | skip)
    all_goals
      clear hab hab' h1 h2
      go_enter Tryd.func37, Tryd.ntmps37
      go_wp2
      go_ret
      exact ⟨ret_bool F.out.symm, BB.out⟩
  subst hab
  by_cases hl : x.length = y.length
  case neg =>
    have F := hide (show r = false by rw [E.out, saX_len hl, Bool.and_false])
    have h1 : ((x.length : Int) != y.length) = true := by rw [bne_iff_ne]; omega
    have h2 : ¬ (x.length : Int) = y.length := by omega
    have h3 : ((x.length : Int) == y.length) = false := by rw [beq_eq_false_iff_ne]; omega
    clear E IH HU HV
    go_enter Tryd.func37, Tryd.ntmps37
    go_wp2
    all_goals
      go_ret
      exact ⟨ret_bool F.out.symm, BB.out⟩
  replace E := hide (show r = saX n x y by rw [E.out]; simp)
  have HL := hide hl
  rw [← hl]
  obtain ⟨W1, hW1⟩ : ∃ W1, (w.alloc (.cells #[.bool a, .slice ua x.length uc] 51)).alloc (.cells #[.bool a, .slice va x.length vc] 51) = W1 := ⟨_, rfl⟩
  have B0 := hide (show Below w.heap.size w W1 by rw [← hW1]; exact bplus (bplus (Below.refl _ _) _) _)
  have P0 := hide (show W1.heap[w.heap.size]? = some (.cells #[.bool a, .slice ua x.length uc] 51) by rw [← hW1]; exact (two_newC w _ _).1)
  have P1 := hide (show W1.heap[w.heap.size + 1]? = some (.cells #[.bool a, .slice va x.length vc] 51) by rw [← hW1]; exact (two_newC w _ _).2)
  have hs1 : w.heap.size + 1 < W1.heap.size := by rw [← hW1]; simp
  have HW1 := hide hW1
  obtain ⟨-, p1⟩ := bxk_2n P0.out
  obtain ⟨-, p3⟩ := bxk_2n P1.out
  replace p1 := hide p1
  replace p3 := hide p3
  clear hW1 BB hl
  have E3 := hide (show n = 0 → r = true by intro h; subst h; rw [E.out, saX]; simpa using HL.out)
  obtain ⟨f, hf⟩ : ∃ f : Fo → Fo → Bool, ∀ m, n = m + 1 → f = saF m := ⟨saF (n - 1), fun m h => by subst h; rfl⟩
  have HF := hide hf
  have E4 := hide (show r = al2 f x y by
    cases n with
    | zero =>
      obtain ⟨rfl, -⟩ := HU.out
      have : y = [] := List.eq_nil_of_length_eq_zero (HL.out.symm.trans rfl)
      subst this
      rw [E3.out rfl]; rfl
    | succ m => rw [E.out, saX_succ, HF.out m rfl])
  clear hf E E3
  go_enter Tryd.func37, Tryd.ntmps37
  go_wp2
  rw [HW1.out]
  go_loopw [25] (fun i wr => RelA2 W1 f x y i wr) (fun i _ => x.length - (intOf i).toNat)
  case atStart => exact .mk 0 rfl (by omega) (Below.refl _ _) rfl
  case round =>
    obtain ⟨k, rfl, hk, BE, R⟩ := hrel
    replace BE := hide BE
    by_cases hlt : k < x.length
    · obtain ⟨s, hs⟩ : ∃ s, x[k]? = some s := ⟨_, List.getElem?_eq_getElem hlt⟩
      obtain ⟨t, ht⟩ : ∃ t, y[k]? = some t := ⟨_, List.getElem?_eq_getElem (by have := HL.out; omega)⟩
      obtain ⟨m, hm, b2, o2, c2, u2, hv2, hb2, hc2, hc29, q0, q1, hu2⟩ := HU.out.at hs
      obtain ⟨m', hm', b3, o3, c3, u3, hv3, hb3, hc3, hc39, t0, t1, hu3⟩ := HV.out.at ht
      obtain ⟨rfl, rfl⟩ : ua = some ⟨b2, o2, none⟩ ∧ uc = c2 := by cases hv2; exact ⟨rfl, rfl⟩
      obtain ⟨rfl, rfl⟩ : va = some ⟨b3, o3, none⟩ ∧ vc = c3 := by cases hv3; exact ⟨rfl, rfl⟩
      have hlt' : (k : Int) < x.length := by omega
      have k1 := (BE.out.cell (p := ⟨w.heap.size, 1, none⟩) (show w.heap.size < W1.heap.size by omega)).trans p1.out
      have k3 := (BE.out.cell (p := ⟨w.heap.size + 1, 1, none⟩) hs1).trans p3.out
      have hb2' : b2 < W1.heap.size := by omega
      have hb3' : b3 < W1.heap.size := by omega
      have f14 := (BE.out.cell (p := ⟨b2, o2 + k * 15 + 14, none⟩) hb2').trans ((B0.out.cell (p := ⟨b2, o2 + k * 15 + 14, none⟩) hb2).trans q1)
      have g14 := (BE.out.cell (p := ⟨b3, o3 + k * 15 + 14, none⟩) hb3').trans ((B0.out.cell (p := ⟨b3, o3 + k * 15 + 14, none⟩) hb3).trans t1)
      have R2 := hide (show r = (saF m s t && al2 f (x.drop (k + 1)) (y.drop (k + 1))) by rw [E4.out, R.out, al2_drop hs ht, congrFun (congrFun (HF.out m hm) s) t])
      obtain ⟨sus, sps⟩ := s
      obtain ⟨tus, tps⟩ := t
      simp only [Fo.us, Fo.ps] at q0 t0 hu2 hu3
      obtain ⟨xa, xc, hxs, hx9'⟩ := hu2.shape
      obtain ⟨ya, yc, hys, hy9'⟩ := hu3.shape
      subst hxs hys
      have QU := hide q0.1
      have TU := hide t0.1
      have CI := hide (fun (W : World) (h : Below W1.heap.size W1 W) => IH.out m hm sus tus sps tps j (.slice xa sps.length xc) (.slice ya tps.length yc) W (by omega) QU.out TU.out (hu2.low (bto B0.out h)) ⟨m', hu3.low (bto B0.out h)⟩)
      obtain ⟨n0, d0, n1, d1, n2, d2, n3, d3, n4, d4, n5, d5, n6, d6, rfl⟩ := us7 QU.out
      obtain ⟨m0, e0, m1, e1, m2, e2, m3, e3, m4, e4, m5, e5, m6, e6, rfl⟩ := us7 TU.out
      rw [foV_eq, foV_eq] at CI
      obtain ⟨f0, f1, f2, f3, f4, f5, f6, f7, f8, f9, f10, f11, f12, f13⟩ := ((q0.below B0.out hb2).below BE.out hb2').fa
      obtain ⟨g0, g1, g2, g3, g4, g5, g6, g7, g8, g9, g10, g11, g12, g13⟩ := ((t0.below B0.out hb3).below BE.out hb3').fa
      clear hv2 hv3 hs ht q0 t0 q1 t1 hu2 hu3 hm hm'
      cases hmx : saF m (.mk [(n0, d0), (n1, d1), (n2, d2), (n3, d3), (n4, d4), (n5, d5), (n6, d6)] sps) (.mk [(m0, e0), (m1, e1), (m2, e2), (m3, e3), (m4, e4), (m5, e5), (m6, e6)] tps)
      · have HM := hide hmx
        have F := hide (show r = false by rw [R2.out, hmx]; rfl)
        rw [hmx] at CI
        clear hmx R R2 E4 HM
        go_wp2
        go_region_with ((go_at_call 19; refine (CI.out _ BE.out.drew).mono ?_; rintro e w4 ⟨rfl, B4⟩; replace B4 := hide (bto BE.out.drew B4)))
        all_goals (go_wp2_with fail; go_ret; exact ⟨ret_bool F.out.symm, bto B0.out B4.out⟩)
      · have R5 := hide (show al2 f x y = al2 f (x.drop (k + 1)) (y.drop (k + 1)) by rw [← E4.out, R2.out, hmx]; rfl)
        rw [hmx] at CI
        clear hmx R R2
        go_wp2
        go_region_with ((go_at_call 19; refine (CI.out _ BE.out.drew).mono ?_; rintro e w4 ⟨rfl, B4⟩; replace B4 := hide (bto BE.out.drew B4)))
        all_goals
          go_wp2_with fail
          go_roundw
          case rel => exact .mk (k + 1) (by go_num) (by omega) B4.out R5.out
          case measure => simp [intOf]; omega
    · have hlt' : ¬ (k : Int) < x.length := by omega
      have F := hide (show r = true by rw [E4.out]; exact al2_end R.out (by omega) (by have := HL.out; omega))
      clear R
      go_wp2
      go_ret
      exact ⟨ret_bool F.out.symm, bto B0.out BE.out⟩
end Go.Proofs.YtlhmecagijdinaaDoor.nm
set_option linter.unusedVariables false
set_option linter.unusedSimpArgs false
namespace Go.Proofs.YtlhmecagijdinaaDoor.nm
open Go.RowKit
theorem saP_all (n : Nat) : SaP n := by
  induction n with
  | zero => exact samePart_of 0 (fun m hm => by omega)
  | succ n ih => exact samePart_of (n + 1) (fun m hm => by have e : m = n := (by omega); subst e; exact sameAt_of m ih)
theorem saF_all (n : Nat) : SaF n := sameAt_of n (saP_all n)
theorem sameF_any (n m : Nat) (us vs : List (Int × Int)) (ps qs : List Pa) (u v : Value) (w : World) (hn : n ≤ 65536) (hus : Us us) (hvs : Us vs) (hu : PM w n u ps) (hv : PM w m v qs) :
    Calls Tryd.prog 10 #[foV us u, foV vs v] w fun e w' => e = .returned (.bool (saF n (.mk us ps) (.mk vs qs))) ∧ Below w.heap.size w w' := by
  have C := hide (fun (W : World) (h : Below w.heap.size w W) => saF_all n us vs ps qs 0 u v W (by omega) hus hvs (hu.low h) ⟨m, hv.low h⟩)
  obtain ⟨n0, d0, n1, d1, n2, d2, n3, d3, n4, d4, n5, d5, n6, d6, rfl⟩ := us7 hus
  obtain ⟨m0, e0, m1, e1, m2, e2, m3, e3, m4, e4, m5, e5, m6, e6, rfl⟩ := us7 hvs
  rw [foV_eq, foV_eq] at C ⊢
  clear hu hv hus hvs
  have B0 := hide (bplus (bplus (Below.refl w.heap.size w) (.cells #[.int .i64 n0, .int .i64 d0, .int .i64 n1, .int .i64 d1, .int .i64 n2, .int .i64 d2, .int .i64 n3, .int .i64 d3, .int .i64 n4, .int .i64 d4, .int .i64 n5, .int .i64 d5, .int .i64 n6, .int .i64 d6, u] 30)) (.cells #[.int .i64 m0, .int .i64 e0, .int .i64 m1, .int .i64 e1, .int .i64 m2, .int .i64 e2, .int .i64 m3, .int .i64 e3, .int .i64 m4, .int .i64 e4, .int .i64 m5, .int .i64 e5, .int .i64 m6, .int .i64 e6, v] 30))
  go_enter Tryd.func10, Tryd.ntmps10
  go_wp2_with (go_at_call 19; refine (C.out _ B0.out).mono ?_; rintro e w1 ⟨rfl, B1⟩)
  go_ret
  exact ⟨rfl, bto B0.out B1⟩
end Go.Proofs.YtlhmecagijdinaaDoor.nm
set_option linter.unusedVariables false
set_option linter.unusedSimpArgs false
namespace Go.Proofs.YtlhmecagijdinaaDoor.nm
open Go.RowKit

/-- Two parts in blocks of their own. -/
def RelPQ (W1 : World) (A B : Obj) (x y : Value) (wx : World) : Prop := ∃ bp bq : Nat, x = .pointer (some ⟨bp, 0, none⟩) ∧ y = .pointer (some ⟨bq, 0, none⟩) ∧ Hid (wx.heap[bp]? = some A ∧ wx.heap[bq]? = some B ∧ Below W1.heap.size W1 wx)
theorem RelPQ.mk {W1 : World} {A B : Obj} {x y : Value} {wx : World} (bp bq : Nat) (h1 : x = .pointer (some ⟨bp, 0, none⟩)) (h2 : y = .pointer (some ⟨bq, 0, none⟩)) (h3 : wx.heap[bp]? = some A) (h4 : wx.heap[bq]? = some B) (h5 : Below W1.heap.size W1 wx) : RelPQ W1 A B x y wx := ⟨bp, bq, h1, h2, h3, h4, h5⟩
end Go.Proofs.YtlhmecagijdinaaDoor.nm
