/-
  Which units a form uses, its parts too: by the reference.
  The size of a unit that a form does not use makes no difference: plain.
-/
import Derived.Test.YtlhmecagijdinaaGreatDoorH06
import Derived.Test.YtlhmecagijdinaaGreatDoorK03
import Derived.Test.YtlhmecagijdinaaGreatDoorH15
set_option linter.unusedVariables false
set_option linter.unusedSimpArgs false
namespace Go.Proofs.YtlhmecagijdinaaGreatDoor.nm
open Go.RowKit

def UsR (n : Nat) : Prop := ∀ (us : List (Int × Int)) (ps : List Pa) (u : Value) (w : World), Nth w → Us us → PM w n u ps →
    Calls Tryz.prog 20 #[foV us u] w fun e w' => e = .returned (.int .i64 (usG n us ps)) ∧ Below w.heap.size w w'
set_option maxRecDepth 100000 in
set_option maxHeartbeats 8000000 in
theorem UsR_of (n : Nat) (IH : ∀ m, n = m + 1 → UsR m) : UsR n := by
  intro us ps u w hN hus hv
  obtain ⟨a, c, rfl, hl9⟩ := hv.shape
  have HUS := hide hus
  have EQ := hide (show usG n us ps = (ps.drop 0).foldl (fun m p => usX n p.2 m) (orU 0 us 0) from rfl)
  obtain ⟨r, hr⟩ : ∃ r, usG n us ps = r := ⟨_, rfl⟩
  rw [hr] at EQ ⊢
  clear hr
  obtain ⟨n0, d0, n1, d1, n2, d2, n3, d3, n4, d4, n5, d5, n6, d6, rfl⟩ := us7 hus
  rw [foV_eq]
  have HV := hide hv
  replace IH := hide IH
  obtain ⟨W1, hW1⟩ : ∃ W1, w.alloc (.cells #[.int .i64 n0, .int .i64 d0, .int .i64 n1, .int .i64 d1, .int .i64 n2, .int .i64 d2, .int .i64 n3, .int .i64 d3, .int .i64 n4, .int .i64 d4, .int .i64 n5, .int .i64 d5, .int .i64 n6, .int .i64 d6, .slice a ps.length c] 30) = W1 := ⟨_, rfl⟩
  have B0 := hide (show Below w.heap.size w W1 by rw [← hW1]; exact bplus (Below.refl _ _) _)
  have P0 := hide (show W1.heap[w.heap.size]? = some (.cells #[.int .i64 n0, .int .i64 d0, .int .i64 n1, .int .i64 d1, .int .i64 n2, .int .i64 d2, .int .i64 n3, .int .i64 d3, .int .i64 n4, .int .i64 d4, .int .i64 n5, .int .i64 d5, .int .i64 n6, .int .i64 d6, .slice a ps.length c] 30) by rw [← hW1]; exact heap_alloc_new w _)
  have hs1 : w.heap.size < W1.heap.size := by rw [← hW1]; simp
  have HW1 := hide hW1
  have N1 := hide (hN.low B0.out)
  clear hW1 hv hus hN
  obtain ⟨⟨f0, f1, f2, f3, f4, f5, f6, f7, f8, f9, f10, f11, f12, f13⟩, p14⟩ := bxk_15 P0.out
  replace p14 := hide p14
  obtain ⟨z0, hz0⟩ : ∃ z0, orU 0 [(n0, d0), (n1, d1), (n2, d2), (n3, d3), (n4, d4), (n5, d5), (n6, d6)] 0 = z0 := ⟨_, rfl⟩
  have HZ0 := hide hz0
  rw [hz0] at EQ
  clear hz0
  have CI0 := hide (fun (W : World) => wk.int_any 0 W)
  generalize hU : [(n0, d0), (n1, d1), (n2, d2), (n3, d3), (n4, d4), (n5, d5), (n6, d6)] = US at *
  go_enter Tryz.func20, Tryz.ntmps20
  go_upto_region 1 with fail
  rw [HW1.out]
  clear HW1
  go_wp2
  clear f0 f1 f2 f3 f4 f5 f6 f7 f8 f9 f10 f11 f12 f13
  go_loopw [12, 3] (fun i u wr => RelUo W1 US i u wr) (fun i _ _ => 7 - (intOf i).toNat)
  case atStart => exact .mk 0 0 rfl rfl (by omega) (Below.refl _ _) rfl
  case round =>
    obtain ⟨k, m, rfl, rfl, hk, BE, R⟩ := hrel
    replace BE := hide BE
    by_cases hlt : k < 7
    · obtain ⟨rn, rd, hr, ⟨rn1, rn2⟩, ⟨rd1, rd2⟩⟩ := us_at HUS.out hlt
      have IX := ix7 (n0 := n0) (d0 := d0) (n1 := n1) (d1 := d1) (n2 := n2) (d2 := d2) (n3 := n3) (d3 := d3) (n4 := n4) (d4 := d4) (n5 := n5) (d5 := d5) (n6 := n6) (d6 := d6) hlt 27 (.inl rfl) (n := rn) (d := rd) (by rw [hU]; exact hr)
      have R2 := hide (orU_step R.out hr)
      have hlt' : (k : Int) < 7 := by omega
      have BX := hide (bplus BE.out (.cells #[.int .i64 rn, .int .i64 rd] 23))
      have PX := hide (show Bk (wr.alloc (.cells #[.int .i64 rn, .int .i64 rd] 23)) wr.heap.size 23 [.int .i64 rn, .int .i64 rd] from Bk.new wr _ _)
      clear hr R
      by_cases hz : rn = 0 ∧ rd = 1
      · obtain ⟨rfl, rfl⟩ := hz
        rw [if_pos rfl] at R2
        go_wp2
        go_region_with ((go_at_call 30; refine (CI0.out _).mono ?_; rintro e w4 ⟨rfl, cc, rfl⟩))
        all_goals
          go_wp2_with fail
          go_roundw
          case rel => exact .mk (k + 1) m (by go_num) rfl (by omega) (by first | exact (bplus BX.out _) | exact (bplus BX.out.drew _) | exact (bplus BX.out _).drew) R2.out
          case measure => simp [intOf]; omega
      · rw [if_neg (by simpa using hz)] at R2
        rcases (show ¬ rn = 0 ∨ (rn = 0 ∧ ¬ rd = 1) by omega) with hz1 | ⟨hz0, hz1⟩
        · have hz2 : (rn == 0) = false := by simpa using hz1
          clear hz
          go_wp2
          go_region_with ((go_at_call 30; refine (CI0.out _).mono ?_; rintro e w4 ⟨rfl, cc, rfl⟩))
          all_goals
            go_wp2_with fail
            go_roundw
            case rel => exact .mk (k + 1) (orI m (bitK k)) (by go_num) rfl (by omega) (by first | exact (bplus BX.out _) | exact (bplus BX.out.drew _) | exact (bplus BX.out _).drew) R2.out
            case measure => simp [intOf]; omega
        · subst hz0
          have hz2 : (rd == 1) = false := by simpa using hz1
          clear hz
          go_wp2
          go_region_with ((go_at_call 30; refine (CI0.out _).mono ?_; rintro e w4 ⟨rfl, cc, rfl⟩))
          all_goals
            go_wp2_with fail
            go_roundw
            case rel => exact .mk (k + 1) (orI m (bitK k)) (by go_num) rfl (by omega) (by first | exact (bplus BX.out _) | exact (bplus BX.out.drew _) | exact (bplus BX.out _).drew) R2.out
            case measure => simp [intOf]; omega
    · obtain rfl : k = 7 := by omega
      have F := hide (show m = z0 by rw [← HZ0.out, R.out, List.drop_of_length_le (by rw [HUS.out.1]; omega)]; rfl)
      have hlt' : ¬ ((7 : Nat) : Int) < 7 := by omega
      have f14 := (BE.out.cell (p := ⟨w.heap.size, 14, none⟩) hs1).trans p14.out
      rw [← F.out] at EQ
      clear R F HZ0
      go_wp2
      go_loopw [29, 3] (fun i u wr => RelFd W1 (fun m (p : Pa) => usX n p.2 m) r ps i u wr) (fun i _ _ => ps.length - (intOf i).toNat)
      case atStart => exact .mk 0 _ rfl rfl (by omega) BE.out EQ.out
      case round =>
        clear f14 BE EQ
        obtain ⟨k2, m2, rfl, rfl, hk2, BE, R⟩ := hrel
        replace BE := hide BE
        by_cases hlt2 : k2 < ps.length
        · obtain ⟨p, hp⟩ : ∃ p, ps[k2]? = some p := ⟨_, List.getElem?_eq_getElem hlt2⟩
          obtain ⟨b2, o2, c2', u2, hv2, hb2, -, -, p0, p1, hu2⟩ := HV.out.at hp
          obtain ⟨rfl, rfl⟩ : a = some ⟨b2, o2, none⟩ ∧ c = c2' := by cases hv2; exact ⟨rfl, rfl⟩
          have hlt2' : (k2 : Int) < ps.length := by omega
          have hb2' : b2 < W1.heap.size := by omega
          have f0 := (BE.out.cell (p := ⟨b2, o2 + k2 * 2, none⟩) hb2').trans ((B0.out.cell (p := ⟨b2, o2 + k2 * 2, none⟩) hb2).trans p0)
          have f1 := (BE.out.cell (p := ⟨b2, o2 + k2 * 2 + 1, none⟩) hb2').trans ((B0.out.cell (p := ⟨b2, o2 + k2 * 2 + 1, none⟩) hb2).trans p1)
          have hbw2 : b2 < wr.heap.size := by have := BE.out.size; omega
          have nb2 : b2 ≠ wr.heap.size := by omega
          have R2 := hide (fd_step R.out hp)
          obtain ⟨mx, ags⟩ := p
          simp only at f0 f1 hu2 R2
          have EX := hide (show usX n ags m2 = ags.foldl (fun m a => orI m (usG (n - 1) a.us a.ps)) m2 from usX_eq (fun h0 => by subst h0; exact hu2.1) m2)
          obtain ⟨z2, hz2⟩ : ∃ z2, usX n ags m2 = z2 := ⟨_, rfl⟩
          rw [hz2] at EX R2
          clear hz2
          obtain ⟨ua, uc, hus, has9⟩ := hu2.shape
          have HU := hide hu2
          clear p0 p1 hv2 hp hu2 R
          subst hus
          have BB := hide (bplus BE.out (.cells #[.bool mx, .slice ua ags.length uc] 60))
          go_wp2
          go_loopw [36, 3] (fun i u wr => RelFd W1 (fun m (x : Fo) => orI m (usG (n - 1) x.us x.ps)) z2 ags i u wr) (fun i _ _ => ags.length - (intOf i).toNat)
          case atStart => exact .mk 0 _ rfl rfl (by omega) BB.out EX.out
          case round =>
            clear f0 f1 hbw2 nb2 BB BE EX
            obtain ⟨k3, m3, rfl, rfl, hk3, BE, R3⟩ := hrel
            replace BE := hide BE
            by_cases hlt3 : k3 < ags.length
            · obtain ⟨x, hx⟩ : ∃ x, ags[k3]? = some x := ⟨_, List.getElem?_eq_getElem hlt3⟩
              obtain ⟨m, hm, b3, o3, c3', u3, hv3, hb3, -, -, q0, q1, hu3⟩ := HU.out.at hx
              obtain ⟨rfl, rfl⟩ : ua = some ⟨b3, o3, none⟩ ∧ uc = c3' := by cases hv3; exact ⟨rfl, rfl⟩
              have hlt3' : (k3 : Int) < ags.length := by omega
              have hb3' : b3 < W1.heap.size := by omega
              have f14 := (BE.out.cell (p := ⟨b3, o3 + k3 * 15 + 14, none⟩) hb3').trans ((B0.out.cell (p := ⟨b3, o3 + k3 * 15 + 14, none⟩) hb3).trans q1)
              have hbw3 : b3 < wr.heap.size := by have := BE.out.size; omega
              have nb3 : b3 ≠ wr.heap.size := by omega
              obtain ⟨xus, xps⟩ := x
              have R4 := hide (show z2 = (ags.drop (k3 + 1)).foldl (fun m (x : Fo) => orI m (usG (n - 1) x.us x.ps)) (orI m3 (usG m xus xps)) from by
                have q := fd_step R3.out hx
                rw [show usG m xus xps = usG (n - 1) xus xps by rw [show n - 1 = m by omega]]
                exact q)
              simp only [Fo.us, Fo.ps] at q0 hu3
              obtain ⟨xa, xc, hxs, hx9⟩ := hu3.shape
              subst hxs
              have QU := hide q0.1
              have QP := hide hu3
              have CI := hide (fun (W : World) (h : Below W1.heap.size W1 W) => IH.out m hm xus xps (.slice xa xps.length xc) W (N1.out.low h) QU.out (QP.out.low (bto B0.out h)))
              obtain ⟨gx, hgx⟩ : ∃ gx, usG m xus xps = gx := ⟨_, rfl⟩
              rw [hgx] at CI R4
              clear hgx
              obtain ⟨xn0, xd0, xn1, xd1, xn2, xd2, xn3, xd3, xn4, xd4, xn5, xd5, xn6, xd6, rfl⟩ := us7 QU.out
              rw [foV_eq] at CI
              obtain ⟨f0, f1, f2, f3, f4, f5, f6, f7, f8, f9, f10, f11, f12, f13⟩ := ((q0.below B0.out hb3).below BE.out hb3').fa
              clear hv3 hx q0 q1 hu3 R3 hm
              go_wp2_with (go_at_call 20; refine (CI.out _ (bplus BE.out _)).mono ?_; rintro e w4 ⟨rfl, B4⟩; replace B4 := hide (bto (bplus BE.out _) B4))
              go_roundw
              case rel => exact .mk (k3 + 1) (orI m3 gx) (by go_num) rfl (by omega) B4.out R4.out
              case measure => simp [intOf]; omega
            · have hlt3' : ¬ (k3 : Int) < ags.length := by omega
              have EA := hide (fd_end R3.out (by omega))
              rw [EA.out] at R2
              clear EA R3
              go_wp2
              go_roundw
              case rel => exact .mk (k2 + 1) m3 (by go_num) rfl (by omega) BE.out R2.out
              case measure => simp [intOf]; omega
        · have hlt2' : ¬ (k2 : Int) < ps.length := by omega
          have F := hide (fd_end R.out (by omega))
          clear R
          go_wp2
          go_ret
          exact ⟨ret_int F.out.symm, bto B0.out BE.out⟩
theorem usesR_all (n : Nat) : UsR n := by
  induction n with
  | zero => exact UsR_of 0 (fun m hm => by omega)
  | succ n ih => exact UsR_of (n + 1) (fun m hm => by have e : m = n := (by omega); subst e; exact ih)
end Go.Proofs.YtlhmecagijdinaaGreatDoor.nm
set_option linter.unusedVariables false
set_option linter.unusedSimpArgs false
namespace Go.Proofs.YtlhmecagijdinaaGreatDoor.nm
open Go.RowKit cc

/-- Seven fractions each, at most so deep. -/
def al7 : Nat → Fo → Prop
  | 0, f => f.us.length = 7 ∧ ∀ p ∈ f.ps, p.2 = []
  | n + 1, f => f.us.length = 7 ∧ ∀ p ∈ f.ps, ∀ a ∈ p.2, al7 n a
theorem al7_of (n : Nat) : ∀ {w : World} {us : List (Int × Int)} {ps : List Pa} {u : Value}, Us us → PM w n u ps → al7 n (.mk us ps) := by
  induction n with
  | zero =>
    intro w us ps u hus hp
    refine ⟨hus.1, fun p hpm => ?_⟩
    obtain ⟨i, hi⟩ := List.mem_iff_getElem?.1 hpm
    obtain ⟨_, _, _, _, _, _, _, _, _, _, hfm⟩ := PM.at hp hi
    exact (show p.2 = [] ∧ _ from hfm).1
  | succ n ih =>
    intro w us ps u hus hp
    refine ⟨hus.1, fun p hpm a ha => ?_⟩
    obtain ⟨i, hi⟩ := List.mem_iff_getElem?.1 hpm
    obtain ⟨_, _, _, _, _, _, _, _, _, _, hfm⟩ := PM.at hp hi
    obtain ⟨q, hq⟩ := List.mem_iff_getElem?.1 ha
    obtain ⟨m, hm, b, o, c, u', _, _, _, _, hun, _, hpm'⟩ := FM.at hfm hq
    obtain rfl : n = m := by omega
    have := ih hun.1 hpm'
    rwa [show Fo.mk a.us a.ps = a by cases a; rfl] at this
theorem al7.len {n : Nat} {f : Fo} (h : al7 n f) : f.us.length = 7 := by cases n <;> exact h.1
def subB (N M : Nat) : Prop := ∀ i, N.testBit i = true → M.testBit i = true
theorem subB.refl (N : Nat) : subB N N := fun _ h => h
theorem subB.trans {a b c : Nat} (h : subB a b) (k : subB b c) : subB a c := fun i hi => k i (h i hi)
theorem subB.left (a b : Nat) : subB a (a ||| b) := fun i h => by rw [Nat.testBit_or, h]; rfl
theorem subB.right (a b : Nat) : subB b (a ||| b) := fun i h => by rw [Nat.testBit_or, h, Bool.or_true]
theorem usedN_at : ∀ (us : List (Int × Int)) (k i : Nat) (r : Int × Int), us[i]? = some r → r ≠ (0, 1) → (usedN us k).testBit (k + i + 1) = true := by
  intro us
  induction us with
  | nil => intro k i r h; simp at h
  | cons x l ih =>
    intro k i r h hr
    rw [usedN]
    cases i with
    | zero =>
      cases h
      rw [if_neg hr, Nat.testBit_or, Nat.add_zero, Nat.testBit_two_pow_self, Bool.true_or]
    | succ i =>
      have := ih (k + 1) i r h hr
      rw [show k + 1 + i + 1 = k + (i + 1) + 1 by omega] at this
      split
      · first | exact this | (rw [Nat.testBit_or, this, Bool.or_true])
      · rw [Nat.testBit_or, this, Bool.or_true]
/-- The units that a form uses, as a number. -/
def UsN (n : Nat) (f : Fo) (N : Nat) : Prop := usG n f.us f.ps = (N : Int) ∧ N < 256 ∧ subB (usedN f.us 0) N ∧ ∀ m, n = m + 1 → ∀ p ∈ f.ps, ∀ a ∈ p.2, ∃ A : Nat, usG m a.us a.ps = (A : Int) ∧ subB A N
theorem usN_all (n : Nat) : ∀ (f : Fo), al7 n f → ∃ N, UsN n f N := by
  have base : ∀ (f : Fo), f.us.length = 7 → orU 0 f.us 0 = ((usedN f.us 0 : Nat) : Int) ∧ usedN f.us 0 < 256 := fun f h => by
    have e := orU_nat f.us 0 0 (by omega) (by decide)
    rw [Nat.zero_or] at e
    exact ⟨e, usedN_lt f.us 0 (by omega)⟩
  induction n with
  | zero =>
    intro f h
    obtain ⟨e1, e2⟩ := base f h.1
    refine ⟨usedN f.us 0, ?_, e2, subB.refl _, fun m hm => by omega⟩
    have : ∀ (ps : List Pa) (M : Int), ps.foldl (fun m p => usX 0 p.2 m) M = M := by
      intro ps
      induction ps with
      | nil => intro M; rfl
      | cons p r ih => intro M; exact ih M
    show f.ps.foldl (fun m p => usX 0 p.2 m) (orU 0 f.us 0) = _
    rw [this, e1]
  | succ n ih =>
    intro f h
    obtain ⟨e1, e2⟩ := base f h.1
    have inner : ∀ (l : List Fo) (M : Nat), M < 256 → (∀ a ∈ l, al7 n a) → ∃ M' : Nat, usX (n + 1) l (M : Int) = (M' : Int) ∧ M' < 256 ∧ subB M M' ∧ ∀ a ∈ l, ∃ A : Nat, usG n a.us a.ps = (A : Int) ∧ subB A M' := by
      intro l
      induction l with
      | nil => intro M hM _; exact ⟨M, rfl, hM, subB.refl _, fun a ha => by cases ha⟩
      | cons a r ihr =>
        intro M hM hl
        obtain ⟨A, hA, hA2, -, -⟩ := ih a (hl a (by simp))
        obtain ⟨M', h1, h2, h3, h4⟩ := ihr (M ||| A) (or_lt256 hM hA2) (fun b hb => hl b (by simp [hb]))
        refine ⟨M', ?_, h2, (subB.left M A).trans h3, fun b hb => ?_⟩
        · rw [usX_succ] at h1 ⊢
          rw [List.foldl_cons, hA, orI_nat hM hA2]
          exact h1
        · rcases List.mem_cons.1 hb with rfl | hb
          · exact ⟨A, hA, (subB.right M A).trans h3⟩
          · exact h4 b hb
    have outer : ∀ (ps : List Pa) (M : Nat), M < 256 → (∀ p ∈ ps, ∀ a ∈ p.2, al7 n a) → ∃ M' : Nat, ps.foldl (fun m p => usX (n + 1) p.2 m) (M : Int) = (M' : Int) ∧ M' < 256 ∧ subB M M' ∧ ∀ p ∈ ps, ∀ a ∈ p.2, ∃ A : Nat, usG n a.us a.ps = (A : Int) ∧ subB A M' := by
      intro ps
      induction ps with
      | nil => intro M hM _; exact ⟨M, rfl, hM, subB.refl _, fun p hp => by cases hp⟩
      | cons p r ihr =>
        intro M hM hl
        obtain ⟨M1, a1, a2, a3, a4⟩ := inner p.2 M hM (fun a ha => hl p (by simp) a ha)
        obtain ⟨M', h1, h2, h3, h4⟩ := ihr M1 a2 (fun b hb => hl b (by simp [hb]))
        refine ⟨M', ?_, h2, a3.trans h3, fun b hb a ha => ?_⟩
        · rw [List.foldl_cons, a1]; exact h1
        · rcases List.mem_cons.1 hb with rfl | hb
          · obtain ⟨A, hA, hs⟩ := a4 a ha
            exact ⟨A, hA, hs.trans h3⟩
          · exact h4 b hb a ha
    obtain ⟨N, h1, h2, h3, h4⟩ := outer f.ps (usedN f.us 0) e2 h.2
    refine ⟨N, ?_, h2, h3, fun m hm p hp a ha => ?_⟩
    · show f.ps.foldl (fun m p => usX (n + 1) p.2 m) (orU 0 f.us 0) = _
      rw [e1]
      exact h1
    · obtain rfl : n = m := by omega
      exact h4 p hp a ha
theorem unT_eq {sz sz' : Int → Int × Int} : ∀ (l : List (Int × Int)) (i : Int), (∀ (k : Nat) (r : Int × Int), l[k]? = some r → r ≠ (0, 1) → sz (i + k) = sz' (i + k)) → unT sz i l = unT sz' i l := by
  intro l
  induction l with
  | nil => intro i _; rfl
  | cons x r ih =>
    intro i h
    have ihr := ih (i + 1) (fun k r hk hr => by
      have := h (k + 1) r (by simpa using hk) hr
      rwa [show i + ((k + 1 : Nat) : Int) = i + 1 + (k : Int) by omega] at this)
    rw [unT, unT, ihr]
    by_cases e : x = (0, 1)
    · rw [if_pos e, if_pos e]
    · have := h 0 x rfl e
      rw [show i + ((0 : Nat) : Int) = i by omega] at this
      rw [if_neg e, if_neg e, this]
/-- A form in px, by two contexts that are alike where it looks. -/
theorem px_eq (n : Nat) : ∀ (f : Fo) (N : Nat) (sz sz' : Int → Int × Int), al7 n f → usG n f.us f.ps = (N : Int) → (∀ b : Nat, 1 ≤ b → b ≤ 7 → N.testBit b = true → sz b = sz' b) → pxN sz (n + 1) f = pxN sz' (n + 1) f := by
  induction n with
  | zero =>
    intro f N sz sz' h7 hN hs
    obtain ⟨M, hM, -, h3, -⟩ := usN_all 0 f h7
    obtain rfl : M = N := by rw [hM] at hN; exact_mod_cast hN
    rw [pxN_succ, pxN_succ]
    have e1 : unT sz 1 f.us = unT sz' 1 f.us := unT_eq f.us 1 (fun k r hk hr => by
      have hk7 := (List.getElem?_eq_some_iff.1 hk).1
      have := h7.len
      have hb := h3 _ (usedN_at f.us 0 k r hk hr)
      have := hs (0 + k + 1) (by omega) (by omega) hb
      rwa [show ((0 + k + 1 : Nat) : Int) = 1 + (k : Int) by omega] at this)
    rw [e1]
    congr 2
  | succ n ih =>
    intro f N sz sz' h7 hN hs
    obtain ⟨M, hM, -, h3, h4⟩ := usN_all (n + 1) f h7
    obtain rfl : M = N := by rw [hM] at hN; exact_mod_cast hN
    rw [pxN_succ, pxN_succ]
    have e1 : unT sz 1 f.us = unT sz' 1 f.us := unT_eq f.us 1 (fun k r hk hr => by
      have hk7 := (List.getElem?_eq_some_iff.1 hk).1
      have := h7.len
      have hb := h3 _ (usedN_at f.us 0 k r hk hr)
      have := hs (0 + k + 1) (by omega) (by omega) hb
      rwa [show ((0 + k + 1 : Nat) : Int) = 1 + (k : Int) by omega] at this)
    have e2 : f.ps.map (ptP (pxN sz (n + 1))) = f.ps.map (ptP (pxN sz' (n + 1))) := List.map_congr_left fun p hp => by
      unfold ptP
      congr 1
      refine List.map_congr_left fun a ha => ?_
      obtain ⟨A, hA, hsub⟩ := h4 n rfl p hp a ha
      exact ih a A sz sz' (h7.2 p hp a ha) hA (fun b h1 h2 hb => hs b h1 h2 (hsub b hb))
    rw [e1, e2]
/-- A context's fields: those that are used of the one, else of the other. -/
def mxC (N j : Nat) (cs ds : List (Int × Int)) : List (Int × Int) := (List.range 6).map fun i => if i < j ∧ N.testBit (i + 2) = true then rAt cs i else rAt ds i
theorem mxC_len (N j : Nat) (cs ds : List (Int × Int)) : (mxC N j cs ds).length = 6 := by simp [mxC]
theorem mxC_at {N j i : Nat} {cs ds : List (Int × Int)} (h : i < 6) : rAt (mxC N j cs ds) i = if i < j ∧ N.testBit (i + 2) = true then rAt cs i else rAt ds i := by
  unfold rAt mxC
  rw [List.getD_eq_getElem?_getD, List.getElem?_map, List.getElem?_range h]
  rfl
theorem mxC_zero {cs ds : List (Int × Int)} {N : Nat} (h : ds.length = 6) : mxC N 0 cs ds = ds := by
  match ds, h with
  | [a, b, c, d, e, f], _ => simp [mxC, rAt, List.range, List.range.loop]
theorem mxC_64 {N j : Nat} {cs ds : List (Int × Int)} (h1 : ∀ r ∈ cs, R64 r) (h2 : ∀ r ∈ ds, R64 r) : ∀ r ∈ mxC N j cs ds, R64 r := by
  intro r hr
  unfold mxC at hr
  obtain ⟨i, -, rfl⟩ := List.mem_map.1 hr
  split
  · exact rAt_64 h1 i
  · exact rAt_64 h2 i
theorem mxC_next {N j : Nat} {cs ds : List (Int × Int)} (hj : j < 6) : mxC N (j + 1) cs ds = if N.testBit (j + 2) = true then (mxC N j cs ds).set j (rAt cs j) else mxC N j cs ds := by
  refine List.ext_getElem? fun i => ?_
  by_cases hi : i < 6
  · have e : ∀ q, (mxC N q cs ds)[i]? = some (if i < q ∧ N.testBit (i + 2) = true then rAt cs i else rAt ds i) := fun q => by
      unfold mxC
      rw [List.getElem?_map, List.getElem?_range hi]
      rfl
    rw [e]
    by_cases hb : N.testBit (j + 2) = true
    · rw [if_pos hb, List.getElem?_set]
      by_cases eij : j = i
      · subst eij
        rw [if_pos rfl, if_pos (show j < j + 1 ∧ N.testBit (j + 2) = true from ⟨by omega, hb⟩), if_pos (show j < (mxC N j cs ds).length by rw [mxC_len]; omega)]
      · rw [if_neg eij, e]
        congr 1
        by_cases h1 : i < j
        · simp [h1, show i < j + 1 by omega]
        · simp [h1, show ¬ i < j + 1 by omega]
    · rw [if_neg hb, e]
      congr 1
      by_cases eij : i = j
      · subst eij; simp [hb]
      · by_cases h1 : i < j
        · simp [h1, show i < j + 1 by omega]
        · simp [h1, show ¬ i < j + 1 by omega]
  · have l1 : (mxC N (j + 1) cs ds)[i]? = none := List.getElem?_eq_none (by rw [mxC_len]; omega)
    rw [l1]
    symm
    split
    · exact List.getElem?_eq_none (by rw [List.length_set, mxC_len]; omega)
    · exact List.getElem?_eq_none (by rw [mxC_len]; omega)
/-- Px is alike. -/
theorem upx_mx {n N : Nat} {us : List (Int × Int)} {ps : List Pa} {cs ds : List (Int × Int)} (h7 : al7 n (.mk us ps)) (hN : usG n us ps = (N : Int)) : upx n (mxC N 6 cs ds) us ps = upx n cs us ps := by
  unfold upx
  rw [px_eq n (.mk us ps) N (szC (mxC N 6 cs ds)) (szC cs) h7 hN (fun b h1 h2 hb => ?_)]
  have e : ∀ i, i < 6 → N.testBit (i + 2) = true → rAt (mxC N 6 cs ds) i = rAt cs i := fun i hi hb => by rw [mxC_at hi, if_pos ⟨hi, hb⟩]
  rcases (show b = 1 ∨ b = 2 ∨ b = 3 ∨ b = 4 ∨ b = 5 ∨ b = 6 ∨ b = 7 by omega) with rfl | rfl | rfl | rfl | rfl | rfl | rfl
  · rfl
  · show ctR (rAt (mxC N 6 cs ds) 0) = ctR (rAt cs 0); rw [e 0 (by decide) hb]
  · show ctR (rAt (mxC N 6 cs ds) 1) = ctR (rAt cs 1); rw [e 1 (by decide) hb]
  · show hdR (rAt (mxC N 6 cs ds) 2) = hdR (rAt cs 2); rw [e 2 (by decide) hb]
  · show hdR (rAt (mxC N 6 cs ds) 3) = hdR (rAt cs 3); rw [e 3 (by decide) hb]
  · show hdR (rAt (mxC N 6 cs ds) 4) = hdR (rAt cs 4); rw [e 4 (by decide) hb]
  · show hdR (rAt (mxC N 6 cs ds) 5) = hdR (rAt cs 5); rw [e 5 (by decide) hb]
theorem tb_div (N b : Nat) : N.testBit b = decide (((N : Int) / 2 ^ b) % 2 = 1) := by
  rw [Nat.testBit_eq_decide_div_mod_eq]
  have : ((N : Int) / 2 ^ b) % 2 = (((N / 2 ^ b) % 2 : Nat) : Int) := by push_cast; rfl
  rw [this]
  congr 1
  simp only [eq_iff_iff]
  omega
end Go.Proofs.YtlhmecagijdinaaGreatDoor.nm
