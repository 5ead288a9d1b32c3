/-
  Which units a form uses, its parts too: by the reference.
-/
import Derived.Test.YticgcokhdipomaaDoorLNoO
set_option linter.unusedVariables false
set_option linter.unusedSimpArgs false
namespace Go.Proofs.YticgcokhdipomaaDoor.nm
open Go.RowKit

def UsR (n : Nat) : Prop := ∀ (us : List (Int × Int)) (ps : List Pa) (u : Value) (w : World), Nth w → Us us → PM w n u ps →
    Calls Tryd.prog 18 #[foV us u] w fun e w' => e = .returned (.int .i64 (usG n us ps)) ∧ Below w.heap.size w w'
set_option maxRecDepth 100000 in
set_option maxHeartbeats 8000000 in
theorem UsR_of (n : Nat) (IH : ∀ m, n = m + 1 → UsR m) : UsR n := by
  intro us ps u w hN hus hv
  obtain ⟨a, c, rfl, hl9⟩ := hv.shape
  have HUS := hide hus
  have EQ := hide (show usG n us ps = (ps.drop 0).foldl (fun m p => usX n p.2 m) (orU 0 us 0) from rfl)
  obtain ⟨r, hr⟩ : ∃ r, usG n us ps = r := ⟨_, rfl⟩
  rw [hr] at EQ ⊢
  clear hr
  obtain ⟨n0, d0, n1, d1, n2, d2, n3, d3, n4, d4, n5, d5, n6, d6, rfl⟩ := us7 hus
  rw [foV_eq]
  have HV := hide hv
  replace IH := hide IH
  obtain ⟨W1, hW1⟩ : ∃ W1, w.alloc (.cells #[.int .i64 n0, .int .i64 d0, .int .i64 n1, .int .i64 d1, .int .i64 n2, .int .i64 d2, .int .i64 n3, .int .i64 d3, .int .i64 n4, .int .i64 d4, .int .i64 n5, .int .i64 d5, .int .i64 n6, .int .i64 d6, .slice a ps.length c] 29) = W1 := ⟨_, rfl⟩
  have B0 := hide (show Below w.heap.size w W1 by rw [← hW1]; exact bplus (Below.refl _ _) _)
  have P0 := hide (show W1.heap[w.heap.size]? = some (.cells #[.int .i64 n0, .int .i64 d0, .int .i64 n1, .int .i64 d1, .int .i64 n2, .int .i64 d2, .int .i64 n3, .int .i64 d3, .int .i64 n4, .int .i64 d4, .int .i64 n5, .int .i64 d5, .int .i64 n6, .int .i64 d6, .slice a ps.length c] 29) by rw [← hW1]; exact heap_alloc_new w _)
  have hs1 : w.heap.size < W1.heap.size := by rw [← hW1]; simp
  have HW1 := hide hW1
  have N1 := hide (hN.low B0.out)
  clear hW1 hv hus hN
  obtain ⟨⟨f0, f1, f2, f3, f4, f5, f6, f7, f8, f9, f10, f11, f12, f13⟩, p14⟩ := bxk_15 P0.out
  replace p14 := hide p14
  obtain ⟨z0, hz0⟩ : ∃ z0, orU 0 [(n0, d0), (n1, d1), (n2, d2), (n3, d3), (n4, d4), (n5, d5), (n6, d6)] 0 = z0 := ⟨_, rfl⟩
  have HZ0 := hide hz0
  rw [hz0] at EQ
  clear hz0
  have CI0 := hide (fun (W : World) => wk.int_any 0 W)
  generalize hU : [(n0, d0), (n1, d1), (n2, d2), (n3, d3), (n4, d4), (n5, d5), (n6, d6)] = US at *
  go_enter Tryd.func18, Tryd.ntmps18
  go_upto_region 1 with fail
  rw [HW1.out]
  clear HW1
  go_wp2
  clear f0 f1 f2 f3 f4 f5 f6 f7 f8 f9 f10 f11 f12 f13
  go_loopw [12, 3] (fun i u wr => RelUo W1 US i u wr) (fun i _ _ => 7 - (intOf i).toNat)
  case atStart => exact .mk 0 0 rfl rfl (by omega) (Below.refl _ _) rfl
  case round =>
    obtain ⟨k, m, rfl, rfl, hk, BE, R⟩ := hrel
    replace BE := hide BE
    by_cases hlt : k < 7
    · obtain ⟨rn, rd, hr, ⟨rn1, rn2⟩, ⟨rd1, rd2⟩⟩ := us_at HUS.out hlt
      have IX := ix7 (n0 := n0) (d0 := d0) (n1 := n1) (d1 := d1) (n2 := n2) (d2 := d2) (n3 := n3) (d3 := d3) (n4 := n4) (d4 := d4) (n5 := n5) (d5 := d5) (n6 := n6) (d6 := d6) hlt 26 (.inl rfl) (n := rn) (d := rd) (by rw [hU]; exact hr)
      have R2 := hide (orU_step R.out hr)
      have hlt' : (k : Int) < 7 := by omega
      have BX := hide (bplus BE.out (.cells #[.int .i64 rn, .int .i64 rd] 24))
      have PX := hide (show Bk (wr.alloc (.cells #[.int .i64 rn, .int .i64 rd] 24)) wr.heap.size 24 [.int .i64 rn, .int .i64 rd] from Bk.new wr _ _)
      clear hr R
      by_cases hz : rn = 0 ∧ rd = 1
      · obtain ⟨rfl, rfl⟩ := hz
        rw [if_pos rfl] at R2
        go_wp2
        go_region_with ((go_at_call 22; refine (CI0.out _).mono ?_; rintro e w4 ⟨rfl, cc, rfl⟩))
        all_goals
          go_wp2_with fail
          go_roundw
          case rel => exact .mk (k + 1) m (by go_num) rfl (by omega) (by first | exact (bplus BX.out _) | exact (bplus BX.out.drew _) | exact (bplus BX.out _).drew) R2.out
          case measure => simp [intOf]; omega
      · rw [if_neg (by simpa using hz)] at R2
        rcases (show ¬ rn = 0 ∨ (rn = 0 ∧ ¬ rd = 1) by omega) with hz1 | ⟨hz0, hz1⟩
        · have hz2 : (rn == 0) = false := by simpa using hz1
          clear hz
          go_wp2
          go_region_with ((go_at_call 22; refine (CI0.out _).mono ?_; rintro e w4 ⟨rfl, cc, rfl⟩))
          all_goals
            go_wp2_with fail
            go_roundw
            case rel => exact .mk (k + 1) (orI m (bitK k)) (by go_num) rfl (by omega) (by first | exact (bplus BX.out _) | exact (bplus BX.out.drew _) | exact (bplus BX.out _).drew) R2.out
            case measure => simp [intOf]; omega
        · subst hz0
          have hz2 : (rd == 1) = false := by simpa using hz1
          clear hz
          go_wp2
          go_region_with ((go_at_call 22; refine (CI0.out _).mono ?_; rintro e w4 ⟨rfl, cc, rfl⟩))
          all_goals
            go_wp2_with fail
            go_roundw
            case rel => exact .mk (k + 1) (orI m (bitK k)) (by go_num) rfl (by omega) (by first | exact (bplus BX.out _) | exact (bplus BX.out.drew _) | exact (bplus BX.out _).drew) R2.out
            case measure => simp [intOf]; omega
    · obtain rfl : k = 7 := by omega
      have F := hide (show m = z0 by rw [← HZ0.out, R.out, List.drop_of_length_le (by rw [HUS.out.1]; omega)]; rfl)
      have hlt' : ¬ ((7 : Nat) : Int) < 7 := by omega
      have f14 := (BE.out.cell (p := ⟨w.heap.size, 14, none⟩) hs1).trans p14.out
      rw [← F.out] at EQ
      clear R F HZ0
      go_wp2
      go_loopw [29, 3] (fun i u wr => RelFd W1 (fun m (p : Pa) => usX n p.2 m) r ps i u wr) (fun i _ _ => ps.length - (intOf i).toNat)
      case atStart => exact .mk 0 _ rfl rfl (by omega) BE.out EQ.out
      case round =>
        clear f14 BE EQ
        obtain ⟨k2, m2, rfl, rfl, hk2, BE, R⟩ := hrel
        replace BE := hide BE
        by_cases hlt2 : k2 < ps.length
        · obtain ⟨p, hp⟩ : ∃ p, ps[k2]? = some p := ⟨_, List.getElem?_eq_getElem hlt2⟩
          obtain ⟨b2, o2, c2', u2, hv2, hb2, -, -, p0, p1, hu2⟩ := HV.out.at hp
          obtain ⟨rfl, rfl⟩ : a = some ⟨b2, o2, none⟩ ∧ c = c2' := by cases hv2; exact ⟨rfl, rfl⟩
          have hlt2' : (k2 : Int) < ps.length := by omega
          have hb2' : b2 < W1.heap.size := by omega
          have f0 := (BE.out.cell (p := ⟨b2, o2 + k2 * 2, none⟩) hb2').trans ((B0.out.cell (p := ⟨b2, o2 + k2 * 2, none⟩) hb2).trans p0)
          have f1 := (BE.out.cell (p := ⟨b2, o2 + k2 * 2 + 1, none⟩) hb2').trans ((B0.out.cell (p := ⟨b2, o2 + k2 * 2 + 1, none⟩) hb2).trans p1)
          have hbw2 : b2 < wr.heap.size := by have := BE.out.size; omega
          have nb2 : b2 ≠ wr.heap.size := by omega
          have R2 := hide (fd_step R.out hp)
          obtain ⟨mx, ags⟩ := p
          simp only at f0 f1 hu2 R2
          have EX := hide (show usX n ags m2 = ags.foldl (fun m a => orI m (usG (n - 1) a.us a.ps)) m2 from usX_eq (fun h0 => by subst h0; exact hu2.1) m2)
          obtain ⟨z2, hz2⟩ : ∃ z2, usX n ags m2 = z2 := ⟨_, rfl⟩
          rw [hz2] at EX R2
          clear hz2
          obtain ⟨ua, uc, hus, has9⟩ := hu2.shape
          have HU := hide hu2
          clear p0 p1 hv2 hp hu2 R
          subst hus
          have BB := hide (bplus BE.out (.cells #[.bool mx, .slice ua ags.length uc] 41))
          go_wp2
          go_loopw [36, 3] (fun i u wr => RelFd W1 (fun m (x : Fo) => orI m (usG (n - 1) x.us x.ps)) z2 ags i u wr) (fun i _ _ => ags.length - (intOf i).toNat)
          case atStart => exact .mk 0 _ rfl rfl (by omega) BB.out EX.out
          case round =>
            clear f0 f1 hbw2 nb2 BB BE EX
            obtain ⟨k3, m3, rfl, rfl, hk3, BE, R3⟩ := hrel
            replace BE := hide BE
            by_cases hlt3 : k3 < ags.length
            · obtain ⟨x, hx⟩ : ∃ x, ags[k3]? = some x := ⟨_, List.getElem?_eq_getElem hlt3⟩
              obtain ⟨m, hm, b3, o3, c3', u3, hv3, hb3, -, -, q0, q1, hu3⟩ := HU.out.at hx
              obtain ⟨rfl, rfl⟩ : ua = some ⟨b3, o3, none⟩ ∧ uc = c3' := by cases hv3; exact ⟨rfl, rfl⟩
              have hlt3' : (k3 : Int) < ags.length := by omega
              have hb3' : b3 < W1.heap.size := by omega
              have f14 := (BE.out.cell (p := ⟨b3, o3 + k3 * 15 + 14, none⟩) hb3').trans ((B0.out.cell (p := ⟨b3, o3 + k3 * 15 + 14, none⟩) hb3).trans q1)
              have hbw3 : b3 < wr.heap.size := by have := BE.out.size; omega
              have nb3 : b3 ≠ wr.heap.size := by omega
              obtain ⟨xus, xps⟩ := x
              have R4 := hide (show z2 = (ags.drop (k3 + 1)).foldl (fun m (x : Fo) => orI m (usG (n - 1) x.us x.ps)) (orI m3 (usG m xus xps)) from by
                have q := fd_step R3.out hx
                rw [show usG m xus xps = usG (n - 1) xus xps by rw [show n - 1 = m by omega]]
                exact q)
              simp only [Fo.us, Fo.ps] at q0 hu3
              obtain ⟨xa, xc, hxs, hx9⟩ := hu3.shape
              subst hxs
              have QU := hide q0.1
              have QP := hide hu3
              have CI := hide (fun (W : World) (h : Below W1.heap.size W1 W) => IH.out m hm xus xps (.slice xa xps.length xc) W (N1.out.low h) QU.out (QP.out.low (bto B0.out h)))
              obtain ⟨gx, hgx⟩ : ∃ gx, usG m xus xps = gx := ⟨_, rfl⟩
              rw [hgx] at CI R4
              clear hgx
              obtain ⟨xn0, xd0, xn1, xd1, xn2, xd2, xn3, xd3, xn4, xd4, xn5, xd5, xn6, xd6, rfl⟩ := us7 QU.out
              rw [foV_eq] at CI
              obtain ⟨f0, f1, f2, f3, f4, f5, f6, f7, f8, f9, f10, f11, f12, f13⟩ := ((q0.below B0.out hb3).below BE.out hb3').fa
              clear hv3 hx q0 q1 hu3 R3 hm
              go_wp2_with (go_at_call 18; refine (CI.out _ (bplus BE.out _)).mono ?_; rintro e w4 ⟨rfl, B4⟩; replace B4 := hide (bto (bplus BE.out _) B4))
              go_roundw
              case rel => exact .mk (k3 + 1) (orI m3 gx) (by go_num) rfl (by omega) B4.out R4.out
              case measure => simp [intOf]; omega
            · have hlt3' : ¬ (k3 : Int) < ags.length := by omega
              have EA := hide (fd_end R3.out (by omega))
              rw [EA.out] at R2
              clear EA R3
              go_wp2
              go_roundw
              case rel => exact .mk (k2 + 1) m3 (by go_num) rfl (by omega) BE.out R2.out
              case measure => simp [intOf]; omega
        · have hlt2' : ¬ (k2 : Int) < ps.length := by omega
          have F := hide (fd_end R.out (by omega))
          clear R
          go_wp2
          go_ret
          exact ⟨ret_int F.out.symm, bto B0.out BE.out⟩
theorem usesR_all (n : Nat) : UsR n := by
  induction n with
  | zero => exact UsR_of 0 (fun m hm => by omega)
  | succ n ih => exact UsR_of (n + 1) (fun m hm => by have e : m = n := (by omega); subst e; exact ih)
end Go.Proofs.YticgcokhdipomaaDoor.nm
