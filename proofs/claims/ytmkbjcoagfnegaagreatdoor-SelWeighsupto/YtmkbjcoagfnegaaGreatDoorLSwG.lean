/-
  What a selector weighs, by the program.
-/
import Derived.Test.YtmkbjcoagfnegaaGreatDoorLSwF
import Derived.Test.YtmkbjcoagfnegaaGreatDoorX33
import Derived.Deep.RegionWith
set_option linter.unusedVariables false
set_option linter.unusedSimpArgs false
namespace Go.Proofs.YtmkbjcoagfnegaaGreatDoor
open Go.RowKit

/-- The state of the loop over compounds. -/
def RelWo (w : World) (r : List Cx → Wt) (c : Cx) (i : Value) (wr : World) : Prop := ∃ k : Nat, i = .int .i64 k ∧ k ≤ c.length ∧ Hid (Bk3 wr (w.heap.size + 2) (wtC r (c.take k)) ∧ Bk3 wr (w.heap.size + 1) z3 ∧ Below w.heap.size w wr)
theorem RelWo.mk {w : World} {r : List Cx → Wt} {c : Cx} {i : Value} {wr : World} (k : Nat) (h : i = .int .i64 k) (hk : k ≤ c.length) (h1 : Bk3 wr (w.heap.size + 2) (wtC r (c.take k))) (h2 : Bk3 wr (w.heap.size + 1) z3) (h3 : Below w.heap.size w wr) : RelWo w r c i wr := ⟨k, h, hk, h1, h2, h3⟩
/-- The state of the loop over a compound's simple selectors. -/
def RelWi (w : World) (r : List Cx → Wt) (c : Cx) (k n : Nat) (i : Value) (wr : World) : Prop := ∃ m : Nat, i = .int .i64 m ∧ m ≤ n ∧ Hid (Bk3 wr (w.heap.size + 2) (wtW r c k m) ∧ Bk3 wr (w.heap.size + 1) z3 ∧ Below w.heap.size w wr)
theorem RelWi.mk {w : World} {r : List Cx → Wt} {c : Cx} {k n : Nat} {i : Value} {wr : World} (m : Nat) (h : i = .int .i64 m) (hk : m ≤ n) (h1 : Bk3 wr (w.heap.size + 2) (wtW r c k m)) (h2 : Bk3 wr (w.heap.size + 1) z3) (h3 : Below w.heap.size w wr) : RelWi w r c k n i wr := ⟨m, h, hk, h1, h2, h3⟩
set_option maxRecDepth 100000 in
set_option maxHeartbeats 8000000 in
theorem weightOf_any (n : Nat) (c : Cx) (v : Value) (w : World) (hv : PsM w n v c) (hz : szC (szM n) c ≤ 1048576) (IH : WtLs n) : Calls Tryz.prog 39 #[.agg #[v]] w fun e w' => e = .returned (wV (wtC (wtM n) c)) ∧ Below w.heap.size w w' := by
  obtain ⟨a, cc, rfl, h9⟩ := hv.shape
  have HV := hide hv
  have HI := hide (fun i j => (wtW_in (wtM_in n) c i j).mono hz)
  have HS := hide (fun (i j : Nat) (p : Cp) (s : Sl) (hp : c[i]? = some p) (hs : p.2[j]? = some s) => (wtS_in (wtM_in n) s).mono (Nat.le_trans (szS_at hp hs) hz))
  have CS := hide (fun (i j : Nat) (p : Cp) (s : Sl) (u : Value) (W : World) (hp : c[i]? = some p) (hs : p.2[j]? = some s) (hW : Below w.heap.size w W) (hu : CM w n u s.ls) => simpleWeight_any n s u W (hu.low hW) (by have h1 : szS (szM n) s ≤ _ := Nat.le_trans (szS_at hp hs) hz; unfold szS at h1; omega) IH)
  clear hv hz IH
  obtain ⟨W1, hW1⟩ : ∃ W1, ((w.alloc (.cells #[.slice a c.length cc] 40)).alloc (.cells #[.int .i64 0, .int .i64 0, .int .i64 0] 42)).alloc (.cells #[.int .i64 0, .int .i64 0, .int .i64 0] 42) = W1 := ⟨_, rfl⟩
  have HW1 := hide hW1
  have B0 := hide (show Below w.heap.size w W1 by rw [← hW1]; exact bplus (bplus (bplus (Below.refl _ _) _) _) _)
  have P1 := hide (show Bk3 W1 (w.heap.size + 1) z3 by rw [← hW1]; have := (Bk3.new (w.alloc (.cells #[.slice a c.length cc] 40)) z3).more (.cells #[.int .i64 0, .int .i64 0, .int .i64 0] 42); simpa [z3] using this)
  have P2 := hide (show Bk3 W1 (w.heap.size + 2) z3 by rw [← hW1]; have := Bk3.new ((w.alloc (.cells #[.slice a c.length cc] 40)).alloc (.cells #[.int .i64 0, .int .i64 0, .int .i64 0] 42)) z3; simpa [z3] using this)
  clear hW1
  have W0 := hide (wtW_zero (wtM n) c)
  have WS := hide (fun i j p s => @wtW_step (wtM n) c i j p s)
  have WE := hide (fun i j p => @wtW_end (wtM n) c i j p)
  generalize hr : wtM n = r at *
  clear hr
  go_enter Tryz.func39, Tryz.ntmps39
  go_wp2_with fail
  rw [HW1.out]
  go_loopw [11] (fun i wr => RelWo w r c i wr) (fun i _ => c.length - (intOf i).toNat)
  case atStart => exact .mk 0 rfl (by omega) P2.out P1.out B0.out
  case round =>
    obtain ⟨k, rfl, hk, R⟩ := hrel
    have Q2 := hide R.out.1
    have Q1 := hide R.out.2.1
    have BE := hide R.out.2.2
    clear R P1 P2 B0 HW1
    by_cases hlt : k < c.length
    · obtain ⟨p, hp⟩ : ∃ p, c[k]? = some p := ⟨_, List.getElem?_eq_getElem hlt⟩
      obtain ⟨b, o, c', u, hv', hb, e0, e1, hu, _, _⟩ := HV.out.at hp
      obtain ⟨rfl, rfl⟩ : a = some ⟨b, o, none⟩ ∧ cc = c' := by cases hv'; exact ⟨rfl, rfl⟩
      have hlt' : (k : Int) < c.length := by omega
      have f0 := (BE.out.cell (p := ⟨b, o + k * 2, none⟩) hb).trans e0
      have f1 := (BE.out.cell (p := ⟨b, o + k * 2 + 1, none⟩) hb).trans e1
      have hsz := BE.out.size
      have hbw : b < wr.heap.size := by omega
      have nb : b ≠ wr.heap.size := by omega
      have CS1 := hide (fun j s u W => CS.out k j p s u W hp)
      have HS1 := hide (fun j s => HS.out k j p s hp)
      have HI1 := hide (fun j => HI.out k j)
      have WS1 := hide (fun j s => WS.out k j p s hp)
      have WE1 := hide (fun j => WE.out k j p hp)
      have Z := hide (W0.out k)
      have SM := hide hu
      obtain ⟨ua, uc, hus, hu9⟩ := hu.shape
      clear e0 e1 hv' hu hp CS HS HI WS WE W0 HV
      obtain ⟨W2, hW2⟩ : ∃ W2, wr.alloc (.cells #[.int .i64 p.1, u] 67) = W2 := ⟨_, rfl⟩
      have HW2 := hide hW2
      have BB := hide (show Below w.heap.size w W2 by rw [← hW2]; exact bplus BE.out _)
      have Q2' := hide (show Bk3 W2 (w.heap.size + 2) (wtW r c k 0) by rw [← hW2, Z.out]; exact Q2.out.more _)
      have Q1' := hide (show Bk3 W2 (w.heap.size + 1) z3 by rw [← hW2]; exact Q1.out.more _)
      clear hW2 Q2 Q1 Z
      subst hus
      obtain ⟨cm, ss⟩ := p
      simp only at *
      go_wp2_with fail
      rw [HW2.out]
      go_loopw [18] (fun i wr => RelWi w r c k ss.length i wr) (fun i _ => ss.length - (intOf i).toNat)
      case atStart => exact .mk 0 rfl (by omega) Q2'.out Q1'.out BB.out
      case round =>
        obtain ⟨m, rfl, hm, R⟩ := hrel
        have X2 := hide R.out.1
        have X1 := hide R.out.2.1
        have BI := hide R.out.2.2
        clear R Q2' Q1' BB HW2 BE
        by_cases hlm : m < ss.length
        · obtain ⟨s, hs⟩ : ∃ s, ss[m]? = some s := ⟨_, List.getElem?_eq_getElem hlm⟩
          obtain ⟨sb, so, sc, su, hsv, hsb, ⟨e0, e1, e2, e3, e4, e5, e6, e7⟩, hu, ok⟩ := SM.out.at hs
          obtain ⟨rfl, rfl⟩ : ua = some ⟨sb, so, none⟩ ∧ uc = sc := by cases hsv; exact ⟨rfl, rfl⟩
          have hlm' : (m : Int) < ss.length := by omega
          have g0 := (BI.out.cell (p := ⟨sb, so + m * 8, none⟩) hsb).trans e0
          have g1 := (BI.out.cell (p := ⟨sb, so + m * 8 + 1, none⟩) hsb).trans e1
          have g2 := (BI.out.cell (p := ⟨sb, so + m * 8 + 2, none⟩) hsb).trans e2
          have g3 := (BI.out.cell (p := ⟨sb, so + m * 8 + 3, none⟩) hsb).trans e3
          have g4 := (BI.out.cell (p := ⟨sb, so + m * 8 + 4, none⟩) hsb).trans e4
          have g5 := (BI.out.cell (p := ⟨sb, so + m * 8 + 5, none⟩) hsb).trans e5
          have g6 := (BI.out.cell (p := ⟨sb, so + m * 8 + 6, none⟩) hsb).trans e6
          have g7 := (BI.out.cell (p := ⟨sb, so + m * 8 + 7, none⟩) hsb).trans e7
          have hsw : sb < wr.heap.size := by have := BI.out.size; omega
          have nsb : sb ≠ wr.heap.size := by omega
          have CS2 := hide (fun (W : World) (hW : Below w.heap.size w W) => CS1.out m s su W hs hW hu)
          have CP := hide (fun (W : World) => plusP_any (wtW r c k m) (wtS r s) 1048576 1048576 W (HI1.out m) (HS1.out m s hs) (by omega) (by omega))
          have ST := hide (WS1.out m s hs)
          obtain ⟨va, vc, hus, _⟩ := hu.shape
          clear e0 e1 e2 e3 e4 e5 e6 e7 hsv hu ok hs CS1 HS1 HI1 WS1 SM f0 f1
          obtain ⟨W3, hW3⟩ : ∃ W3, wr.alloc (.cells #[.int .i64 s.k, .string s.nm, .int .i64 s.op, .string s.vl, .bool s.fo, su, .int .i64 s.a, .int .i64 s.b] 69) = W3 := ⟨_, rfl⟩
          have HW3 := hide hW3
          have BC := hide (show Below w.heap.size w W3 by rw [← hW3]; exact bplus BI.out _)
          have Y2 := hide (show Bk3 W3 (w.heap.size + 2) (wtW r c k m) by rw [← hW3]; exact X2.out.more _)
          have Y1 := hide (show Bk3 W3 (w.heap.size + 1) z3 by rw [← hW3]; exact X1.out.more _)
          have YB := hide (show W3.heap[wr.heap.size]? = some (.cells #[.int .i64 s.k, .string s.nm, .int .i64 s.op, .string s.vl, .bool s.fo, su, .int .i64 s.a, .int .i64 s.b] 69) by rw [← hW3]; exact heap_alloc_new wr _)
          clear hW3 X2 X1
          unfold Sl.v at CS2
          unfold slV at CS2
          subst hus
          generalize wtS r s = wy at CS2 CP ST
          generalize wtW r c k m = wx at Y2 CP ST
          generalize s.ls.length = ln at *
          obtain ⟨sk, op, sa, sb', nm, vl, fo, ls⟩ := s
          simp only [Sl.k, Sl.op, Sl.a, Sl.b, Sl.nm, Sl.vl, Sl.fo, Sl.ls] at *
          have RR := hide (fun (W : World) (h : Bk3 W (w.heap.size + 2) wx) => h.put (adW wx wy))
          generalize adW wx wy = wz at CP ST RR
          unfold wV at CS2 CP
          obtain ⟨x0, x1, x2⟩ := wx
          obtain ⟨y0, y1, y2⟩ := wy
          obtain ⟨t0, t1, t2⟩ := wz
          simp only at CS2 CP RR
          obtain ⟨p0, p1, p2⟩ := Y2.out.cells
          simp only at p0 p1 p2
          obtain ⟨q0, q1, q2, q3, q4, q5, q6, q7⟩ := bxk_8 YB.out
          go_upto_region 8 with fail
          rw [HW3.out]
          clear HW3
          go_region_with (first
            | (go_at_call 62; refine (CS2.out W3.drew BC.out.drew).mono ?_; rintro e w1 ⟨rfl, B1'⟩; have B1 : Below W3.heap.size W3 w1 := (Below.refl W3.heap.size W3).drew.trans B1'; clear B1'; replace Y2 := hide (Y2.out.up B1); replace Y1 := hide (Y1.out.up B1); replace BC := hide (bto BC.out B1); obtain ⟨p0', p1', p2'⟩ := Y2.out.cells; simp only at p0' p1' p2'; clear B1 CS2)
            | (go_at_call 61; refine (CP.out _).mono ?_; rintro e w2 ⟨rfl, B2⟩; replace Y2 := hide (Y2.out.up B2); replace Y1 := hide (Y1.out.up B2); replace BC := hide (bto BC.out B2); obtain ⟨r0, r1, r2⟩ := Y2.out.cells; simp only at r0 r1 r2; have v0 := Y2.out.fz 0; have v1 := Y2.out.fz 1; have v2 := Y2.out.fz 2; clear B2 CP))
          all_goals
            go_wp2
            go_roundw
            case rel => exact .mk (m + 1) (by go_num) (by omega) (by rw [ST.out]; exact RR.out _ Y2.out) (((Y1.out.far (by omega) _ _).far (by omega) _ _).far (by omega) _ _) (below_put BC.out (by omega) _ _ _)
            case measure => simp [intOf]; omega
        · have hlm' : ¬ (m : Int) < ss.length := by omega
          have E := hide (WE1.out m (by omega))
          clear CS1 HS1 HI1 WS1 WE1 SM
          go_wp2
          go_roundw
          case rel => exact .mk (k + 1) (by go_num) (by omega) (by rw [← E.out]; exact X2.out) X1.out BI.out
          case measure => simp [intOf]; omega
    · have hlt' : ¬ (k : Int) < c.length := by omega
      rw [show c.take k = c from List.take_of_length_le (by omega)] at Q2
      clear HV HI HS CS W0 WS WE
      have d0 := Q2.out.cells.1
      have d1 := Q2.out.cells.2.1
      have d2 := Q2.out.cells.2.2
      obtain ⟨i0, i1, i2⟩ := Q1.out.cells
      have v0 := Q1.out.fz 0
      have v1 := Q1.out.fz 1
      have v2 := Q1.out.fz 2
      obtain ⟨M, hM⟩ : ∃ M, wtC r c = M := ⟨_, rfl⟩
      have F := hide hM
      rw [hM] at Q2 d0 d1 d2
      clear hM
      obtain ⟨m0, m1, m2⟩ := M
      simp only at d0 d1 d2
      go_wp2
      exact ret3 (b := w.heap.size + 1) Tryz.results39 rfl (Q1.out.put (m0, m1, m2)) rfl ⟨by rw [F.out], below_put BE.out (by omega) _ _ _⟩
end Go.Proofs.YtmkbjcoagfnegaaGreatDoor
