/-
  What a selector weighs, by the program.
  What the selectors of a list weigh, by the program.
  The weight of a selector, whatever it is, by the program.
  Selectors as a row reads them.
-/
import Derived.Test.YtmkbjcoagfnegabGreatDoorV36
import Derived.Test.YtmkbjcoagfnegabGreatDoorV33
import Derived.Deep.RegionWith
import Derived.Deep.OwnRows
import Derived.Test.YtmkbjcoagfnegabGreatDoorV13
import Derived.Test.YtmkbjcoagfnegabGreatDoorV35
import Derived.Deep.DeepHandedRow
import Derived.Deep.DeepWitnessRowRef
import Derived.Deep.Slices
import Derived.Carry
set_option linter.unusedVariables false
set_option linter.unusedSimpArgs false
namespace Go.Proofs.YtmkbjcoagfnegabGreatDoor
open Go.RowKit

/-- The state of the loop over compounds. -/
def RelWo (w : World) (r : List Cx → Wt) (c : Cx) (i : Value) (wr : World) : Prop := ∃ k : Nat, i = .int .i64 k ∧ k ≤ c.length ∧ Hid (Bk3 wr (w.heap.size + 2) (wtC r (c.take k)) ∧ Bk3 wr (w.heap.size + 1) z3 ∧ Below w.heap.size w wr)
theorem RelWo.mk {w : World} {r : List Cx → Wt} {c : Cx} {i : Value} {wr : World} (k : Nat) (h : i = .int .i64 k) (hk : k ≤ c.length) (h1 : Bk3 wr (w.heap.size + 2) (wtC r (c.take k))) (h2 : Bk3 wr (w.heap.size + 1) z3) (h3 : Below w.heap.size w wr) : RelWo w r c i wr := ⟨k, h, hk, h1, h2, h3⟩
/-- The state of the loop over a compound's simple selectors. -/
def RelWi (w : World) (r : List Cx → Wt) (c : Cx) (k n : Nat) (i : Value) (wr : World) : Prop := ∃ m : Nat, i = .int .i64 m ∧ m ≤ n ∧ Hid (Bk3 wr (w.heap.size + 2) (wtW r c k m) ∧ Bk3 wr (w.heap.size + 1) z3 ∧ Below w.heap.size w wr)
theorem RelWi.mk {w : World} {r : List Cx → Wt} {c : Cx} {k n : Nat} {i : Value} {wr : World} (m : Nat) (h : i = .int .i64 m) (hk : m ≤ n) (h1 : Bk3 wr (w.heap.size + 2) (wtW r c k m)) (h2 : Bk3 wr (w.heap.size + 1) z3) (h3 : Below w.heap.size w wr) : RelWi w r c k n i wr := ⟨m, h, hk, h1, h2, h3⟩
set_option maxRecDepth 100000 in
set_option maxHeartbeats 8000000 in
theorem weightOf_any (n : Nat) (c : Cx) (v : Value) (w : World) (hv : PsM w n v c) (hz : szC (szM n) c ≤ 4194304) (IH : WtLs n) : Calls Tryz.prog 12 #[.agg #[v]] w fun e w' => e = .returned (wV (wtC (wtM n) c)) ∧ Below w.heap.size w w' := by
  obtain ⟨a, cc, rfl, h9⟩ := hv.shape
  have HV := hide hv
  have HI := hide (fun i j => (wtW_in (wtM_in n) c i j).mono hz)
  have HS := hide (fun (i j : Nat) (p : Cp) (s : Sl) (hp : c[i]? = some p) (hs : p.2[j]? = some s) => (wtS_in (wtM_in n) s).mono (Nat.le_trans (szS_at hp hs) hz))
  have CS := hide (fun (i j : Nat) (p : Cp) (s : Sl) (u : Value) (W : World) (hp : c[i]? = some p) (hs : p.2[j]? = some s) (hW : Below w.heap.size w W) (hu : CM w n u s.ls) => simpleWeight_any n s u W (hu.low hW) (by have h1 : szS (szM n) s ≤ _ := Nat.le_trans (szS_at hp hs) hz; unfold szS at h1; omega) IH)
  clear hv hz IH
  obtain ⟨W1, hW1⟩ : ∃ W1, ((w.alloc (.cells #[.slice a c.length cc] 24)).alloc (.cells #[.int .i64 0, .int .i64 0, .int .i64 0] 26)).alloc (.cells #[.int .i64 0, .int .i64 0, .int .i64 0] 26) = W1 := ⟨_, rfl⟩
  have HW1 := hide hW1
  have B0 := hide (show Below w.heap.size w W1 by rw [← hW1]; exact bplus (bplus (bplus (Below.refl _ _) _) _) _)
  have P1 := hide (show Bk3 W1 (w.heap.size + 1) z3 by rw [← hW1]; have := (Bk3.new (w.alloc (.cells #[.slice a c.length cc] 24)) z3).more (.cells #[.int .i64 0, .int .i64 0, .int .i64 0] 26); simpa [z3] using this)
  have P2 := hide (show Bk3 W1 (w.heap.size + 2) z3 by rw [← hW1]; have := Bk3.new ((w.alloc (.cells #[.slice a c.length cc] 24)).alloc (.cells #[.int .i64 0, .int .i64 0, .int .i64 0] 26)) z3; simpa [z3] using this)
  clear hW1
  have W0 := hide (wtW_zero (wtM n) c)
  have WS := hide (fun i j p s => @wtW_step (wtM n) c i j p s)
  have WE := hide (fun i j p => @wtW_end (wtM n) c i j p)
  generalize hr : wtM n = r at *
  clear hr
  go_enter Tryz.func12, Tryz.ntmps12
  go_wp2_with fail
  rw [HW1.out]
  go_loopw [11] (fun i wr => RelWo w r c i wr) (fun i _ => c.length - (intOf i).toNat)
  case atStart => exact .mk 0 rfl (by omega) P2.out P1.out B0.out
  case round =>
    obtain ⟨k, rfl, hk, R⟩ := hrel
    have Q2 := hide R.out.1
    have Q1 := hide R.out.2.1
    have BE := hide R.out.2.2
    clear R P1 P2 B0 HW1
    by_cases hlt : k < c.length
    · obtain ⟨p, hp⟩ : ∃ p, c[k]? = some p := ⟨_, List.getElem?_eq_getElem hlt⟩
      obtain ⟨b, o, c', u, hv', hb, e0, e1, hu, _, _⟩ := HV.out.at hp
      obtain ⟨rfl, rfl⟩ : a = some ⟨b, o, none⟩ ∧ cc = c' := by cases hv'; exact ⟨rfl, rfl⟩
      have hlt' : (k : Int) < c.length := by omega
      have f0 := (BE.out.cell (p := ⟨b, o + k * 2, none⟩) hb).trans e0
      have f1 := (BE.out.cell (p := ⟨b, o + k * 2 + 1, none⟩) hb).trans e1
      have hsz := BE.out.size
      have hbw : b < wr.heap.size := by omega
      have nb : b ≠ wr.heap.size := by omega
      have CS1 := hide (fun j s u W => CS.out k j p s u W hp)
      have HS1 := hide (fun j s => HS.out k j p s hp)
      have HI1 := hide (fun j => HI.out k j)
      have WS1 := hide (fun j s => WS.out k j p s hp)
      have WE1 := hide (fun j => WE.out k j p hp)
      have Z := hide (W0.out k)
      have SM := hide hu
      obtain ⟨ua, uc, hus, hu9⟩ := hu.shape
      clear e0 e1 hv' hu hp CS HS HI WS WE W0 HV
      obtain ⟨W2, hW2⟩ : ∃ W2, wr.alloc (.cells #[.int .i64 p.1, u] 33) = W2 := ⟨_, rfl⟩
      have HW2 := hide hW2
      have BB := hide (show Below w.heap.size w W2 by rw [← hW2]; exact bplus BE.out _)
      have Q2' := hide (show Bk3 W2 (w.heap.size + 2) (wtW r c k 0) by rw [← hW2, Z.out]; exact Q2.out.more _)
      have Q1' := hide (show Bk3 W2 (w.heap.size + 1) z3 by rw [← hW2]; exact Q1.out.more _)
      clear hW2 Q2 Q1 Z
      subst hus
      obtain ⟨cm, ss⟩ := p
      simp only at *
      go_wp2_with fail
      rw [HW2.out]
      go_loopw [18] (fun i wr => RelWi w r c k ss.length i wr) (fun i _ => ss.length - (intOf i).toNat)
      case atStart => exact .mk 0 rfl (by omega) Q2'.out Q1'.out BB.out
      case round =>
        obtain ⟨m, rfl, hm, R⟩ := hrel
        have X2 := hide R.out.1
        have X1 := hide R.out.2.1
        have BI := hide R.out.2.2
        clear R Q2' Q1' BB HW2 BE
        by_cases hlm : m < ss.length
        · obtain ⟨s, hs⟩ : ∃ s, ss[m]? = some s := ⟨_, List.getElem?_eq_getElem hlm⟩
          obtain ⟨sb, so, sc, su, hsv, hsb, ⟨e0, e1, e2, e3, e4, e5, e6, e7⟩, hu, ok⟩ := SM.out.at hs
          obtain ⟨rfl, rfl⟩ : ua = some ⟨sb, so, none⟩ ∧ uc = sc := by cases hsv; exact ⟨rfl, rfl⟩
          have hlm' : (m : Int) < ss.length := by omega
          have g0 := (BI.out.cell (p := ⟨sb, so + m * 8, none⟩) hsb).trans e0
          have g1 := (BI.out.cell (p := ⟨sb, so + m * 8 + 1, none⟩) hsb).trans e1
          have g2 := (BI.out.cell (p := ⟨sb, so + m * 8 + 2, none⟩) hsb).trans e2
          have g3 := (BI.out.cell (p := ⟨sb, so + m * 8 + 3, none⟩) hsb).trans e3
          have g4 := (BI.out.cell (p := ⟨sb, so + m * 8 + 4, none⟩) hsb).trans e4
          have g5 := (BI.out.cell (p := ⟨sb, so + m * 8 + 5, none⟩) hsb).trans e5
          have g6 := (BI.out.cell (p := ⟨sb, so + m * 8 + 6, none⟩) hsb).trans e6
          have g7 := (BI.out.cell (p := ⟨sb, so + m * 8 + 7, none⟩) hsb).trans e7
          have hsw : sb < wr.heap.size := by have := BI.out.size; omega
          have nsb : sb ≠ wr.heap.size := by omega
          have CS2 := hide (fun (W : World) (hW : Below w.heap.size w W) => CS1.out m s su W hs hW hu)
          have CP := hide (fun (W : World) => plusP_any (wtW r c k m) (wtS r s) 4194304 4194304 W (HI1.out m) (HS1.out m s hs) (by omega) (by omega))
          have ST := hide (WS1.out m s hs)
          obtain ⟨va, vc, hus, _⟩ := hu.shape
          clear e0 e1 e2 e3 e4 e5 e6 e7 hsv hu ok hs CS1 HS1 HI1 WS1 SM f0 f1
          obtain ⟨W3, hW3⟩ : ∃ W3, wr.alloc (.cells #[.int .i64 s.k, .string s.nm, .int .i64 s.op, .string s.vl, .bool s.fo, su, .int .i64 s.a, .int .i64 s.b] 37) = W3 := ⟨_, rfl⟩
          have HW3 := hide hW3
          have BC := hide (show Below w.heap.size w W3 by rw [← hW3]; exact bplus BI.out _)
          have Y2 := hide (show Bk3 W3 (w.heap.size + 2) (wtW r c k m) by rw [← hW3]; exact X2.out.more _)
          have Y1 := hide (show Bk3 W3 (w.heap.size + 1) z3 by rw [← hW3]; exact X1.out.more _)
          have YB := hide (show W3.heap[wr.heap.size]? = some (.cells #[.int .i64 s.k, .string s.nm, .int .i64 s.op, .string s.vl, .bool s.fo, su, .int .i64 s.a, .int .i64 s.b] 37) by rw [← hW3]; exact heap_alloc_new wr _)
          clear hW3 X2 X1
          unfold Sl.v at CS2
          unfold slV at CS2
          subst hus
          generalize wtS r s = wy at CS2 CP ST
          generalize wtW r c k m = wx at Y2 CP ST
          generalize s.ls.length = ln at *
          obtain ⟨sk, op, sa, sb', nm, vl, fo, ls⟩ := s
          simp only [Sl.k, Sl.op, Sl.a, Sl.b, Sl.nm, Sl.vl, Sl.fo, Sl.ls] at *
          have RR := hide (fun (W : World) (h : Bk3 W (w.heap.size + 2) wx) => h.put (adW wx wy))
          generalize adW wx wy = wz at CP ST RR
          unfold wV at CS2 CP
          obtain ⟨x0, x1, x2⟩ := wx
          obtain ⟨y0, y1, y2⟩ := wy
          obtain ⟨t0, t1, t2⟩ := wz
          simp only at CS2 CP RR
          obtain ⟨p0, p1, p2⟩ := Y2.out.cells
          simp only at p0 p1 p2
          obtain ⟨q0, q1, q2, q3, q4, q5, q6, q7⟩ := bxk_8 YB.out
          go_upto_region 8 with fail
          rw [HW3.out]
          clear HW3
          go_region_with (first
            | (go_at_call 21; refine (CS2.out W3.drew BC.out.drew).mono ?_; rintro e w1 ⟨rfl, B1'⟩; have B1 : Below W3.heap.size W3 w1 := (Below.refl W3.heap.size W3).drew.trans B1'; clear B1'; replace Y2 := hide (Y2.out.up B1); replace Y1 := hide (Y1.out.up B1); replace BC := hide (bto BC.out B1); obtain ⟨p0', p1', p2'⟩ := Y2.out.cells; simp only at p0' p1' p2'; clear B1 CS2)
            | (go_at_call 20; refine (CP.out _).mono ?_; rintro e w2 ⟨rfl, B2⟩; replace Y2 := hide (Y2.out.up B2); replace Y1 := hide (Y1.out.up B2); replace BC := hide (bto BC.out B2); obtain ⟨r0, r1, r2⟩ := Y2.out.cells; simp only at r0 r1 r2; have v0 := Y2.out.fz 0; have v1 := Y2.out.fz 1; have v2 := Y2.out.fz 2; clear B2 CP))
          all_goals
            go_wp2
            go_roundw
            case rel => exact .mk (m + 1) (by go_num) (by omega) (by rw [ST.out]; exact RR.out _ Y2.out) (((Y1.out.far (by omega) _ _).far (by omega) _ _).far (by omega) _ _) (below_put BC.out (by omega) _ _ _)
            case measure => simp [intOf]; omega
        · have hlm' : ¬ (m : Int) < ss.length := by omega
          have E := hide (WE1.out m (by omega))
          clear CS1 HS1 HI1 WS1 WE1 SM
          go_wp2
          go_roundw
          case rel => exact .mk (k + 1) (by go_num) (by omega) (by rw [← E.out]; exact X2.out) X1.out BI.out
          case measure => simp [intOf]; omega
    · have hlt' : ¬ (k : Int) < c.length := by omega
      rw [show c.take k = c from List.take_of_length_le (by omega)] at Q2
      clear HV HI HS CS W0 WS WE
      have d0 := Q2.out.cells.1
      have d1 := Q2.out.cells.2.1
      have d2 := Q2.out.cells.2.2
      obtain ⟨i0, i1, i2⟩ := Q1.out.cells
      have v0 := Q1.out.fz 0
      have v1 := Q1.out.fz 1
      have v2 := Q1.out.fz 2
      obtain ⟨M, hM⟩ : ∃ M, wtC r c = M := ⟨_, rfl⟩
      have F := hide hM
      rw [hM] at Q2 d0 d1 d2
      clear hM
      obtain ⟨m0, m1, m2⟩ := M
      simp only at d0 d1 d2
      go_wp2
      exact ret3 (b := w.heap.size + 1) Tryz.results12 rfl (Q1.out.put (m0, m1, m2)) rfl ⟨by rw [F.out], below_put BE.out (by omega) _ _ _⟩
end Go.Proofs.YtmkbjcoagfnegabGreatDoor
set_option linter.unusedVariables false
set_option linter.unusedSimpArgs false
namespace Go.Proofs.YtmkbjcoagfnegabGreatDoor
open Go.RowKit

theorem made_w (m : Nat) (hm : m ≤ 1000000000) (W : World) : (Instr.makeSlice 86 (.int .i64 m) (.int .i64 m)).run Tryz.prog W = .ok (.slice (some ⟨W.heap.size, 0, none⟩) m m) (W.alloc (.cells (madeCells #[.int .i64 0, .int .i64 0, .int .i64 0] (m * 3)) 26)) := by
  have h := run_make (P := Tryz.prog) W 86 26 Tryz.t26 (.agg #[.int .i64 0, .int .i64 0, .int .i64 0]) Tryz.underlying86 (by kernel_rfl) (by kernel_rfl) .i64 .i64 m m (by omega) (Int.le_refl _) (by show ((24 : Nat) : Int) * m ≤ _; omega) (by omega)
  have e : ((m : Int).toNat * Tryz.t26.size) = m * 3 := by show (m : Int).toNat * 3 = m * 3; simp
  rw [e, Int.toNat_natCast] at h
  exact h
/-- An own row of weights, the first k of them written. -/
def Rw3 (w : World) (g n k : Nat) (ws : List Wt) : Prop := ∃ cs : Array Value, w.heap[g]? = some (.cells cs 26) ∧ cs.size = n * 3 ∧ ∀ j x, j < k → ws[j]? = some x → cs[j * 3]? = some (.int .i64 x.1) ∧ cs[j * 3 + 1]? = some (.int .i64 x.2.1) ∧ cs[j * 3 + 2]? = some (.int .i64 x.2.2)
theorem Rw3.new (W : World) (n : Nat) (ws : List Wt) : Rw3 (W.alloc (.cells (madeCells #[.int .i64 0, .int .i64 0, .int .i64 0] (n * 3)) 26)) W.heap.size n 0 ws := ⟨_, heap_alloc_new W _, size_madeCells _ _, fun j x hj => by omega⟩
theorem Rw3.lt {w : World} {g n k : Nat} {ws : List Wt} (h : Rw3 w g n k ws) : g < w.heap.size := by obtain ⟨cs, h1, _⟩ := h; exact (Array.getElem?_eq_some_iff.1 h1).1
theorem Rw3.up {w w' : World} {g n k : Nat} {ws : List Wt} (h : Rw3 w g n k ws) (hw : Below w.heap.size w w') : Rw3 w' g n k ws := by
  have hl := h.lt
  obtain ⟨cs, h1, h2⟩ := h
  exact ⟨cs, (hw.block _ hl).trans h1, h2⟩
theorem Rw3.more {w : World} {g n k : Nat} {ws : List Wt} (h : Rw3 w g n k ws) (o : Obj) : Rw3 (w.alloc o) g n k ws := by
  have hl := h.lt
  obtain ⟨cs, h1, h2⟩ := h
  exact ⟨cs, (Below.heap_alloc w o g hl).trans h1, h2⟩
theorem Rw3.there {w : World} {g n k : Nat} {ws : List Wt} (h : Rw3 w g n k ws) {j : Nat} (hj : j < n * 3) : (∃ v, w.cell? ⟨g, j, none⟩ = some v) ∧ w.frozen? ⟨g, j, none⟩ = false := by
  obtain ⟨cs, h1, h2, _⟩ := h
  exact ⟨⟨_, by rw [row_blk h1]; exact Array.getElem?_eq_getElem (by omega)⟩, by simp [World.frozen?, h1]⟩
theorem Rw3.put {w : World} {g n k : Nat} {ws : List Wt} (h : Rw3 w g n k ws) (hk : k < n) {y : Wt} (hy : ws[k]? = some y) : Rw3 (((w.setCell ⟨g, k * 3, none⟩ (.int .i64 y.1)).setCell ⟨g, k * 3 + 1, none⟩ (.int .i64 y.2.1)).setCell ⟨g, k * 3 + 2, none⟩ (.int .i64 y.2.2)) g n (k + 1) ws := by
  obtain ⟨cs, h1, h2, h3⟩ := h
  refine ⟨_, setCell_blk (setCell_blk (setCell_blk h1 _) _) _, by simp [h2], fun j x hj hx => ?_⟩
  by_cases e : j = k
  · subst e
    obtain rfl : y = x := Option.some.inj (hy.symm.trans hx)
    refine ⟨?_, ?_, ?_⟩
    · simp only [Array.set!_eq_setIfInBounds, Array.getElem?_setIfInBounds, Array.size_setIfInBounds]
      rw [if_neg (by omega), if_neg (by omega), if_pos trivial, if_pos (by omega)]
    · simp only [Array.set!_eq_setIfInBounds, Array.getElem?_setIfInBounds, Array.size_setIfInBounds]
      rw [if_neg (by omega), if_pos trivial, if_pos (by omega)]
    · simp only [Array.set!_eq_setIfInBounds, Array.getElem?_setIfInBounds, Array.size_setIfInBounds]
      rw [if_pos trivial, if_pos (by omega)]
  · obtain ⟨i1, i2, i3⟩ := h3 j x (by omega) hx
    refine ⟨?_, ?_, ?_⟩
    · simp only [Array.set!_eq_setIfInBounds, Array.getElem?_setIfInBounds, Array.size_setIfInBounds]
      rw [if_neg (by omega), if_neg (by omega), if_neg (by omega)]
      exact i1
    · simp only [Array.set!_eq_setIfInBounds, Array.getElem?_setIfInBounds, Array.size_setIfInBounds]
      rw [if_neg (by omega), if_neg (by omega), if_neg (by omega)]
      exact i2
    · simp only [Array.set!_eq_setIfInBounds, Array.getElem?_setIfInBounds, Array.size_setIfInBounds]
      rw [if_neg (by omega), if_neg (by omega), if_neg (by omega)]
      exact i3
theorem Rw3.row {w : World} {g n : Nat} {ws : List Wt} (h : Rw3 w g n n ws) (hn : ws.length = n) (h9 : n ≤ 1000000000) : WsM w (.slice (some ⟨g, 0, none⟩) n n) ws := by
  by_cases h0 : n = 0
  · subst h0; exact .inl ⟨_, _, rfl, List.eq_nil_of_length_eq_zero hn⟩
  · have hl := h.lt
    obtain ⟨cs, h1, h2, h3⟩ := h
    refine .inr ⟨g, 0, n, by rw [hn], by omega, hl, by omega, by omega, by omega, fun i x hi => ?_⟩
    obtain ⟨i1, i2, i3⟩ := h3 i x (by have := (List.getElem?_eq_some_iff.1 hi).1; omega) hi
    exact ⟨by rw [row_blk h1, Nat.zero_add]; exact i1, by rw [row_blk h1, Nat.zero_add]; exact i2, by rw [row_blk h1, Nat.zero_add]; exact i3⟩
/-- The state of the loop over a list's selectors. -/
def RelWl (w : World) (n : Nat) (ws : List Wt) (i : Value) (wr : World) : Prop := ∃ k : Nat, i = .int .i64 k ∧ k ≤ n ∧ Hid (Rw3 wr w.heap.size n k ws ∧ Below w.heap.size w wr)
theorem RelWl.mk {w : World} {n : Nat} {ws : List Wt} {i : Value} {wr : World} (k : Nat) (h : i = .int .i64 k) (hk : k ≤ n) (h1 : Rw3 wr w.heap.size n k ws) (h3 : Below w.heap.size w wr) : RelWl w n ws i wr := ⟨k, h, hk, h1, h3⟩
set_option maxRecDepth 100000 in
set_option maxHeartbeats 4000000 in
theorem weightsOf_any (n : Nat) : WtLs n := by
  induction n with
  | zero =>
    intro l v w hv hz
    obtain ⟨rfl, a, c, rfl⟩ := hv
    have hmk : (Instr.makeSlice 86 (.int .i64 0) (.int .i64 0)).run Tryz.prog w = .ok (.slice (some ⟨w.heap.size, 0, none⟩) 0 0) (w.alloc (.cells (madeCells #[.int .i64 0, .int .i64 0, .int .i64 0] 0) 26)) := made_w 0 (by omega) w
    have B0 := hide (bplus (Below.refl w.heap.size w) (.cells (madeCells #[.int .i64 0, .int .i64 0, .int .i64 0] (0 * 3)) 26))
    rw [Nat.zero_mul] at B0
    generalize madeCells #[.int .i64 0, .int .i64 0, .int .i64 0] 0 = M0 at hmk B0
    have E := hide (show wsL 0 [] = [] from rfl)
    go_enter Tryz.func37, Tryz.ntmps37
    go_wp2_with fail
    go_loopw [11] (fun i wr => i = .int .i64 0 ∧ Hid (Below w.heap.size w wr)) (fun i _ => 0)
    case atStart => exact ⟨rfl, B0.out⟩
    case round =>
      obtain ⟨rfl, R⟩ := hrel
      go_wp2
      go_ret
      exact ⟨_, rfl, .inl ⟨_, _, rfl, E.out⟩, R.out⟩
  | succ n ih =>
    intro l v w hv hz
    obtain ⟨a, c, rfl, h9⟩ := hv.shape
    have HV := hide hv
    have CS := hide (fun (i : Nat) (s : Cx) (u : Value) (W : World) (hs : l[i]? = some s) (hW : Below w.heap.size w W) (hu : PsM w n u s) => weightOf_any n s u W (hu.low hW) (Nat.le_trans (szM_at hs) hz) ih)
    clear hv ih hz
    have WL := hide (show (wsL (n + 1) l).length = l.length by simp [wsL])
    have WA := hide (show ∀ (i : Nat) (s : Cx), l[i]? = some s → (wsL (n + 1) l)[i]? = some (wtC (wtM n) s) by intro i s h; simp [wsL, h])
    generalize wsL (n + 1) l = ws at WL WA ⊢
    have hmk := made_w l.length h9 w
    obtain ⟨W1, hW1⟩ : ∃ W1, w.alloc (.cells (madeCells #[.int .i64 0, .int .i64 0, .int .i64 0] (l.length * 3)) 26) = W1 := ⟨_, rfl⟩
    have B0 := hide (show Below w.heap.size w W1 by rw [← hW1]; exact bplus (Below.refl _ _) _)
    have P0 := hide (show Rw3 W1 w.heap.size l.length 0 ws by rw [← hW1]; exact Rw3.new w l.length ws)
    rw [hW1] at hmk
    clear hW1
    go_enter Tryz.func37, Tryz.ntmps37
    go_wp2_with fail
    go_loopw [11] (fun i wr => RelWl w l.length ws i wr) (fun i _ => l.length - (intOf i).toNat)
    case atStart => exact .mk 0 rfl (by omega) P0.out B0.out
    case round =>
      obtain ⟨k, rfl, hk, R⟩ := hrel
      have Q := hide R.out.1
      have BE := hide R.out.2
      clear R P0 B0 hmk
      by_cases hlt : k < l.length
      · obtain ⟨s, hs⟩ : ∃ s, l[k]? = some s := ⟨_, List.getElem?_eq_getElem hlt⟩
        obtain ⟨b, o, c', u, hv', hb, e0, hu⟩ := HV.out.at hs
        obtain ⟨rfl, rfl⟩ : a = some ⟨b, o, none⟩ ∧ c = c' := by cases hv'; exact ⟨rfl, rfl⟩
        have hlt' : (k : Int) < l.length := by omega
        have f0 := (BE.out.cell (p := ⟨b, o + k * 1, none⟩) hb).trans e0
        rw [Nat.mul_one] at f0
        have hbw : b < wr.heap.size := by have := BE.out.size; omega
        have nb : b ≠ wr.heap.size := by omega
        have CS1 := hide (fun (W : World) (hW : Below w.heap.size w W) => CS.out k s u W hs hW hu)
        have WY := hide (WA.out k s hs)
        obtain ⟨ua, uc, hus, _⟩ := hu.shape
        clear e0 hv' hs hu CS WA HV
        have BB := hide (bplus BE.out (.cells #[u] 24))
        have QQ := hide (Q.out.more (.cells #[u] 24))
        subst hus
        generalize wtC (wtM n) s = y at CS1 WY
        generalize List.length s = ln at *
        unfold wV at CS1
        have PP := hide (fun (W : World) (h : Rw3 W w.heap.size l.length k ws) => h.put hlt WY.out)
        obtain ⟨y0, y1, y2⟩ := y
        simp only at CS1 PP
        go_wp2_with (go_at_call 12; refine (CS1.out _ BB.out).mono ?_; rintro e w2 ⟨rfl, B2⟩; replace BB := hide (bto BB.out B2); replace QQ := hide (QQ.out.up B2); obtain ⟨⟨z0, t0⟩, v0⟩ := QQ.out.there (j := k * 3) (by omega); obtain ⟨⟨z1, t1⟩, v1⟩ := QQ.out.there (j := k * 3 + 1) (by omega); obtain ⟨⟨z2, t2⟩, v2⟩ := QQ.out.there (j := k * 3 + 2) (by omega); clear B2)
        go_roundw
        case rel => exact .mk (k + 1) (by go_num) (by omega) (PP.out _ QQ.out) (((BB.out.setCell (p := ⟨w.heap.size, _, none⟩) (Nat.le_refl _) _).setCell (p := ⟨w.heap.size, _, none⟩) (Nat.le_refl _) _).setCell (p := ⟨w.heap.size, _, none⟩) (Nat.le_refl _) _)
        case measure => simp [intOf]; omega
      · have hlt' : ¬ (k : Int) < l.length := by omega
        obtain rfl : k = l.length := by omega
        have F := hide (Q.out.row WL.out h9)
        clear HV CS WA
        go_wp2
        go_ret
        exact ⟨_, rfl, F.out, BE.out⟩
end Go.Proofs.YtmkbjcoagfnegabGreatDoor
set_option linter.unusedVariables false
set_option linter.unusedSimpArgs false
namespace Go.Proofs.YtmkbjcoagfnegabGreatDoor
open Go.RowKit

/-- A list of one selector, laid anew. -/
theorem CM.one {w w' : World} {n : Nat} {v : Value} {c : Cx} (hv : PsM w n v c) (hw : Below w.heap.size w w') {b : Nat} (hb : w'.heap[b]? = some (.cells #[v] 24)) : CM w' (n + 1) (.slice (some ⟨b, 0, none⟩) 1 1) [c] := by
  refine .inr ⟨b, 0, 1, rfl, by simp, (Array.getElem?_eq_some_iff.1 hb).1, by simp, by simp, by omega, fun i x hi => ?_⟩
  cases i with
  | zero =>
    obtain rfl : c = x := by simpa using hi
    exact ⟨v, by rw [row_blk hb]; rfl, hv.low hw⟩
  | succ i => simp at hi
theorem ret3e {fn : Func} {R : Ending → World → Prop} {a : Act} {w : World} {t u : Tmp} {b : Nat} {x : Wt} {v : Value} (hf : fn.results = #[.cell t 26, .tmp u]) (ht : a.tmps.getD t undef = .pointer (some ⟨b, 0, none⟩)) (hu : a.tmps.getD u undef = v) (hb : Bk3 w b x) (hd : a.defers = []) (h : R (.returned (.tuple #[wV x, v])) w) : bodyPost Tryz.prog fn R .ret a w :=
  ret_cell2 (cs := [.int .i64 x.1, .int .i64 x.2.1, .int .i64 x.2.2]) hf ht hu (range_blk (cs := [.int .i64 x.1, .int .i64 x.2.1, .int .i64 x.2.2]) hb) Tryz.underlying26 rfl (by kernel_rfl) hd h
/-- What is told of a selector. -/
def wgW (n : Nat) (c : Cx) : Wt := if lsM 65 [c] then wtC (wtM n) c else z3
def wgE (c : Cx) : Int := if lsM 65 [c] then 0 else 1
set_option maxRecDepth 100000 in
set_option maxHeartbeats 4000000 in
theorem weighP_any (n : Nat) (c : Cx) (v : Value) (w : World) (hv : PsM w n v c) (hz : szC (szM n) c ≤ 4194304) (hK : KT w) (hT : Tabs w) : Calls Tryz.prog 5 #[.agg #[v]] w fun e w' => e = .returned (.tuple #[wV (wgW n c), .int .i64 (wgE c)]) ∧ Below w.heap.size w w' := by
  obtain ⟨a, cc, rfl, h9⟩ := hv.shape
  obtain ⟨W1, hW1⟩ : ∃ W1, ((w.alloc (.cells #[.slice a c.length cc] 24)).alloc (.cells #[.int .i64 0, .int .i64 0, .int .i64 0] 26)).alloc (.cells #[.slice a c.length cc] 24) = W1 := ⟨_, rfl⟩
  have HW1 := hide hW1
  have B0 := hide (show Below w.heap.size w W1 by rw [← hW1]; exact bplus (bplus (bplus (Below.refl _ _) _) _) _)
  have P0 := hide (show W1.heap[w.heap.size]? = some (.cells #[.slice a c.length cc] 24) by rw [← hW1]; exact (Below.heap_alloc _ _ _ (by simp; omega)).trans ((Below.heap_alloc _ _ _ (by simp)).trans (heap_alloc_new w _)))
  have P1 := hide (show Bk3 W1 (w.heap.size + 1) z3 by rw [← hW1]; have := (Bk3.new (w.alloc (.cells #[.slice a c.length cc] 24)) z3).more (.cells #[.slice a c.length cc] 24); simpa [z3] using this)
  have P2 := hide (show W1.heap[w.heap.size + 2]? = some (.cells #[.slice a c.length cc] 24) by rw [← hW1]; have := heap_alloc_new ((w.alloc (.cells #[.slice a c.length cc] 24)).alloc (.cells #[.int .i64 0, .int .i64 0, .int .i64 0] 26)) (.cells #[.slice a c.length cc] 24); simpa using this)
  clear hW1
  have CY := hide (may9_any (n + 1) [c] _ W1 (CM.one hv B0.out P2.out) (hK.below B0.out) (hT.below B0.out))
  have CW := hide (fun (W : World) (h : Below w.heap.size w W) => weightOf_any n c _ W (hv.low h) hz (weightsOf_any n))
  have EW := hide (show ∀ r, lsM 65 [c] = r → wgW n c = if r then wtC (wtM n) c else z3 by rintro r rfl; rfl)
  have EE := hide (show ∀ r, lsM 65 [c] = r → wgE c = if r then 0 else 1 by rintro r rfl; rfl)
  clear hv hz hK hT P2
  generalize lsM 65 [c] = RB at CY EW EE
  generalize wgW n c = RW at EW ⊢
  generalize wgE c = RE at EE ⊢
  generalize wtC (wtM n) c = WT at CW EW
  generalize List.length c = ln at *
  cases RB with
  | false =>
    have F := hide (EW.out _ rfl)
    have G := hide (EE.out _ rfl)
    clear EW EE CW P0
    simp only [Bool.false_eq_true, if_false] at F G
    go_enter Tryz.func5, Tryz.ntmps5
    go_wp2_with (go_at_call 11; rw [HW1.out]; refine CY.out.mono ?_; rintro e w1 ⟨rfl, B1⟩; replace P1 := hide (P1.out.up B1); replace B0 := hide (bto B0.out B1); obtain ⟨i0, i1, i2⟩ := P1.out.cells; have j0 := P1.out.fz 0; have j1 := P1.out.fz 1; have j2 := P1.out.fz 2; clear B1)
    exact ret3e (b := w.heap.size + 1) (v := .int .i64 1) Tryz.results5 rfl rfl (P1.out.put z3) rfl ⟨by rw [F.out, G.out], below_put B0.out (by omega) _ _ _⟩
  | true =>
    have F := hide (EW.out _ rfl)
    have G := hide (EE.out _ rfl)
    clear EW EE
    simp only [if_true] at F G
    unfold wV at CW
    obtain ⟨m0, m1, m2⟩ := WT
    simp only at CW
    go_enter Tryz.func5, Tryz.ntmps5
    go_wp2_with (first
      | (go_at_call 11; rw [HW1.out]; refine CY.out.mono ?_; rintro e w1 ⟨rfl, B1⟩; replace P1 := hide (P1.out.up B1); replace B0 := hide (bto B0.out B1); replace P0 := hide ((B1.block _ (Array.getElem?_eq_some_iff.1 P0.out).1).trans P0.out); have k0 := bxk_1 P0.out; clear B1)
      | (go_at_call 12; refine (CW.out _ B0.out).mono ?_; rintro e w2 ⟨rfl, B2⟩; replace P1 := hide (P1.out.up B2); replace B0 := hide (bto B0.out B2); obtain ⟨i0, i1, i2⟩ := P1.out.cells; have j0 := P1.out.fz 0; have j1 := P1.out.fz 1; have j2 := P1.out.fz 2; clear B2))
    exact ret3e (b := w.heap.size + 1) (v := .int .i64 0) Tryz.results5 rfl rfl (P1.out.put (m0, m1, m2)) rfl ⟨by rw [F.out, G.out], below_put B0.out (by omega) _ _ _⟩
end Go.Proofs.YtmkbjcoagfnegabGreatDoor
set_option linter.unusedVariables false
namespace Go.Proofs.YtmkbjcoagfnegabGreatDoor.sel9
open Go.ChangeShapes Go.WideShapes Go.ChangeAt Go.RowKit Go.Joins
open Go.ChangeMaps (open_string shut_string)

theorem one_le {H : Type} (d : DataW H) : 1 ≤ Rows.uptoBulk d := by
  cases d with
  | lit l => cases l <;> simp [Rows.uptoBulk]
  | nil => simp [Rows.uptoBulk]
  | ptr d => simp [Rows.uptoBulk]
  | slice elems spare => simp [Rows.uptoBulk]
  | agg parts => simp [Rows.uptoBulk]
  | iface t d => simp [Rows.uptoBulk]
  | map entries => simp [Rows.uptoBulk]
  | held h => simp [Rows.uptoBulk]
theorem length_le {H : Type} (l : List (DataW H)) : l.length ≤ Rows.uptoBulkAll l := by
  induction l with
  | nil => simp [Rows.uptoBulkAll]
  | cons x r ih => have := one_le x; simp only [Rows.uptoBulkAll, List.length_cons]; omega
theorem mem_le {H : Type} {l : List (DataW H)} {d : DataW H} (h : d ∈ l) : Rows.uptoBulk d ≤ Rows.uptoBulkAll l := by
  induction l with
  | nil => cases h
  | cons x r ih =>
    simp only [Rows.uptoBulkAll]
    rcases List.mem_cons.1 h with rfl | h
    · omega
    · have := ih h; omega
theorem str_le {H : Type} (s : ByteArray) : s.size ≤ Rows.uptoBulk (.lit (.string s.data.toList) : DataW H) := by
  simp only [Rows.uptoBulk]
  have e : s.data.toList.length = s.size := by rw [Array.length_toList]; rfl
  omega
/-- A slice that comes in, whatever its elements are. -/
theorem row_open {α : Type} [Inhabited α] {H : Type} {enc : TypeId × Value → H} {W : World} {held : Bool} {T E : TypeId} {sz : Nat} (hT : Tryz.prog.underlying T = some (.slice E)) (hsz : Tryz.prog.cellsOf E = sz) (h0 : 0 < sz) (R : Nat → Nat → α → Prop)
    {c : Value} {fuel : Nat} {x : DataW H × List MemPlace} (hf : DataW.trod enc Tryz.prog W 0 (fun _ => true) held fuel T [c] = some x) {N : Nat} (hN : Rows.uptoBulk x.1 ≤ N + 1) (hN9 : N ≤ 1048576)
    (each : ∀ (b o m : Nat) (cs : List Value) (d : DataW H × List MemPlace), cs.length = sz → (∀ j, j < sz → W.cell? ⟨b, o + j, none⟩ = cs[j]?) → b < W.heap.size → DataW.trod enc Tryz.prog W 0 (fun _ => true) held m E cs = some d → Rows.uptoBulk d.1 ≤ N → ∃ y : α, R b o y) : ∃ l, RowOf W sz R c l := by
  rcases Go.Deep.open_slice hT hf with ⟨hcs, hx⟩ | ⟨a1, len, cap, m, n, D, Pl, hcs, _, hl, hm, hmm, hx, each0⟩
  · simp at hcs
    subst hcs
    exact ⟨[], .inl ⟨_, _, rfl, rfl⟩⟩
  · simp at hcs
    subst hcs
    simp only [if_true] at hmm
    subst hmm
    rw [hx] at hN
    simp only [Rows.uptoBulk] at hN
    have hlen := length_le ((List.range len).map D)
    rw [List.length_map, List.length_range] at hlen
    by_cases hl0 : len = 0
    · subst hl0; exact ⟨[], .inl ⟨_, _, rfl, rfl⟩⟩
    obtain ⟨b, off, spot⟩ := a1
    have hspot : spot = none := by
      obtain ⟨cs, h1, h2⟩ := each0 0 (by omega)
      rw [hsz] at h1
      obtain ⟨_, hcl, hcell⟩ := World.cells?_some h1
      have c00 := hcell 0 h0
      rw [List.getElem?_eq_getElem (by omega)] at c00
      simpa [Addr.add] using World.cell?_spot c00
    subst hspot
    have each2 : ∀ i, i < len → ∃ y : α, R b (off + i * sz) y := by
      intro i hi
      obtain ⟨cs, h1, h2⟩ := each0 i (by omega)
      rw [hsz] at h1
      obtain ⟨_, hcl, hcell⟩ := World.cells?_some h1
      have hm2 := mem_le (d := D i) (l := (List.range len).map D) (List.mem_map.2 ⟨i, List.mem_range.2 hi, rfl⟩)
      refine each b (off + i * sz) _ cs _ hcl (fun j hj => ?_) ?_ h2 (by show Rows.uptoBulk (D i) ≤ N; omega)
      · have := hcell j hj
        rwa [Addr.add_lit, Addr.add_lit] at this
      · have c00 := hcell 0 h0
        rw [List.getElem?_eq_getElem (by omega)] at c00
        have k := World.block_lt_of_cell? _ _ c00
        rwa [Addr.add_lit, Addr.add_lit] at k
    obtain ⟨q, hq⟩ := Go.Deep.choose_lt each2
    have hll : ((List.range len).map q).length = len := by simp
    refine ⟨(List.range len).map q, .inr ⟨b, off, m, by rw [hll], by rw [hll]; omega, ?_, by rw [hll]; exact hl, by rw [hll]; omega, by unfold maxLen at hm; omega, fun i y hi => ?_⟩⟩
    · obtain ⟨cs, h1, h2⟩ := each0 0 (by omega)
      rw [hsz] at h1
      obtain ⟨_, hcl, hcell⟩ := World.cells?_some h1
      have c00 := hcell 0 h0
      rw [List.getElem?_eq_getElem (by omega)] at c00
      have k := World.block_lt_of_cell? _ _ c00
      simpa [Addr.add] using k
    · have hil : i < len := by
        have := (List.getElem?_eq_some_iff.1 hi).1
        simpa using this
      rw [List.getElem?_map, List.getElem?_range hil] at hi
      have e : q i = y := by simpa using hi
      rw [← e]
      exact hq i hil
instance : Inhabited Sl := ⟨.mk 0 0 0 0 ⟨#[]⟩ ⟨#[]⟩ false []⟩
theorem cCx : Tryz.prog.cellsOf 24 = 1 := by kernel_rfl
theorem cCp : Tryz.prog.cellsOf 33 = 2 := by kernel_rfl
theorem cSl : Tryz.prog.cellsOf 37 = 8 := by kernel_rfl
theorem cSl' : Tryz.prog.cellsOf 35 = 1 := by kernel_rfl
theorem cSs : Tryz.prog.cellsOf 31 = 1 := by kernel_rfl
theorem cPs : Tryz.prog.cellsOf 22 = 1 := by kernel_rfl
/-- A simple selector that comes in. -/
theorem sl_open {H : Type} {enc : TypeId × Value → H} {W : World} {held : Bool} {X : Value → List Cx → Prop} {b o m N : Nat} {cs : List Value} {d : DataW H × List MemPlace} (hl : cs.length = 8) (hc : ∀ j, j < 8 → W.cell? ⟨b, o + j, none⟩ = cs[j]?)
    (hf : DataW.trod enc Tryz.prog W 0 (fun _ => true) held m 37 cs = some d) (hN : Rows.uptoBulk d.1 ≤ N + 1) (hN9 : N ≤ 1048576)
    (hX : ∀ (c : Value) (fuel : Nat) (x : DataW H × List MemPlace), DataW.trod enc Tryz.prog W 0 (fun _ => true) held fuel 35 [c] = some x → Rows.uptoBulk x.1 ≤ N → ∃ l, X c l) : ∃ s, SlR W X b o s := by
  match cs, hl with
  | [c0, c1, c2, c3, c4, c5, c6, c7], _ =>
    obtain ⟨xs, k', _, hx', _, hl', hq⟩ := DataW.trod_struct Tryz.underlying37 hf
    match xs, hl' with
    | [y0, y1, y2, y3, y4, y5, y6, y7], _ =>
      have q0' : DataW.trod enc Tryz.prog W 0 (fun _ => true) held k' 3 (([c0, c1, c2, c3, c4, c5, c6, c7].drop 0).take (Tryz.prog.cellsOf 3)) = some y0 := hq 0 _ rfl
      rw [cI] at q0'
      have q0 : DataW.trod enc Tryz.prog W 0 (fun _ => true) held k' 3 [c0] = some y0 := q0'
      have q1' : DataW.trod enc Tryz.prog W 0 (fun _ => true) held k' 9 (([c0, c1, c2, c3, c4, c5, c6, c7].drop 1).take (Tryz.prog.cellsOf 9)) = some y1 := hq 1 _ rfl
      rw [cS] at q1'
      have q1 : DataW.trod enc Tryz.prog W 0 (fun _ => true) held k' 9 [c1] = some y1 := q1'
      have q2' : DataW.trod enc Tryz.prog W 0 (fun _ => true) held k' 3 (([c0, c1, c2, c3, c4, c5, c6, c7].drop 2).take (Tryz.prog.cellsOf 3)) = some y2 := hq 2 _ rfl
      rw [cI] at q2'
      have q2 : DataW.trod enc Tryz.prog W 0 (fun _ => true) held k' 3 [c2] = some y2 := q2'
      have q3' : DataW.trod enc Tryz.prog W 0 (fun _ => true) held k' 9 (([c0, c1, c2, c3, c4, c5, c6, c7].drop 3).take (Tryz.prog.cellsOf 9)) = some y3 := hq 3 _ rfl
      rw [cS] at q3'
      have q3 : DataW.trod enc Tryz.prog W 0 (fun _ => true) held k' 9 [c3] = some y3 := q3'
      have q4' : DataW.trod enc Tryz.prog W 0 (fun _ => true) held k' 4 (([c0, c1, c2, c3, c4, c5, c6, c7].drop 4).take (Tryz.prog.cellsOf 4)) = some y4 := hq 4 _ rfl
      rw [cB] at q4'
      have q4 : DataW.trod enc Tryz.prog W 0 (fun _ => true) held k' 4 [c4] = some y4 := q4'
      have q5' : DataW.trod enc Tryz.prog W 0 (fun _ => true) held k' 35 (([c0, c1, c2, c3, c4, c5, c6, c7].drop 5).take (Tryz.prog.cellsOf 35)) = some y5 := hq 5 _ rfl
      rw [cSl'] at q5'
      have q5 : DataW.trod enc Tryz.prog W 0 (fun _ => true) held k' 35 [c5] = some y5 := q5'
      have q6' : DataW.trod enc Tryz.prog W 0 (fun _ => true) held k' 3 (([c0, c1, c2, c3, c4, c5, c6, c7].drop 6).take (Tryz.prog.cellsOf 3)) = some y6 := hq 6 _ rfl
      rw [cI] at q6'
      have q6 : DataW.trod enc Tryz.prog W 0 (fun _ => true) held k' 3 [c6] = some y6 := q6'
      have q7' : DataW.trod enc Tryz.prog W 0 (fun _ => true) held k' 3 (([c0, c1, c2, c3, c4, c5, c6, c7].drop 7).take (Tryz.prog.cellsOf 3)) = some y7 := hq 7 _ rfl
      rw [cI] at q7'
      have q7 : DataW.trod enc Tryz.prog W 0 (fun _ => true) held k' 3 [c7] = some y7 := q7'
      obtain ⟨k, ek, rfl, wk⟩ := DataW.trod_int Tryz.underlying3 q0
      obtain ⟨nm, en, rfl, wn⟩ := DataW.trod_string Tryz.underlying9 q1
      obtain ⟨op, eo, rfl, wo⟩ := DataW.trod_int Tryz.underlying3 q2
      obtain ⟨vl, ev, rfl, wv⟩ := DataW.trod_string Tryz.underlying9 q3
      obtain ⟨fo, ef, rfl⟩ := DataW.trod_bool Tryz.underlying4 q4
      obtain ⟨a, ea, rfl, wa⟩ := DataW.trod_int Tryz.underlying3 q6
      obtain ⟨b', eb, rfl, wb⟩ := DataW.trod_int Tryz.underlying3 q7
      simp at ek en eo ev ef ea eb
      subst ek en eo ev ef ea eb
      have hD : d.1 = .agg [.lit (.int .i64 k), .lit (.string nm.data.toList), .lit (.int .i64 op), .lit (.string vl.data.toList), .lit (.bool fo), y5.1, .lit (.int .i64 a), .lit (.int .i64 b')] := by simpa using congrArg Prod.fst hx'
      rw [hD] at hN
      simp only [Rows.uptoBulk, Rows.uptoBulkAll] at hN
      have e1 : nm.data.toList.length = nm.size := by rw [Array.length_toList]; rfl
      have e2 : vl.data.toList.length = vl.size := by rw [Array.length_toList]; rfl
      obtain ⟨l, hXl⟩ := hX c5 k' y5 q5 (by omega)
      obtain ⟨x1, x2⟩ := bounds_i64 wk
      obtain ⟨x3, x4⟩ := bounds_i64 wo
      obtain ⟨x5, x6⟩ := bounds_i64 wa
      obtain ⟨x7, x8⟩ := bounds_i64 wb
      exact ⟨.mk k op a b' nm vl fo l, c5, ⟨hc 0 (by omega), hc 1 (by omega), hc 2 (by omega), hc 3 (by omega), hc 4 (by omega), hc 5 (by omega), hc 6 (by omega), hc 7 (by omega)⟩, hXl, ⟨x1, x2, x3, x4, x5, x6, x7, x8, by show nm.size ≤ _; omega, by show vl.size ≤ _; omega⟩⟩
theorem cp_open {H : Type} {enc : TypeId × Value → H} {W : World} {held : Bool} {X : Value → List Cx → Prop} {b o m N : Nat} {cs : List Value} {d : DataW H × List MemPlace} (hl : cs.length = 2) (hc : ∀ j, j < 2 → W.cell? ⟨b, o + j, none⟩ = cs[j]?)
    (hf : DataW.trod enc Tryz.prog W 0 (fun _ => true) held m 33 cs = some d) (hN : Rows.uptoBulk d.1 ≤ N + 1) (hN9 : N ≤ 1048576)
    (hX : ∀ (c : Value) (fuel : Nat) (x : DataW H × List MemPlace), DataW.trod enc Tryz.prog W 0 (fun _ => true) held fuel 35 [c] = some x → Rows.uptoBulk x.1 ≤ N → ∃ l, X c l) : ∃ p, CpR W X b o p := by
  match cs, hl with
  | [c0, c1], _ =>
    obtain ⟨xs, k', _, hx', _, hl', hq⟩ := DataW.trod_struct Tryz.underlying33 hf
    match xs, hl' with
    | [y0, y1], _ =>
      have q0' : DataW.trod enc Tryz.prog W 0 (fun _ => true) held k' 3 (([c0, c1].drop 0).take (Tryz.prog.cellsOf 3)) = some y0 := hq 0 _ rfl
      rw [cI] at q0'
      have q0 : DataW.trod enc Tryz.prog W 0 (fun _ => true) held k' 3 [c0] = some y0 := q0'
      have q1' : DataW.trod enc Tryz.prog W 0 (fun _ => true) held k' 31 (([c0, c1].drop 1).take (Tryz.prog.cellsOf 31)) = some y1 := hq 1 _ rfl
      rw [cSs] at q1'
      have q1 : DataW.trod enc Tryz.prog W 0 (fun _ => true) held k' 31 [c1] = some y1 := q1'
      obtain ⟨k, ek, rfl, wk⟩ := DataW.trod_int Tryz.underlying3 q0
      simp at ek
      subst ek
      have hD : d.1 = .agg [.lit (.int .i64 k), y1.1] := by simpa using congrArg Prod.fst hx'
      rw [hD] at hN
      simp only [Rows.uptoBulk, Rows.uptoBulkAll] at hN
      obtain ⟨x1, x2⟩ := bounds_i64 wk
      obtain ⟨ss, hss⟩ := row_open Tryz.underlying31 cSl (by omega) (SlR W X) q1 (N := N) (by omega) hN9 (fun b o m cs d h1 h2 h3 h4 h5 => sl_open h1 h2 h4 (by omega) hN9 hX)
      exact ⟨(k, ss), c1, hc 0 (by omega), hc 1 (by omega), hss, x1, x2⟩
theorem cx_open {H : Type} {enc : TypeId × Value → H} {W : World} {held : Bool} {X : Value → List Cx → Prop} {b o m N : Nat} {cs : List Value} {d : DataW H × List MemPlace} (hl : cs.length = 1) (hc : ∀ j, j < 1 → W.cell? ⟨b, o + j, none⟩ = cs[j]?)
    (hf : DataW.trod enc Tryz.prog W 0 (fun _ => true) held m 24 cs = some d) (hN : Rows.uptoBulk d.1 ≤ N + 1) (hN9 : N ≤ 1048576)
    (hX : ∀ (c : Value) (fuel : Nat) (x : DataW H × List MemPlace), DataW.trod enc Tryz.prog W 0 (fun _ => true) held fuel 35 [c] = some x → Rows.uptoBulk x.1 ≤ N → ∃ l, X c l) : ∃ c, CxR W X b o c := by
  match cs, hl with
  | [c0], _ =>
    obtain ⟨xs, k', _, hx', _, hl', hq⟩ := DataW.trod_struct Tryz.underlying24 hf
    match xs, hl' with
    | [y0], _ =>
      have q0' : DataW.trod enc Tryz.prog W 0 (fun _ => true) held k' 22 (([c0].drop 0).take (Tryz.prog.cellsOf 22)) = some y0 := hq 0 _ rfl
      rw [cPs] at q0'
      have q0 : DataW.trod enc Tryz.prog W 0 (fun _ => true) held k' 22 [c0] = some y0 := q0'
      have hD : d.1 = .agg [y0.1] := by simpa using congrArg Prod.fst hx'
      rw [hD] at hN
      simp only [Rows.uptoBulk, Rows.uptoBulkAll] at hN
      obtain ⟨ps, hps⟩ := row_open Tryz.underlying22 cCp (by omega) (CpR W X) q0 (N := N) (by omega) hN9 (fun b o m cs d h1 h2 h3 h4 h5 => cp_open h1 h2 h4 (by omega) hN9 hX)
      exact ⟨ps, c0, hc 0 (by omega), hps⟩
/-- A slice of selectors that comes in. -/
theorem cxs_open {H : Type} {enc : TypeId × Value → H} {W : World} {held : Bool} (N : Nat) : ∀ (c : Value) (fuel : Nat) (x : DataW H × List MemPlace),
    DataW.trod enc Tryz.prog W 0 (fun _ => true) held fuel 35 [c] = some x → Rows.uptoBulk x.1 ≤ N → N ≤ 1048576 → ∃ l : List Cx, CM W N c l := by
  induction N with
  | zero => intro c fuel x hf hb; have := one_le x.1; omega
  | succ N ih =>
    intro c fuel x hf hb hN
    exact row_open (α := Cx) Tryz.underlying35 cCx (by omega) (CxR W (CM W N)) hf hb (by omega) (fun b o m cs d h1 h2 h3 h4 h5 => cx_open h1 h2 h4 (by omega) (by omega) (fun c fuel x hx hbx => ih c fuel x hx hbx (by omega)))
end Go.Proofs.YtmkbjcoagfnegabGreatDoor.sel9
