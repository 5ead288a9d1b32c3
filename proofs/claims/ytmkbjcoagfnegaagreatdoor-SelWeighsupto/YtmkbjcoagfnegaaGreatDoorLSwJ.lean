/-
  What a selector weighs, by the reference.
-/
import Derived.Test.YtmkbjcoagfnegaaGreatDoorLSwG
import Derived.Deep.DeepCutAuto
import Derived.Deep.CutBlock
set_option linter.unusedVariables false
set_option linter.unusedSimpArgs false
namespace Go.Proofs.YtmkbjcoagfnegaaGreatDoor
open Go.RowKit

/-- What is to be known of selectors that are at most so deep. -/
def WgR (n : Nat) : Prop := ∀ (c : Cx) (v : Value) (W : World), PsM W n v c → szC (szM n) c ≤ 1048576 → Calls Tryz.prog 20 #[.agg #[v]] W fun e w' => e = .returned (wV (wtC (wtM n) c)) ∧ Below W.heap.size W w'
theorem wsL_in (n : Nat) (l : List Cx) : ∀ x ∈ wsL n l, In3 x (szM n l) := by
  cases n with
  | zero => intro x hx; cases hx
  | succ n =>
    intro x hx
    obtain ⟨c, hc, rfl⟩ := List.mem_map.1 hx
    exact (wtC_in (wtM_in n) c).mono (sum_mem (f := szC (szM n)) hc)
theorem wtM_fold (n : Nat) (l : List Cx) : wtM n l = (wsL n l).foldl upW z3 := by rw [wtM_ws]; exact moW_zero (wsL_in n l)
/-- A selector of a list, as the reference comes to it. -/
theorem list_at {n : Nat} (IH : ∀ m, n = m + 1 → WgR m) {w : World} {l : List Cx} {v : Value} (hv : CM w n v l) (hz : szM n l ≤ 1048576) {i : Nat} {d : Cx} (hi : l[i]? = some d) :
    ∃ b o c x ua ln uc, v = .slice (some ⟨b, o, none⟩) l.length c ∧ b < w.heap.size ∧ w.cell? ⟨b, o + i, none⟩ = some (.slice ua ln uc) ∧ (wsL n l)[i]? = some x ∧ ∀ W, Below w.heap.size w W → Calls Tryz.prog 20 #[.agg #[.slice ua ln uc]] W fun e w' => e = .returned (wV x) ∧ Below W.heap.size W w' := by
  cases n with
  | zero => obtain ⟨rfl, _⟩ := hv; cases hi
  | succ n =>
    obtain ⟨b, o, c, u, h1, h2, h3, h4⟩ := hv.at hi
    rw [Nat.mul_one] at h3
    obtain ⟨ua, uc, rfl, _⟩ := RowOf.shape h4
    exact ⟨b, o, c, _, ua, _, uc, h1, h2, h3, by simp [wsL, hi], fun W hW => IH n rfl d _ W (h4.low hW) (Nat.le_trans (szM_at hi) hz)⟩
theorem wsL_len {w : World} {n : Nat} {l : List Cx} {v : Value} (hv : CM w n v l) : (wsL n l).length = l.length := by
  cases n with
  | zero => obtain ⟨rfl, _⟩ := hv; rfl
  | succ n => simp [wsL]
/-- The state of the search for a list's greatest. -/
def RelM3 (w : World) (g : Nat) (x : Wt) (ws : List Wt) (i : Value) (wr : World) : Prop := ∃ k : Nat, i = .int .i64 k ∧ k ≤ ws.length ∧ Hid (Bk3 wr g ((ws.take k).foldl upW z3) ∧ Bk3 wr (w.heap.size + 2) x ∧ Bk3 wr (w.heap.size + 1) z3 ∧ Below w.heap.size w wr)
theorem RelM3.mk {w : World} {g : Nat} {x : Wt} {ws : List Wt} {i : Value} {wr : World} (k : Nat) (h : i = .int .i64 k) (hk : k ≤ ws.length) (h0 : Bk3 wr g ((ws.take k).foldl upW z3)) (h1 : Bk3 wr (w.heap.size + 2) x) (h2 : Bk3 wr (w.heap.size + 1) z3) (h3 : Below w.heap.size w wr) : RelM3 w g x ws i wr := ⟨k, h, hk, h0, h1, h2, h3⟩
/-- The state of the reference's adding. -/
def RelP4 (w : World) (g : Nat) (x y : Wt) (i : Value) (wr : World) : Prop := ∃ k : Int, i = .int .i64 k ∧ (k = 0 ∨ k = 1 ∨ k = 2 ∨ k = 3) ∧ Hid (Bk3 wr (w.heap.size + 2) (mix k x y) ∧ Bk3 wr g y ∧ Bk3 wr (w.heap.size + 1) z3 ∧ Below w.heap.size w wr)
theorem RelP4.mk {w : World} {g : Nat} {x y : Wt} {i : Value} {wr : World} (k : Int) (h : i = .int .i64 k) (hk : k = 0 ∨ k = 1 ∨ k = 2 ∨ k = 3) (h1 : Bk3 wr (w.heap.size + 2) (mix k x y)) (h2 : Bk3 wr g y) (h3 : Bk3 wr (w.heap.size + 1) z3) (h4 : Below w.heap.size w wr) : RelP4 w g x y i wr := ⟨k, h, hk, h1, h2, h3, h4⟩
set_option maxRecDepth 100000 in
set_option maxHeartbeats 8000000 in
theorem weighR_any (n : Nat) (IH : ∀ m, n = m + 1 → WgR m) : WgR n := by
  intro c v w hv hz
  obtain ⟨a, cc, rfl, h9⟩ := hv.shape
  have HV := hide hv
  have HI := hide (fun i j => (wtW_in (wtM_in n) c i j).mono hz)
  have HS := hide (fun (i j : Nat) (p : Cp) (s : Sl) (hp : c[i]? = some p) (hs : p.2[j]? = some s) => (wtS_in (wtM_in n) s).mono (Nat.le_trans (szS_at hp hs) hz))
  clear hv
  have LA := hide (fun (i j : Nat) (p : Cp) (s : Sl) (u : Value) (hp : c[i]? = some p) (hs : p.2[j]? = some s) (hu : CM w n u s.ls) (t : Nat) (d : Cx) (hd : s.ls[t]? = some d) => list_at IH hu (by have h1 : szS (szM n) s ≤ _ := Nat.le_trans (szS_at hp hs) hz; unfold szS at h1; omega) hd)
  have LF := hide (fun l => wtM_fold n l)
  clear hz IH
  obtain ⟨W1, hW1⟩ : ∃ W1, ((w.alloc (.cells #[.slice a c.length cc] 40)).alloc (.cells #[.int .i64 0, .int .i64 0, .int .i64 0] 42)).alloc (.cells #[.int .i64 0, .int .i64 0, .int .i64 0] 42) = W1 := ⟨_, rfl⟩
  have HW1 := hide hW1
  have B0 := hide (show Below w.heap.size w W1 by rw [← hW1]; exact bplus (bplus (bplus (Below.refl _ _) _) _) _)
  have P1 := hide (show Bk3 W1 (w.heap.size + 1) z3 by rw [← hW1]; have := (Bk3.new (w.alloc (.cells #[.slice a c.length cc] 40)) z3).more (.cells #[.int .i64 0, .int .i64 0, .int .i64 0] 42); simpa [z3] using this)
  have P2 := hide (show Bk3 W1 (w.heap.size + 2) z3 by rw [← hW1]; have := Bk3.new ((w.alloc (.cells #[.slice a c.length cc] 40)).alloc (.cells #[.int .i64 0, .int .i64 0, .int .i64 0] 42)) z3; simpa [z3] using this)
  clear hW1
  have W0 := hide (wtW_zero (wtM n) c)
  have WS := hide (fun i j p s => @wtW_step (wtM n) c i j p s)
  have WE := hide (fun i j p => @wtW_end (wtM n) c i j p)
  generalize hr : wtM n = r at *
  clear hr
  go_enter Tryz.func20, Tryz.ntmps20
  go_wp2_with fail
  rw [HW1.out]
  go_loopw [17] (fun i wr => RelWo w r c i wr) (fun i _ => c.length - (intOf i).toNat)
  case atStart => exact .mk 0 rfl (by omega) P2.out P1.out B0.out
  case round =>
    obtain ⟨k, rfl, hk, R⟩ := hrel
    have Q2 := hide R.out.1
    have Q1 := hide R.out.2.1
    have BE := hide R.out.2.2
    clear R P1 P2 B0 HW1
    by_cases hlt : k < c.length
    · obtain ⟨p, hp⟩ : ∃ p, c[k]? = some p := ⟨_, List.getElem?_eq_getElem hlt⟩
      obtain ⟨b, o, c', u, hv', hb, e0, e1, hu, _, _⟩ := HV.out.at hp
      obtain ⟨rfl, rfl⟩ : a = some ⟨b, o, none⟩ ∧ cc = c' := by cases hv'; exact ⟨rfl, rfl⟩
      have hlt' : (k : Int) < c.length := by omega
      have f0 := (BE.out.cell (p := ⟨b, o + k * 2, none⟩) hb).trans e0
      have f1 := (BE.out.cell (p := ⟨b, o + k * 2 + 1, none⟩) hb).trans e1
      have hsz := BE.out.size
      have hbw : b < wr.heap.size := by omega
      have nb : b ≠ wr.heap.size := by omega
      have HS1 := hide (fun j s => HS.out k j p s hp)
      have LA1 := hide (fun j s u => LA.out k j p s u hp)
      have HI1 := hide (fun j => HI.out k j)
      have WS1 := hide (fun j s => WS.out k j p s hp)
      have WE1 := hide (fun j => WE.out k j p hp)
      have Z := hide (W0.out k)
      have SM := hide hu
      obtain ⟨ua, uc, hus, hu9⟩ := hu.shape
      clear e0 e1 hv' hu hp HS HI WS WE W0 HV LA
      obtain ⟨W2, hW2⟩ : ∃ W2, wr.alloc (.cells #[.int .i64 p.1, u] 67) = W2 := ⟨_, rfl⟩
      have HW2 := hide hW2
      have BB := hide (show Below w.heap.size w W2 by rw [← hW2]; exact bplus BE.out _)
      have Q2' := hide (show Bk3 W2 (w.heap.size + 2) (wtW r c k 0) by rw [← hW2, Z.out]; exact Q2.out.more _)
      have Q1' := hide (show Bk3 W2 (w.heap.size + 1) z3 by rw [← hW2]; exact Q1.out.more _)
      clear hW2 Q2 Q1 Z
      subst hus
      obtain ⟨cm, ss⟩ := p
      simp only at *
      go_wp2_with fail
      rw [HW2.out]
      go_loopw [24] (fun i wr => RelWi w r c k ss.length i wr) (fun i _ => ss.length - (intOf i).toNat)
      case atStart => exact .mk 0 rfl (by omega) Q2'.out Q1'.out BB.out
      case round =>
        obtain ⟨m, rfl, hm, R⟩ := hrel
        have X2 := hide R.out.1
        have X1 := hide R.out.2.1
        have BI := hide R.out.2.2
        clear R Q2' Q1' BB HW2 BE
        by_cases hlm : m < ss.length
        · obtain ⟨s, hs⟩ : ∃ s, ss[m]? = some s := ⟨_, List.getElem?_eq_getElem hlm⟩
          obtain ⟨sb, so, sc, su, hsv, hsb, ⟨e0, e1, e2, e3, e4, e5, e6, e7⟩, hu, ok⟩ := SM.out.at hs
          obtain ⟨rfl, rfl⟩ : ua = some ⟨sb, so, none⟩ ∧ uc = sc := by cases hsv; exact ⟨rfl, rfl⟩
          have hlm' : (m : Int) < ss.length := by omega
          have g0 := (BI.out.cell (p := ⟨sb, so + m * 8, none⟩) hsb).trans e0
          have g1 := (BI.out.cell (p := ⟨sb, so + m * 8 + 1, none⟩) hsb).trans e1
          have g2 := (BI.out.cell (p := ⟨sb, so + m * 8 + 2, none⟩) hsb).trans e2
          have g3 := (BI.out.cell (p := ⟨sb, so + m * 8 + 3, none⟩) hsb).trans e3
          have g4 := (BI.out.cell (p := ⟨sb, so + m * 8 + 4, none⟩) hsb).trans e4
          have g5 := (BI.out.cell (p := ⟨sb, so + m * 8 + 5, none⟩) hsb).trans e5
          have g6 := (BI.out.cell (p := ⟨sb, so + m * 8 + 6, none⟩) hsb).trans e6
          have g7 := (BI.out.cell (p := ⟨sb, so + m * 8 + 7, none⟩) hsb).trans e7
          have hsw : sb < wr.heap.size := by have := BI.out.size; omega
          have nsb : sb ≠ wr.heap.size := by omega
          have ST := hide (WS1.out m s hs)
          have IX := hide (HI1.out m)
          have IY := hide (HS1.out m s hs)
          have LA2 := hide (fun t d => LA1.out m s su hs hu t d)
          have WN := hide (wsL_len hu)
          have LF1 := hide (LF.out s.ls)
          obtain ⟨va, vc, hus, hls⟩ := hu.shape
          clear e0 e1 e2 e3 e4 e5 e6 e7 hsv hu ok hs HS1 HI1 WS1 SM f0 f1 LA1 LF
          obtain ⟨W3, hW3⟩ : ∃ W3, (wr.alloc (.cells #[.int .i64 s.k, .string s.nm, .int .i64 s.op, .string s.vl, .bool s.fo, su, .int .i64 s.a, .int .i64 s.b] 69)).alloc (.cells #[.int .i64 0, .int .i64 0, .int .i64 0] 42) = W3 := ⟨_, rfl⟩
          have HW3 := hide hW3
          have BC := hide (show Below w.heap.size w W3 by rw [← hW3]; exact bplus (bplus BI.out _) _)
          have Y2 := hide (show Bk3 W3 (w.heap.size + 2) (wtW r c k m) by rw [← hW3]; exact (X2.out.more _).more _)
          have Y1 := hide (show Bk3 W3 (w.heap.size + 1) z3 by rw [← hW3]; exact (X1.out.more _).more _)
          have YB := hide (show W3.heap[wr.heap.size]? = some (.cells #[.int .i64 s.k, .string s.nm, .int .i64 s.op, .string s.vl, .bool s.fo, su, .int .i64 s.a, .int .i64 s.b] 69) by rw [← hW3]; exact (Below.heap_alloc _ _ _ (by simp)).trans (heap_alloc_new wr _))
          have Y0 := hide (show Bk3 W3 (wr.heap.size + 1) z3 by rw [← hW3]; have := Bk3.new (wr.alloc (.cells #[.int .i64 s.k, .string s.nm, .int .i64 s.op, .string s.vl, .bool s.fo, su, .int .i64 s.a, .int .i64 s.b] 69)) z3; simpa [z3] using this)
          clear hW3
          subst hus
          generalize wtW r c k m = wx at Y2 ST IX
          have X0 := hide (@wtS_0 r s)
          have XT := hide (@wtS_2 r s)
          have XI := hide (@wtS_4 r s)
          have XL := hide (@wtS_6 r s)
          have XX := hide (@wtS_x r s)
          generalize wtS r s = wy at *
          generalize hws : wsL n s.ls = ws at *
          clear hws
          generalize r s.ls = rl at *
          obtain ⟨sk, op, sa, sb', nm, vl, fo, ls⟩ := s
          simp only [Sl.k, Sl.op, Sl.a, Sl.b, Sl.nm, Sl.vl, Sl.fo, Sl.ls] at *
          obtain ⟨q0, q1, q2, q3, q4, q5, q6, q7⟩ := bxk_8 YB.out
          obtain ⟨d0, d1, d2⟩ := Y0.out.cells
          have n0 := Y0.out.fz 0
          have n1 := Y0.out.fz 1
          have n2 := Y0.out.fz 2
          have ga : w.heap.size + 2 ≠ wr.heap.size + 1 := by have := X2.out.lt; omega
          have gb : w.heap.size + 1 ≠ wr.heap.size + 1 := by have := X2.out.lt; omega
          have gc : w.heap.size ≤ wr.heap.size + 1 := by have := X2.out.lt; omega
          have gd : wr.heap.size + 1 ≠ w.heap.size + 2 := fun e => ga e.symm
          go_upto_block 4 with fail
          rw [HW3.out]
          go_cut [10, 11] (fun t10 t11 wx' => Hid (Bk3 wx' (wr.heap.size + 1) wy ∧ Bk3 wx' (w.heap.size + 2) wx ∧ Bk3 wx' (w.heap.size + 1) z3 ∧ Below w.heap.size w wx'))
          case first =>
            clear IX IY ST
            by_cases h1 : sk = 1 ∨ sk = 8
            · have E := hide (X0.out h1)
              clear X0 XT XI XL XX
              rcases h1 with rfl | rfl
              all_goals
                go_wp2
                go_meet
                case rel => exact ⟨by rw [E.out]; exact Y0.out, Y2.out, Y1.out, BC.out⟩
            by_cases h2 : sk = 2
            · have E := hide (XT.out h2)
              clear X0 XT XI XL XX
              subst h2
              go_wp2
              go_meet
              case rel => exact ⟨by rw [E.out]; exact setCell_blk Y0.out _, Y2.out.far ga _ _, Y1.out.far gb _ _, BC.out.setCell gc _⟩
            by_cases h4 : sk = 4
            · have E := hide (XI.out h4)
              clear X0 XT XI XL XX
              subst h4
              go_wp2
              go_meet
              case rel => exact ⟨by rw [E.out]; exact setCell_blk Y0.out _, Y2.out.far ga _ _, Y1.out.far gb _ _, BC.out.setCell gc _⟩
            by_cases h6 : sk = 6 ∨ sk = 7
            · have E := hide ((XL.out h6).trans LF1.out)
              clear X0 XT XI XL XX
              rcases h6 with rfl | rfl
              all_goals
                go_wp2_with fail
                go_loopw [47] (fun i wr' => RelM3 w (wr.heap.size + 1) wx ws i wr') (fun i _ => ws.length - (intOf i).toNat)
                case atStart => exact .mk 0 rfl (by omega) Y0.out Y2.out Y1.out BC.out
                case round =>
                  obtain ⟨j, rfl, hj, R⟩ := hrel
                  have Q0 := hide R.out.1
                  have Q2 := hide R.out.2.1
                  have Q1 := hide R.out.2.2.1
                  have BE := hide R.out.2.2.2
                  clear R YB HW3 g0 g1 g2 g3 g4 g5 g6 g7 q0 q1 q2 q3 q4 q5 q6 q7 d0 d1 d2 n0 n1 n2
                  by_cases hlj : j < ws.length
                  · obtain ⟨d, hd⟩ : ∃ d, ls[j]? = some d := ⟨_, List.getElem?_eq_getElem (by rw [← WN.out]; exact hlj)⟩
                    obtain ⟨lb, lo, lc, y, la, ln, uc', hv', hlb, e0, hy, CW⟩ := LA2.out j d hd
                    obtain ⟨rfl, rfl⟩ : va = some ⟨lb, lo, none⟩ ∧ vc = lc := by cases hv'; exact ⟨rfl, rfl⟩
                    have hlj' : (j : Int) < ls.length := by have := WN.out; omega
                    have f0 := (BE.out.cell (p := ⟨lb, lo + j, none⟩) hlb).trans e0
                    have hbw' : lb < wr.heap.size := by have := BE.out.size; omega
                    have nb' : lb ≠ wr.heap.size := by omega
                    have CW1 := hide CW
                    have S := hide (fold_take (x := z3) hy)
                    have T1 := hide (@upW_t ((ws.take j).foldl upW z3) y)
                    have T0 := hide (@upW_f ((ws.take j).foldl upW z3) y)
                    have L := hide (fun V => lessR_any ((ws.take j).foldl upW z3) y V)
                    have BB := hide (bplus BE.out (.cells #[.slice la ln uc'] 40))
                    have QQ0 := hide (Q0.out.more (.cells #[.slice la ln uc'] 40))
                    have QQ2 := hide (Q2.out.more (.cells #[.slice la ln uc'] 40))
                    have QQ1 := hide (Q1.out.more (.cells #[.slice la ln uc'] 40))
                    clear CW e0 hv' hd LA2 hy Q0 Q2 Q1 E LF1
                    generalize (ws.take j).foldl upW z3 = mm at *
                    generalize hB : ltW mm y = RB at L T1 T0
                    clear hB
                    unfold wV at L CW1
                    obtain ⟨m0, m1, m2⟩ := mm
                    obtain ⟨y0, y1, y2⟩ := y
                    simp only at L CW1
                    cases RB with
                    | true =>
                      have F := hide (S.out.trans (T1.out rfl))
                      clear S T1 T0
                      go_wp2_with (first
                        | (go_at_call 20; refine (CW1.out _ BB.out).mono ?_; rintro e w1 ⟨rfl, B1⟩; replace BB := hide (bto BB.out B1); replace QQ0 := hide (QQ0.out.up B1); replace QQ2 := hide (QQ2.out.up B1); replace QQ1 := hide (QQ1.out.up B1); obtain ⟨i0, i1, i2⟩ := QQ0.out.cells; simp only at i0 i1 i2; have k1 := QQ0.out.lt; have k2 := Nat.ne_of_lt QQ0.out.lt; clear B1)
                        | (go_at_call 21; refine (L.out _).mono ?_; rintro e w2 ⟨rfl, B2⟩; have YN := hide ((Bk3.new w1 (y0, y1, y2)).up B2); have Z0 := hide ((QQ0.out.more _).up B2); have Z2 := hide ((QQ2.out.more _).up B2); have Z1 := hide ((QQ1.out.more _).up B2); have ZB := hide (bto (bplus BB.out _) B2); obtain ⟨j0, j1, j2⟩ := YN.out.cells; obtain ⟨l0, l1, l2⟩ := Z0.out.cells; have v0 := Z0.out.fz 0; have v1 := Z0.out.fz 1; have v2 := Z0.out.fz 2; simp only at j0 j1 j2 l0 l1 l2; clear B2))
                      go_roundw
                      case rel => exact .mk (j + 1) (by go_num) (by omega) (by rw [F.out]; exact Z0.out.put (y0, y1, y2)) (((Z2.out.far ga _ _).far ga _ _).far ga _ _) (((Z1.out.far gb _ _).far gb _ _).far gb _ _) (below_put ZB.out gc _ _ _)
                      case measure => simp [intOf]; omega
                    | false =>
                      have F := hide (S.out.trans (T0.out rfl))
                      clear S T1 T0
                      go_wp2_with (first
                        | (go_at_call 20; refine (CW1.out _ BB.out).mono ?_; rintro e w1 ⟨rfl, B1⟩; replace BB := hide (bto BB.out B1); replace QQ0 := hide (QQ0.out.up B1); replace QQ2 := hide (QQ2.out.up B1); replace QQ1 := hide (QQ1.out.up B1); obtain ⟨i0, i1, i2⟩ := QQ0.out.cells; simp only at i0 i1 i2; have k1 := QQ0.out.lt; have k2 := Nat.ne_of_lt QQ0.out.lt; clear B1)
                        | (go_at_call 21; refine (L.out _).mono ?_; rintro e w2 ⟨rfl, B2⟩; have Z0 := hide ((QQ0.out.more _).up B2); have Z2 := hide ((QQ2.out.more _).up B2); have Z1 := hide ((QQ1.out.more _).up B2); have ZB := hide (bto (bplus BB.out _) B2); clear B2))
                      go_roundw
                      case rel => exact .mk (j + 1) (by go_num) (by omega) (by rw [F.out]; exact Z0.out) Z2.out Z1.out ZB.out
                      case measure => simp [intOf]; omega
                  · have hlj' : ¬ (j : Int) < ls.length := by have := WN.out; omega
                    rw [List.take_of_length_le (by omega)] at Q0
                    clear LA2
                    go_wp2
                    go_meet
                    case rel => exact ⟨by rw [E.out]; exact Q0.out, Q2.out, Q1.out, BE.out⟩
            · have E := hide (XX.out (by omega) (by omega) h2 h4 (by omega) (by omega))
              clear X0 XT XI XL XX
              have g1 : (sk == 1) = false := by simp; omega
              have g2 : (sk == 8) = false := by simp; omega
              have g3 : (sk == 2) = false := by simp; omega
              have g4 : (sk == 4) = false := by simp; omega
              have g5 : (sk == 6) = false := by simp; omega
              have g6 : (sk == 7) = false := by simp; omega
              clear h1 h2 h4 h6
              go_wp2
              go_meet
              case rel => exact ⟨by rw [E.out]; exact setCell_blk Y0.out _, Y2.out.far ga _ _, Y1.out.far gb _ _, BC.out.setCell gc _⟩
          case rest =>
            have Z0 := hide hcut.out.1
            have Z2 := hide hcut.out.2.1
            have Z1 := hide hcut.out.2.2.1
            have ZB := hide hcut.out.2.2.2
            clear hcut YB HW3 Y0 Y1 Y2 BC g0 g1 g2 g3 g4 g5 g6 g7 q0 q1 q2 q3 q4 q5 q6 q7 d0 d1 d2 n0 n1 n2 X0 XT XI XL XX LA2 LF1 WN
            obtain ⟨⟨x1', x2'⟩, ⟨x3', x4'⟩, x5', x6'⟩ := IX.out
            obtain ⟨⟨y1', y2'⟩, ⟨y3', y4'⟩, y5', y6'⟩ := IY.out
            clear IX IY
            obtain ⟨x0, x1, x2⟩ := wx
            obtain ⟨y0, y1, y2⟩ := wy
            simp only at x1' x2' x3' x4' x5' x6' y1' y2' y3' y4' y5' y6'
            have wa0 : IntKind.i64.wrap (x0 + y0) = x0 + y0 := by simp [IntKind.wrap, go_sem]; omega
            have wa1 : IntKind.i64.wrap (x1 + y1) = x1 + y1 := by simp [IntKind.wrap, go_sem]; omega
            have wa2 : IntKind.i64.wrap (x2 + y2) = x2 + y2 := by simp [IntKind.wrap, go_sem]; omega
            clear x1' x2' x3' x4' x5' x6' y1' y2' y3' y4' y5' y6'
            go_wp2_with fail
            go_loopw [58] (fun i wr' => RelP4 w (wr.heap.size + 1) (x0, x1, x2) (y0, y1, y2) i wr') (fun i _ => 3 - (intOf i).toNat)
            case atStart => exact .mk 0 rfl (.inl rfl) Z2.out Z0.out Z1.out ZB.out
            case round =>
              obtain ⟨kk, rfl, hkk, R⟩ := hrel
              have Q2 := hide R.out.1
              have Q0 := hide R.out.2.1
              have Q1 := hide R.out.2.2.1
              have BW := hide R.out.2.2.2
              clear R Z0 Z1 Z2 ZB
              have c0 := Q2.out.cells.1
              have c1 := Q2.out.cells.2.1
              have c2 := Q2.out.cells.2.2
              have z0 := Q2.out.fz 0
              have z1 := Q2.out.fz 1
              have z2 := Q2.out.fz 2
              obtain ⟨d0, d1, d2⟩ := Q0.out.cells
              simp only at d0 d1 d2
              rcases hkk with rfl | rfl | rfl | rfl
              · simp only [mix, reduceIte, show ¬ (1 : Int) = 0 by decide, show ¬ (2 : Int) = 0 by decide, show ¬ (2 : Int) = 1 by decide] at c0 c1 c2
                have N := hide (show Bk3 (wr.setCell ⟨w.heap.size + 2, 0, none⟩ (.int .i64 (x0 + y0))) (w.heap.size + 2) (x0 + y0, x1, x2) from setCell_blk Q2.out _)
                have N1 := hide (Q0.out.far (r := w.heap.size + 2) gd 0 (.int .i64 (x0 + y0)))
                have N2 := hide (Q1.out.far (r := w.heap.size + 2) (by omega) 0 (.int .i64 (x0 + y0)))
                have BN := hide ((BW.out.setCell (p := ⟨w.heap.size + 2, 0, none⟩) (by show w.heap.size ≤ w.heap.size + 2; omega) (.int .i64 (x0 + y0))).drew)
                go_wp2
                go_region
                go_wp2
                go_roundw
                case rel => exact .mk 1 (by go_num) (by omega) N.out N1.out N2.out BN.out
                case measure => simp [intOf]
              · simp only [mix, reduceIte, show ¬ (1 : Int) = 0 by decide, show ¬ (2 : Int) = 0 by decide, show ¬ (2 : Int) = 1 by decide] at c0 c1 c2
                have N := hide (show Bk3 (wr.setCell ⟨w.heap.size + 2, 1, none⟩ (.int .i64 (x1 + y1))) (w.heap.size + 2) (x0 + y0, x1 + y1, x2) from setCell_blk Q2.out _)
                have N1 := hide (Q0.out.far (r := w.heap.size + 2) gd 1 (.int .i64 (x1 + y1)))
                have N2 := hide (Q1.out.far (r := w.heap.size + 2) (by omega) 1 (.int .i64 (x1 + y1)))
                have BN := hide ((BW.out.setCell (p := ⟨w.heap.size + 2, 1, none⟩) (by show w.heap.size ≤ w.heap.size + 2; omega) (.int .i64 (x1 + y1))).drew)
                go_wp2
                go_region
                go_wp2
                go_roundw
                case rel => exact .mk 2 (by go_num) (by omega) N.out N1.out N2.out BN.out
                case measure => simp [intOf]
              · simp only [mix, reduceIte, show ¬ (1 : Int) = 0 by decide, show ¬ (2 : Int) = 0 by decide, show ¬ (2 : Int) = 1 by decide] at c0 c1 c2
                have N := hide (show Bk3 (wr.setCell ⟨w.heap.size + 2, 2, none⟩ (.int .i64 (x2 + y2))) (w.heap.size + 2) (x0 + y0, x1 + y1, x2 + y2) from setCell_blk Q2.out _)
                have N1 := hide (Q0.out.far (r := w.heap.size + 2) gd 2 (.int .i64 (x2 + y2)))
                have N2 := hide (Q1.out.far (r := w.heap.size + 2) (by omega) 2 (.int .i64 (x2 + y2)))
                have BN := hide ((BW.out.setCell (p := ⟨w.heap.size + 2, 2, none⟩) (by show w.heap.size ≤ w.heap.size + 2; omega) (.int .i64 (x2 + y2))).drew)
                go_wp2
                go_region
                go_wp2
                go_roundw
                case rel => exact .mk 3 (by go_num) (by omega) N.out N1.out N2.out BN.out
                case measure => simp [intOf]
              · have N := hide (show Bk3 wr (w.heap.size + 2) (adW (x0, x1, x2) (y0, y1, y2)) from Q2.out)
                go_wp2
                go_roundw
                case rel => exact .mk (m + 1) (by go_num) (by omega) (by rw [ST.out]; exact N.out) Q1.out BW.out
                case measure => simp [intOf]; omega
        · have hlm' : ¬ (m : Int) < ss.length := by omega
          have E := hide (WE1.out m (by omega))
          clear HS1 HI1 WS1 WE1 SM LA1 LF
          go_wp2
          go_roundw
          case rel => exact .mk (k + 1) (by go_num) (by omega) (by rw [← E.out]; exact X2.out) X1.out BI.out
          case measure => simp [intOf]; omega
    · have hlt' : ¬ (k : Int) < c.length := by omega
      rw [show c.take k = c from List.take_of_length_le (by omega)] at Q2
      clear HV HI HS W0 WS WE LA LF
      have d0 := Q2.out.cells.1
      have d1 := Q2.out.cells.2.1
      have d2 := Q2.out.cells.2.2
      obtain ⟨i0, i1, i2⟩ := Q1.out.cells
      have v0 := Q1.out.fz 0
      have v1 := Q1.out.fz 1
      have v2 := Q1.out.fz 2
      obtain ⟨M, hM⟩ : ∃ M, wtC r c = M := ⟨_, rfl⟩
      have F := hide hM
      rw [hM] at Q2 d0 d1 d2
      clear hM
      obtain ⟨m0, m1, m2⟩ := M
      simp only at d0 d1 d2
      go_wp2
      exact ret3 (b := w.heap.size + 1) Tryz.results20 rfl (Q1.out.put (m0, m1, m2)) rfl ⟨by rw [F.out], below_put BE.out (by omega) _ _ _⟩
theorem weighR (n : Nat) : WgR n := by
  induction n with
  | zero => exact weighR_any 0 (fun m h => by omega)
  | succ n ih => exact weighR_any (n + 1) (fun m h => by obtain rfl : n = m := (by omega); exact ih)
end Go.Proofs.YtmkbjcoagfnegaaGreatDoor
