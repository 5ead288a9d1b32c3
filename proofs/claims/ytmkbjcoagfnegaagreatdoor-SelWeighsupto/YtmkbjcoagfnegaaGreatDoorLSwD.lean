/-
  The greatest of some weights, by the program.
-/
import Derived.Test.YtmkbjcoagfnegaaGreatDoorLSwC
import Derived.Test.YtmkbjcoagfnegaaGreatDoorX33
set_option linter.unusedVariables false
set_option linter.unusedSimpArgs false
namespace Go.Proofs.YtmkbjcoagfnegaaGreatDoor
open Go.RowKit

/-- A row of weights in memory. -/
def W3R (w : World) (b o : Nat) (x : Wt) : Prop := w.cell? ⟨b, o, none⟩ = some (.int .i64 x.1) ∧ w.cell? ⟨b, o + 1, none⟩ = some (.int .i64 x.2.1) ∧ w.cell? ⟨b, o + 2, none⟩ = some (.int .i64 x.2.2)
def WsM (w : World) (v : Value) (l : List Wt) : Prop := RowOf w 3 (W3R w) v l
theorem WsM.low {w w' : World} (hw : Below w.heap.size w w') {v : Value} {l : List Wt} (h : WsM w v l) : WsM w' v l := RowOf.mono h hw.size (fun b o x hb _ hx => ⟨(hw.cell (p := ⟨b, o, none⟩) hb).trans hx.1, (hw.cell (p := ⟨b, o + 1, none⟩) hb).trans hx.2.1, (hw.cell (p := ⟨b, o + 2, none⟩) hb).trans hx.2.2⟩)
/-- The state of the search for the greatest. -/
def RelMo (w : World) (x : Wt) (r : List Wt) (i : Value) (wr : World) : Prop := ∃ k : Nat, i = .int .i64 k ∧ k ≤ r.length ∧ Hid (Bk3 wr (w.heap.size + 1) ((r.take k).foldl upW x) ∧ Bk3 wr w.heap.size z3 ∧ Below w.heap.size w wr)
theorem RelMo.mk {w : World} {x : Wt} {r : List Wt} {i : Value} {wr : World} (k : Nat) (h : i = .int .i64 k) (hk : k ≤ r.length) (h1 : Bk3 wr (w.heap.size + 1) ((r.take k).foldl upW x)) (h2 : Bk3 wr w.heap.size z3) (h3 : Below w.heap.size w wr) : RelMo w x r i wr := ⟨k, h, hk, h1, h2, h3⟩
theorem fold_take {x : Wt} {r : List Wt} {k : Nat} {y : Wt} (h : r[k]? = some y) : (r.take (k + 1)).foldl upW x = upW ((r.take k).foldl upW x) y := by
  obtain ⟨hi, rfl⟩ := List.getElem?_eq_some_iff.1 h
  rw [List.take_succ_eq_append_getElem hi, List.foldl_append]
  rfl
theorem upW_t {m x : Wt} (h : ltW m x = true) : upW m x = x := by unfold upW; rw [h]; rfl
theorem upW_f {m x : Wt} (h : ltW m x = false) : upW m x = m := by unfold upW; rw [h]; rfl
set_option maxRecDepth 100000 in
set_option maxHeartbeats 4000000 in
theorem mostP_any (l : List Wt) (v : Value) (w : World) (hv : WsM w v l) : Calls Tryz.prog 23 #[v] w fun e w' => e = .returned (wV (moW l)) ∧ Below w.heap.size w w' := by
  cases l with
  | nil =>
    obtain ⟨a, c, rfl, _⟩ := RowOf.shape hv
    have N := hide (show Bk3 (w.alloc (.cells #[.int .i64 0, .int .i64 0, .int .i64 0] 42)) w.heap.size z3 from Bk3.new w z3)
    have BN := hide (bplus (Below.refl w.heap.size w) (.cells #[.int .i64 0, .int .i64 0, .int .i64 0] 42))
    go_enter Tryz.func23, Tryz.ntmps23
    go_wp2
    exact ret3 (b := w.heap.size) Tryz.results23 rfl N.out rfl ⟨rfl, BN.out⟩
  | cons x r =>
    obtain ⟨b, o, c, hvs, hb, hc, hm, f0, f1, f2⟩ := RowOf.at hv (i := 0) (x := x) rfl
    have h9 := (RowOf.shape hv).choose_spec.choose_spec.2
    rw [Nat.zero_mul, Nat.add_zero] at f0 f1 f2
    subst hvs
    have HV := hide (show ∀ k y, r[k]? = some y → W3R w b (o + 3 + k * 3) y from fun k y hk => by
      obtain ⟨b', o', c', e, _, _, _, h⟩ := RowOf.at hv (i := k + 1) (x := y) (by simpa using hk)
      cases e
      rw [show o + 3 + k * 3 = o + (k + 1) * 3 by omega]
      exact h)
    have hlen : (x :: r).length = r.length + 1 := rfl
    rw [hlen] at hc h9 ⊢
    clear hlen hv
    have E := hide (show moW (x :: r) = (r.take r.length).foldl upW x by rw [List.take_length]; rfl)
    generalize moW (x :: r) = MM at E ⊢
    have g0 : (((r.length : Int) + 1) == 0) = false := by rw [beq_eq_false_iff_ne]; omega
    have g1 : ¬ ((r.length : Int) + 1 = 0) := by omega
    have g2 : (0 : Int) < (r.length : Int) + 1 := by omega
    obtain ⟨x0, x1, x2⟩ := x
    simp only at f0 f1 f2
    obtain ⟨W1, hW1⟩ : ∃ W1, (w.alloc (.cells #[.int .i64 0, .int .i64 0, .int .i64 0] 42)).alloc (.cells #[.int .i64 x0, .int .i64 x1, .int .i64 x2] 42) = W1 := ⟨_, rfl⟩
    have HW1 := hide hW1
    have B0 := hide (show Below w.heap.size w W1 by rw [← hW1]; exact bplus (bplus (Below.refl _ _) _) _)
    have P0 := hide (show Bk3 W1 w.heap.size z3 by rw [← hW1]; exact (Bk3.new w z3).more _)
    have P1 := hide (show Bk3 W1 (w.heap.size + 1) (x0, x1, x2) by rw [← hW1]; have := Bk3.new (w.alloc (.cells #[.int .i64 0, .int .i64 0, .int .i64 0] 42)) (x0, x1, x2); simpa using this)
    clear hW1
    have hbs : b ≠ w.heap.size := by omega
    have hlc : (r.length : Int) + 1 ≤ c := by omega
    by_cases hc1 : c = 1
    · subst hc1
      obtain rfl : r = [] := List.eq_nil_of_length_eq_zero (by omega)
      go_enter Tryz.func23, Tryz.ntmps23
      go_wp2_with fail
      rw [HW1.out]
      go_loopw [16] (fun i wr => RelMo w (x0, x1, x2) [] i wr) (fun i _ => 0)
      case atStart => exact .mk 0 rfl (Nat.le_refl _) P1.out P0.out B0.out
      case round =>
        obtain ⟨k, rfl, hk, R⟩ := hrel
        obtain rfl : k = 0 := by simpa using hk
        have Q1 := hide R.out.1
        have Q0 := hide R.out.2.1
        have BW := hide R.out.2.2
        have F := hide E.out
        clear R E HV P0 P1 B0 HW1
        simp only [List.length_nil, List.take_nil] at Q1 F
        generalize List.foldl upW (x0, x1, x2) [] = m at Q1 F
        have N := hide (Q0.out.put m)
        have BN := hide (below_put (b := w.heap.size) BW.out (Nat.le_refl _) (.int .i64 m.1) (.int .i64 m.2.1) (.int .i64 m.2.2))
        have d0 := Q1.out.cells.1
        have d1 := Q1.out.cells.2.1
        have d2 := Q1.out.cells.2.2
        obtain ⟨e0, e1, e2⟩ := Q0.out.cells
        have v0 := Q0.out.fz 0
        have v1 := Q0.out.fz 1
        have v2 := Q0.out.fz 2
        obtain ⟨m0, m1, m2⟩ := m
        simp only at d0 d1 d2 N BN
        go_wp2
        exact ret3 (b := w.heap.size) Tryz.results23 rfl N.out rfl ⟨by rw [F.out], BN.out⟩
    · have hc2 : 1 < c := by omega
      have hc3 : (1 : Int) < c := by omega
      have hc4 : r.length ≤ c - 1 := by omega
      go_enter Tryz.func23, Tryz.ntmps23
      go_wp2_with fail
      rw [HW1.out]
      go_loopw [16] (fun i wr => RelMo w (x0, x1, x2) r i wr) (fun i _ => r.length - (intOf i).toNat)
      case atStart => exact .mk 0 rfl (by omega) P1.out P0.out B0.out
      case round =>
        obtain ⟨k, rfl, hk, R⟩ := hrel
        have Q1 := hide R.out.1
        have Q0 := hide R.out.2.1
        have BW := hide R.out.2.2
        have hsz := BW.out.size
        have ST := hide (fun y => @fold_take (x0, x1, x2) r k y)
        by_cases hlt : k < r.length
        · obtain ⟨y, hy⟩ : ∃ y, r[k]? = some y := ⟨_, List.getElem?_eq_getElem hlt⟩
          have hlt' : (k : Int) < r.length := by omega
          obtain ⟨h0, h1, h2⟩ := HV.out k y hy
          have k0 := (BW.out.cell (p := ⟨b, o + 3 + k * 3, none⟩) hb).trans h0
          have k1 := (BW.out.cell (p := ⟨b, o + 3 + k * 3 + 1, none⟩) hb).trans h1
          have k2 := (BW.out.cell (p := ⟨b, o + 3 + k * 3 + 2, none⟩) hb).trans h2
          have S := hide (ST.out y hy)
          have T1 := hide (@upW_t ((r.take k).foldl upW (x0, x1, x2)) y)
          have T0 := hide (@upW_f ((r.take k).foldl upW (x0, x1, x2)) y)
          have L := hide (fun V => lessP_any ((r.take k).foldl upW (x0, x1, x2)) y V)
          have nb : b ≠ wr.heap.size := by omega
          have hbw : b < wr.heap.size := by omega
          have n1 : w.heap.size + 1 ≠ wr.heap.size := by have := Q1.out.lt; omega
          have n2 : w.heap.size + 1 < wr.heap.size := Q1.out.lt
          have n0 : w.heap.size ≠ wr.heap.size := by have := Q0.out.lt; omega
          clear h0 h1 h2 R P0 P1 B0 HW1 ST HV E f0 f1 f2 hy
          generalize (r.take k).foldl upW (x0, x1, x2) = m at Q1 S T1 T0 L
          have hd0 := Q1.out.cells.1
          have hd1 := Q1.out.cells.2.1
          have hd2 := Q1.out.cells.2.2
          have Y := hide (Bk3.new wr y)
          have Q1' := hide (Q1.out.more (.cells #[.int .i64 y.1, .int .i64 y.2.1, .int .i64 y.2.2] 42))
          have Q0' := hide (Q0.out.more (.cells #[.int .i64 y.1, .int .i64 y.2.1, .int .i64 y.2.2] 42))
          have BW' := hide (bplus BW.out (.cells #[.int .i64 y.1, .int .i64 y.2.1, .int .i64 y.2.2] 42))
          generalize hB : ltW m y = RB at L T1 T0
          clear hB
          unfold wV at L
          obtain ⟨m0, m1, m2⟩ := m
          obtain ⟨y0, y1, y2⟩ := y
          simp only at *
          cases RB with
          | true =>
            have F := hide (S.out.trans (T1.out rfl))
            clear S T1 T0
            go_wp2_with (go_at_call 22; refine (L.out _).mono ?_; rintro e w2 ⟨rfl, B2⟩; have Y2 := hide (Y.out.up B2); have X1 := hide (Q1'.out.up B2); have X0 := hide (Q0'.out.up B2); replace BW' := hide (bto BW'.out B2); obtain ⟨j0, j1, j2⟩ := Y2.out.cells; obtain ⟨i0, i1, i2⟩ := X1.out.cells; have v0 := X1.out.fz 0; have v1 := X1.out.fz 1; have v2 := X1.out.fz 2; simp only at j0 j1 j2; clear B2)
            go_roundw
            case rel => exact .mk (k + 1) (by go_num) (by omega) (by rw [F.out]; exact X1.out.put (y0, y1, y2)) (((X0.out.far (by omega) _ _).far (by omega) _ _).far (by omega) _ _) (below_put BW'.out (by omega) _ _ _)
            case measure => simp [intOf]; omega
          | false =>
            have F := hide (S.out.trans (T0.out rfl))
            clear S T1 T0
            go_wp2_with (go_at_call 22; refine (L.out _).mono ?_; rintro e w2 ⟨rfl, B2⟩; have Y2 := hide (Y.out.up B2); have X1 := hide (Q1'.out.up B2); have X0 := hide (Q0'.out.up B2); replace BW' := hide (bto BW'.out B2); clear B2)
            go_roundw
            case rel => exact .mk (k + 1) (by go_num) (by omega) (by rw [F.out]; exact X1.out) X0.out BW'.out
            case measure => simp [intOf]; omega
        · have hlt' : ¬ (k : Int) < r.length := by omega
          have F := hide E.out
          rw [show r.take k = r.take r.length by rw [show k = r.length by omega]] at Q1
          clear R E HV P0 P1 B0 HW1 ST
          generalize (r.take r.length).foldl upW (x0, x1, x2) = m at Q1 F
          have N := hide (Q0.out.put m)
          have BN := hide (below_put (b := w.heap.size) BW.out (Nat.le_refl _) (.int .i64 m.1) (.int .i64 m.2.1) (.int .i64 m.2.2))
          have d0 := Q1.out.cells.1
          have d1 := Q1.out.cells.2.1
          have d2 := Q1.out.cells.2.2
          obtain ⟨e0, e1, e2⟩ := Q0.out.cells
          have v0 := Q0.out.fz 0
          have v1 := Q0.out.fz 1
          have v2 := Q0.out.fz 2
          obtain ⟨m0, m1, m2⟩ := m
          simp only at d0 d1 d2 N BN
          go_wp2
          exact ret3 (b := w.heap.size) Tryz.results23 rfl N.out rfl ⟨by rw [F.out], BN.out⟩
end Go.Proofs.YtmkbjcoagfnegaaGreatDoor
