/-
  The law of weights.
-/
import Derived.Test.YtmkbjcoagfnegaaGreatDoorLSwI
import Derived.Test.YtmkbjcoagfnegaaGreatDoorLSwJ
import Derived.Test.YtmkbjcoagfnegaaGreatDoorX39
import Derived.Deep.RegionHeld3
import Derived.Deep.RegionWith
set_option linter.unusedVariables false
set_option linter.unusedSimpArgs false
namespace Go.Proofs.YtmkbjcoagfnegaaGreatDoor
open Go.RowKit

theorem moW_take {l : List Wt} {k : Nat} {x : Wt} (h : l[k]? = some x) : moW (l.take (k + 1)) = if k = 0 then x else upW (moW (l.take k)) x := by
  cases l with
  | nil => cases h
  | cons y l =>
    cases k with
    | zero => obtain rfl : y = x := by simpa using h
              rfl
    | succ k =>
      rw [if_neg (by omega)]
      show (l.take (k + 1)).foldl upW y = upW ((l.take k).foldl upW y) x
      exact fold_take (by simpa using h)
/-- The state of the law's own search. -/
def RelWq (w : World) (g : Nat) (a b : Wt) (l : List Wt) (i : Value) (wr : World) : Prop := ∃ k : Nat, i = .int .i64 k ∧ k ≤ l.length ∧ Hid (Bk3 wr g (moW (l.take k)) ∧ Bk3 wr (w.heap.size + 1) a ∧ Bk3 wr (w.heap.size + 2) b ∧ Below w.heap.size w wr)
theorem RelWq.mk {w : World} {g : Nat} {a b : Wt} {l : List Wt} {i : Value} {wr : World} (k : Nat) (h : i = .int .i64 k) (hk : k ≤ l.length) (h0 : Bk3 wr g (moW (l.take k))) (h1 : Bk3 wr (w.heap.size + 1) a) (h2 : Bk3 wr (w.heap.size + 2) b) (h3 : Below w.heap.size w wr) : RelWq w g a b l i wr := ⟨k, h, hk, h0, h1, h2, h3⟩
theorem keep9 {w W : World} {p q g : Nat} {a b m : Wt} (hw : Below w.heap.size w W) (h1 : Bk3 w p a) (h2 : Bk3 w q b) (h3 : Bk3 w g m) : W.cell? ⟨p, 0, none⟩ = some (.int .i64 a.1) ∧ W.cell? ⟨p, 1, none⟩ = some (.int .i64 a.2.1) ∧ W.cell? ⟨p, 2, none⟩ = some (.int .i64 a.2.2) ∧
    W.cell? ⟨q, 0, none⟩ = some (.int .i64 b.1) ∧ W.cell? ⟨q, 1, none⟩ = some (.int .i64 b.2.1) ∧ W.cell? ⟨q, 2, none⟩ = some (.int .i64 b.2.2) ∧ W.cell? ⟨g, 0, none⟩ = some (.int .i64 m.1) ∧ W.cell? ⟨g, 1, none⟩ = some (.int .i64 m.2.1) ∧ W.cell? ⟨g, 2, none⟩ = some (.int .i64 m.2.2) := by
  obtain ⟨a0, a1, a2⟩ := (h1.up hw).cells
  obtain ⟨b0, b1, b2⟩ := (h2.up hw).cells
  obtain ⟨c0, c1, c2⟩ := (h3.up hw).cells
  exact ⟨a0, a1, a2, b0, b1, b2, c0, c1, c2⟩
theorem heap_two (W : World) (x o : Obj) : ((W.alloc x).alloc o).heap[W.heap.size + 1]? = some o := by have := heap_alloc_new (W.alloc x) o; simpa using this
set_option maxRecDepth 100000 in
set_option maxHeartbeats 8000000 in
theorem law_weighs (n : Nat) (c : Cx) (v : Value) (a b : Wt) (l : List Wt) (lv : Value) (w : World) (hv : PsM w n v c) (hz : szC (szM n) c ≤ 1048576) (hl : WsM w lv l) (hI : Kinds w) (hK : KT w) (hT : Tabs w) :
    Calls Tryz.prog 7 #[.agg #[v], wV a, wV b, lv] w fun e w' => e = .returned (.bool true) ∧ Below w.heap.size w w' := by
  obtain ⟨sa, sc, rfl, h9⟩ := hv.shape
  obtain ⟨la, lc, rfl, hl9⟩ := RowOf.shape hl
  obtain ⟨W1, hW1⟩ : ∃ W1, ((w.alloc (.cells #[.slice sa c.length sc] 40)).alloc (.cells #[.int .i64 a.1, .int .i64 a.2.1, .int .i64 a.2.2] 42)).alloc (.cells #[.int .i64 b.1, .int .i64 b.2.1, .int .i64 b.2.2] 42) = W1 := ⟨_, rfl⟩
  have HW1 := hide hW1
  have B0 := hide (show Below w.heap.size w W1 by rw [← hW1]; exact bplus (bplus (bplus (Below.refl _ _) _) _) _)
  have P0 := hide (show W1.heap[w.heap.size]? = some (.cells #[.slice sa c.length sc] 40) by rw [← hW1]; exact (Below.heap_alloc _ _ _ (by simp; omega)).trans ((Below.heap_alloc _ _ _ (by simp)).trans (heap_alloc_new w _)))
  have PA := hide (show Bk3 W1 (w.heap.size + 1) a by rw [← hW1]; have := (Bk3.new (w.alloc (.cells #[.slice sa c.length sc] 40)) a).more (.cells #[.int .i64 b.1, .int .i64 b.2.1, .int .i64 b.2.2] 42); simpa using this)
  have PB := hide (show Bk3 W1 (w.heap.size + 2) b by rw [← hW1]; have := Bk3.new ((w.alloc (.cells #[.slice sa c.length sc] 40)).alloc (.cells #[.int .i64 a.1, .int .i64 a.2.1, .int .i64 a.2.2] 42)) b; simpa using this)
  clear hW1
  have k0 := bxk_1 P0.out
  have CW := hide (weighP_any n c _ W1 (hv.low B0.out) hz (hK.below B0.out) (hT.below B0.out))
  have CM1 := hide (fun (W : World) (g : Nat) (h : Below w.heap.size w W) (hb : W.heap[g]? = some (.cells #[.slice sa c.length sc] 40)) => mayRR9_any (n + 1) [c] _ W (CM.one hv h hb))
  have CR := hide (fun (W : World) (h : Below w.heap.size w W) => weighR n c _ W (hv.low h) hz)
  have CL := hide (fun (W : World) => lessP_any a b W)
  have CQ := hide (fun (W : World) => lessR_any a b W)
  have CT := hide (fun (W : World) (h : Below w.heap.size w W) => mostP_any l _ W (hl.low h))
  have CA := hide (fun (W : World) (h : Below w.heap.size w W) => awake9_any W (hI.below h) (hK.below h) (hT.below h))
  have HL := hide hl
  have EW := hide (show ∀ r, lsM 65 [c] = r → wgW n c = if r then wtC (wtM n) c else z3 by rintro r rfl; rfl)
  have EE := hide (show ∀ r, lsM 65 [c] = r → wgE c = if r then 0 else 1 by rintro r rfl; rfl)
  clear hv hz hK hT hI hl
  generalize lsM 65 [c] = RB at CM1 EW EE
  replace EW := hide (EW.out _ rfl)
  replace EE := hide (EE.out _ rfl)
  generalize wgW n c = RW at EW CW
  generalize wgE c = RE at EE CW
  generalize wtC (wtM n) c = WT at CR EW
  generalize List.length c = ln at *
  cases RB with
  | false =>
    obtain rfl : RW = z3 := by have := EW.out; simpa using this
    obtain rfl : RE = 1 := by have := EE.out; simpa using this
    clear EW EE CR
    obtain ⟨a0, a1, a2⟩ := a
    obtain ⟨b0, b1, b2⟩ := b
    unfold wV z3 at CW
    unfold wV
    simp only at HW1 CW ⊢
    go_enter Tryz.func7, Tryz.ntmps7
    go_upto_region 7 with (first
      | (go_at_call 19; rw [HW1.out]; refine CW.out.mono ?_; rintro e w1 ⟨rfl, B1⟩; replace B0 := hide (bto B0.out B1); replace P0 := hide ((B1.block _ (Array.getElem?_eq_some_iff.1 P0.out).1).trans P0.out); replace PA := hide (PA.out.up B1); replace PB := hide (PB.out.up B1); replace k0 := bxk_1 P0.out; have y1 : w.heap.size < w1.heap.size := (Array.getElem?_eq_some_iff.1 P0.out).1; have y2 := Nat.ne_of_lt y1; clear B1)
      | (go_at_call 16; refine (CM1.out _ (w1.heap.size + 1) (bplus (bplus B0.out _) _) (heap_two w1 _ _)).mono ?_; rintro e w2 ⟨rfl, B2⟩; replace B0 := hide (bto (bplus (bplus B0.out _) _) B2); have P9 := hide ((((Bk3.new w1 z3).more _)).up B2); replace PA := hide (((PA.out.more _).more _).up B2); replace PB := hide (((PB.out.more _).more _).up B2); replace P0 := hide ((B2.block _ (Nat.lt_of_lt_of_le y1 (by simp; omega))).trans ((Below.heap_alloc _ _ _ (by simp; omega)).trans ((Below.heap_alloc _ _ _ y1).trans P0.out))); replace k0 := bxk_1 P0.out; obtain ⟨t0, t1, t2⟩ := P9.out.cells; clear B2))
    go_wp2_with fail
    obtain ⟨W5, hW5⟩ : ∃ W5, w2.alloc (.cells #[.int .i64 0, .int .i64 0, .int .i64 0] 42) = W5 := ⟨_, rfl⟩
    have QM := hide (show Bk3 W5 w2.heap.size z3 by rw [← hW5]; exact Bk3.new w2 z3)
    have QA := hide (show Bk3 W5 (w.heap.size + 1) (a0, a1, a2) by rw [← hW5]; exact PA.out.more _)
    have QB := hide (show Bk3 W5 (w.heap.size + 2) (b0, b1, b2) by rw [← hW5]; exact PB.out.more _)
    have BQ := hide (show Below w.heap.size w W5 by rw [← hW5]; exact bplus B0.out _)
    have hga : w.heap.size + 1 < w2.heap.size := PA.out.lt
    have hgb : w.heap.size + 2 < w2.heap.size := PB.out.lt
    rw [hW5]
    clear hW5 P0 k0 P9 t0 t1 t2
    generalize w2.heap.size = g at *
    go_loopw [41] (fun i wr => RelWq w g (a0, a1, a2) (b0, b1, b2) l i wr) (fun i _ => l.length - (intOf i).toNat)
    case atStart => exact .mk 0 rfl (by omega) QM.out QA.out QB.out BQ.out
    case round =>
      obtain ⟨k, rfl, hk, R⟩ := hrel
      have Q0 := hide R.out.1
      have Q1 := hide R.out.2.1
      have Q2 := hide R.out.2.2.1
      have BW := hide R.out.2.2.2
      clear R QM QA QB BQ PA PB B0 HW1 CW CM1
      by_cases hlt : k < l.length
      · obtain ⟨y, hy⟩ : ∃ y, l[k]? = some y := ⟨_, List.getElem?_eq_getElem hlt⟩
        have hlt' : (k : Int) < l.length := by omega
        obtain ⟨lb, lo, lc', hv', hlb, _, _, h0, h1, h2⟩ := RowOf.at HL.out hy
        obtain ⟨rfl, rfl⟩ : la = some ⟨lb, lo, none⟩ ∧ lc = lc' := by cases hv'; exact ⟨rfl, rfl⟩
        have r0 := (BW.out.cell (p := ⟨lb, lo + k * 3, none⟩) hlb).trans h0
        have r1 := (BW.out.cell (p := ⟨lb, lo + k * 3 + 1, none⟩) hlb).trans h1
        have r2 := (BW.out.cell (p := ⟨lb, lo + k * 3 + 2, none⟩) hlb).trans h2
        have hbw : lb < wr.heap.size := by have := BW.out.size; omega
        have nb : lb ≠ wr.heap.size := by omega
        have S := hide (moW_take hy)
        clear h0 h1 h2 hv' CL CQ CT CA HL hy
        have T1 := hide (@upW_t (moW (l.take k)) y)
        have T0 := hide (@upW_f (moW (l.take k)) y)
        have L := hide (fun V => lessR_any (moW (l.take k)) y V)
        have gl : g < wr.heap.size := Q0.out.lt
        have gn : g ≠ wr.heap.size := by omega
        have QQ0 := hide (Q0.out.more (.cells #[.int .i64 y.1, .int .i64 y.2.1, .int .i64 y.2.2] 42))
        have QQ1 := hide (Q1.out.more (.cells #[.int .i64 y.1, .int .i64 y.2.1, .int .i64 y.2.2] 42))
        have QQ2 := hide (Q2.out.more (.cells #[.int .i64 y.1, .int .i64 y.2.1, .int .i64 y.2.2] 42))
        have BB := hide (bplus BW.out (.cells #[.int .i64 y.1, .int .i64 y.2.1, .int .i64 y.2.2] 42))
        have YN := hide (Bk3.new wr y)
        obtain ⟨i0, i1, i2⟩ := Q0.out.cells
        have v0 := Q0.out.fz 0
        have v1 := Q0.out.fz 1
        have v2 := Q0.out.fz 2
        generalize moW (l.take k) = mm at *
        generalize hB : ltW mm y = RB at L T1 T0
        clear hB
        unfold wV at L
        obtain ⟨m0, m1, m2⟩ := mm
        obtain ⟨y0, y1, y2⟩ := y
        simp only at *
        by_cases hk0 : k = 0
        · have F := hide (show moW (l.take (k + 1)) = (y0, y1, y2) by rw [S.out, if_pos hk0])
          have kb : ((k : Int) == 0) = true := by simp; omega
          have KZ := hide hk0
          have ga : w.heap.size + 1 ≠ g := by omega
          have gb : w.heap.size + 2 ≠ g := by omega
          have gc : w.heap.size ≤ g := by omega
          clear S T1 T0 L hk0
          go_wp2
          go_roundw
          case rel => exact .mk (k + 1) (by go_num) (by omega) (by rw [F.out]; exact (Q0.out.put (y0, y1, y2)).more _) ((((Q1.out.far ga _ _).far ga _ _).far ga _ _).more _) ((((Q2.out.far gb _ _).far gb _ _).far gb _ _).more _) (bplus (below_put BW.out gc _ _ _) _)
          case measure => simp [intOf]; omega
        · have kb : ((k : Int) == 0) = false := by simp; omega
          have ga : w.heap.size + 1 ≠ g := by omega
          have gb : w.heap.size + 2 ≠ g := by omega
          have gc : w.heap.size ≤ g := by omega
          rw [if_neg hk0] at S
          clear hk0
          cases RB with
          | true =>
            have F := hide (S.out.trans (T1.out rfl))
            clear S T1 T0
            go_wp2_with (go_at_call 21; refine (L.out _).mono ?_; rintro e w4 ⟨rfl, B4⟩; have Y2 := hide (YN.out.up B4); have X0 := hide (QQ0.out.up B4); have X1 := hide (QQ1.out.up B4); have X2 := hide (QQ2.out.up B4); replace BB := hide (bto BB.out B4); obtain ⟨j0, j1, j2⟩ := Y2.out.cells; obtain ⟨i0, i1, i2⟩ := X0.out.cells; have v0 := X0.out.fz 0; have v1 := X0.out.fz 1; have v2 := X0.out.fz 2; simp only at j0 j1 j2; clear B4)
            go_roundw
            case rel => exact .mk (k + 1) (by go_num) (by omega) (by rw [F.out]; exact X0.out.put (y0, y1, y2)) (((X1.out.far ga _ _).far ga _ _).far ga _ _) (((X2.out.far gb _ _).far gb _ _).far gb _ _) (below_put BB.out gc _ _ _)
            case measure => simp [intOf]; omega
          | false =>
            have F := hide (S.out.trans (T0.out rfl))
            clear S T1 T0
            go_wp2_with (go_at_call 21; refine (L.out _).mono ?_; rintro e w4 ⟨rfl, B4⟩; have X0 := hide (QQ0.out.up B4); have X1 := hide (QQ1.out.up B4); have X2 := hide (QQ2.out.up B4); replace BB := hide (bto BB.out B4); clear B4)
            go_roundw
            case rel => exact .mk (k + 1) (by go_num) (by omega) (by rw [F.out]; exact X0.out) X1.out X2.out BB.out
            case measure => simp [intOf]; omega
      · have hlt' : ¬ (k : Int) < l.length := by omega
        rw [List.take_of_length_le (show l.length ≤ k by omega)] at Q0
        generalize moW l = mm at Q0 CT
        generalize ltW (a0, a1, a2) (b0, b1, b2) = lt at CL CQ
        unfold wV at CL CQ CT
        obtain ⟨m0, m1, m2⟩ := mm
        simp only at CL CQ CT
        have EQ : (lt == lt) = true := by simp
        obtain ⟨p0, p1, p2, p3, p4, p5, p6, p7, p8⟩ := keep9 (Below.refl _ _) Q1.out Q2.out Q0.out
        simp only at p0 p1 p2 p3 p4 p5 p6 p7 p8
        have CT1 := hide (fun (W : World) (h : Below wr.heap.size wr W) => CT.out W (bto BW.out h))
        have CA1 := hide (fun (W : World) (h : Below wr.heap.size wr W) => CA.out W (bto BW.out h))
        have KE := hide (fun (W : World) (h : Below wr.heap.size wr W) => keep9 h Q1.out Q2.out Q0.out)
        simp only at KE
        clear CT CA HL
        go_upto_region 14 with fail
        go_region_held3 (fun w' => w'.cell? ⟨w.heap.size + 1, 0, none⟩ = some (.int .i64 a0) ∧ w'.cell? ⟨w.heap.size + 1, 1, none⟩ = some (.int .i64 a1) ∧ w'.cell? ⟨w.heap.size + 1, 2, none⟩ = some (.int .i64 a2) ∧
          w'.cell? ⟨w.heap.size + 2, 0, none⟩ = some (.int .i64 b0) ∧ w'.cell? ⟨w.heap.size + 2, 1, none⟩ = some (.int .i64 b1) ∧ w'.cell? ⟨w.heap.size + 2, 2, none⟩ = some (.int .i64 b2) ∧ w'.cell? ⟨g, 0, none⟩ = some (.int .i64 m0) ∧ w'.cell? ⟨g, 1, none⟩ = some (.int .i64 m1) ∧ w'.cell? ⟨g, 2, none⟩ = some (.int .i64 m2))
          ((refine KE.out _ ?_; (repeat (first | exact Below.refl _ _ | (with_reducible refine Below.drew ?_) | (with_reducible refine below_drewN ?_ _) | (refine bto ?_ (by assumption)))); done))
          (first
            | (go_at_call 22; refine (CL.out _).mono ?_; rintro _ wl ⟨rfl, hl⟩)
            | (go_at_call 21; refine (CQ.out _).mono ?_; rintro _ wl ⟨rfl, hl⟩)
            | (go_at_call 23; refine (CT1.out _ (by repeat (first | exact Below.refl _ _ | (with_reducible refine Below.drew ?_) | (with_reducible refine below_drewN ?_ _) | (refine bto ?_ (by assumption))))).mono ?_; rintro _ wl ⟨rfl, hl⟩)
            | (go_at_call 12; refine (CA1.out _ (by repeat (first | exact Below.refl _ _ | (with_reducible refine Below.drew ?_) | (with_reducible refine below_drewN ?_ _) | (refine bto ?_ (by assumption))))).mono ?_; rintro _ wl ⟨rfl, hl⟩))
        all_goals
          go_wp2
          go_ret
          refine ⟨rfl, bto BW.out ?_⟩
          repeat (first | exact Below.refl _ _ | (with_reducible refine Below.drew ?_) | (with_reducible refine below_drewN ?_ _) | (refine bto ?_ (by assumption)))
  | true =>
    obtain rfl : RW = WT := by have := EW.out; simpa using this
    obtain rfl : RE = 0 := by have := EE.out; simpa using this
    clear EW EE
    obtain ⟨a0, a1, a2⟩ := a
    obtain ⟨b0, b1, b2⟩ := b
    obtain ⟨u0, u1, u2⟩ := RW
    unfold wV at CW CR
    unfold wV
    simp only at HW1 CW CR ⊢
    go_enter Tryz.func7, Tryz.ntmps7
    go_upto_region 5 with (first
      | (go_at_call 19; rw [HW1.out]; refine CW.out.mono ?_; rintro e w1 ⟨rfl, B1⟩; replace B0 := hide (bto B0.out B1); replace P0 := hide ((B1.block _ (Array.getElem?_eq_some_iff.1 P0.out).1).trans P0.out); replace PA := hide (PA.out.up B1); replace PB := hide (PB.out.up B1); replace k0 := bxk_1 P0.out; have y1 : w.heap.size < w1.heap.size := (Array.getElem?_eq_some_iff.1 P0.out).1; have y2 := Nat.ne_of_lt y1; clear B1)
      | (go_at_call 16; refine (CM1.out _ (w1.heap.size + 1) (bplus (bplus B0.out _) _) (heap_two w1 _ _)).mono ?_; rintro e w2 ⟨rfl, B2⟩; replace B0 := hide (bto (bplus (bplus B0.out _) _) B2); have P9 := hide ((((Bk3.new w1 (u0, u1, u2)).more _)).up B2); replace PA := hide (((PA.out.more _).more _).up B2); replace PB := hide (((PB.out.more _).more _).up B2); replace P0 := hide ((B2.block _ (Nat.lt_of_lt_of_le y1 (by simp; omega))).trans ((Below.heap_alloc _ _ _ (by simp; omega)).trans ((Below.heap_alloc _ _ _ y1).trans P0.out))); replace k0 := bxk_1 P0.out; obtain ⟨t0, t1, t2⟩ := P9.out.cells; clear B2))
    go_cut [37] (fun x wx => x = .bool false ∧ Hid (Bk3 wx (w.heap.size + 1) (a0, a1, a2) ∧ Bk3 wx (w.heap.size + 2) (b0, b1, b2) ∧ Below w.heap.size w wx))
    case first =>
      clear CL CQ CT CA HL CM1 CW
      go_region_with (go_at_call 20; refine (CR.out w2.drew B0.out.drew).mono ?_; rintro e w3 ⟨rfl, B3'⟩; have B3 : Below w2.heap.size w2 w3 := (Below.refl w2.heap.size w2).drew.trans B3'; clear B3'; replace P9 := hide (P9.out.up B3); replace PA := hide (PA.out.up B3); replace PB := hide (PB.out.up B3); replace B0 := hide (bto B0.out B3); obtain ⟨t3, t4, t5⟩ := P9.out.cells; simp only at t3 t4 t5; clear B3)
      all_goals
        go_wp2_with fail
        go_meet
        case rel => exact ⟨rfl, PA.out, PB.out, B0.out⟩
    case rest =>
      obtain ⟨rfl, HC⟩ := hcut
      replace PA := hide HC.out.1
      replace PB := hide HC.out.2.1
      replace B0 := hide HC.out.2.2
      clear HC CR P9 t0 t1 t2 P0 k0 y1 y2
      go_upto_region 7 with fail
      go_wp2_with fail
      obtain ⟨W5, hW5⟩ : ∃ W5, wc.alloc (.cells #[.int .i64 0, .int .i64 0, .int .i64 0] 42) = W5 := ⟨_, rfl⟩
      have QM := hide (show Bk3 W5 wc.heap.size z3 by rw [← hW5]; exact Bk3.new wc z3)
      have QA := hide (show Bk3 W5 (w.heap.size + 1) (a0, a1, a2) by rw [← hW5]; exact PA.out.more _)
      have QB := hide (show Bk3 W5 (w.heap.size + 2) (b0, b1, b2) by rw [← hW5]; exact PB.out.more _)
      have BQ := hide (show Below w.heap.size w W5 by rw [← hW5]; exact bplus B0.out _)
      have hga : w.heap.size + 1 < wc.heap.size := PA.out.lt
      have hgb : w.heap.size + 2 < wc.heap.size := PB.out.lt
      rw [hW5]
      clear hW5
      generalize wc.heap.size = g at *
      go_loopw [41] (fun i wr => RelWq w g (a0, a1, a2) (b0, b1, b2) l i wr) (fun i _ => l.length - (intOf i).toNat)
      case atStart => exact .mk 0 rfl (by omega) QM.out QA.out QB.out BQ.out
      case round =>
        obtain ⟨k, rfl, hk, R⟩ := hrel
        have Q0 := hide R.out.1
        have Q1 := hide R.out.2.1
        have Q2 := hide R.out.2.2.1
        have BW := hide R.out.2.2.2
        clear R QM QA QB BQ PA PB B0 HW1 CW CM1
        by_cases hlt : k < l.length
        · obtain ⟨y, hy⟩ : ∃ y, l[k]? = some y := ⟨_, List.getElem?_eq_getElem hlt⟩
          have hlt' : (k : Int) < l.length := by omega
          obtain ⟨lb, lo, lc', hv', hlb, _, _, h0, h1, h2⟩ := RowOf.at HL.out hy
          obtain ⟨rfl, rfl⟩ : la = some ⟨lb, lo, none⟩ ∧ lc = lc' := by cases hv'; exact ⟨rfl, rfl⟩
          have r0 := (BW.out.cell (p := ⟨lb, lo + k * 3, none⟩) hlb).trans h0
          have r1 := (BW.out.cell (p := ⟨lb, lo + k * 3 + 1, none⟩) hlb).trans h1
          have r2 := (BW.out.cell (p := ⟨lb, lo + k * 3 + 2, none⟩) hlb).trans h2
          have hbw : lb < wr.heap.size := by have := BW.out.size; omega
          have nb : lb ≠ wr.heap.size := by omega
          have S := hide (moW_take hy)
          clear h0 h1 h2 hv' CL CQ CT CA HL hy
          have T1 := hide (@upW_t (moW (l.take k)) y)
          have T0 := hide (@upW_f (moW (l.take k)) y)
          have L := hide (fun V => lessR_any (moW (l.take k)) y V)
          have gl : g < wr.heap.size := Q0.out.lt
          have gn : g ≠ wr.heap.size := by omega
          have QQ0 := hide (Q0.out.more (.cells #[.int .i64 y.1, .int .i64 y.2.1, .int .i64 y.2.2] 42))
          have QQ1 := hide (Q1.out.more (.cells #[.int .i64 y.1, .int .i64 y.2.1, .int .i64 y.2.2] 42))
          have QQ2 := hide (Q2.out.more (.cells #[.int .i64 y.1, .int .i64 y.2.1, .int .i64 y.2.2] 42))
          have BB := hide (bplus BW.out (.cells #[.int .i64 y.1, .int .i64 y.2.1, .int .i64 y.2.2] 42))
          have YN := hide (Bk3.new wr y)
          obtain ⟨i0, i1, i2⟩ := Q0.out.cells
          have v0 := Q0.out.fz 0
          have v1 := Q0.out.fz 1
          have v2 := Q0.out.fz 2
          generalize moW (l.take k) = mm at *
          generalize hB : ltW mm y = RB at L T1 T0
          clear hB
          unfold wV at L
          obtain ⟨m0, m1, m2⟩ := mm
          obtain ⟨y0, y1, y2⟩ := y
          simp only at *
          by_cases hk0 : k = 0
          · have F := hide (show moW (l.take (k + 1)) = (y0, y1, y2) by rw [S.out, if_pos hk0])
            have kb : ((k : Int) == 0) = true := by simp; omega
            have KZ := hide hk0
            have ga : w.heap.size + 1 ≠ g := by omega
            have gb : w.heap.size + 2 ≠ g := by omega
            have gc : w.heap.size ≤ g := by omega
            clear S T1 T0 L hk0
            go_wp2
            go_roundw
            case rel => exact .mk (k + 1) (by go_num) (by omega) (by rw [F.out]; exact (Q0.out.put (y0, y1, y2)).more _) ((((Q1.out.far ga _ _).far ga _ _).far ga _ _).more _) ((((Q2.out.far gb _ _).far gb _ _).far gb _ _).more _) (bplus (below_put BW.out gc _ _ _) _)
            case measure => simp [intOf]; omega
          · have kb : ((k : Int) == 0) = false := by simp; omega
            have ga : w.heap.size + 1 ≠ g := by omega
            have gb : w.heap.size + 2 ≠ g := by omega
            have gc : w.heap.size ≤ g := by omega
            rw [if_neg hk0] at S
            clear hk0
            cases RB with
            | true =>
              have F := hide (S.out.trans (T1.out rfl))
              clear S T1 T0
              go_wp2_with (go_at_call 21; refine (L.out _).mono ?_; rintro e w4 ⟨rfl, B4⟩; have Y2 := hide (YN.out.up B4); have X0 := hide (QQ0.out.up B4); have X1 := hide (QQ1.out.up B4); have X2 := hide (QQ2.out.up B4); replace BB := hide (bto BB.out B4); obtain ⟨j0, j1, j2⟩ := Y2.out.cells; obtain ⟨i0, i1, i2⟩ := X0.out.cells; have v0 := X0.out.fz 0; have v1 := X0.out.fz 1; have v2 := X0.out.fz 2; simp only at j0 j1 j2; clear B4)
              go_roundw
              case rel => exact .mk (k + 1) (by go_num) (by omega) (by rw [F.out]; exact X0.out.put (y0, y1, y2)) (((X1.out.far ga _ _).far ga _ _).far ga _ _) (((X2.out.far gb _ _).far gb _ _).far gb _ _) (below_put BB.out gc _ _ _)
              case measure => simp [intOf]; omega
            | false =>
              have F := hide (S.out.trans (T0.out rfl))
              clear S T1 T0
              go_wp2_with (go_at_call 21; refine (L.out _).mono ?_; rintro e w4 ⟨rfl, B4⟩; have X0 := hide (QQ0.out.up B4); have X1 := hide (QQ1.out.up B4); have X2 := hide (QQ2.out.up B4); replace BB := hide (bto BB.out B4); clear B4)
              go_roundw
              case rel => exact .mk (k + 1) (by go_num) (by omega) (by rw [F.out]; exact X0.out) X1.out X2.out BB.out
              case measure => simp [intOf]; omega
        · have hlt' : ¬ (k : Int) < l.length := by omega
          rw [List.take_of_length_le (show l.length ≤ k by omega)] at Q0
          generalize moW l = mm at Q0 CT
          generalize ltW (a0, a1, a2) (b0, b1, b2) = lt at CL CQ
          unfold wV at CL CQ CT
          obtain ⟨m0, m1, m2⟩ := mm
          simp only at CL CQ CT
          have EQ : (lt == lt) = true := by simp
          obtain ⟨p0, p1, p2, p3, p4, p5, p6, p7, p8⟩ := keep9 (Below.refl _ _) Q1.out Q2.out Q0.out
          simp only at p0 p1 p2 p3 p4 p5 p6 p7 p8
          have CT1 := hide (fun (W : World) (h : Below wr.heap.size wr W) => CT.out W (bto BW.out h))
          have CA1 := hide (fun (W : World) (h : Below wr.heap.size wr W) => CA.out W (bto BW.out h))
          have KE := hide (fun (W : World) (h : Below wr.heap.size wr W) => keep9 h Q1.out Q2.out Q0.out)
          simp only at KE
          clear CT CA HL
          go_upto_region 14 with fail
          go_region_held3 (fun w' => w'.cell? ⟨w.heap.size + 1, 0, none⟩ = some (.int .i64 a0) ∧ w'.cell? ⟨w.heap.size + 1, 1, none⟩ = some (.int .i64 a1) ∧ w'.cell? ⟨w.heap.size + 1, 2, none⟩ = some (.int .i64 a2) ∧
            w'.cell? ⟨w.heap.size + 2, 0, none⟩ = some (.int .i64 b0) ∧ w'.cell? ⟨w.heap.size + 2, 1, none⟩ = some (.int .i64 b1) ∧ w'.cell? ⟨w.heap.size + 2, 2, none⟩ = some (.int .i64 b2) ∧ w'.cell? ⟨g, 0, none⟩ = some (.int .i64 m0) ∧ w'.cell? ⟨g, 1, none⟩ = some (.int .i64 m1) ∧ w'.cell? ⟨g, 2, none⟩ = some (.int .i64 m2))
            ((refine KE.out _ ?_; (repeat (first | exact Below.refl _ _ | (with_reducible refine Below.drew ?_) | (with_reducible refine below_drewN ?_ _) | (refine bto ?_ (by assumption)))); done))
            (first
              | (go_at_call 22; refine (CL.out _).mono ?_; rintro _ wl ⟨rfl, hl⟩)
              | (go_at_call 21; refine (CQ.out _).mono ?_; rintro _ wl ⟨rfl, hl⟩)
              | (go_at_call 23; refine (CT1.out _ (by repeat (first | exact Below.refl _ _ | (with_reducible refine Below.drew ?_) | (with_reducible refine below_drewN ?_ _) | (refine bto ?_ (by assumption))))).mono ?_; rintro _ wl ⟨rfl, hl⟩)
              | (go_at_call 12; refine (CA1.out _ (by repeat (first | exact Below.refl _ _ | (with_reducible refine Below.drew ?_) | (with_reducible refine below_drewN ?_ _) | (refine bto ?_ (by assumption))))).mono ?_; rintro _ wl ⟨rfl, hl⟩))
          all_goals
            go_wp2
            go_ret
            refine ⟨rfl, bto BW.out ?_⟩
            repeat (first | exact Below.refl _ _ | (with_reducible refine Below.drew ?_) | (with_reducible refine below_drewN ?_ _) | (refine bto ?_ (by assumption)))
end Go.Proofs.YtmkbjcoagfnegaaGreatDoor
