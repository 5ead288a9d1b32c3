/-
  The law of sums.
-/
import Derived.Test.YtmkbjcoagfnegabGreatDoorLSuA
import Derived.Test.YtmkbjcoagfnegabGreatDoorV31
set_option linter.unusedVariables false
set_option linter.unusedSimpArgs false
namespace Go.Proofs.YtmkbjcoagfnegabGreatDoor
open Go.RowKit

/-- The state of the law's loop over compounds. -/
def RelS1 (w : World) (g : Nat) (X : Wt) (v : Value) (r : List Cx → Wt) (c : Cx) (i : Value) (wr : World) : Prop := ∃ k : Nat, i = .int .i64 k ∧ k ≤ c.length ∧ Hid (Bk3 wr (g + 1) (wtC r (c.take k)) ∧ Fs9 w g X v wr)
theorem RelS1.mk {w : World} {g : Nat} {X : Wt} {v : Value} {r : List Cx → Wt} {c : Cx} {i : Value} {wr : World} (k : Nat) (h : i = .int .i64 k) (hk : k ≤ c.length) (h1 : Bk3 wr (g + 1) (wtC r (c.take k))) (h2 : Fs9 w g X v wr) : RelS1 w g X v r c i wr := ⟨k, h, hk, h1, h2⟩
/-- The state of the law's adding. -/
def RelS2 (w : World) (g : Nat) (X : Wt) (v : Value) (gy : Nat) (x y : Wt) (i : Value) (wr : World) : Prop := ∃ k : Int, i = .int .i64 k ∧ (k = 0 ∨ k = 1 ∨ k = 2 ∨ k = 3) ∧ Hid (Bk3 wr (g + 1) (mix k x y) ∧ Bk3 wr gy y ∧ Fs9 w g X v wr)
theorem RelS2.mk {w : World} {g : Nat} {X : Wt} {v : Value} {gy : Nat} {x y : Wt} {i : Value} {wr : World} (k : Int) (h : i = .int .i64 k) (hk : k = 0 ∨ k = 1 ∨ k = 2 ∨ k = 3) (h1 : Bk3 wr (g + 1) (mix k x y)) (h2 : Bk3 wr gy y) (h3 : Fs9 w g X v wr) : RelS2 w g X v gy x y i wr := ⟨k, h, hk, h1, h2, h3⟩
/-- The state of the law's loop over kinds. -/
def RelS3 (w : World) (g : Nat) (X : Wt) (v : Value) (gk : Nat) (i : Value) (wr : World) : Prop := (i = .int .i64 0 ∨ i = .int .i64 1 ∨ i = .int .i64 2 ∨ i = .int .i64 3) ∧ Hid (wr.heap[gk]? = some (.cells #[.int .i64 7, .int .i64 6, .int .i64 8] 3) ∧ Fs9 w g X v wr)
theorem RelS3.mk {w : World} {g : Nat} {X : Wt} {v : Value} {gk : Nat} {i : Value} {wr : World} (h : i = .int .i64 0 ∨ i = .int .i64 1 ∨ i = .int .i64 2 ∨ i = .int .i64 3) (h1 : wr.heap[gk]? = some (.cells #[.int .i64 7, .int .i64 6, .int .i64 8] 3)) (h2 : Fs9 w g X v wr) : RelS3 w g X v gk i wr := ⟨h, h1, h2⟩
theorem bxk_3 {w : World} {b : Nat} {u0 u1 u2 : Value} {T : TypeId} (h : w.heap[b]? = some (.cells #[u0, u1, u2] T)) : w.cell? ⟨b, 0, none⟩ = some u0 ∧ w.cell? ⟨b, 1, none⟩ = some u1 ∧ w.cell? ⟨b, 2, none⟩ = some u2 := ⟨by rw [row_blk h]; rfl, by rw [row_blk h]; rfl, by rw [row_blk h]; rfl⟩
theorem heap_two9 (W : World) (x o : Obj) : ((W.alloc x).alloc o).heap[W.heap.size + 1]? = some o := by have := heap_alloc_new (W.alloc x) o; simpa using this
theorem heap_three9 (W : World) (x y o : Obj) : (((W.alloc x).alloc y).alloc o).heap[W.heap.size + 2]? = some o := by have := heap_alloc_new ((W.alloc x).alloc y) o; simpa using this
theorem more9 {W : World} {b : Nat} {o : Obj} (h : W.heap[b]? = some o) (x : Obj) : (W.alloc x).heap[b]? = some o := (Below.heap_alloc W x b (Array.getElem?_eq_some_iff.1 h).1).trans h
/-- What is told of the selectors that the law makes. -/
theorem weigh_mk (n : Nat) (c : Cx) (v : Value) (w W : World) (k : Int) (A : Nat) (hk : k = 6 ∨ k = 7 ∨ k = 8) (hv : PsM w n v c) (hz : szC (szM n) c ≤ 1048576) (hK : KT w) (hT : Tabs w) (hW : Below w.heap.size w W)
    (h0 : W.heap[A]? = some (.cells #[v, v] 24)) (h1 : W.heap[A + 1]? = some (.cells #[.int .i64 k, .string ⟨#[]⟩, .int .i64 0, .string ⟨#[]⟩, .bool false, .slice (some ⟨A, 0, none⟩) 2 2, .int .i64 0, .int .i64 0] 37)) (h2 : W.heap[A + 2]? = some (.cells #[.int .i64 0, .slice (some ⟨A + 1, 0, none⟩) 1 1] 33)) :
    Calls Tryz.prog 5 #[.agg #[.slice (some ⟨A + 2, 0, none⟩) 1 1]] W fun e w' => ∃ (y : Wt) (f : Int), e = .returned (.tuple #[wV y, .int .i64 f]) ∧ Below W.heap.size W w' ∧ ((f = 0 ∧ y = if k = 8 then z3 else wtC (wtM n) c) ∨ (f = 1 ∧ y = z3)) := by
  have hp : PsM W (n + 1) (.slice (some ⟨A + 2, 0, none⟩) 1 1) [(0, [mkS k c])] := PsM.one (SsM.one (by omega) (by omega) (CM.two hv hW h0) h1) (Below.refl _ _) h2
  refine (weighP_any (n + 1) _ _ W hp (by rw [sz_mk]; omega) (hK.below hW) (hT.below hW)).mono ?_
  rintro e w' ⟨rfl, B⟩
  refine ⟨_, _, rfl, B, ?_⟩
  unfold wgW wgE
  cases lsM 65 [[(0, [mkS k c])]] with
  | false => exact .inr ⟨rfl, rfl⟩
  | true =>
    refine .inl ⟨rfl, ?_⟩
    rw [if_pos rfl]
    rcases hk with rfl | rfl | rfl
    · rw [wt_mk n c (.inl rfl)]; rfl
    · rw [wt_mk n c (.inr rfl)]; rfl
    · rw [wt_mk8]; rfl
set_option maxRecDepth 100000 in
set_option maxHeartbeats 8000000 in
theorem law_sums (n : Nat) (c : Cx) (v : Value) (w : World) (hv : PsM w n v c) (hz : szC (szM n) c ≤ 1048576) (hI : Kinds w) (hK : KT w) (hT : Tabs w) :
    Calls Tryz.prog 3 #[.agg #[v]] w fun e w' => e = .returned (.bool true) ∧ Below w.heap.size w w' := by
  obtain ⟨a, cc, rfl, h9⟩ := hv.shape
  obtain ⟨W1, hW1⟩ : ∃ W1, w.alloc (.cells #[.slice a c.length cc] 24) = W1 := ⟨_, rfl⟩
  have HW1 := hide hW1
  have B0 := hide (show Below w.heap.size w W1 by rw [← hW1]; exact bplus (Below.refl _ _) _)
  have P0 := hide (show W1.heap[w.heap.size]? = some (.cells #[.slice a c.length cc] 24) by rw [← hW1]; exact heap_alloc_new w _)
  clear hW1
  have CW := hide (weighP_any n c _ W1 (hv.low B0.out) (by omega) (hK.below B0.out) (hT.below B0.out))
  have CA := hide (fun (W : World) (h : Below w.heap.size w W) => awake9_any W (hI.below h) (hK.below h) (hT.below h))
  have EW := hide (show ∀ r, lsM 65 [c] = r → wgW n c = if r then wtC (wtM n) c else z3 by rintro r rfl; rfl)
  have EE := hide (show ∀ r, lsM 65 [c] = r → wgE c = if r then 0 else 1 by rintro r rfl; rfl)
  cases hRB : lsM 65 [c] with
  | false =>
    obtain hw : wgW n c = z3 := by rw [EW.out _ hRB]; rfl
    obtain he : wgE c = 1 := by rw [EE.out _ hRB]; rfl
    rw [hw, he] at CW
    clear EW EE hw he hRB hv hz hI hK hT
    unfold wV z3 at CW
    generalize List.length c = ln at *
    go_enter Tryz.func3, Tryz.ntmps3
    go_wp2_with (first
      | (go_at_call 5; rw [HW1.out]; refine CW.out.mono ?_; rintro e w1 ⟨rfl, B1⟩; replace B0 := hide (bto B0.out B1); have PB := hide (bplus B0.out (.cells #[.int .i64 0, .int .i64 0, .int .i64 0] 26)); clear B1)
      | (go_at_call 6; refine (CA.out _ PB.out).mono ?_; rintro e w2 ⟨rfl, B2⟩; replace PB := hide (bto PB.out B2); clear B2))
    go_ret
    exact ⟨rfl, PB.out⟩
  | true =>
    obtain hw : wgW n c = wtC (wtM n) c := by rw [EW.out _ hRB]; rfl
    obtain he : wgE c = 0 := by rw [EE.out _ hRB]; rfl
    rw [hw, he] at CW
    have HV := hide hv
    have CP := hide (fun (i : Nat) (p : Cp) (u : Value) (W : World) (b : Nat) (hp : c[i]? = some p) (hu : SsM w n u p.2) (hW : Below w.heap.size w W) (hb : W.heap[b]? = some (.cells #[.int .i64 0, u] 33)) => show Calls Tryz.prog 5 #[.agg #[.slice (some ⟨b, 0, none⟩) 1 1]] W fun e w' => e = .returned (.tuple #[wV (wtC (wtM n) [(0, p.2)]), .int .i64 0]) ∧ Below W.heap.size W w' by
      have h := weighP_any n _ _ W (PsM.one hu hW hb) (Nat.le_trans (sz_part hp) (by omega)) (hK.below hW) (hT.below hW)
      unfold wgW wgE at h
      rw [lsM_part hRB hp, if_pos rfl, if_pos rfl] at h
      exact h)
    have CK := hide (fun (W : World) (k : Int) (A : Nat) hk hW => weigh_mk n c _ w W k A hk hv hz hK hT hW)
    have SN := hide (fun (k : Nat) (p : Cp) => @wtC_snoc (wtM n) c k p)
    have IP := hide (fun (k : Nat) (p : Cp) (hp : c[k]? = some p) => ((wtC_in (wtM_in n) [(0, p.2)]).mono (Nat.le_trans (sz_part hp) hz) : In3 (wtC (wtM n) [(0, p.2)]) 1048576))
    have IS := hide (fun (k : Nat) => ((wtC_in (wtM_in n) (c.take k)).mono (Nat.le_trans (sum_le_take c _ k) hz) : In3 (wtC (wtM n) (c.take k)) 1048576))
    clear EW EE hw he hRB hv hz hI hK hT
    obtain ⟨X, hX⟩ : ∃ X, wtC (wtM n) c = X := ⟨_, rfl⟩
    have HX := hide hX
    rw [hX] at CW CK
    clear hX
    generalize wtM n = r at *
    unfold wV at CW CK CP
    obtain ⟨X0, X1, X2⟩ := X
    simp only at CW
    go_enter Tryz.func3, Tryz.ntmps3
    go_upto_region 4 with (go_at_call 5; rw [HW1.out]; refine CW.out.mono ?_; rintro e w1 ⟨rfl, B1⟩; replace B0 := hide (bto B0.out B1); replace P0 := hide ((B1.block _ (Array.getElem?_eq_some_iff.1 P0.out).1).trans P0.out); have k0 := bxk_1 P0.out; have y1 : w.heap.size < w1.heap.size := (Array.getElem?_eq_some_iff.1 P0.out).1; have y2 := Nat.ne_of_lt y1; clear B1)
    obtain ⟨W5, hW5⟩ : ∃ W5, (w1.alloc (.cells #[.int .i64 X0, .int .i64 X1, .int .i64 X2] 26)).alloc (.cells #[.int .i64 0, .int .i64 0, .int .i64 0] 26) = W5 := ⟨_, rfl⟩
    have HW5 := hide hW5
    have F5 := hide (show Fs9 w w1.heap.size (X0, X1, X2) (.slice a c.length cc) W5 by rw [← hW5]; exact ⟨(Bk3.new w1 (X0, X1, X2)).more _, more9 (more9 P0.out _) _, bplus (bplus B0.out _) _⟩)
    have Q5 := hide (show Bk3 W5 (w1.heap.size + 1) z3 by rw [← hW5]; have := Bk3.new (w1.alloc (.cells #[.int .i64 X0, .int .i64 X1, .int .i64 X2] 26)) z3; simpa [z3] using this)
    clear hW5
    go_wp2_with fail
    rw [HW5.out]
    obtain ⟨g, hg⟩ : ∃ g, w1.heap.size = g := ⟨_, rfl⟩
    rw [hg] at F5 Q5 y1 y2 ⊢
    clear hg HW5 P0 k0 B0 HW1 CW
    go_loopw [32] (fun i wr => RelS1 w g (X0, X1, X2) (.slice a c.length cc) r c i wr) (fun i _ => c.length - (intOf i).toNat)
    case atStart => exact .mk 0 rfl (by omega) Q5.out F5.out
    case round =>
      obtain ⟨k, rfl, hk, R⟩ := hrel
      have Q2 := hide R.out.1
      have Q1 := hide R.out.2
      clear R F5 Q5
      by_cases hlt : k < c.length
      · obtain ⟨p, hp⟩ : ∃ p, c[k]? = some p := ⟨_, List.getElem?_eq_getElem hlt⟩
        obtain ⟨b, o, c', u, hv', hb, e0, e1, hu, _, _⟩ := HV.out.at hp
        obtain ⟨rfl, rfl⟩ : a = some ⟨b, o, none⟩ ∧ cc = c' := by cases hv'; exact ⟨rfl, rfl⟩
        have hlt' : (k : Int) < c.length := by omega
        have f0 := (Q1.out.2.2.cell (p := ⟨b, o + k * 2, none⟩) hb).trans e0
        have f1 := (Q1.out.2.2.cell (p := ⟨b, o + k * 2 + 1, none⟩) hb).trans e1
        have hsz := Q1.out.2.2.size
        have hbw : b < wr.heap.size := by omega
        have nb : b ≠ wr.heap.size := by omega
        have CP1 := hide (fun (W : World) (b : Nat) => CP.out k p u W b hp hu)
        have ST := hide (SN.out k p hp)
        have IY := hide (IP.out k p hp)
        have IX := hide (IS.out k)
        obtain ⟨ua, uc, hus, _⟩ := hu.shape
        clear e0 e1 hv' hu hp CP SN IP IS HV CK CA
        have FA := hide ((Q1.out.more (.cells #[.int .i64 p.1, u] 33)).more (.cells #[.int .i64 0, u] 33))
        have QA := hide ((Q2.out.more (.cells #[.int .i64 p.1, u] 33)).more (.cells #[.int .i64 0, u] 33))
        have HB := hide (heap_two9 wr (.cells #[.int .i64 p.1, u] 33) (.cells #[.int .i64 0, u] 33))
        have hgl : g + 1 < wr.heap.size := Q2.out.lt
        subst hus
        generalize wtC r [(0, p.2)] = wy at CP1 ST IY
        generalize wtC r (c.take k) = wx at Q2 QA ST IX
        obtain ⟨cm, ss⟩ := p
        simp only at *
        obtain ⟨⟨x1', x2'⟩, ⟨x3', x4'⟩, x5', x6'⟩ := IX.out
        obtain ⟨⟨y1', y2'⟩, ⟨y3', y4'⟩, y5', y6'⟩ := IY.out
        obtain ⟨x0, x1, x2⟩ := wx
        obtain ⟨y0, y1x, y2x⟩ := wy
        simp only at x1' x2' x3' x4' x5' x6' y1' y2' y3' y4' y5' y6' CP1
        have wa0 : IntKind.i64.wrap (x0 + y0) = x0 + y0 := by simp [IntKind.wrap, go_sem]; omega
        have wa1 : IntKind.i64.wrap (x1 + y1x) = x1 + y1x := by simp [IntKind.wrap, go_sem]; omega
        have wa2 : IntKind.i64.wrap (x2 + y2x) = x2 + y2x := by simp [IntKind.wrap, go_sem]; omega
        clear x1' x2' x3' x4' x5' x6' y1' y2' y3' y4' y5' y6' IX IY
        go_wp2_with (go_at_call 5; refine (CP1.out _ (wr.heap.size + 1) FA.out.2.2 HB.out).mono ?_; rintro e w3 ⟨rfl, B3⟩; replace FA := hide (FA.out.up B3); replace QA := hide (QA.out.up B3); clear B3)
        have FB := hide (FA.out.more (.cells #[.int .i64 y0, .int .i64 y1x, .int .i64 y2x] 26))
        have QB := hide (QA.out.more (.cells #[.int .i64 y0, .int .i64 y1x, .int .i64 y2x] 26))
        have QY := hide (show Bk3 (w3.alloc (.cells #[.int .i64 y0, .int .i64 y1x, .int .i64 y2x] 26)) w3.heap.size (y0, y1x, y2x) from Bk3.new w3 (y0, y1x, y2x))
        have gx : w3.heap.size ≠ g + 1 := by have := QA.out.lt; omega
        go_loopw [47] (fun i wr' => RelS2 w g (X0, X1, X2) (.slice (some ⟨b, o, none⟩) c.length cc) w3.heap.size (x0, x1, x2) (y0, y1x, y2x) i wr') (fun i _ => 3 - (intOf i).toNat)
        case atStart => exact .mk 0 rfl (.inl rfl) QB.out QY.out FB.out
        case round =>
          obtain ⟨kk, rfl, hkk, R⟩ := hrel
          clear Q2 Q1
          have Q2 := hide R.out.1
          have Q0 := hide R.out.2.1
          have Q1 := hide R.out.2.2
          clear R FB QB QY FA QA HB CP1
          have c0 := Q2.out.cells.1
          have c1 := Q2.out.cells.2.1
          have c2 := Q2.out.cells.2.2
          have z0 := Q2.out.fz 0
          have z1 := Q2.out.fz 1
          have z2 := Q2.out.fz 2
          obtain ⟨d0, d1, d2⟩ := Q0.out.cells
          simp only at d0 d1 d2
          rcases hkk with rfl | rfl | rfl | rfl
          · simp only [mix, reduceIte, show ¬ (1 : Int) = 0 by decide, show ¬ (2 : Int) = 0 by decide, show ¬ (2 : Int) = 1 by decide] at c0 c1 c2
            have N := hide (show Bk3 (wr.setCell ⟨g + 1, 0, none⟩ (.int .i64 (x0 + y0))) (g + 1) (x0 + y0, x1, x2) from setCell_blk Q2.out _)
            have N1 := hide (Q0.out.far (r := g + 1) gx 0 (.int .i64 (x0 + y0)))
            have N2 := hide ((Q1.out.put (r := g + 1) (by omega) (by omega) 0 (.int .i64 (x0 + y0))).drew)
            go_wp2
            go_region
            go_wp2
            go_roundw
            case rel => exact .mk 1 (by go_num) (by omega) N.out N1.out N2.out
            case measure => simp [intOf]
          · simp only [mix, reduceIte, show ¬ (1 : Int) = 0 by decide, show ¬ (2 : Int) = 0 by decide, show ¬ (2 : Int) = 1 by decide] at c0 c1 c2
            have N := hide (show Bk3 (wr.setCell ⟨g + 1, 1, none⟩ (.int .i64 (x1 + y1x))) (g + 1) (x0 + y0, x1 + y1x, x2) from setCell_blk Q2.out _)
            have N1 := hide (Q0.out.far (r := g + 1) gx 1 (.int .i64 (x1 + y1x)))
            have N2 := hide ((Q1.out.put (r := g + 1) (by omega) (by omega) 1 (.int .i64 (x1 + y1x))).drew)
            go_wp2
            go_region
            go_wp2
            go_roundw
            case rel => exact .mk 2 (by go_num) (by omega) N.out N1.out N2.out
            case measure => simp [intOf]
          · simp only [mix, reduceIte, show ¬ (1 : Int) = 0 by decide, show ¬ (2 : Int) = 0 by decide, show ¬ (2 : Int) = 1 by decide] at c0 c1 c2
            have N := hide (show Bk3 (wr.setCell ⟨g + 1, 2, none⟩ (.int .i64 (x2 + y2x))) (g + 1) (x0 + y0, x1 + y1x, x2 + y2x) from setCell_blk Q2.out _)
            have N1 := hide (Q0.out.far (r := g + 1) gx 2 (.int .i64 (x2 + y2x)))
            have N2 := hide ((Q1.out.put (r := g + 1) (by omega) (by omega) 2 (.int .i64 (x2 + y2x))).drew)
            go_wp2
            go_region
            go_wp2
            go_roundw
            case rel => exact .mk 3 (by go_num) (by omega) N.out N1.out N2.out
            case measure => simp [intOf]
          · have N := hide (show Bk3 wr (g + 1) (adW (x0, x1, x2) (y0, y1x, y2x)) from Q2.out)
            go_wp2
            go_roundw
            case rel => exact .mk (k + 1) (by go_num) (by omega) (by rw [ST.out]; exact N.out) Q1.out
            case measure => simp [intOf]; omega
      · have hlt' : ¬ (k : Int) < c.length := by omega
        rw [List.take_of_length_le (show c.length ≤ k by omega), HX.out] at Q2
        clear HV CP SN IP IS
        obtain ⟨i0, i1, i2⟩ := Q2.out.cells
        obtain ⟨j0, j1, j2⟩ := Q1.out.1.cells
        simp only at i0 i1 i2 j0 j1 j2
        obtain ⟨W6, hW6⟩ : ∃ W6, wr.alloc (.cells #[.int .i64 7, .int .i64 6, .int .i64 8] 3) = W6 := ⟨_, rfl⟩
        have HW6 := hide hW6
        have F6 := hide (show Fs9 w g (X0, X1, X2) (.slice a c.length cc) W6 by rw [← hW6]; exact Q1.out.more _)
        have K6 := hide (show W6.heap[wr.heap.size]? = some (.cells #[.int .i64 7, .int .i64 6, .int .i64 8] 3) by rw [← hW6]; exact heap_alloc_new wr _)
        clear hW6
        go_wp2_with fail
        rw [HW6.out]
        obtain ⟨gk, hgk⟩ : ∃ gk, wr.heap.size = gk := ⟨_, rfl⟩
        rw [hgk] at K6 ⊢
        clear hgk HW6 Q1 Q2 i0 i1 i2 j0 j1 j2
        generalize List.length c = ln at *
        go_loopw [65] (fun i wr' => RelS3 w g (X0, X1, X2) (.slice a ln cc) gk i wr') (fun i _ => 3 - (intOf i).toNat)
        case atStart => exact .mk (.inl rfl) K6.out F6.out
        case round =>
          obtain ⟨hi, R⟩ := hrel
          have QK := hide R.out.1
          have QF := hide R.out.2
          clear R F6 K6
          obtain ⟨t0, t1, t2⟩ := bxk_3 QK.out
          have kb := QF.out.box
          rcases hi with rfl | rfl | rfl | rfl
          · have FW := hide (((QF.out.more (.cells #[(.slice a ln cc), (.slice a ln cc)] 24)).more (.cells #[.int .i64 7, .string ⟨#[]⟩, .int .i64 0, .string ⟨#[]⟩, .bool false, .slice (some ⟨wr.heap.size, 0, none⟩) 2 2, .int .i64 0, .int .i64 0] 37)).more (.cells #[.int .i64 0, .slice (some ⟨wr.heap.size + 1, 0, none⟩) 1 1] 33))
            have KW := hide (more9 (more9 (more9 QK.out (.cells #[(.slice a ln cc), (.slice a ln cc)] 24)) (.cells #[.int .i64 7, .string ⟨#[]⟩, .int .i64 0, .string ⟨#[]⟩, .bool false, .slice (some ⟨wr.heap.size, 0, none⟩) 2 2, .int .i64 0, .int .i64 0] 37)) (.cells #[.int .i64 0, .slice (some ⟨wr.heap.size + 1, 0, none⟩) 1 1] 33))
            have H0 := hide (more9 (more9 (heap_alloc_new wr (.cells #[(.slice a ln cc), (.slice a ln cc)] 24)) (.cells #[.int .i64 7, .string ⟨#[]⟩, .int .i64 0, .string ⟨#[]⟩, .bool false, .slice (some ⟨wr.heap.size, 0, none⟩) 2 2, .int .i64 0, .int .i64 0] 37)) (.cells #[.int .i64 0, .slice (some ⟨wr.heap.size + 1, 0, none⟩) 1 1] 33))
            have H1 := hide (more9 (heap_two9 wr (.cells #[(.slice a ln cc), (.slice a ln cc)] 24) (.cells #[.int .i64 7, .string ⟨#[]⟩, .int .i64 0, .string ⟨#[]⟩, .bool false, .slice (some ⟨wr.heap.size, 0, none⟩) 2 2, .int .i64 0, .int .i64 0] 37)) (.cells #[.int .i64 0, .slice (some ⟨wr.heap.size + 1, 0, none⟩) 1 1] 33))
            have H2 := hide (heap_three9 wr (.cells #[(.slice a ln cc), (.slice a ln cc)] 24) (.cells #[.int .i64 7, .string ⟨#[]⟩, .int .i64 0, .string ⟨#[]⟩, .bool false, .slice (some ⟨wr.heap.size, 0, none⟩) 2 2, .int .i64 0, .int .i64 0] 37) (.cells #[.int .i64 0, .slice (some ⟨wr.heap.size + 1, 0, none⟩) 1 1] 33))
            have C1 := hide (CK.out _ 7 wr.heap.size (by decide) FW.out.2.2 H0.out H1.out H2.out)
            clear CK H0 H1 H2
            go_upto_region 23 with (go_at_call 5; refine C1.out.mono ?_; rintro e w8 ⟨y, f, rfl, B8, hyf⟩; have YF := hide hyf; replace FW := hide (FW.out.up B8); replace KW := hide ((B8.block _ (Array.getElem?_eq_some_iff.1 KW.out).1).trans KW.out); obtain ⟨y0, y1, y2⟩ := y; clear hyf B8 C1)
            have FZ := hide (FW.out.more (.cells #[.int .i64 y0, .int .i64 y1, .int .i64 y2] 26))
            have KZ := hide (more9 KW.out (.cells #[.int .i64 y0, .int .i64 y1, .int .i64 y2] 26))
            have gl := FW.out.1.lt
            have gn := Nat.ne_of_lt gl
            obtain ⟨l0, l1, l2⟩ := FW.out.1.cells
            simp only at l0 l1 l2
            rcases YF.out with ⟨hf, hy⟩ | ⟨hf, hy⟩
            · simp only [z3, reduceIte, show ¬ (7 : Int) = 8 by decide, show ¬ (6 : Int) = 8 by decide, Prod.mk.injEq] at hy
              obtain ⟨rfl, rfl, rfl⟩ := hy
              subst hf
              clear YF
              go_wp2
              go_roundw
              case rel => exact .mk (by first | exact .inr (.inl (by go_num)) | exact .inr (.inr (.inl (by go_num))) | exact .inr (.inr (.inr (by go_num)))) KZ.out FZ.out
              case measure => simp [intOf]
            · simp only [z3, Prod.mk.injEq] at hy
              obtain ⟨rfl, rfl, rfl⟩ := hy
              subst hf
              clear YF
              go_wp2
              go_roundw
              case rel => exact .mk (by first | exact .inr (.inl (by go_num)) | exact .inr (.inr (.inl (by go_num))) | exact .inr (.inr (.inr (by go_num)))) KZ.out FZ.out
              case measure => simp [intOf]
          · have FW := hide (((QF.out.more (.cells #[(.slice a ln cc), (.slice a ln cc)] 24)).more (.cells #[.int .i64 6, .string ⟨#[]⟩, .int .i64 0, .string ⟨#[]⟩, .bool false, .slice (some ⟨wr.heap.size, 0, none⟩) 2 2, .int .i64 0, .int .i64 0] 37)).more (.cells #[.int .i64 0, .slice (some ⟨wr.heap.size + 1, 0, none⟩) 1 1] 33))
            have KW := hide (more9 (more9 (more9 QK.out (.cells #[(.slice a ln cc), (.slice a ln cc)] 24)) (.cells #[.int .i64 6, .string ⟨#[]⟩, .int .i64 0, .string ⟨#[]⟩, .bool false, .slice (some ⟨wr.heap.size, 0, none⟩) 2 2, .int .i64 0, .int .i64 0] 37)) (.cells #[.int .i64 0, .slice (some ⟨wr.heap.size + 1, 0, none⟩) 1 1] 33))
            have H0 := hide (more9 (more9 (heap_alloc_new wr (.cells #[(.slice a ln cc), (.slice a ln cc)] 24)) (.cells #[.int .i64 6, .string ⟨#[]⟩, .int .i64 0, .string ⟨#[]⟩, .bool false, .slice (some ⟨wr.heap.size, 0, none⟩) 2 2, .int .i64 0, .int .i64 0] 37)) (.cells #[.int .i64 0, .slice (some ⟨wr.heap.size + 1, 0, none⟩) 1 1] 33))
            have H1 := hide (more9 (heap_two9 wr (.cells #[(.slice a ln cc), (.slice a ln cc)] 24) (.cells #[.int .i64 6, .string ⟨#[]⟩, .int .i64 0, .string ⟨#[]⟩, .bool false, .slice (some ⟨wr.heap.size, 0, none⟩) 2 2, .int .i64 0, .int .i64 0] 37)) (.cells #[.int .i64 0, .slice (some ⟨wr.heap.size + 1, 0, none⟩) 1 1] 33))
            have H2 := hide (heap_three9 wr (.cells #[(.slice a ln cc), (.slice a ln cc)] 24) (.cells #[.int .i64 6, .string ⟨#[]⟩, .int .i64 0, .string ⟨#[]⟩, .bool false, .slice (some ⟨wr.heap.size, 0, none⟩) 2 2, .int .i64 0, .int .i64 0] 37) (.cells #[.int .i64 0, .slice (some ⟨wr.heap.size + 1, 0, none⟩) 1 1] 33))
            have C1 := hide (CK.out _ 6 wr.heap.size (by decide) FW.out.2.2 H0.out H1.out H2.out)
            clear CK H0 H1 H2
            go_upto_region 23 with (go_at_call 5; refine C1.out.mono ?_; rintro e w8 ⟨y, f, rfl, B8, hyf⟩; have YF := hide hyf; replace FW := hide (FW.out.up B8); replace KW := hide ((B8.block _ (Array.getElem?_eq_some_iff.1 KW.out).1).trans KW.out); obtain ⟨y0, y1, y2⟩ := y; clear hyf B8 C1)
            have FZ := hide (FW.out.more (.cells #[.int .i64 y0, .int .i64 y1, .int .i64 y2] 26))
            have KZ := hide (more9 KW.out (.cells #[.int .i64 y0, .int .i64 y1, .int .i64 y2] 26))
            have gl := FW.out.1.lt
            have gn := Nat.ne_of_lt gl
            obtain ⟨l0, l1, l2⟩ := FW.out.1.cells
            simp only at l0 l1 l2
            rcases YF.out with ⟨hf, hy⟩ | ⟨hf, hy⟩
            · simp only [z3, reduceIte, show ¬ (7 : Int) = 8 by decide, show ¬ (6 : Int) = 8 by decide, Prod.mk.injEq] at hy
              obtain ⟨rfl, rfl, rfl⟩ := hy
              subst hf
              clear YF
              go_wp2
              go_roundw
              case rel => exact .mk (by first | exact .inr (.inl (by go_num)) | exact .inr (.inr (.inl (by go_num))) | exact .inr (.inr (.inr (by go_num)))) KZ.out FZ.out
              case measure => simp [intOf]
            · simp only [z3, Prod.mk.injEq] at hy
              obtain ⟨rfl, rfl, rfl⟩ := hy
              subst hf
              clear YF
              go_wp2
              go_roundw
              case rel => exact .mk (by first | exact .inr (.inl (by go_num)) | exact .inr (.inr (.inl (by go_num))) | exact .inr (.inr (.inr (by go_num)))) KZ.out FZ.out
              case measure => simp [intOf]
          · have FW := hide (((QF.out.more (.cells #[(.slice a ln cc), (.slice a ln cc)] 24)).more (.cells #[.int .i64 8, .string ⟨#[]⟩, .int .i64 0, .string ⟨#[]⟩, .bool false, .slice (some ⟨wr.heap.size, 0, none⟩) 2 2, .int .i64 0, .int .i64 0] 37)).more (.cells #[.int .i64 0, .slice (some ⟨wr.heap.size + 1, 0, none⟩) 1 1] 33))
            have KW := hide (more9 (more9 (more9 QK.out (.cells #[(.slice a ln cc), (.slice a ln cc)] 24)) (.cells #[.int .i64 8, .string ⟨#[]⟩, .int .i64 0, .string ⟨#[]⟩, .bool false, .slice (some ⟨wr.heap.size, 0, none⟩) 2 2, .int .i64 0, .int .i64 0] 37)) (.cells #[.int .i64 0, .slice (some ⟨wr.heap.size + 1, 0, none⟩) 1 1] 33))
            have H0 := hide (more9 (more9 (heap_alloc_new wr (.cells #[(.slice a ln cc), (.slice a ln cc)] 24)) (.cells #[.int .i64 8, .string ⟨#[]⟩, .int .i64 0, .string ⟨#[]⟩, .bool false, .slice (some ⟨wr.heap.size, 0, none⟩) 2 2, .int .i64 0, .int .i64 0] 37)) (.cells #[.int .i64 0, .slice (some ⟨wr.heap.size + 1, 0, none⟩) 1 1] 33))
            have H1 := hide (more9 (heap_two9 wr (.cells #[(.slice a ln cc), (.slice a ln cc)] 24) (.cells #[.int .i64 8, .string ⟨#[]⟩, .int .i64 0, .string ⟨#[]⟩, .bool false, .slice (some ⟨wr.heap.size, 0, none⟩) 2 2, .int .i64 0, .int .i64 0] 37)) (.cells #[.int .i64 0, .slice (some ⟨wr.heap.size + 1, 0, none⟩) 1 1] 33))
            have H2 := hide (heap_three9 wr (.cells #[(.slice a ln cc), (.slice a ln cc)] 24) (.cells #[.int .i64 8, .string ⟨#[]⟩, .int .i64 0, .string ⟨#[]⟩, .bool false, .slice (some ⟨wr.heap.size, 0, none⟩) 2 2, .int .i64 0, .int .i64 0] 37) (.cells #[.int .i64 0, .slice (some ⟨wr.heap.size + 1, 0, none⟩) 1 1] 33))
            have C1 := hide (CK.out _ 8 wr.heap.size (by decide) FW.out.2.2 H0.out H1.out H2.out)
            clear CK H0 H1 H2
            go_upto_region 23 with (go_at_call 5; refine C1.out.mono ?_; rintro e w8 ⟨y, f, rfl, B8, hyf⟩; have YF := hide hyf; replace FW := hide (FW.out.up B8); replace KW := hide ((B8.block _ (Array.getElem?_eq_some_iff.1 KW.out).1).trans KW.out); obtain ⟨y0, y1, y2⟩ := y; clear hyf B8 C1)
            have FZ := hide (FW.out.more (.cells #[.int .i64 y0, .int .i64 y1, .int .i64 y2] 26))
            have KZ := hide (more9 KW.out (.cells #[.int .i64 y0, .int .i64 y1, .int .i64 y2] 26))
            have gl := FW.out.1.lt
            have gn := Nat.ne_of_lt gl
            obtain ⟨l0, l1, l2⟩ := FW.out.1.cells
            simp only at l0 l1 l2
            rcases YF.out with ⟨hf, hy⟩ | ⟨hf, hy⟩
            · simp only [z3, reduceIte, show ¬ (7 : Int) = 8 by decide, show ¬ (6 : Int) = 8 by decide, Prod.mk.injEq] at hy
              obtain ⟨rfl, rfl, rfl⟩ := hy
              subst hf
              clear YF
              go_wp2
              go_roundw
              case rel => exact .mk (by first | exact .inr (.inl (by go_num)) | exact .inr (.inr (.inl (by go_num))) | exact .inr (.inr (.inr (by go_num)))) KZ.out FZ.out
              case measure => simp [intOf]
            · simp only [z3, Prod.mk.injEq] at hy
              obtain ⟨rfl, rfl, rfl⟩ := hy
              subst hf
              clear YF
              go_wp2
              go_roundw
              case rel => exact .mk (by first | exact .inr (.inl (by go_num)) | exact .inr (.inr (.inl (by go_num))) | exact .inr (.inr (.inr (by go_num)))) KZ.out FZ.out
              case measure => simp [intOf]
          · have CA1 := hide (CA.out wr QF.out.2.2)
            go_wp2_with (go_at_call 6; refine CA1.out.mono ?_; rintro e w9 ⟨rfl, B9⟩; have BZ := hide (bto QF.out.2.2 B9); clear B9)
            go_ret
            exact ⟨rfl, BZ.out⟩
end Go.Proofs.YtmkbjcoagfnegabGreatDoor
