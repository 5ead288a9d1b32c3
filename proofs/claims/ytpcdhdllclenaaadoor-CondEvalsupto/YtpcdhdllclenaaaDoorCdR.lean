/-
  A condition's copy: the program's own.
-/
import Derived.Test.YtpcdhdllclenaaaDoorCdQ
import Derived.Test.YtpcdhdllclenaaaDoorCdF
set_option linter.unusedVariables false
set_option linter.unusedSimpArgs false
namespace Go.Proofs.YtpcdhdllclenaaaDoor.cd
open Go.RowKit

theorem madeC (m : Nat) (hm : m ≤ 1000000000) (W : World) : (Instr.makeSlice 32 (.int .i64 m) (.int .i64 m)).run Tryd.prog W = .ok (.slice (some ⟨W.heap.size, 0, none⟩) m m) (W.alloc (.cells (madeCells #[.int .i64 0, .slice none 0 0, .int .i64 0, .int .i64 0, .string ⟨#[]⟩, .int .i64 0, .int .i64 0, .int .i64 0, .int .i64 0, .int .i64 0, .slice none 0 0, .string ⟨#[]⟩, .string ⟨#[]⟩, .bool false] (m * 14)) 39)) := by
  have h := run_make (P := Tryd.prog) W 32 39 Tryd.t39 (.agg #[.int .i64 0, .slice none 0 0, .int .i64 0, .int .i64 0, .string ⟨#[]⟩, .int .i64 0, .int .i64 0, .int .i64 0, .int .i64 0, .int .i64 0, .slice none 0 0, .string ⟨#[]⟩, .string ⟨#[]⟩, .bool false]) Tryd.underlying32 (by kernel_rfl) (by kernel_rfl) .i64 .i64 m m (by omega) (Int.le_refl _) (by show ((168 : Nat) : Int) * m ≤ _; omega) (by omega)
  have e : ((m : Int).toNat * Tryd.t39.size) = m * 14 := by show (m : Int).toNat * 14 = m * 14; simp
  rw [e, Int.toNat_natCast] at h
  exact h
/-- What a condition's copy is. -/
def OwC (N : Nat) : Prop := ∀ (x : Cn) (u z : Value) (w : World), szC x ≤ N → x.Ok → CM w u x.ks → EM w z x.lf.e.ks → Calls Tryd.prog 40 #[cnV x u z] w fun e w' => ∃ v y, e = .returned (cnV x v y) ∧ CM (cutW w.heap.size w') v x.ks ∧ EM (cutW w.heap.size w') y x.lf.e.ks ∧ Below w.heap.size w w'
def OwCs (N : Nat) : Prop := ∀ (l : List Cn) (u : Value) (w : World), szCs l ≤ N → CM w u l → Calls Tryd.prog 55 #[u, .func (.func 40) #[] #[]] w fun e w' => ∃ v, e = .returned v ∧ CM (cutW w.heap.size w') v l ∧ Below w.heap.size w w'
def RelOc (w : World) (g : Nat) (l : List Cn) (i : Value) (wr : World) : Prop := ∃ (m : Nat) (ys zs : List Value), i = .int .i64 m ∧ m ≤ l.length ∧ zs.length = (l.length - m) * 14 ∧ Hid (Bk wr g 39 (ys ++ zs) ∧ CnC (cutW (g + 1) wr) (l.take m) ys ∧ Below g w wr)
theorem RelOc.mk {w : World} {g : Nat} {l : List Cn} {i : Value} {wr : World} (m : Nat) (ys zs : List Value) (h1 : i = .int .i64 m) (h2 : m ≤ l.length) (h3 : zs.length = (l.length - m) * 14) (h4 : Bk wr g 39 (ys ++ zs)) (h5 : CnC (cutW (g + 1) wr) (l.take m) ys) (h6 : Below g w wr) : RelOc w g l i wr := ⟨m, ys, zs, h1, h2, h3, h4, h5, h6⟩
theorem nilC_no (ad : Addr) (n c : Nat) (w : World) : (binOp .eql 32 (.slice (some ad) n c) (.slice none 0 0)).run Tryd.prog w = .ok (.bool false) w := by kernel_rfl
theorem nilC_yes (n c : Nat) (w : World) : (binOp .eql 32 (.slice none n c) (.slice none 0 0)).run Tryd.prog w = .ok (.bool true) w := by kernel_rfl
theorem cm_none {w : World} {n c : Nat} {l : List Cn} (h : CM w (.slice none n c) l) : l = [] := by
  cases l with
  | nil => rfl
  | cons y r => obtain ⟨b, o, c', u, z, hv, -⟩ := h.at (i := 0) (x := y) rfl; cases hv
set_option maxRecDepth 100000 in
set_option maxHeartbeats 8000000 in
theorem owCs_step (N : Nat) (IH : OwC N) : OwCs N := by
  intro l u w hN hu
  obtain ⟨a, c, rfl, hl9⟩ := hu.shape
  cases a with
  | none =>
    have hl : l = [] := cm_none hu
    subst hl
    have hfn := nilC_yes
    go_enter Tryd.func55, Tryd.ntmps55
    go_wp2
    go_ret
    exact ⟨_, rfl, .nil _ _, Below.refl _ _⟩
  | some ad =>
  have HU := hide hu
  replace IH := hide IH
  clear hu
  obtain ⟨W1, hW1⟩ : ∃ W1, w.alloc (.cells (madeCells #[.int .i64 0, .slice none 0 0, .int .i64 0, .int .i64 0, .string ⟨#[]⟩, .int .i64 0, .int .i64 0, .int .i64 0, .int .i64 0, .int .i64 0, .slice none 0 0, .string ⟨#[]⟩, .string ⟨#[]⟩, .bool false] (l.length * 14)) 39) = W1 := ⟨_, rfl⟩
  have MK := madeC l.length hl9 w
  rw [hW1] at MK
  have B1 := hide (show Below w.heap.size w W1 by rw [← hW1]; exact bplus (Below.refl _ _) _)
  have P1 := hide (show Bk W1 w.heap.size 39 (madeCells #[.int .i64 0, .slice none 0 0, .int .i64 0, .int .i64 0, .string ⟨#[]⟩, .int .i64 0, .int .i64 0, .int .i64 0, .int .i64 0, .int .i64 0, .slice none 0 0, .string ⟨#[]⟩, .string ⟨#[]⟩, .bool false] (l.length * 14)).toList by unfold Bk; rw [Array.toArray_toList, ← hW1]; exact heap_alloc_new w _)
  have ML := hide (show (madeCells #[.int .i64 0, .slice none 0 0, .int .i64 0, .int .i64 0, .string ⟨#[]⟩, .int .i64 0, .int .i64 0, .int .i64 0, .int .i64 0, .int .i64 0, .slice none 0 0, .string ⟨#[]⟩, .string ⟨#[]⟩, .bool false] (l.length * 14)).toList.length = l.length * 14 by rw [Array.length_toList, size_madeCells])
  clear hW1
  obtain ⟨g, hg⟩ : ∃ g, w.heap.size = g := ⟨_, rfl⟩
  rw [hg] at MK
  have PG := hide (show Bk W1 g 39 (madeCells #[.int .i64 0, .slice none 0 0, .int .i64 0, .int .i64 0, .string ⟨#[]⟩, .int .i64 0, .int .i64 0, .int .i64 0, .int .i64 0, .int .i64 0, .slice none 0 0, .string ⟨#[]⟩, .string ⟨#[]⟩, .bool false] (l.length * 14)).toList by rw [← hg]; exact P1.out)
  have HG := hide hg
  have hfn := nilC_no
  clear hg P1
  go_enter Tryd.func55, Tryd.ntmps55
  go_upto_region 4 with fail
  go_wp2_with fail
  go_loopw [15] (fun i wr => RelOc w g l i wr) (fun i _ => l.length - (intOf i).toNat)
  case atStart => exact .mk 0 [] _ rfl (by omega) (by rw [ML.out]; omega) PG.out .nil (by rw [← HG.out]; exact B1.out)
  case round =>
    obtain ⟨m, ys, zs, rfl, hm, hzl, R⟩ := hrel
    obtain ⟨wq, hwq⟩ : ∃ wq, wq = wr := ⟨_, rfl⟩
    subst hwq
    have X0 := hide R.out.1
    have X1 := hide R.out.2.1
    have XB := hide R.out.2.2
    have hgq : g < wq.heap.size := Bk.lt X0.out
    have BW := hide (show Below w.heap.size w wq by rw [HG.out]; exact XB.out)
    clear R MK ML PG B1
    by_cases hlm : m < l.length
    · have hlm' : (m : Int) < l.length := by omega
      obtain ⟨x, hx⟩ : ∃ x, l[m]? = some x := ⟨_, List.getElem?_eq_getElem hlm⟩
      obtain ⟨b, o, c', xu, xz, hv', hb, -, -, xo, t14, hzz, hku⟩ := HU.out.at hx
      obtain ⟨rfl, rfl⟩ : ad = ⟨b, o, none⟩ ∧ c = c' := by cases hv'; exact ⟨rfl, rfl⟩
      obtain ⟨ua, uc, rfl, hks9⟩ := hku.shape
      obtain ⟨za, zc, rfl, hzs9⟩ := hzz.shape
      have KZ := hide hzz
      have SZ := hide (show szC x ≤ N by have := szCs_at hx; omega)
      have KU := hide hku
      have XO := hide xo
      have HX := hide hx
      obtain ⟨c0, c1, c2, c3, c4, c5, c6, c7, c8, c9, ca, cb, cc, cd⟩ := t14.below BW.out hb
      have hbw : b < wq.heap.size := by have := BW.out.size; omega
      have nb : b ≠ wq.heap.size := by omega
      have nbg : g ≠ wq.heap.size := by omega
      clear hx hv' t14 hzz hku xo
      have hyl : ys.length = m * 14 := by rw [X1.out.len, List.length_take]; omega
      have CI := hide (fun (W : World) (h : Below w.heap.size w W) => IH.out x (.slice ua x.ks.length uc) (.slice za x.lf.e.ks.length zc) W SZ.out XO.out (KU.out.low h) (KZ.out.low h))
      obtain ⟨A, zs', hzs, hA⟩ : ∃ A zs', zs = A ++ zs' ∧ A.length = 14 := ⟨zs.take 14, zs.drop 14, (List.take_append_drop _ _).symm, by rw [List.length_take]; omega⟩
      subst hzs
      have hzl' : zs'.length = (l.length - (m + 1)) * 14 := by rw [List.length_append] at hzl; omega
      have NX := hide (fun (W4 w5 : World) (v y : Value) (h4 : Below wq.heap.size wq W4) (h5 : Below W4.heap.size W4 w5) (hp : CM (cutW W4.heap.size w5) v x.ks) (hy : EM (cutW W4.heap.size w5) y x.lf.e.ks) => show Bk (w5.setCells g (m * 14) (cnL x v y)) g 39 ((ys ++ cnL x v y) ++ zs') ∧ CnC (cutW (g + 1) (w5.setCells g (m * 14) (cnL x v y))) (l.take (m + 1)) (ys ++ cnL x v y) ∧ Below g w (w5.setCells g (m * 14) (cnL x v y)) from by
        have h45 := bto h4 h5
        have q : Bk w5 g 39 (ys ++ (A ++ zs')) := Bk.up X0.out h45
        refine ⟨mid_put q hyl (by rw [hA]; rfl), ?_, ?_⟩
        · rw [List.take_add_one, HX.out]
          have o1 : CnC (cutW (g + 1) (w5.setCells g (m * 14) (cnL x v y))) (l.take m) ys := X1.out.sees (cut_keep (Nat.le_refl _) (by rw [setCells_sizeC]; exact h45.size) (fun b hb hl => (setCells_far b g 0 (by omega) _ _ _).trans (h45.block b hl)))
          have o2 : CM (cutW (g + 1) (w5.setCells g (m * 14) (cnL x v y))) v x.ks := cm_sees (cut_keep (by have := h4.size; omega) (by rw [setCells_sizeC]; omega) (fun b hb hl => setCells_far b g 0 (by have := h4.size; omega) _ _ _)) hp
          have o4 : EM (cutW (g + 1) (w5.setCells g (m * 14) (cnL x v y))) y x.lf.e.ks := em_sees (cut_keep (by have := h4.size; omega) (by rw [setCells_sizeC]; omega) (fun b hb hl => setCells_far b g 0 (by have := h4.size; omega) _ _ _)) hy
          have o3 := o1.app (.cons x [] [] v y XO.out o4 o2 .nil)
          rwa [List.append_nil] at o3
        · exact (XB.out.trans (h45.mono (by omega))).grown (setCells_grown _ _ _ _) (by have := h45.size; omega) (fun k hk => by cases hk; exact Nat.le_refl _))
      have OX := hide (fun (v y : Value) (h : v.oneCell' = true) (k : y.oneCell' = true) => cnL_one x h k)
      have EV := fun v y => show cnV x v y = .agg (cnL x v y).toArray from rfl
      simp only [EV] at CI
      have EL := fun v y => show cnL x v y = [.int .i64 x.k, v, .int .i64 x.lf.k, .int .i64 x.lf.t, .string x.lf.nm, .int .i64 x.lf.op, .int .i64 x.lf.e.k, .int .i64 x.lf.e.n, .int .i64 x.lf.e.d, .int .i64 x.lf.e.u, y, .string x.lf.wd, .string x.lf.vl, .bool x.lf.an] from rfl
      rw [EL (.slice ua x.ks.length uc) (.slice za x.lf.e.ks.length zc)] at CI
      have LC := hide (fun v y => show (cnL x v y).length = 14 from rfl)
      clear EV EL X1 IH SZ KU KZ XO HX
      generalize hxl : cnL x = xl at *
      generalize x.lf.e.ks = xeks at *
      generalize x.ks = xks at *
      generalize x.k = xk at *
      generalize x.lf.k = xlk at *
      generalize x.lf.t = xlt at *
      generalize x.lf.nm = xnm at *
      generalize x.lf.op = xop at *
      generalize x.lf.e.k = xek at *
      generalize x.lf.e.n = xen at *
      generalize x.lf.e.d = xed at *
      generalize x.lf.e.u = xeu at *
      generalize x.lf.wd = xwd at *
      generalize x.lf.vl = xvl at *
      generalize x.lf.an = xan at *
      obtain ⟨W4, hW4⟩ : ∃ W4, wq.alloc (.cells #[.int .i64 xk, .slice ua xks.length uc, .int .i64 xlk, .int .i64 xlt, .string xnm, .int .i64 xop, .int .i64 xek, .int .i64 xen, .int .i64 xed, .int .i64 xeu, .slice za xeks.length zc, .string xwd, .string xvl, .bool xan] 39) = W4 := ⟨_, rfl⟩
      have B4 := hide (show Below wq.heap.size wq W4 by rw [← hW4]; exact bplus (Below.refl _ _) _)
      have HW4 := hide hW4
      obtain ⟨d0, d1, d2, d3, d4, d5, d6, d7, d8, d9, da, db, dc, dd⟩ := keep14 (Below.refl W4.heap.size W4) (show W4.heap[wq.heap.size]? = some (.cells #[.int .i64 xk, .slice ua xks.length uc, .int .i64 xlk, .int .i64 xlt, .string xnm, .int .i64 xop, .int .i64 xek, .int .i64 xen, .int .i64 xed, .int .i64 xeu, .slice za xeks.length zc, .string xwd, .string xvl, .bool xan] 39) by rw [← hW4]; exact heap_alloc_new wq _)
      clear hW4 hxl
      go_upto_region 7 with fail
      rw [HW4.out]
      clear HW4 c0 c1 c2 c3 c4 c5 c6 c7 c8 c9 ca cb cc cd
      go_wp2_with (first
        | (go_at_call 40; refine (CI.out _ (bto BW.out B4.out)).mono ?_; rintro e w5 ⟨v, y, rfl, PV, PY, B5⟩; replace PV := hide PV; replace PY := hide PY; replace B5 := hide B5)
        | (refine wpList_store_mid rfl 39 (.tmp 25) (.tmp 24) rfl g (m * 14) (xl v y).toArray rfl rfl (mid_there (Bk.up X0.out (bto B4.out B5.out)) hyl (by rw [List.size_toArray, LC.out v y, hA])) (by rw [List.size_toArray, LC.out v y]; kernel_rfl) (all_oneCell_toArray (OX.out v y (by obtain ⟨a', c', hv, -⟩ := PV.out.shape; rw [hv]; rfl) (by obtain ⟨a', c', hv, -⟩ := PY.out.shape; rw [hv]; rfl))) ?_))
      (try rw [show (xl v y).toArray.toList = xl v y from rfl])
      go_roundw
      case rel => exact .mk (m + 1) (ys ++ xl v y) zs' (by go_num) (by omega) hzl' (NX.out W4 w5 v y B4.out B5.out PV.out PY.out).1 (NX.out W4 w5 v y B4.out B5.out PV.out PY.out).2.1 (NX.out W4 w5 v y B4.out B5.out PV.out PY.out).2.2
      case measure => simp [intOf]; omega
    · obtain rfl : m = l.length := by omega
      have hlm' : ¬ ((l.length : Nat) : Int) < l.length := by omega
      obtain rfl : zs = [] := List.eq_nil_of_length_eq_zero (by rw [hzl, Nat.sub_self, Nat.zero_mul])
      have F := hide (show CM (cutW w.heap.size wq) (.slice (some ⟨g, 0, none⟩) l.length l.length) l by
        have X1' := X1.out
        have X0' := X0.out
        rw [List.take_length] at X1'
        rw [List.append_nil] at X0'
        exact cnc_cm (X1'.sees (cut_keep (by rw [HG.out]; omega) (Nat.le_refl _) (fun _ _ _ => rfl))) (show Bk (cutW w.heap.size wq) g 39 ys from (cut_blk wq (by rw [HG.out]; exact Nat.le_refl _)).trans X0') hl9)
      go_wp2
      go_ret
      exact ⟨_, rfl, F.out, BW.out⟩
set_option maxRecDepth 100000 in
set_option maxHeartbeats 8000000 in
theorem owC_step (N : Nat) (IH : OwCs N) : OwC (N + 1) := by
  intro x u z w hN hx hu hz
  obtain ⟨a, c, rfl, hl9⟩ := hu.shape
  obtain ⟨za, zc, rfl, hz9⟩ := hz.shape
  rw [szC_ks] at hN
  have EV := fun v y => show cnV x v y = .agg (cnL x v y).toArray from rfl
  have EL := fun v y => show cnL x v y = [.int .i64 x.k, v] ++ ([.int .i64 x.lf.k, .int .i64 x.lf.t, .string x.lf.nm, .int .i64 x.lf.op, .int .i64 x.lf.e.k, .int .i64 x.lf.e.n, .int .i64 x.lf.e.d, .int .i64 x.lf.e.u, y, .string x.lf.wd, .string x.lf.vl, .bool x.lf.an] ++ []) from rfl
  have W1c := hide (show True from trivial)
  obtain ⟨W1, hW1⟩ : ∃ W1, (w.alloc (.cells (cnL x (.slice a x.ks.length c) (.slice za x.lf.e.ks.length zc)).toArray 39)).alloc (.cells #[.int .i64 0, .slice none 0 0, .int .i64 0, .int .i64 0, .string ⟨#[]⟩, .int .i64 0, .int .i64 0, .int .i64 0, .int .i64 0, .int .i64 0, .slice none 0 0, .string ⟨#[]⟩, .string ⟨#[]⟩, .bool false] 39) = W1 := ⟨_, rfl⟩
  have S1 : W1.heap.size = w.heap.size + 2 := by rw [← hW1]; simp
  have B0 := hide (show Below w.heap.size w W1 by rw [← hW1]; exact bplus (bplus (Below.refl _ _) _) _)
  have P0 := hide (show Bk W1 w.heap.size 39 (cnL x (.slice a x.ks.length c) (.slice za x.lf.e.ks.length zc)) by rw [← hW1]; exact (two_new w _ _).1)
  have P1 := hide (show Bk W1 (w.heap.size + 1) 39 [.int .i64 0, .slice none 0 0, .int .i64 0, .int .i64 0, .string ⟨#[]⟩, .int .i64 0, .int .i64 0, .int .i64 0, .int .i64 0, .int .i64 0, .slice none 0 0, .string ⟨#[]⟩, .string ⟨#[]⟩, .bool false] by rw [← hW1]; exact (two_new w _ _).2)
  have HW1 := hide hW1
  have CI := hide (IH x.ks (.slice a x.ks.length c) W1 (by omega) (hu.low B0.out))
  have CL := hide (fun (W : World) (h : Below w.heap.size w W) => ownLeaf_any x.lf (.slice za x.lf.e.ks.length zc) W hx.2.2.2.2 (hz.low h))
  have EW := fun v => show lfV x.lf v = .agg #[.int .i64 x.lf.k, .int .i64 x.lf.t, .string x.lf.nm, .int .i64 x.lf.op, .int .i64 x.lf.e.k, .int .i64 x.lf.e.n, .int .i64 x.lf.e.d, .int .i64 x.lf.e.u, v, .string x.lf.wd, .string x.lf.vl, .bool x.lf.an] from rfl
  simp only [EW] at CL
  have SS := hide S1
  have y1 : W1.cell? ⟨w.heap.size, 1, none⟩ = some (.slice a x.ks.length c) := by rw [Bk.cell P0.out]; rfl
  have K0 := hide (fun (v : Value) (w5 : World) (h : Below W1.heap.size W1 w5) => show (w5.cell? ⟨w.heap.size, 1, none⟩ = some (.slice a x.ks.length c) ∧ w5.frozen? ⟨w.heap.size, 1, none⟩ = false) ∧ Bk (w5.setCell ⟨w.heap.size, 1, none⟩ v) w.heap.size 39 (cnL x v (.slice za x.lf.e.ks.length zc)) ∧ Bk (w5.setCell ⟨w.heap.size, 1, none⟩ v) (w.heap.size + 1) 39 [.int .i64 0, .slice none 0 0, .int .i64 0, .int .i64 0, .string ⟨#[]⟩, .int .i64 0, .int .i64 0, .int .i64 0, .int .i64 0, .int .i64 0, .slice none 0 0, .string ⟨#[]⟩, .string ⟨#[]⟩, .bool false] from by
    have q := Bk.up P0.out h
    exact ⟨⟨by rw [Bk.cell q]; rfl, Bk.fz q 1⟩, Bk.put q 1 v, Bk.far (Bk.up P1.out h) (by omega) _ _⟩)
  have ret := EV
  simp only [EV, EL] at HW1 P0 K0 ⊢
  simp only [List.cons_append, List.nil_append, List.append_nil] at HW1 P0 K0 ⊢
  clear hW1 hu hz IH EV EL EW
  go_enter Tryd.func40, Tryd.ntmps40
  go_upto_region 1 with fail
  rw [HW1.out]
  clear HW1
  go_upto_region 2 with (go_at_call 55; refine CI.out.mono ?_; rintro e w5 ⟨v, rfl, PV, B5⟩; replace PV := hide PV; obtain ⟨va, vc, rfl, hv9⟩ := PV.out.shape; replace B5 := hide B5; obtain ⟨t0, t1⟩ := (K0.out (.slice va x.ks.length vc) w5 B5.out).1)
  have J0 := hide (K0.out (.slice va x.ks.length vc) w5 B5.out).2.1
  have J1 := hide (K0.out (.slice va x.ks.length vc) w5 B5.out).2.2
  have B6 := hide (show Below w.heap.size w (w5.setCell ⟨w.heap.size, 1, none⟩ (.slice va x.ks.length vc)) from (bto B0.out B5.out).setCell (Nat.le_refl _) _)
  have P6 := hide (show CM (cutW (w.heap.size + 2) (w5.setCell ⟨w.heap.size, 1, none⟩ (.slice va x.ks.length vc))) (.slice va x.ks.length vc) x.ks from cm_sees (cut_keep (by rw [SS.out]; exact Nat.le_refl _) (by simp) (fun b hb hl => Below.heap_setCell w5 ⟨w.heap.size, 1, none⟩ _ b (by have := SS.out; show b ≠ w.heap.size; omega))) PV.out)
  have S6 := hide (show w.heap.size + 2 ≤ (w5.setCell ⟨w.heap.size, 1, none⟩ (.slice va x.ks.length vc)).heap.size by have := B5.out.size; have := SS.out; simp; omega)
  clear K0 t0 t1 y1 P0 P1 B0 B5 PV CI SS S1
  generalize w5.setCell ⟨w.heap.size, 1, none⟩ (.slice va x.ks.length vc) = W2 at *
  obtain ⟨y0, y1, y2, y3, y4, y5, y6, y7, y8, y9, ya, yb, yc, yd⟩ := keep14 (Below.refl W2.heap.size W2) (show W2.heap[w.heap.size]? = _ from J0.out)
  have K1 := hide (fun (y : Value) (w6 : World) (h : Below W2.heap.size W2 w6) => show w6.there w.heap.size 2 12 ∧ Bk (w6.setCells w.heap.size 2 [.int .i64 x.lf.k, .int .i64 x.lf.t, .string x.lf.nm, .int .i64 x.lf.op, .int .i64 x.lf.e.k, .int .i64 x.lf.e.n, .int .i64 x.lf.e.d, .int .i64 x.lf.e.u, y, .string x.lf.wd, .string x.lf.vl, .bool x.lf.an]) w.heap.size 39 [.int .i64 x.k, .slice va x.ks.length vc, .int .i64 x.lf.k, .int .i64 x.lf.t, .string x.lf.nm, .int .i64 x.lf.op, .int .i64 x.lf.e.k, .int .i64 x.lf.e.n, .int .i64 x.lf.e.d, .int .i64 x.lf.e.u, y, .string x.lf.wd, .string x.lf.vl, .bool x.lf.an] ∧ Bk (w6.setCells w.heap.size 2 [.int .i64 x.lf.k, .int .i64 x.lf.t, .string x.lf.nm, .int .i64 x.lf.op, .int .i64 x.lf.e.k, .int .i64 x.lf.e.n, .int .i64 x.lf.e.d, .int .i64 x.lf.e.u, y, .string x.lf.wd, .string x.lf.vl, .bool x.lf.an]) (w.heap.size + 1) 39 [.int .i64 0, .slice none 0 0, .int .i64 0, .int .i64 0, .string ⟨#[]⟩, .int .i64 0, .int .i64 0, .int .i64 0, .int .i64 0, .int .i64 0, .slice none 0 0, .string ⟨#[]⟩, .string ⟨#[]⟩, .bool false] from by
    have q : Bk w6 w.heap.size 39 ([Value.int .i64 x.k, .slice va x.ks.length vc] ++ ([Value.int .i64 x.lf.k, .int .i64 x.lf.t, .string x.lf.nm, .int .i64 x.lf.op, .int .i64 x.lf.e.k, .int .i64 x.lf.e.n, .int .i64 x.lf.e.d, .int .i64 x.lf.e.u, .slice za x.lf.e.ks.length zc, .string x.lf.wd, .string x.lf.vl, .bool x.lf.an] ++ [])) := Bk.up J0.out h
    exact ⟨mid_there q rfl rfl, mid_put q rfl rfl, (setCells_far (w.heap.size + 1) w.heap.size 0 (by omega) _ _ _).trans (Bk.up J1.out h)⟩)
  go_upto_region 3 with (first
    | (go_at_call 53; refine (CL.out W2 B6.out).mono ?_; rintro e w6 ⟨y, rfl, PY, B7⟩; replace PY := hide PY; replace B7 := hide B7)
    | (refine wpList_store_mid rfl 37 (.tmp 10) (.tmp 9) rfl w.heap.size 2 [Value.int .i64 x.lf.k, .int .i64 x.lf.t, .string x.lf.nm, .int .i64 x.lf.op, .int .i64 x.lf.e.k, .int .i64 x.lf.e.n, .int .i64 x.lf.e.d, .int .i64 x.lf.e.u, y, .string x.lf.wd, .string x.lf.vl, .bool x.lf.an].toArray rfl rfl (K1.out y w6 B7.out).1 (by kernel_rfl) (all_oneCell_toArray (by obtain ⟨a', c', hv, -⟩ := PY.out.shape; subst hv; intro v hv; simp only [List.mem_cons, List.not_mem_nil, or_false] at hv; rcases hv with rfl | rfl | rfl | rfl | rfl | rfl | rfl | rfl | rfl | rfl | rfl | rfl <;> rfl)) ?_))
  (try rw [show [Value.int .i64 x.lf.k, .int .i64 x.lf.t, .string x.lf.nm, .int .i64 x.lf.op, .int .i64 x.lf.e.k, .int .i64 x.lf.e.n, .int .i64 x.lf.e.d, .int .i64 x.lf.e.u, y, .string x.lf.wd, .string x.lf.vl, .bool x.lf.an].toArray.toList = [Value.int .i64 x.lf.k, .int .i64 x.lf.t, .string x.lf.nm, .int .i64 x.lf.op, .int .i64 x.lf.e.k, .int .i64 x.lf.e.n, .int .i64 x.lf.e.d, .int .i64 x.lf.e.u, y, .string x.lf.wd, .string x.lf.vl, .bool x.lf.an] from rfl])
  have Q0 := hide (K1.out y w6 B7.out).2.1
  have Q1 := hide (K1.out y w6 B7.out).2.2
  have B8 := hide (show Below w.heap.size w (w6.setCells w.heap.size 2 [.int .i64 x.lf.k, .int .i64 x.lf.t, .string x.lf.nm, .int .i64 x.lf.op, .int .i64 x.lf.e.k, .int .i64 x.lf.e.n, .int .i64 x.lf.e.d, .int .i64 x.lf.e.u, y, .string x.lf.wd, .string x.lf.vl, .bool x.lf.an]) from (bto B6.out B7.out).grown (setCells_grown _ _ _ _) (bto B6.out B7.out).size (fun k hk => by cases hk; exact Nat.le_refl _))
  have P8 := hide (show CM (cutW (w.heap.size + 2) (w6.setCells w.heap.size 2 [.int .i64 x.lf.k, .int .i64 x.lf.t, .string x.lf.nm, .int .i64 x.lf.op, .int .i64 x.lf.e.k, .int .i64 x.lf.e.n, .int .i64 x.lf.e.d, .int .i64 x.lf.e.u, y, .string x.lf.wd, .string x.lf.vl, .bool x.lf.an])) (.slice va x.ks.length vc) x.ks from cm_sees (cut_keep (Nat.le_refl _) (by rw [setCells_sizeC]; exact B7.out.size) (fun b hb hl => (setCells_far b w.heap.size 0 (by omega) _ _ _).trans (B7.out.block b hl))) P6.out)
  have E8 := hide (show EM (cutW (w.heap.size + 2) (w6.setCells w.heap.size 2 [.int .i64 x.lf.k, .int .i64 x.lf.t, .string x.lf.nm, .int .i64 x.lf.op, .int .i64 x.lf.e.k, .int .i64 x.lf.e.n, .int .i64 x.lf.e.d, .int .i64 x.lf.e.u, y, .string x.lf.wd, .string x.lf.vl, .bool x.lf.an])) y x.lf.e.ks from em_sees (cut_keep S6.out (by rw [setCells_sizeC]; omega) (fun b hb hl => setCells_far b w.heap.size 0 (by have := S6.out; omega) _ _ _)) PY.out)
  obtain ⟨ya', yc', rfl, hy9⟩ := PY.out.shape
  clear K1 J0 J1 B6 B7 P6 PY S6 CL y0 y1 y2 y3 y4 y5 y6 y7 y8 y9 ya yb yc yd
  generalize w6.setCells w.heap.size 2 [.int .i64 x.lf.k, .int .i64 x.lf.t, .string x.lf.nm, .int .i64 x.lf.op, .int .i64 x.lf.e.k, .int .i64 x.lf.e.n, .int .i64 x.lf.e.d, .int .i64 x.lf.e.u, .slice ya' x.lf.e.ks.length yc', .string x.lf.wd, .string x.lf.vl, .bool x.lf.an] = W3 at *
  obtain ⟨P, hP⟩ : ∃ P, [Value.int .i64 x.k, .slice va x.ks.length vc, .int .i64 x.lf.k, .int .i64 x.lf.t, .string x.lf.nm, .int .i64 x.lf.op, .int .i64 x.lf.e.k, .int .i64 x.lf.e.n, .int .i64 x.lf.e.d, .int .i64 x.lf.e.u, .slice ya' x.lf.e.ks.length yc', .string x.lf.wd, .string x.lf.vl, .bool x.lf.an] = P := ⟨_, rfl⟩
  have LP : P.length = 14 := by rw [← hP]; rfl
  have OU : ∀ v ∈ P, v.oneCell' = true := by rw [← hP]; intro v hv; simp only [List.mem_cons, List.not_mem_nil, or_false] at hv; rcases hv with rfl | rfl | rfl | rfl | rfl | rfl | rfl | rfl | rfl | rfl | rfl | rfl | rfl | rfl <;> rfl
  have FB := hide (show Below w.heap.size w (W3.setCells (w.heap.size + 1) 0 P) from B8.out.grown (setCells_grown _ _ _ _) B8.out.size (fun k hk => by cases hk; simp))
  have FP := hide (show CM (cutW w.heap.size (W3.setCells (w.heap.size + 1) 0 P)) (.slice va x.ks.length vc) x.ks from cm_sees (cut_keep (by omega) (by rw [setCells_sizeC]; omega) (fun b hb hl => setCells_far b (w.heap.size + 1) 0 (by omega) _ _ _)) P8.out)
  have FE := hide (show EM (cutW w.heap.size (W3.setCells (w.heap.size + 1) 0 P)) (.slice ya' x.lf.e.ks.length yc') x.lf.e.ks from em_sees (cut_keep (by omega) (by rw [setCells_sizeC]; omega) (fun b hb hl => setCells_far b (w.heap.size + 1) 0 (by omega) _ _ _)) E8.out)
  rw [hP] at Q0
  have T4 := hide (show W3.there (w.heap.size + 1) 0 P.toArray.size from there_blk (show W3.heap[w.heap.size + 1]? = some (.cells #[.int .i64 0, .slice none 0 0, .int .i64 0, .int .i64 0, .string ⟨#[]⟩, .int .i64 0, .int .i64 0, .int .i64 0, .int .i64 0, .int .i64 0, .slice none 0 0, .string ⟨#[]⟩, .string ⟨#[]⟩, .bool false] 39) from Q1.out) (by rw [List.size_toArray, List.size_toArray, LP]; rfl))
  refine wp_region_list ?_
  refine wpList_load_mid rfl 39 (.tmp 1) rfl w.heap.size 0 rfl P _ (range_blk Q0.out) Tryd.underlying39 rfl (by rw [LP]; kernel_rfl) ?_
  refine wpList_store_mid rfl 39 (.tmp 2) (.tmp 11) rfl (w.heap.size + 1) 0 P.toArray rfl rfl T4.out (by rw [List.size_toArray, LP]; kernel_rfl) (all_oneCell_toArray OU) ?_
  go_wp2_with fail
  refine ret_cell (b := w.heap.size + 1) (cs := P) Tryd.results40 rfl (World.rangeAt_setCells_same _ _ _ _ T4.out) Tryd.underlying39 rfl (by rw [LP]; kernel_rfl) rfl ?_
  exact ⟨_, _, by rw [← hP], FP.out, FE.out, FB.out⟩
theorem owC_zero : OwC 0 := fun x u z w hN => by rw [szC_ks] at hN; omega
theorem owC_all : ∀ N : Nat, OwC N
  | 0 => owC_zero
  | N + 1 => owC_step N (owCs_step N (owC_all N))
end Go.Proofs.YtpcdhdllclenaaaDoor.cd
