/-
  The truth of a condition: by the program.
-/
import Derived.Test.YtpcdhdllclenaaaDoorCdS
import Derived.Test.YtpcdhdllclenaaaDoorCdR
import Derived.Test.YtpcdhdllclenaaaDoorCdG
set_option linter.unusedVariables false
set_option linter.unusedSimpArgs false
namespace Go.Proofs.YtpcdhdllclenaaaDoor.cd
open Go.RowKit

/-- What telling a leaf by f comes to. -/
def ToldC (w0 : World) (f : Value) (h : ByteArray → Int) : Prop := ∀ (x : Lf) (z : Value) (W : World), Below w0.heap.size w0 W → (∃ a n c, z = .slice a n c) → Calls Tryd.prog 66 #[lfV x z, f] W fun e w' => e = .returned (.int .i64 (h x.nm)) ∧ Below W.heap.size W w'
theorem ToldC.low {w0 w1 : World} {f : Value} {h : ByteArray → Int} (k : ToldC w0 f h) (hb : Below w0.heap.size w0 w1) : ToldC w1 f h := fun x z W hW hz => k x z W (bto hb hW) hz
def lfT (h : ByteArray → Int) (x : Lf) : Int := if x.k = 0 then 1 else if x.k = 1 then x.t else h x.nm
mutual
/-- The truth of a condition. -/
def evC (h : ByteArray → Int) : Cn → Int
  | .mk k lf ks => if k = 4 then lfT h lf else if k = 1 then anN 2 (evCs h ks) else if k = 2 then orN 0 (evCs h ks) else 2 - tr ((evCs h ks).headD 0)
def evCs (h : ByteArray → Int) : List Cn → List Int
  | [] => []
  | e :: es => evC h e :: evCs h es
end
theorem evCs_map (h : ByteArray → Int) (l : List Cn) : evCs h l = l.map (evC h) := by
  induction l with
  | nil => rw [evCs]; rfl
  | cons x r ih => rw [evCs, ih]; rfl
theorem evC_eq (h : ByteArray → Int) (x : Cn) : evC h x = if x.k = 4 then lfT h x.lf else if x.k = 1 then anN 2 (x.ks.map (evC h)) else if x.k = 2 then orN 0 (x.ks.map (evC h)) else 2 - tr ((x.ks.map (evC h)).headD 0) := by
  cases x with | mk k lf ks => rw [evC, evCs_map]; rfl
set_option maxRecDepth 100000 in
set_option maxHeartbeats 4000000 in
theorem leafTruth_any (x : Lf) (z f : Value) (h : ByteArray → Int) (w : World) (hz : ∃ a n c, z = .slice a n c) (hf : ToldC w f h) : Calls Tryd.prog 54 #[lfV x z, f] w fun e w' => e = .returned (.int .i64 (lfT h x)) ∧ Below w.heap.size w w' := by
  have HZ := hz
  obtain ⟨za, zm, zc, rfl⟩ := hz
  obtain ⟨lk, lt, nm, op, ⟨ek, en, ed, eu, eks⟩, wd, vl, an⟩ := x
  obtain ⟨w0, hw0⟩ : ∃ w0, w.alloc (.cells #[.int .i64 lk, .int .i64 lt, .string nm, .int .i64 op, .int .i64 ek, .int .i64 en, .int .i64 ed, .int .i64 eu, .slice za zm zc, .string wd, .string vl, .bool an] 37) = w0 := ⟨_, rfl⟩
  have B0 : Below w.heap.size w w0 := by rw [← hw0]; exact bplus (Below.refl _ _) _
  have P0 : w0.heap[w.heap.size]? = some (.cells #[.int .i64 lk, .int .i64 lt, .string nm, .int .i64 op, .int .i64 ek, .int .i64 en, .int .i64 ed, .int .i64 eu, .slice za zm zc, .string wd, .string vl, .bool an] 37) := by rw [← hw0]; exact heap_alloc_new w _
  have CT := hide (hf ⟨lk, lt, nm, op, .mk ek en ed eu eks, wd, vl, an⟩ (.slice za zm zc) w0 B0 HZ)
  have F := hide (show lfT h ⟨lk, lt, nm, op, .mk ek en ed eu eks, wd, vl, an⟩ = if lk = 0 then 1 else if lk = 1 then lt else h nm from rfl)
  simp only [lfV, Ex.k, Ex.n, Ex.d, Ex.u] at CT ⊢
  obtain ⟨y0, y1, y2, y3, y4, y5, y6, y7, y8, y9, ya, yb⟩ := keep12 (Below.refl _ _) P0
  have HB0 := hide B0
  have HW0 := hide hw0
  clear hf P0 B0 hw0
  generalize h nm = r at *
  by_cases h0 : lk = 0
  · subst h0
    go_enter Tryd.func54, Tryd.ntmps54
    go_upto_region 1 with fail
    rw [HW0.out]
    go_wp2
    go_ret
    exact ⟨ret_int (by rw [F.out]; simp), HB0.out⟩
  have h0' : (lk == 0) = false := by simpa using h0
  by_cases h1 : lk = 1
  · subst h1
    go_enter Tryd.func54, Tryd.ntmps54
    go_upto_region 1 with fail
    rw [HW0.out]
    go_wp2
    go_ret
    exact ⟨ret_int (by rw [F.out]; simp), HB0.out⟩
  have h1' : (lk == 1) = false := by simpa using h1
  go_enter Tryd.func54, Tryd.ntmps54
  go_upto_region 1 with fail
  rw [HW0.out]
  go_wp2_with (go_at_call 66; refine CT.out.mono ?_; rintro e w1 ⟨rfl, hl⟩)
  go_ret
  exact ⟨ret_int (by rw [F.out]; simp [h0, h1]), bto HB0.out hl⟩
theorem gt_first {n : Nat} (h : n = 1) (l : List Int) (hl : l.length = n) : gt l 0 = l.headD 0 := by
  cases l with
  | nil => simp at hl; omega
  | cons x r => rfl
theorem madeI (m : Nat) (hm : m ≤ 1000000000) (W : World) : (Instr.makeSlice 22 (.int .i64 m) (.int .i64 m)).run Tryd.prog W = .ok (.slice (some ⟨W.heap.size, 0, none⟩) m m) (W.alloc (.cells (madeCells #[.int .i64 0] (m * 1)) 3)) := by
  have h := run_make (P := Tryd.prog) W 22 3 Tryd.t3 (.int .i64 0) Tryd.underlying22 (by kernel_rfl) (by kernel_rfl) .i64 .i64 m m (by omega) (Int.le_refl _) (by show ((8 : Nat) : Int) * m ≤ _; omega) (by omega)
  have e : ((m : Int).toNat * Tryd.t3.size) = m * 1 := by show (m : Int).toNat * 1 = m * 1; simp
  rw [e, Int.toNat_natCast] at h
  exact h
def iv (l : List Int) : List Value := l.map (fun x => .int .i64 x)
theorem iv_nu {w : World} {g : Nat} {T : TypeId} {l : List Int} (h : Bk w g T (iv l)) (hl : l.length ≤ 1000000000) : NuW w (.slice (some ⟨g, 0, none⟩) l.length l.length) l := by
  by_cases h0 : l = []
  · subst h0; exact .inl ⟨_, _, rfl, rfl⟩
  refine .inr ⟨g, 0, l.length, l.length, rfl, rfl, List.length_pos_iff.2 h0, h.lt, Nat.le_refl _, by omega, fun i hi => ?_⟩
  rw [h.cell, Nat.zero_add]
  unfold iv
  rw [List.getElem?_map, List.getElem?_eq_getElem hi, gt_eq hi]
  rfl
theorem cnt4 {k : Int} {n : Nat} (h : cntC k n = true) (h4 : ¬ k = 4) : k = 1 ∨ k = 2 ∨ (k = 3 ∧ Hid (n = 1)) := by
  by_cases h1 : k = 1
  · exact .inl h1
  by_cases h2 : k = 2
  · exact .inr (.inl h2)
  by_cases h3 : k = 3
  · subst h3
    refine .inr (.inr ⟨rfl, ?_⟩)
    have : n = 1 := by simpa [cntC] using h
    exact this
  · exfalso
    unfold cntC at h
    rw [if_neg (by omega), if_neg h3, if_neg h4] at h
    cases h
def RelTo (w : World) (bx : List Value) (f : Cn → Int) (l : List Cn) (i : Value) (wr : World) : Prop := ∃ (m : Nat) (zs : List Value), i = .int .i64 m ∧ m ≤ l.length ∧ zs.length = l.length - m ∧ Hid (Bk wr w.heap.size 39 bx ∧ Bk wr (w.heap.size + 1) 3 (iv ((l.take m).map f) ++ zs) ∧ Below w.heap.size w wr)
theorem RelTo.mk {w : World} {bx : List Value} {f : Cn → Int} {l : List Cn} {i : Value} {wr : World} (m : Nat) (zs : List Value) (h1 : i = .int .i64 m) (h2 : m ≤ l.length) (h3 : zs.length = l.length - m) (h4 : Bk wr w.heap.size 39 bx) (h5 : Bk wr (w.heap.size + 1) 3 (iv ((l.take m).map f) ++ zs)) (h6 : Below w.heap.size w wr) : RelTo w bx f l i wr := ⟨m, zs, h1, h2, h3, h4, h5, h6⟩
theorem cn_kid {x : Cn} {j : Nat} (h : cnM x j = true) : cntC x.k x.ks.length = true ∧ ∀ (i : Nat) (y : Cn), x.ks[i]? = some y → cnM y (j - 1) = true := by
  rw [cnM_eq] at h
  simp only [Bool.and_eq_true] at h
  obtain ⟨_, ⟨⟨h1, h2⟩, h3⟩, h4⟩ := h
  refine ⟨h1, ?_⟩
  generalize x.ks = l at h4
  clear h1
  induction l with
  | nil => intro i y hi; simp at hi
  | cons e r ih =>
    rw [cnMs_cons] at h4
    simp only [Bool.and_eq_true] at h4
    intro i y hi
    cases i with
    | zero => simp at hi; subst hi; exact h4.1
    | succ i => exact ih h4.2 i y (by simpa using hi)
set_option maxRecDepth 100000 in
set_option maxHeartbeats 8000000 in
theorem truthOf_any (f : Value) (h : ByteArray → Int) (N : Nat) : ∀ (x : Cn) (u z : Value) (w : World) (j : Nat), szC x ≤ N → x.Ok → CM w u x.ks → EM w z x.lf.e.ks → cnM x j = true → ToldC w f h →
    Calls Tryd.prog 39 #[cnV x u z, f] w fun e w' => e = .returned (.int .i64 (evC h x)) ∧ Below w.heap.size w w' := by
  induction N with
  | zero => intro x u z w j hN; rw [szC_ks] at hN; omega
  | succ N ih =>
    intro x u z w j hN hx hu hz hm hf
    obtain ⟨hct, hkid⟩ := cn_kid hm
    have E := hide (evC_eq h x)
    obtain ⟨a, c, rfl, hl9⟩ := hu.shape
    obtain ⟨za, zc, rfl, hz9⟩ := hz.shape
    rw [szC_ks] at hN
    obtain ⟨k, ⟨lk, lt, nm, op, ⟨ek, en, ed, eu, eks⟩, wd, vl, an⟩, ks⟩ := x
    simp only [Cn.k, Cn.lf, Cn.ks] at hN hl9 E hct hkid
    replace hu : CM w (.slice a ks.length c) ks := hu
    show Calls Tryd.prog 39 #[.agg #[.int .i64 k, .slice a ks.length c, .int .i64 lk, .int .i64 lt, .string nm, .int .i64 op, .int .i64 ek, .int .i64 en, .int .i64 ed, .int .i64 eu, .slice za eks.length zc, .string wd, .string vl, .bool an], f] w _
    generalize eks.length = zm at *
    have HU := hide hu
    have IH := hide ih
    have HF := hide hf
    have HK := hide hkid
    obtain ⟨w0, hw0⟩ : ∃ w0, w.alloc (.cells #[.int .i64 k, .slice a ks.length c, .int .i64 lk, .int .i64 lt, .string nm, .int .i64 op, .int .i64 ek, .int .i64 en, .int .i64 ed, .int .i64 eu, .slice za zm zc, .string wd, .string vl, .bool an] 39) = w0 := ⟨_, rfl⟩
    have S0 : w0.heap.size = w.heap.size + 1 := by rw [← hw0]; simp
    have B0 : Below w.heap.size w w0 := by rw [← hw0]; exact bplus (Below.refl _ _) _
    have P0 : Bk w0 w.heap.size 39 [.int .i64 k, .slice a ks.length c, .int .i64 lk, .int .i64 lt, .string nm, .int .i64 op, .int .i64 ek, .int .i64 en, .int .i64 ed, .int .i64 eu, .slice za zm zc, .string wd, .string vl, .bool an] := by rw [← hw0]; exact heap_alloc_new w _
    have HB0 := hide B0
    have HW0 := hide hw0
    obtain ⟨y0, y1, y2, y3, y4, y5, y6, y7, y8, y9, ya, yb, yc, yd⟩ := keep14 (Below.refl w0.heap.size w0) (show w0.heap[w.heap.size]? = _ from P0)
    clear hu ih hf hkid hm hw0
    by_cases hk4 : k = 4
    · subst hk4
      have CL := hide (leafTruth_any ⟨lk, lt, nm, op, .mk ek en ed eu eks, wd, vl, an⟩ (.slice za zm zc) f h w0 ⟨_, _, _, rfl⟩ (HF.out.low B0))
      replace E := hide (E.out.trans (if_pos rfl))
      generalize lfT h ⟨lk, lt, nm, op, .mk ek en ed eu eks, wd, vl, an⟩ = r at *
      simp only [lfV, Ex.k, Ex.n, Ex.d, Ex.u] at CL
      clear B0 P0
      go_enter Tryd.func39, Tryd.ntmps39
      go_upto_region 1 with fail
      rw [HW0.out]
      go_wp2_with (go_at_call 54; refine CL.out.mono ?_; rintro e w1 ⟨rfl, hl⟩)
      go_ret
      exact ⟨ret_int E.out.symm, bto HB0.out hl⟩
    replace E := hide (E.out.trans (if_neg hk4))
    obtain ⟨W1, hW1⟩ : ∃ W1, w0.alloc (.cells (madeCells #[.int .i64 0] (ks.length * 1)) 3) = W1 := ⟨_, rfl⟩
    have MK := madeI ks.length hl9 w0
    rw [hW1, S0] at MK
    have B1 := hide (show Below w.heap.size w W1 by rw [← hW1]; exact bplus B0 _)
    have Q0 := hide (show Bk W1 w.heap.size 39 [.int .i64 k, .slice a ks.length c, .int .i64 lk, .int .i64 lt, .string nm, .int .i64 op, .int .i64 ek, .int .i64 en, .int .i64 ed, .int .i64 eu, .slice za zm zc, .string wd, .string vl, .bool an] by rw [← hW1]; exact Bk.more P0 _)
    have Q1 := hide (show Bk W1 (w.heap.size + 1) 3 (madeCells #[.int .i64 0] (ks.length * 1)).toList by unfold Bk; rw [Array.toArray_toList, ← hW1, ← S0]; exact heap_alloc_new w0 _)
    have ML := hide (show (madeCells #[.int .i64 0] (ks.length * 1)).toList.length = ks.length by rw [Array.length_toList, size_madeCells, Nat.mul_one])
    obtain ⟨x0, x1, x2, x3, x4, x5, x6, x7, x8, x9, xa, xb, xc, xd⟩ := keep14 (Below.refl W1.heap.size W1) (show W1.heap[w.heap.size]? = _ from Q0.out)
    have hk3 := cnt4 hct hk4
    clear hW1 B0 P0 S0 hct hk4
    rcases hk3 with rfl | rfl | ⟨rfl, hk1⟩
    case inl =>
      go_enter Tryd.func39, Tryd.ntmps39
      go_upto_region 1 with fail
      rw [HW0.out]
      go_upto_region 4 with fail
      go_wp2_with fail
      go_loopw [22] (fun i wr => RelTo w [.int .i64 1, .slice a ks.length c, .int .i64 lk, .int .i64 lt, .string nm, .int .i64 op, .int .i64 ek, .int .i64 en, .int .i64 ed, .int .i64 eu, .slice za zm zc, .string wd, .string vl, .bool an] (evC h) ks i wr) (fun i _ => ks.length - (intOf i).toNat)
      case atStart => exact .mk 0 _ rfl (by omega) (by rw [ML.out]; omega) Q0.out Q1.out B1.out
      case round =>
        obtain ⟨m, zs, rfl, hm, hzl, R⟩ := hrel
        obtain ⟨wq, hwq⟩ : ∃ wq, wq = wr := ⟨_, rfl⟩
        subst hwq
        have X0 := hide R.out.1
        have X1 := hide R.out.2.1
        have BW := hide R.out.2.2
        have hgq : w.heap.size + 1 < wq.heap.size := Bk.lt X1.out
        clear R MK ML Q0 Q1 B1 x0 x1 x2 x3 x4 x5 x6 x7 x8 x9 xa xb xc xd y0 y1 y2 y3 y4 y5 y6 y7 y8 y9 ya yb yc yd HW0
        by_cases hlm : m < ks.length
        · have hlm' : (m : Int) < ks.length := by omega
          obtain ⟨x, hx⟩ : ∃ x, ks[m]? = some x := ⟨_, List.getElem?_eq_getElem hlm⟩
          obtain ⟨b, o, c', xu, xz, hv', hb, -, -, xo, t14, hzz, hku⟩ := HU.out.at hx
          obtain ⟨rfl, rfl⟩ : a = some ⟨b, o, none⟩ ∧ c = c' := by cases hv'; exact ⟨rfl, rfl⟩
          obtain ⟨ua, uc, rfl, hks9⟩ := hku.shape
          obtain ⟨va, vc, rfl, hzs9⟩ := hzz.shape
          have hmy := HK.out m x hx
          have SZ : szC x ≤ N := by have := szCs_at hx; omega
          have CI := hide (fun (W : World) (hh : Below w.heap.size w W) => IH.out x (.slice ua x.ks.length uc) (.slice va x.lf.e.ks.length vc) W (j - 1) SZ xo (hku.low hh) (hzz.low hh) hmy (HF.out.low hh))
          obtain ⟨c0, c1, c2, c3, c4, c5, c6, c7, c8, c9, ca, cb, cc, cd⟩ := t14.below BW.out hb
          have hbw : b < wq.heap.size := by have := BW.out.size; omega
          have nb : b ≠ wq.heap.size := by omega
          have HX := hide hx
          clear hx hv' t14 hku hzz xo hmy SZ
          obtain ⟨A, zs', hzs⟩ : ∃ A zs', zs = A :: zs' := by cases zs with | nil => simp at hzl; omega | cons A r => exact ⟨A, r, rfl⟩
          subst hzs
          have hzl' : zs'.length = ks.length - (m + 1) := by simp at hzl; omega
          have hyl : (iv ((ks.take m).map (evC h))).length = m := by unfold iv; rw [List.length_map, List.length_map, List.length_take]; omega
          have NX := hide (fun (w5 : World) (h5 : Below wq.heap.size wq w5) => show (w5.cell? ⟨w.heap.size + 1, m, none⟩ = some A ∧ w5.frozen? ⟨w.heap.size + 1, m, none⟩ = false) ∧ Bk (w5.setCell ⟨w.heap.size + 1, m, none⟩ (.int .i64 (evC h x))) w.heap.size 39 [.int .i64 1, .slice (some ⟨b, o, none⟩) ks.length c, .int .i64 lk, .int .i64 lt, .string nm, .int .i64 op, .int .i64 ek, .int .i64 en, .int .i64 ed, .int .i64 eu, .slice za zm zc, .string wd, .string vl, .bool an] ∧ Bk (w5.setCell ⟨w.heap.size + 1, m, none⟩ (.int .i64 (evC h x))) (w.heap.size + 1) 3 (iv ((ks.take (m + 1)).map (evC h)) ++ zs') ∧ Below w.heap.size w (w5.setCell ⟨w.heap.size + 1, m, none⟩ (.int .i64 (evC h x))) from by
            have q := Bk.up X1.out h5
            refine ⟨⟨by rw [Bk.cell q, List.getElem?_append_right (by omega), hyl, Nat.sub_self]; rfl, Bk.fz q m⟩, Bk.far (Bk.up X0.out h5) (by omega) _ _, ?_, (bto BW.out h5).setCell (by show w.heap.size ≤ w.heap.size + 1; omega) _⟩
            have q2 := Bk.put q m (.int .i64 (evC h x))
            rw [List.set_append_right _ _ (by omega), hyl, Nat.sub_self] at q2
            rw [List.take_add_one, HX.out]
            have e : iv (List.map (evC h) (List.take m ks ++ (some x).toList)) ++ zs' = iv (List.map (evC h) (List.take m ks)) ++ (A :: zs').set 0 (.int .i64 (evC h x)) := by simp [iv]
            rw [e]
            exact q2)
          unfold cnV at CI
          clear IH HX
          generalize evC h x = ev at *
          generalize x.lf.e.ks.length = xem at *
          generalize x.ks.length = xm at *
          generalize x.k = xk at *
          generalize x.lf.k = xlk at *
          generalize x.lf.t = xlt at *
          generalize x.lf.nm = xnm at *
          generalize x.lf.op = xop at *
          generalize x.lf.e.k = xek at *
          generalize x.lf.e.n = xen at *
          generalize x.lf.e.d = xed at *
          generalize x.lf.e.u = xeu at *
          generalize x.lf.wd = xwd at *
          generalize x.lf.vl = xvl at *
          generalize x.lf.an = xan at *
          obtain ⟨W4, hW4⟩ : ∃ W4, wq.alloc (.cells #[.int .i64 xk, .slice ua xm uc, .int .i64 xlk, .int .i64 xlt, .string xnm, .int .i64 xop, .int .i64 xek, .int .i64 xen, .int .i64 xed, .int .i64 xeu, .slice va xem vc, .string xwd, .string xvl, .bool xan] 39) = W4 := ⟨_, rfl⟩
          have B4 := hide (show Below wq.heap.size wq W4 by rw [← hW4]; exact bplus (Below.refl _ _) _)
          have HW4 := hide hW4
          obtain ⟨d0, d1, d2, d3, d4, d5, d6, d7, d8, d9, da, db, dc, dd⟩ := keep14 (Below.refl W4.heap.size W4) (show W4.heap[wq.heap.size]? = some (.cells #[.int .i64 xk, .slice ua xm uc, .int .i64 xlk, .int .i64 xlt, .string xnm, .int .i64 xop, .int .i64 xek, .int .i64 xen, .int .i64 xed, .int .i64 xeu, .slice va xem vc, .string xwd, .string xvl, .bool xan] 39) by rw [← hW4]; exact heap_alloc_new wq _)
          clear hW4
          go_upto_region 7 with fail
          rw [HW4.out]
          clear HW4 c0 c1 c2 c3 c4 c5 c6 c7 c8 c9 ca cb cc cd
          go_wp2_with (go_at_call 39; refine (CI.out _ (bto BW.out B4.out)).mono ?_; rintro e w5 ⟨rfl, B5⟩; replace B5 := hide (bto B4.out B5); obtain ⟨s0, s1⟩ := (NX.out w5 B5.out).1)
          go_roundw
          case rel => exact .mk (m + 1) zs' (by go_num) (by omega) hzl' (NX.out w5 B5.out).2.1 (NX.out w5 B5.out).2.2.1 (NX.out w5 B5.out).2.2.2
          case measure => simp [intOf]; omega
        · obtain rfl : m = ks.length := by omega
          have hlm' : ¬ ((ks.length : Nat) : Int) < ks.length := by omega
          obtain rfl : zs = [] := List.eq_nil_of_length_eq_zero (by rw [hzl, Nat.sub_self])
          have NU := hide (show NuW wq (.slice (some ⟨w.heap.size + 1, 0, none⟩) ks.length ks.length) (ks.map (evC h)) from by
            have q := X1.out
            rw [List.take_length, List.append_nil] at q
            have := iv_nu q (by rw [List.length_map]; exact hl9)
            rwa [List.length_map] at this)
          obtain ⟨v0, v1, v2, v3, v4, v5, v6, v7, v8, v9, va, vb, vc, vd⟩ := keep14 (Below.refl wq.heap.size wq) (show wq.heap[w.heap.size]? = _ from X0.out)
          clear X0 X1 IH
          have CA := hide (andP_any (ks.map (evC h)) _ wq NU.out)
          have F := hide (show evC h _ = anN 2 (ks.map (evC h)) from E.out.trans rfl)
          generalize anN 2 (ks.map (evC h)) = r at *
          go_wp2_with (go_at_call 9; refine CA.out.mono ?_; rintro e w6 ⟨rfl, rfl⟩)
          go_ret
          exact ⟨ret_int F.out.symm, BW.out⟩
    case inr.inl =>
      go_enter Tryd.func39, Tryd.ntmps39
      go_upto_region 1 with fail
      rw [HW0.out]
      go_upto_region 4 with fail
      go_wp2_with fail
      go_loopw [22] (fun i wr => RelTo w [.int .i64 2, .slice a ks.length c, .int .i64 lk, .int .i64 lt, .string nm, .int .i64 op, .int .i64 ek, .int .i64 en, .int .i64 ed, .int .i64 eu, .slice za zm zc, .string wd, .string vl, .bool an] (evC h) ks i wr) (fun i _ => ks.length - (intOf i).toNat)
      case atStart => exact .mk 0 _ rfl (by omega) (by rw [ML.out]; omega) Q0.out Q1.out B1.out
      case round =>
        obtain ⟨m, zs, rfl, hm, hzl, R⟩ := hrel
        obtain ⟨wq, hwq⟩ : ∃ wq, wq = wr := ⟨_, rfl⟩
        subst hwq
        have X0 := hide R.out.1
        have X1 := hide R.out.2.1
        have BW := hide R.out.2.2
        have hgq : w.heap.size + 1 < wq.heap.size := Bk.lt X1.out
        clear R MK ML Q0 Q1 B1 x0 x1 x2 x3 x4 x5 x6 x7 x8 x9 xa xb xc xd y0 y1 y2 y3 y4 y5 y6 y7 y8 y9 ya yb yc yd HW0
        by_cases hlm : m < ks.length
        · have hlm' : (m : Int) < ks.length := by omega
          obtain ⟨x, hx⟩ : ∃ x, ks[m]? = some x := ⟨_, List.getElem?_eq_getElem hlm⟩
          obtain ⟨b, o, c', xu, xz, hv', hb, -, -, xo, t14, hzz, hku⟩ := HU.out.at hx
          obtain ⟨rfl, rfl⟩ : a = some ⟨b, o, none⟩ ∧ c = c' := by cases hv'; exact ⟨rfl, rfl⟩
          obtain ⟨ua, uc, rfl, hks9⟩ := hku.shape
          obtain ⟨va, vc, rfl, hzs9⟩ := hzz.shape
          have hmy := HK.out m x hx
          have SZ : szC x ≤ N := by have := szCs_at hx; omega
          have CI := hide (fun (W : World) (hh : Below w.heap.size w W) => IH.out x (.slice ua x.ks.length uc) (.slice va x.lf.e.ks.length vc) W (j - 1) SZ xo (hku.low hh) (hzz.low hh) hmy (HF.out.low hh))
          obtain ⟨c0, c1, c2, c3, c4, c5, c6, c7, c8, c9, ca, cb, cc, cd⟩ := t14.below BW.out hb
          have hbw : b < wq.heap.size := by have := BW.out.size; omega
          have nb : b ≠ wq.heap.size := by omega
          have HX := hide hx
          clear hx hv' t14 hku hzz xo hmy SZ
          obtain ⟨A, zs', hzs⟩ : ∃ A zs', zs = A :: zs' := by cases zs with | nil => simp at hzl; omega | cons A r => exact ⟨A, r, rfl⟩
          subst hzs
          have hzl' : zs'.length = ks.length - (m + 1) := by simp at hzl; omega
          have hyl : (iv ((ks.take m).map (evC h))).length = m := by unfold iv; rw [List.length_map, List.length_map, List.length_take]; omega
          have NX := hide (fun (w5 : World) (h5 : Below wq.heap.size wq w5) => show (w5.cell? ⟨w.heap.size + 1, m, none⟩ = some A ∧ w5.frozen? ⟨w.heap.size + 1, m, none⟩ = false) ∧ Bk (w5.setCell ⟨w.heap.size + 1, m, none⟩ (.int .i64 (evC h x))) w.heap.size 39 [.int .i64 2, .slice (some ⟨b, o, none⟩) ks.length c, .int .i64 lk, .int .i64 lt, .string nm, .int .i64 op, .int .i64 ek, .int .i64 en, .int .i64 ed, .int .i64 eu, .slice za zm zc, .string wd, .string vl, .bool an] ∧ Bk (w5.setCell ⟨w.heap.size + 1, m, none⟩ (.int .i64 (evC h x))) (w.heap.size + 1) 3 (iv ((ks.take (m + 1)).map (evC h)) ++ zs') ∧ Below w.heap.size w (w5.setCell ⟨w.heap.size + 1, m, none⟩ (.int .i64 (evC h x))) from by
            have q := Bk.up X1.out h5
            refine ⟨⟨by rw [Bk.cell q, List.getElem?_append_right (by omega), hyl, Nat.sub_self]; rfl, Bk.fz q m⟩, Bk.far (Bk.up X0.out h5) (by omega) _ _, ?_, (bto BW.out h5).setCell (by show w.heap.size ≤ w.heap.size + 1; omega) _⟩
            have q2 := Bk.put q m (.int .i64 (evC h x))
            rw [List.set_append_right _ _ (by omega), hyl, Nat.sub_self] at q2
            rw [List.take_add_one, HX.out]
            have e : iv (List.map (evC h) (List.take m ks ++ (some x).toList)) ++ zs' = iv (List.map (evC h) (List.take m ks)) ++ (A :: zs').set 0 (.int .i64 (evC h x)) := by simp [iv]
            rw [e]
            exact q2)
          unfold cnV at CI
          clear IH HX
          generalize evC h x = ev at *
          generalize x.lf.e.ks.length = xem at *
          generalize x.ks.length = xm at *
          generalize x.k = xk at *
          generalize x.lf.k = xlk at *
          generalize x.lf.t = xlt at *
          generalize x.lf.nm = xnm at *
          generalize x.lf.op = xop at *
          generalize x.lf.e.k = xek at *
          generalize x.lf.e.n = xen at *
          generalize x.lf.e.d = xed at *
          generalize x.lf.e.u = xeu at *
          generalize x.lf.wd = xwd at *
          generalize x.lf.vl = xvl at *
          generalize x.lf.an = xan at *
          obtain ⟨W4, hW4⟩ : ∃ W4, wq.alloc (.cells #[.int .i64 xk, .slice ua xm uc, .int .i64 xlk, .int .i64 xlt, .string xnm, .int .i64 xop, .int .i64 xek, .int .i64 xen, .int .i64 xed, .int .i64 xeu, .slice va xem vc, .string xwd, .string xvl, .bool xan] 39) = W4 := ⟨_, rfl⟩
          have B4 := hide (show Below wq.heap.size wq W4 by rw [← hW4]; exact bplus (Below.refl _ _) _)
          have HW4 := hide hW4
          obtain ⟨d0, d1, d2, d3, d4, d5, d6, d7, d8, d9, da, db, dc, dd⟩ := keep14 (Below.refl W4.heap.size W4) (show W4.heap[wq.heap.size]? = some (.cells #[.int .i64 xk, .slice ua xm uc, .int .i64 xlk, .int .i64 xlt, .string xnm, .int .i64 xop, .int .i64 xek, .int .i64 xen, .int .i64 xed, .int .i64 xeu, .slice va xem vc, .string xwd, .string xvl, .bool xan] 39) by rw [← hW4]; exact heap_alloc_new wq _)
          clear hW4
          go_upto_region 7 with fail
          rw [HW4.out]
          clear HW4 c0 c1 c2 c3 c4 c5 c6 c7 c8 c9 ca cb cc cd
          go_wp2_with (go_at_call 39; refine (CI.out _ (bto BW.out B4.out)).mono ?_; rintro e w5 ⟨rfl, B5⟩; replace B5 := hide (bto B4.out B5); obtain ⟨s0, s1⟩ := (NX.out w5 B5.out).1)
          go_roundw
          case rel => exact .mk (m + 1) zs' (by go_num) (by omega) hzl' (NX.out w5 B5.out).2.1 (NX.out w5 B5.out).2.2.1 (NX.out w5 B5.out).2.2.2
          case measure => simp [intOf]; omega
        · obtain rfl : m = ks.length := by omega
          have hlm' : ¬ ((ks.length : Nat) : Int) < ks.length := by omega
          obtain rfl : zs = [] := List.eq_nil_of_length_eq_zero (by rw [hzl, Nat.sub_self])
          have NU := hide (show NuW wq (.slice (some ⟨w.heap.size + 1, 0, none⟩) ks.length ks.length) (ks.map (evC h)) from by
            have q := X1.out
            rw [List.take_length, List.append_nil] at q
            have := iv_nu q (by rw [List.length_map]; exact hl9)
            rwa [List.length_map] at this)
          obtain ⟨v0, v1, v2, v3, v4, v5, v6, v7, v8, v9, va, vb, vc, vd⟩ := keep14 (Below.refl wq.heap.size wq) (show wq.heap[w.heap.size]? = _ from X0.out)
          clear X0 X1 IH
          have CA := hide (orP_any (ks.map (evC h)) _ wq NU.out)
          have F := hide (show evC h _ = orN 0 (ks.map (evC h)) from E.out.trans rfl)
          generalize orN 0 (ks.map (evC h)) = r at *
          go_wp2_with (go_at_call 11; refine CA.out.mono ?_; rintro e w6 ⟨rfl, rfl⟩)
          go_ret
          exact ⟨ret_int F.out.symm, BW.out⟩
    case inr.inr =>
      go_enter Tryd.func39, Tryd.ntmps39
      go_upto_region 1 with fail
      rw [HW0.out]
      go_upto_region 4 with fail
      go_wp2_with fail
      go_loopw [22] (fun i wr => RelTo w [.int .i64 3, .slice a ks.length c, .int .i64 lk, .int .i64 lt, .string nm, .int .i64 op, .int .i64 ek, .int .i64 en, .int .i64 ed, .int .i64 eu, .slice za zm zc, .string wd, .string vl, .bool an] (evC h) ks i wr) (fun i _ => ks.length - (intOf i).toNat)
      case atStart => exact .mk 0 _ rfl (by omega) (by rw [ML.out]; omega) Q0.out Q1.out B1.out
      case round =>
        obtain ⟨m, zs, rfl, hm, hzl, R⟩ := hrel
        obtain ⟨wq, hwq⟩ : ∃ wq, wq = wr := ⟨_, rfl⟩
        subst hwq
        have X0 := hide R.out.1
        have X1 := hide R.out.2.1
        have BW := hide R.out.2.2
        have hgq : w.heap.size + 1 < wq.heap.size := Bk.lt X1.out
        clear R MK ML Q0 Q1 B1 x0 x1 x2 x3 x4 x5 x6 x7 x8 x9 xa xb xc xd y0 y1 y2 y3 y4 y5 y6 y7 y8 y9 ya yb yc yd HW0
        by_cases hlm : m < ks.length
        · have hlm' : (m : Int) < ks.length := by omega
          obtain ⟨x, hx⟩ : ∃ x, ks[m]? = some x := ⟨_, List.getElem?_eq_getElem hlm⟩
          obtain ⟨b, o, c', xu, xz, hv', hb, -, -, xo, t14, hzz, hku⟩ := HU.out.at hx
          obtain ⟨rfl, rfl⟩ : a = some ⟨b, o, none⟩ ∧ c = c' := by cases hv'; exact ⟨rfl, rfl⟩
          obtain ⟨ua, uc, rfl, hks9⟩ := hku.shape
          obtain ⟨va, vc, rfl, hzs9⟩ := hzz.shape
          have hmy := HK.out m x hx
          have SZ : szC x ≤ N := by have := szCs_at hx; omega
          have CI := hide (fun (W : World) (hh : Below w.heap.size w W) => IH.out x (.slice ua x.ks.length uc) (.slice va x.lf.e.ks.length vc) W (j - 1) SZ xo (hku.low hh) (hzz.low hh) hmy (HF.out.low hh))
          obtain ⟨c0, c1, c2, c3, c4, c5, c6, c7, c8, c9, ca, cb, cc, cd⟩ := t14.below BW.out hb
          have hbw : b < wq.heap.size := by have := BW.out.size; omega
          have nb : b ≠ wq.heap.size := by omega
          have HX := hide hx
          clear hx hv' t14 hku hzz xo hmy SZ
          obtain ⟨A, zs', hzs⟩ : ∃ A zs', zs = A :: zs' := by cases zs with | nil => simp at hzl; omega | cons A r => exact ⟨A, r, rfl⟩
          subst hzs
          have hzl' : zs'.length = ks.length - (m + 1) := by simp at hzl; omega
          have hyl : (iv ((ks.take m).map (evC h))).length = m := by unfold iv; rw [List.length_map, List.length_map, List.length_take]; omega
          have NX := hide (fun (w5 : World) (h5 : Below wq.heap.size wq w5) => show (w5.cell? ⟨w.heap.size + 1, m, none⟩ = some A ∧ w5.frozen? ⟨w.heap.size + 1, m, none⟩ = false) ∧ Bk (w5.setCell ⟨w.heap.size + 1, m, none⟩ (.int .i64 (evC h x))) w.heap.size 39 [.int .i64 3, .slice (some ⟨b, o, none⟩) ks.length c, .int .i64 lk, .int .i64 lt, .string nm, .int .i64 op, .int .i64 ek, .int .i64 en, .int .i64 ed, .int .i64 eu, .slice za zm zc, .string wd, .string vl, .bool an] ∧ Bk (w5.setCell ⟨w.heap.size + 1, m, none⟩ (.int .i64 (evC h x))) (w.heap.size + 1) 3 (iv ((ks.take (m + 1)).map (evC h)) ++ zs') ∧ Below w.heap.size w (w5.setCell ⟨w.heap.size + 1, m, none⟩ (.int .i64 (evC h x))) from by
            have q := Bk.up X1.out h5
            refine ⟨⟨by rw [Bk.cell q, List.getElem?_append_right (by omega), hyl, Nat.sub_self]; rfl, Bk.fz q m⟩, Bk.far (Bk.up X0.out h5) (by omega) _ _, ?_, (bto BW.out h5).setCell (by show w.heap.size ≤ w.heap.size + 1; omega) _⟩
            have q2 := Bk.put q m (.int .i64 (evC h x))
            rw [List.set_append_right _ _ (by omega), hyl, Nat.sub_self] at q2
            rw [List.take_add_one, HX.out]
            have e : iv (List.map (evC h) (List.take m ks ++ (some x).toList)) ++ zs' = iv (List.map (evC h) (List.take m ks)) ++ (A :: zs').set 0 (.int .i64 (evC h x)) := by simp [iv]
            rw [e]
            exact q2)
          unfold cnV at CI
          clear IH HX
          generalize evC h x = ev at *
          generalize x.lf.e.ks.length = xem at *
          generalize x.ks.length = xm at *
          generalize x.k = xk at *
          generalize x.lf.k = xlk at *
          generalize x.lf.t = xlt at *
          generalize x.lf.nm = xnm at *
          generalize x.lf.op = xop at *
          generalize x.lf.e.k = xek at *
          generalize x.lf.e.n = xen at *
          generalize x.lf.e.d = xed at *
          generalize x.lf.e.u = xeu at *
          generalize x.lf.wd = xwd at *
          generalize x.lf.vl = xvl at *
          generalize x.lf.an = xan at *
          obtain ⟨W4, hW4⟩ : ∃ W4, wq.alloc (.cells #[.int .i64 xk, .slice ua xm uc, .int .i64 xlk, .int .i64 xlt, .string xnm, .int .i64 xop, .int .i64 xek, .int .i64 xen, .int .i64 xed, .int .i64 xeu, .slice va xem vc, .string xwd, .string xvl, .bool xan] 39) = W4 := ⟨_, rfl⟩
          have B4 := hide (show Below wq.heap.size wq W4 by rw [← hW4]; exact bplus (Below.refl _ _) _)
          have HW4 := hide hW4
          obtain ⟨d0, d1, d2, d3, d4, d5, d6, d7, d8, d9, da, db, dc, dd⟩ := keep14 (Below.refl W4.heap.size W4) (show W4.heap[wq.heap.size]? = some (.cells #[.int .i64 xk, .slice ua xm uc, .int .i64 xlk, .int .i64 xlt, .string xnm, .int .i64 xop, .int .i64 xek, .int .i64 xen, .int .i64 xed, .int .i64 xeu, .slice va xem vc, .string xwd, .string xvl, .bool xan] 39) by rw [← hW4]; exact heap_alloc_new wq _)
          clear hW4
          go_upto_region 7 with fail
          rw [HW4.out]
          clear HW4 c0 c1 c2 c3 c4 c5 c6 c7 c8 c9 ca cb cc cd
          go_wp2_with (go_at_call 39; refine (CI.out _ (bto BW.out B4.out)).mono ?_; rintro e w5 ⟨rfl, B5⟩; replace B5 := hide (bto B4.out B5); obtain ⟨s0, s1⟩ := (NX.out w5 B5.out).1)
          go_roundw
          case rel => exact .mk (m + 1) zs' (by go_num) (by omega) hzl' (NX.out w5 B5.out).2.1 (NX.out w5 B5.out).2.2.1 (NX.out w5 B5.out).2.2.2
          case measure => simp [intOf]; omega
        · obtain rfl : m = ks.length := by omega
          have hlm' : ¬ ((ks.length : Nat) : Int) < ks.length := by omega
          obtain rfl : zs = [] := List.eq_nil_of_length_eq_zero (by rw [hzl, Nat.sub_self])
          have NU := hide (show NuW wq (.slice (some ⟨w.heap.size + 1, 0, none⟩) ks.length ks.length) (ks.map (evC h)) from by
            have q := X1.out
            rw [List.take_length, List.append_nil] at q
            have := iv_nu q (by rw [List.length_map]; exact hl9)
            rwa [List.length_map] at this)
          obtain ⟨v0, v1, v2, v3, v4, v5, v6, v7, v8, v9, va, vb, vc, vd⟩ := keep14 (Below.refl wq.heap.size wq) (show wq.heap[w.heap.size]? = _ from X0.out)
          clear X0 X1 IH
          have hg := gt_first hk1.out (ks.map (evC h)) (by rw [List.length_map])
          have z0 : wq.cell? ⟨w.heap.size + 1, 0, none⟩ = some (.int .i64 ((ks.map (evC h)).headD 0)) := by
            rcases NU.out with ⟨a', c', h1, h2⟩ | ⟨b', o', n', c', h1, h2, h3, h4, h5, h6, h7⟩
            · injection h1 with e1 e2 e3
              have := hk1.out
              omega
            · injection h1 with e1 e2 e3
              injection e1 with e1
              injection e1 with e4 e5 e6
              subst e4 e5
              have := h7 0 h3
              rw [hg] at this
              exact this
          have hl0 : (0 : Int) < ks.length := by have := hk1.out; omega
          have CA := hide (fun (W : World) => notP_any ((ks.map (evC h)).headD 0) W)
          have F := hide (show evC h _ = 2 - tr ((ks.map (evC h)).headD 0) from E.out.trans rfl)
          generalize 2 - tr ((ks.map (evC h)).headD 0) = r at *
          generalize (ks.map (evC h)).headD 0 = r0 at *
          go_wp2_with (go_at_call 13; refine (CA.out _).mono ?_; rintro e w6 ⟨rfl, rfl⟩)
          go_ret
          exact ⟨ret_int F.out.symm, BW.out⟩
end Go.Proofs.YtpcdhdllclenaaaDoor.cd
