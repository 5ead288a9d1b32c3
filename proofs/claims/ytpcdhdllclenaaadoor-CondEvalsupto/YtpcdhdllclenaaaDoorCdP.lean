/-
  An expression's copy: the program's own, ownExpr.
-/
import Derived.Test.YtpcdhdllclenaaaDoorCdO
import Derived.Deep.OwnRows
import Derived.Deep.DeepCutAuto
import Derived.Shelf.Abstract
set_option linter.unusedVariables false
set_option linter.unusedSimpArgs false
namespace Go.Proofs.YtpcdhdllclenaaaDoor.cd
open Go.RowKit

theorem madeE (m : Nat) (hm : m ≤ 1000000000) (W : World) : (Instr.makeSlice 33 (.int .i64 m) (.int .i64 m)).run Tryd.prog W = .ok (.slice (some ⟨W.heap.size, 0, none⟩) m m) (W.alloc (.cells (madeCells #[.int .i64 0, .int .i64 0, .int .i64 0, .int .i64 0, .slice none 0 0] (m * 5)) 35)) := by
  have h := run_make (P := Tryd.prog) W 33 35 Tryd.t35 (.agg #[.int .i64 0, .int .i64 0, .int .i64 0, .int .i64 0, .slice none 0 0]) Tryd.underlying33 (by kernel_rfl) (by kernel_rfl) .i64 .i64 m m (by omega) (Int.le_refl _) (by show ((56 : Nat) : Int) * m ≤ _; omega) (by omega)
  have e : ((m : Int).toNat * Tryd.t35.size) = m * 5 := by show (m : Int).toNat * 5 = m * 5; simp
  rw [e, Int.toNat_natCast] at h
  exact h
/-- What an expression's copy is. -/
def OwE (N : Nat) : Prop := ∀ (x : Ex) (u : Value) (w : World), szE x ≤ N → x.Ok → EM w u x.ks → Calls Tryd.prog 65 #[exV x u] w fun e w' => ∃ v, e = .returned (exV x v) ∧ EM (cutW w.heap.size w') v x.ks ∧ Below w.heap.size w w'
def OwEs (N : Nat) : Prop := ∀ (l : List Ex) (u : Value) (w : World), szEs l ≤ N → EM w u l → Calls Tryd.prog 74 #[u, .func (.func 65) #[] #[]] w fun e w' => ∃ v, e = .returned v ∧ EM (cutW w.heap.size w') v l ∧ Below w.heap.size w w'
def RelOe (w : World) (g : Nat) (l : List Ex) (i : Value) (wr : World) : Prop := ∃ (m : Nat) (ys zs : List Value), i = .int .i64 m ∧ m ≤ l.length ∧ zs.length = (l.length - m) * 5 ∧ Hid (Bk wr g 35 (ys ++ zs) ∧ ExC (cutW (g + 1) wr) (l.take m) ys ∧ Below g w wr)
theorem RelOe.mk {w : World} {g : Nat} {l : List Ex} {i : Value} {wr : World} (m : Nat) (ys zs : List Value) (h1 : i = .int .i64 m) (h2 : m ≤ l.length) (h3 : zs.length = (l.length - m) * 5) (h4 : Bk wr g 35 (ys ++ zs)) (h5 : ExC (cutW (g + 1) wr) (l.take m) ys) (h6 : Below g w wr) : RelOe w g l i wr := ⟨m, ys, zs, h1, h2, h3, h4, h5, h6⟩
theorem nilE_no (ad : Addr) (n c : Nat) (w : World) : (binOp .eql 33 (.slice (some ad) n c) (.slice none 0 0)).run Tryd.prog w = .ok (.bool false) w := by kernel_rfl
theorem nilE_yes (n c : Nat) (w : World) : (binOp .eql 33 (.slice none n c) (.slice none 0 0)).run Tryd.prog w = .ok (.bool true) w := by kernel_rfl
theorem em_none {w : World} {n c : Nat} {l : List Ex} (h : EM w (.slice none n c) l) : l = [] := by
  cases l with
  | nil => rfl
  | cons y r => obtain ⟨b, o, c', u, hv, -⟩ := h.at (i := 0) (x := y) rfl; cases hv
set_option maxRecDepth 100000 in
set_option maxHeartbeats 8000000 in
theorem owEs_step (N : Nat) (IH : OwE N) : OwEs N := by
  intro l u w hN hu
  obtain ⟨a, c, rfl, hl9⟩ := hu.shape
  cases a with
  | none =>
    have hl : l = [] := em_none hu
    subst hl
    have hfn := nilE_yes
    go_enter Tryd.func74, Tryd.ntmps74
    go_wp2
    go_ret
    exact ⟨_, rfl, .nil _ _, Below.refl _ _⟩
  | some ad =>
  have HU := hide hu
  replace IH := hide IH
  clear hu
  obtain ⟨W1, hW1⟩ : ∃ W1, w.alloc (.cells (madeCells #[.int .i64 0, .int .i64 0, .int .i64 0, .int .i64 0, .slice none 0 0] (l.length * 5)) 35) = W1 := ⟨_, rfl⟩
  have MK := madeE l.length hl9 w
  rw [hW1] at MK
  have B1 := hide (show Below w.heap.size w W1 by rw [← hW1]; exact bplus (Below.refl _ _) _)
  have P1 := hide (show Bk W1 w.heap.size 35 (madeCells #[.int .i64 0, .int .i64 0, .int .i64 0, .int .i64 0, .slice none 0 0] (l.length * 5)).toList by unfold Bk; rw [Array.toArray_toList, ← hW1]; exact heap_alloc_new w _)
  have ML := hide (show (madeCells #[.int .i64 0, .int .i64 0, .int .i64 0, .int .i64 0, .slice none 0 0] (l.length * 5)).toList.length = l.length * 5 by rw [Array.length_toList, size_madeCells])
  clear hW1
  obtain ⟨g, hg⟩ : ∃ g, w.heap.size = g := ⟨_, rfl⟩
  rw [hg] at MK
  have PG := hide (show Bk W1 g 35 (madeCells #[.int .i64 0, .int .i64 0, .int .i64 0, .int .i64 0, .slice none 0 0] (l.length * 5)).toList by rw [← hg]; exact P1.out)
  have HG := hide hg
  have hfn := nilE_no
  clear hg P1
  go_enter Tryd.func74, Tryd.ntmps74
  go_upto_region 4 with fail
  go_wp2_with fail
  go_loopw [15] (fun i wr => RelOe w g l i wr) (fun i _ => l.length - (intOf i).toNat)
  case atStart => exact .mk 0 [] _ rfl (by omega) (by rw [ML.out]; omega) PG.out .nil (by rw [← HG.out]; exact B1.out)
  case round =>
    obtain ⟨m, ys, zs, rfl, hm, hzl, R⟩ := hrel
    obtain ⟨wq, hwq⟩ : ∃ wq, wq = wr := ⟨_, rfl⟩
    subst hwq
    have X0 := hide R.out.1
    have X1 := hide R.out.2.1
    have XB := hide R.out.2.2
    have hgq : g < wq.heap.size := Bk.lt X0.out
    have BW := hide (show Below w.heap.size w wq by rw [HG.out]; exact XB.out)
    clear R MK ML PG B1
    by_cases hlm : m < l.length
    · have hlm' : (m : Int) < l.length := by omega
      obtain ⟨x, hx⟩ : ∃ x, l[m]? = some x := ⟨_, List.getElem?_eq_getElem hlm⟩
      obtain ⟨b, o, c', xu, hv', hb, -, -, xo, t5, hu5, hku⟩ := HU.out.at hx
      obtain ⟨rfl, rfl⟩ : ad = ⟨b, o, none⟩ ∧ c = c' := by cases hv'; exact ⟨rfl, rfl⟩
      obtain ⟨ua, uc, rfl, hks9⟩ := hku.shape
      have SZ := hide (show szE x ≤ N by have := szEs_at hx; omega)
      have KU := hide hku
      have XO := hide xo
      have HX := hide hx
      obtain ⟨c0, c1, c2, c3⟩ := t5.below BW.out hb
      have c4 := (BW.out.cell (p := ⟨b, o + m * 5 + 4, none⟩) hb).trans hu5
      have hbw : b < wq.heap.size := by have := BW.out.size; omega
      have nb : b ≠ wq.heap.size := by omega
      have nbg : g ≠ wq.heap.size := by omega
      clear hx hv' t5 hu5 hku xo
      have hyl : ys.length = m * 5 := by rw [X1.out.len, List.length_take]; omega
      have CI := hide (fun (W : World) (h : Below w.heap.size w W) => IH.out x (.slice ua x.ks.length uc) W SZ.out XO.out (KU.out.low h))
      obtain ⟨A, zs', hzs, hA⟩ : ∃ A zs', zs = A ++ zs' ∧ A.length = 5 := ⟨zs.take 5, zs.drop 5, (List.take_append_drop _ _).symm, by rw [List.length_take]; omega⟩
      subst hzs
      have hzl' : zs'.length = (l.length - (m + 1)) * 5 := by rw [List.length_append] at hzl; omega
      have NX := hide (fun (W4 w5 : World) (v : Value) (h4 : Below wq.heap.size wq W4) (h5 : Below W4.heap.size W4 w5) (hp : EM (cutW W4.heap.size w5) v x.ks) => show Bk (w5.setCells g (m * 5) (exL x v)) g 35 ((ys ++ exL x v) ++ zs') ∧ ExC (cutW (g + 1) (w5.setCells g (m * 5) (exL x v))) (l.take (m + 1)) (ys ++ exL x v) ∧ Below g w (w5.setCells g (m * 5) (exL x v)) from by
        have h45 := bto h4 h5
        have q : Bk w5 g 35 (ys ++ (A ++ zs')) := Bk.up X0.out h45
        refine ⟨mid_put q hyl (by rw [hA]; rfl), ?_, ?_⟩
        · rw [List.take_add_one, HX.out]
          have o1 : ExC (cutW (g + 1) (w5.setCells g (m * 5) (exL x v))) (l.take m) ys := X1.out.sees (cut_keep (Nat.le_refl _) (by rw [setCells_sizeC]; exact h45.size) (fun b hb hl => (setCells_far b g 0 (by omega) _ _ _).trans (h45.block b hl)))
          have o2 : EM (cutW (g + 1) (w5.setCells g (m * 5) (exL x v))) v x.ks := em_sees (cut_keep (by have := h4.size; omega) (by rw [setCells_sizeC]; omega) (fun b hb hl => setCells_far b g 0 (by have := h4.size; omega) _ _ _)) hp
          have o3 := o1.app (.cons x [] [] v XO.out o2 .nil)
          rwa [List.append_nil] at o3
        · exact (XB.out.trans (h45.mono (by omega))).grown (setCells_grown _ _ _ _) (by have := h45.size; omega) (fun k hk => by cases hk; exact Nat.le_refl _))
      have OX := hide (fun (v : Value) (h : v.oneCell' = true) => exL_one x h)
      have EV := fun v => show exV x v = .agg (exL x v).toArray from rfl
      simp only [EV] at CI
      have EL := fun v => show exL x v = [.int .i64 x.k, .int .i64 x.n, .int .i64 x.d, .int .i64 x.u, v] from rfl
      rw [EL (.slice ua x.ks.length uc)] at CI
      have LC := hide (fun v => show (exL x v).length = 5 from rfl)
      clear EV EL X1 IH SZ KU XO HX
      generalize hxl : exL x = xl at *
      generalize x.ks = xks at *
      generalize x.k = xk at *
      generalize x.n = xn at *
      generalize x.d = xd at *
      generalize x.u = xv at *
      obtain ⟨W4, hW4⟩ : ∃ W4, wq.alloc (.cells #[.int .i64 xk, .int .i64 xn, .int .i64 xd, .int .i64 xv, .slice ua xks.length uc] 35) = W4 := ⟨_, rfl⟩
      have B4 := hide (show Below wq.heap.size wq W4 by rw [← hW4]; exact bplus (Below.refl _ _) _)
      have HW4 := hide hW4
      obtain ⟨d0, d1, d2, d3, d4⟩ := bxk_5' (show W4.heap[wq.heap.size]? = some (.cells #[.int .i64 xk, .int .i64 xn, .int .i64 xd, .int .i64 xv, .slice ua xks.length uc] 35) by rw [← hW4]; exact heap_alloc_new wq _)
      clear hW4 hxl
      go_upto_region 7 with fail
      rw [HW4.out]
      clear HW4 c0 c1 c2 c3 c4
      go_wp2_with (first
        | (go_at_call 65; refine (CI.out _ (bto BW.out B4.out)).mono ?_; rintro e w5 ⟨v, rfl, PV, B5⟩; replace PV := hide PV; replace B5 := hide B5)
        | (refine wpList_store_mid rfl 35 (.tmp 25) (.tmp 24) rfl g (m * 5) (xl v).toArray rfl rfl (mid_there (Bk.up X0.out (bto B4.out B5.out)) hyl (by rw [List.size_toArray, LC.out v, hA])) (by rw [List.size_toArray, LC.out v]; kernel_rfl) (all_oneCell_toArray (OX.out v (by obtain ⟨a', c', hv, -⟩ := PV.out.shape; rw [hv]; rfl))) ?_))
      (try rw [show (xl v).toArray.toList = xl v from rfl])
      go_roundw
      case rel => exact .mk (m + 1) (ys ++ xl v) zs' (by go_num) (by omega) hzl' (NX.out W4 w5 v B4.out B5.out PV.out).1 (NX.out W4 w5 v B4.out B5.out PV.out).2.1 (NX.out W4 w5 v B4.out B5.out PV.out).2.2
      case measure => simp [intOf]; omega
    · obtain rfl : m = l.length := by omega
      have hlm' : ¬ ((l.length : Nat) : Int) < l.length := by omega
      obtain rfl : zs = [] := List.eq_nil_of_length_eq_zero (by rw [hzl, Nat.sub_self, Nat.zero_mul])
      have F := hide (show EM (cutW w.heap.size wq) (.slice (some ⟨g, 0, none⟩) l.length l.length) l by
        have X1' := X1.out
        have X0' := X0.out
        rw [List.take_length] at X1'
        rw [List.append_nil] at X0'
        exact exc_em (X1'.sees (cut_keep (by rw [HG.out]; omega) (Nat.le_refl _) (fun _ _ _ => rfl))) (show Bk (cutW w.heap.size wq) g 35 ys from (cut_blk wq (by rw [HG.out]; exact Nat.le_refl _)).trans X0') hl9)
      go_wp2
      go_ret
      exact ⟨_, rfl, F.out, BW.out⟩
set_option maxRecDepth 100000 in
set_option maxHeartbeats 8000000 in
theorem owE_step (N : Nat) (IH : OwEs N) : OwE (N + 1) := by
  intro x u w hN hx hu
  obtain ⟨a, c, rfl, hl9⟩ := hu.shape
  rw [szE_ks] at hN
  have EV := fun v => show exV x v = .agg (exL x v).toArray from rfl
  have EL := fun v => show exL x v = [.int .i64 x.k, .int .i64 x.n, .int .i64 x.d, .int .i64 x.u, v] from rfl
  simp only [EV, EL]
  obtain ⟨W1, hW1⟩ : ∃ W1, (w.alloc (.cells #[.int .i64 x.k, .int .i64 x.n, .int .i64 x.d, .int .i64 x.u, .slice a x.ks.length c] 35)).alloc (.cells #[.int .i64 0, .int .i64 0, .int .i64 0, .int .i64 0, .slice none 0 0] 35) = W1 := ⟨_, rfl⟩
  have S1 : W1.heap.size = w.heap.size + 2 := by rw [← hW1]; simp
  have B0 := hide (show Below w.heap.size w W1 by rw [← hW1]; exact bplus (bplus (Below.refl _ _) _) _)
  have P0 := hide (show Bk W1 w.heap.size 35 [.int .i64 x.k, .int .i64 x.n, .int .i64 x.d, .int .i64 x.u, .slice a x.ks.length c] by rw [← hW1]; exact (two_new w _ _).1)
  have P1 := hide (show Bk W1 (w.heap.size + 1) 35 [.int .i64 0, .int .i64 0, .int .i64 0, .int .i64 0, .slice none 0 0] by rw [← hW1]; exact (two_new w _ _).2)
  have HW1 := hide hW1
  have CI := hide (IH x.ks (.slice a x.ks.length c) W1 (by omega) (hu.low B0.out))
  clear hW1 hu IH EV EL
  have SS := hide S1
  generalize x.k = xk at *
  generalize x.n = xn at *
  generalize x.d = xd at *
  generalize x.u = xv at *
  have y4 : W1.cell? ⟨w.heap.size, 4, none⟩ = some (.slice a x.ks.length c) := by rw [Bk.cell P0.out]; rfl
  have K0 := hide (fun (v : Value) (w5 : World) (h : Below W1.heap.size W1 w5) => show (w5.cell? ⟨w.heap.size, 4, none⟩ = some (.slice a x.ks.length c) ∧ w5.frozen? ⟨w.heap.size, 4, none⟩ = false) ∧ Bk (w5.setCell ⟨w.heap.size, 4, none⟩ v) w.heap.size 35 [.int .i64 xk, .int .i64 xn, .int .i64 xd, .int .i64 xv, v] ∧ Bk (w5.setCell ⟨w.heap.size, 4, none⟩ v) (w.heap.size + 1) 35 [.int .i64 0, .int .i64 0, .int .i64 0, .int .i64 0, .slice none 0 0] from by
    have q := Bk.up P0.out h
    exact ⟨⟨by rw [Bk.cell q]; rfl, Bk.fz q 4⟩, Bk.put q 4 v, Bk.far (Bk.up P1.out h) (by omega) _ _⟩)
  go_enter Tryd.func65, Tryd.ntmps65
  go_upto_region 1 with fail
  rw [HW1.out]
  clear HW1
  go_upto_region 2 with (go_at_call 74; refine CI.out.mono ?_; rintro e w5 ⟨v, rfl, PV, B5⟩; replace PV := hide PV; obtain ⟨va, vc, rfl, hv9⟩ := PV.out.shape; replace B5 := hide B5; obtain ⟨t0, t1⟩ := (K0.out (.slice va x.ks.length vc) w5 B5.out).1)
  have J0 := hide (K0.out (.slice va x.ks.length vc) w5 B5.out).2.1
  have J1 := hide (K0.out (.slice va x.ks.length vc) w5 B5.out).2.2
  have B6 := hide (show Below w.heap.size w (w5.setCell ⟨w.heap.size, 4, none⟩ (.slice va x.ks.length vc)) from (bto B0.out B5.out).setCell (Nat.le_refl _) _)
  have P6 := hide (show EM (cutW (w.heap.size + 2) (w5.setCell ⟨w.heap.size, 4, none⟩ (.slice va x.ks.length vc))) (.slice va x.ks.length vc) x.ks from em_sees (cut_keep (by rw [SS.out]; exact Nat.le_refl _) (by simp) (fun b hb hl => Below.heap_setCell w5 ⟨w.heap.size, 4, none⟩ _ b (by have := SS.out; show b ≠ w.heap.size; omega))) PV.out)
  clear K0 t0 t1 y4 P0 P1 B0 B5 PV CI SS S1
  generalize w5.setCell ⟨w.heap.size, 4, none⟩ (.slice va x.ks.length vc) = W2 at *
  have OV : (Value.slice va x.ks.length vc).oneCell' = true := rfl
  generalize x.ks.length = xm at *
  obtain ⟨P, hP⟩ : ∃ P, [Value.int .i64 xk, .int .i64 xn, .int .i64 xd, .int .i64 xv, .slice va xm vc] = P := ⟨_, rfl⟩
  have LP : P.length = 5 := by rw [← hP]; rfl
  have OU : ∀ v ∈ P, v.oneCell' = true := by rw [← hP]; intro v hv; simp only [List.mem_cons, List.not_mem_nil, or_false] at hv; rcases hv with rfl | rfl | rfl | rfl | rfl <;> rfl
  have FB := hide (show Below w.heap.size w (W2.setCells (w.heap.size + 1) 0 P) from B6.out.grown (setCells_grown _ _ _ _) B6.out.size (fun k hk => by cases hk; simp))
  have FP := hide (show EM (cutW w.heap.size (W2.setCells (w.heap.size + 1) 0 P)) (.slice va xm vc) x.ks from em_sees (cut_keep (by omega) (by rw [setCells_sizeC]; omega) (fun b hb hl => setCells_far b (w.heap.size + 1) 0 (by omega) _ _ _)) P6.out)
  rw [hP] at J0
  have T4 := hide (show W2.there (w.heap.size + 1) 0 P.toArray.size from there_blk (show W2.heap[w.heap.size + 1]? = some (.cells #[.int .i64 0, .int .i64 0, .int .i64 0, .int .i64 0, .slice none 0 0] 35) from J1.out) (by rw [List.size_toArray, List.size_toArray, LP]; rfl))
  refine wp_region_list ?_
  refine wpList_load_mid rfl 35 (.tmp 1) rfl w.heap.size 0 rfl P _ (range_blk J0.out) Tryd.underlying35 rfl (by rw [LP]; kernel_rfl) ?_
  refine wpList_store_mid rfl 35 (.tmp 2) (.tmp 7) rfl (w.heap.size + 1) 0 P.toArray rfl rfl T4.out (by rw [List.size_toArray, LP]; kernel_rfl) (all_oneCell_toArray OU) ?_
  go_wp2_with fail
  refine ret_cell (b := w.heap.size + 1) (cs := P) Tryd.results65 rfl (World.rangeAt_setCells_same _ _ _ _ T4.out) Tryd.underlying35 rfl (by rw [LP]; kernel_rfl) rfl ?_
  exact ⟨_, by rw [← hP], FP.out, FB.out⟩
theorem owE_zero : OwE 0 := fun x u w hN => by rw [szE_ks] at hN; omega
theorem owE_all : ∀ N : Nat, OwE N
  | 0 => owE_zero
  | N + 1 => owE_step N (owEs_step N (owE_all N))
theorem owEs_all (N : Nat) : OwEs N := owEs_step N (owE_all N)
end Go.Proofs.YtpcdhdllclenaaaDoor.cd
