/-
  The sum of plain forms: by the program.
-/
import Derived.Test.YticgcokhdipomaaDoorLNoI
import Derived.Laws.AppendOwnNone
set_option linter.unusedVariables false
set_option linter.unusedSimpArgs false
namespace Go.Proofs.YticgcokhdipomaaDoor.nm
open Go.RowKit

/-- A slice of plain forms. -/
def PF (w : World) (v : Value) (l : List (List (Int × Int))) : Prop := RowOf w 15 (fun b o us => Un w b o us ∧ w.cell? ⟨b, o + 14, none⟩ = some nilS) v l
theorem PF.low {w w' : World} {v : Value} {l : List (List (Int × Int))} (h : PF w v l) (hw : Below w.heap.size w w') : PF w' v l :=
  RowOf.mono h hw.size (fun b o x hb _ hx => ⟨hx.1.below hw hb, (hw.cell (p := ⟨b, o + 14, none⟩) hb).trans hx.2⟩)
def sumU (l : List (List (Int × Int))) : List (Int × Int) := l.foldl plU z01
theorem sumU_us {l : List (List (Int × Int))} (h : ∀ x ∈ l, Us x) : ∀ z, Us z → Us (l.foldl plU z) := by
  induction l with
  | nil => intro z hz; exact hz
  | cons x r ih => intro z hz; exact ih (fun y hy => h y (by simp [hy])) _ (plU_us hz (h x (by simp)))
theorem sumU_step {l : List (List (Int × Int))} {k : Nat} {x : List (Int × Int)} (h : l[k]? = some x) : sumU (l.take (k + 1)) = plU (sumU (l.take k)) x := by
  unfold sumU
  rw [List.take_add_one, h, List.foldl_append]
  rfl
/-- The first seven fractions of a form in a block of its own. -/
theorem BF.pre {w : World} {b : Nat} {us : List (Int × Int)} {u : Value} (h : BF w b us u) : w.rangeAt b 0 (usL us) := fun j v hv => by
  rw [Nat.zero_add, Bk.cell h, List.getElem?_append_left (List.getElem?_eq_some_iff.1 hv).1, hv]
theorem BF.there {w : World} {b : Nat} {us : List (Int × Int)} {u : Value} (h : BF w b us u) (hu : us.length = 7) : w.there b 0 14 := fun j hj => by
  have hl := usL_len us
  refine ⟨?_, by rw [Nat.zero_add]; exact Bk.fz h j⟩
  rw [Nat.zero_add, Bk.cell h, List.getElem?_eq_getElem (by rw [List.length_append]; omega)]; rfl
/-- Seven fractions are put into a form's. -/
theorem BF.all {w : World} {b : Nat} {us vs : List (Int × Int)} {u : Value} (h : BF w b us u) (hu : us.length = 7) (hv : vs.length = 7) : BF (w.setCells b 0 (usL vs)) b vs u := by
  have key : ∀ (xs : List Value) (o : Nat) (w : World) (cs : List Value), Bk w b 29 cs → o + xs.length ≤ cs.length → Bk (w.setCells b o xs) b 29 (cs.take o ++ xs ++ cs.drop (o + xs.length)) := by
    intro xs
    induction xs with
    | nil => intro o w cs h _; simpa [World.setCells] using h
    | cons x r ih =>
      intro o w cs h hl
      simp only [List.length_cons] at hl
      have h2 := ih (o + 1) (w.setCell ⟨b, o, none⟩ x) (cs.set o x) (Bk.put h o x) (by rw [List.length_set]; omega)
      have e : (cs.set o x).take (o + 1) ++ r ++ (cs.set o x).drop (o + 1 + r.length) = cs.take o ++ x :: r ++ cs.drop (o + (x :: r).length) := by
        rw [List.take_add_one, List.take_set_of_le (by omega), List.getElem?_set_self (by omega), List.drop_set_of_lt (by omega), List.length_cons, show o + 1 + r.length = o + (r.length + 1) by omega]
        simp
      rw [e] at h2
      exact h2
  have l1 := usL_len us
  have l2 := usL_len vs
  have := key (usL vs) 0 w _ h (by rw [List.length_append]; omega)
  unfold BF
  rw [List.take_zero, List.nil_append, Nat.zero_add, List.drop_append_of_le_length (by omega), List.drop_of_length_le (by omega), List.nil_append] at this
  exact this
theorem setCells_far (b r o : Nat) (hb : b ≠ r) : ∀ (xs : List Value) (o : Nat) (w : World), (w.setCells r o xs).heap[b]? = w.heap[b]? := by
  intro xs
  induction xs with
  | nil => intro o w; rfl
  | cons x xs ih => intro o w; exact (ih (o + 1) _).trans (Below.heap_setCell w ⟨r, o, none⟩ x b hb)
def RelSu (w : World) (tb : Nat) (l : List (List (Int × Int))) (i : Value) (wr : World) : Prop := ∃ k : Nat, i = .int .i64 k ∧ k ≤ l.length ∧ Hid (BF wr w.heap.size z00 nilS ∧ BF wr tb (sumU (l.take k)) nilS ∧ Below w.heap.size w wr)
theorem RelSu.mk {w : World} {tb : Nat} {l : List (List (Int × Int))} {i : Value} {wr : World} (k : Nat) (h1 : i = .int .i64 k) (h2 : k ≤ l.length) (h3 : BF wr w.heap.size z00 nilS) (h4 : BF wr tb (sumU (l.take k)) nilS) (h5 : Below w.heap.size w wr) : RelSu w tb l i wr := ⟨k, h1, h2, h3, h4, h5⟩
set_option maxRecDepth 100000 in
set_option maxHeartbeats 8000000 in
theorem sum0_any (l : List (List (Int × Int))) (v : Value) (w : World) (hN : Nth w) (hv : PF w v l) : Calls Tryd.prog 28 #[v] w fun e w' => e = .returned (foV (sumU l) nilS) ∧ Below w.heap.size w w' := by
  have CZ := hide (fun (W : World) (h : Below w.heap.size w W) => zero_any W (hN.low h))
  rw [show foV z01 nilS = .agg #[.int .i64 0, .int .i64 1, .int .i64 0, .int .i64 1, .int .i64 0, .int .i64 1, .int .i64 0, .int .i64 1, .int .i64 0, .int .i64 1, .int .i64 0, .int .i64 1, .int .i64 0, .int .i64 1, .slice none 0 0] from rfl] at CZ
  have HV := hide hv
  have AU := hide (show ∀ k, Us (sumU (l.take k)) from fun k => sumU_us (fun x hx => by
    obtain ⟨i, hi, rfl⟩ := List.mem_iff_getElem.1 hx
    have hi2 : i < l.length := by rw [List.length_take] at hi; omega
    obtain ⟨_, _, _, _, _, _, _, hu, _⟩ := RowOf.at hv (i := i) (x := l[i]) (List.getElem?_eq_getElem hi2)
    rw [List.getElem_take]; exact hu.1) _ zus)
  obtain ⟨a, c, rfl, h9⟩ := RowOf.shape hv
  clear hv hN
  obtain ⟨W1, hW1⟩ : ∃ W1, w.alloc (.cells #[.int .i64 0, .int .i64 0, .int .i64 0, .int .i64 0, .int .i64 0, .int .i64 0, .int .i64 0, .int .i64 0, .int .i64 0, .int .i64 0, .int .i64 0, .int .i64 0, .int .i64 0, .int .i64 0, .slice none 0 0] 29) = W1 := ⟨_, rfl⟩
  have B0 := hide (show Below w.heap.size w W1 by rw [← hW1]; exact bplus (Below.refl _ _) _)
  have P1 := hide (show BF W1 w.heap.size z00 nilS by rw [← hW1]; exact Bk.new w _ _)
  have HW1 := hide hW1
  obtain ⟨SU, hSU⟩ : ∃ x, sumU l = x := ⟨_, rfl⟩
  rw [hSU]
  have HSU := hide hSU
  clear hW1 hSU
  go_enter Tryd.func28, Tryd.ntmps28
  go_upto_region 1 with fail
  rw [HW1.out]
  clear HW1
  go_upto_region 2 with (go_at_call 7; refine (CZ.out _ B0.out).mono ?_; rintro e wz ⟨rfl, BZ⟩; replace BZ := hide BZ; clear CZ)
  have hz : w.heap.size < wz.heap.size := Nat.lt_of_lt_of_le (Bk.lt P1.out) BZ.out.size
  have B2 := hide (show Below w.heap.size w (wz.alloc (.cells #[.int .i64 0, .int .i64 1, .int .i64 0, .int .i64 1, .int .i64 0, .int .i64 1, .int .i64 0, .int .i64 1, .int .i64 0, .int .i64 1, .int .i64 0, .int .i64 1, .int .i64 0, .int .i64 1, .slice none 0 0] 29)) from bplus (bto B0.out BZ.out) _)
  have F0 := hide (show BF (wz.alloc (.cells #[.int .i64 0, .int .i64 1, .int .i64 0, .int .i64 1, .int .i64 0, .int .i64 1, .int .i64 0, .int .i64 1, .int .i64 0, .int .i64 1, .int .i64 0, .int .i64 1, .int .i64 0, .int .i64 1, .slice none 0 0] 29)) wz.heap.size z01 nilS from Bk.new wz _ _)
  have F1 := hide (show BF (wz.alloc (.cells #[.int .i64 0, .int .i64 1, .int .i64 0, .int .i64 1, .int .i64 0, .int .i64 1, .int .i64 0, .int .i64 1, .int .i64 0, .int .i64 1, .int .i64 0, .int .i64 1, .int .i64 0, .int .i64 1, .slice none 0 0] 29)) w.heap.size z00 nilS from (Bk.up P1.out BZ.out).more _)
  clear P1 B0 BZ
  generalize wz.alloc (.cells #[.int .i64 0, .int .i64 1, .int .i64 0, .int .i64 1, .int .i64 0, .int .i64 1, .int .i64 0, .int .i64 1, .int .i64 0, .int .i64 1, .int .i64 0, .int .i64 1, .int .i64 0, .int .i64 1, .slice none 0 0] 29) = W2 at *
  generalize wz.heap.size = tb at *
  go_wp2_with fail
  go_loopw [9] (fun i wr => RelSu w tb l i wr) (fun i _ => l.length - (intOf i).toNat)
  case atStart => exact .mk 0 rfl (by omega) F1.out F0.out B2.out
  case round =>
    obtain ⟨k, rfl, hk, R⟩ := hrel
    have Q0 := hide R.out.1
    have Q1 := hide R.out.2.1
    have BW := hide R.out.2.2
    clear R F0 F1 B2
    by_cases hlt : k < l.length
    · have hlt' : (k : Int) < l.length := by omega
      obtain ⟨x, hx⟩ : ∃ x, l[k]? = some x := ⟨_, List.getElem?_eq_getElem hlt⟩
      obtain ⟨b, o, c', hv', hb, -, -, hu, hu14⟩ := RowOf.at HV.out hx
      obtain ⟨rfl, rfl⟩ : a = some ⟨b, o, none⟩ ∧ c = c' := by cases hv'; exact ⟨rfl, rfl⟩
      have f14 : wr.cell? ⟨b, o + k * 15 + 14, none⟩ = some (.slice none 0 0) := (BW.out.cell (p := ⟨b, o + k * 15 + 14, none⟩) hb).trans hu14
      have hbw : b < wr.heap.size := by have := BW.out.size; omega
      have nb : b ≠ wr.heap.size := by omega
      have htb : tb < wr.heap.size := Bk.lt Q1.out
      have ntb : tb ≠ wr.heap.size := by omega
      have XU := hide hu.1
      have ST := hide (sumU_step hx)
      have A7 : (sumU (l.take k)).length = 7 := (AU.out k).1
      have A8 := hide (AU.out k)
      have A9 : (sumU (l.take (k + 1))).length = 7 := (AU.out (k + 1)).1
      obtain ⟨S1, hS1⟩ : ∃ S1, sumU (l.take (k + 1)) = S1 := ⟨_, rfl⟩
      obtain ⟨S0, hS0⟩ : ∃ S0, sumU (l.take k) = S0 := ⟨_, rfl⟩
      rw [hS1] at ST A9
      rw [hS0] at ST A7 A8 Q1
      have CP := hide (fun (W : World) => plus_any S0 x W A8.out XU.out)
      rw [← ST.out] at CP
      obtain ⟨n0, d0, n1, d1, n2, d2, n3, d3, n4, d4, n5, d5, n6, d6, rfl⟩ := us7 XU.out
      obtain ⟨f0, f1, f2, f3, f4, f5, f6, f7, f8, f9, f10, f11, f12, f13⟩ := (hu.below BW.out hb).fa
      rw [usV_eq] at CP
      unfold usV at CP
      have HS1 := hide hS1
      clear hS1 hS0 hx hv' hu hu14
      obtain ⟨W4, hW4⟩ : ∃ W4, wr.alloc (.cells #[.int .i64 n0, .int .i64 d0, .int .i64 n1, .int .i64 d1, .int .i64 n2, .int .i64 d2, .int .i64 n3, .int .i64 d3, .int .i64 n4, .int .i64 d4, .int .i64 n5, .int .i64 d5, .int .i64 n6, .int .i64 d6, .slice none 0 0] 29) = W4 := ⟨_, rfl⟩
      have HW4 := hide hW4
      have R1 := hide (show BF W4 tb S0 nilS by rw [← hW4]; exact Bk.more Q1.out _)
      have R0 := hide (show BF W4 w.heap.size z00 nilS by rw [← hW4]; exact Bk.more Q0.out _)
      have R2 := hide (show BF W4 wr.heap.size [(n0, d0), (n1, d1), (n2, d2), (n3, d3), (n4, d4), (n5, d5), (n6, d6)] nilS by rw [← hW4]; exact Bk.new wr _ _)
      have RB := hide (show Below w.heap.size w W4 by rw [← hW4]; exact bplus BW.out _)
      clear hW4 Q0 Q1 BW
      go_upto_region 5 with fail
      rw [show wr.alloc (.cells #[.int .i64 n0, .int .i64 d0, .int .i64 n1, .int .i64 d1, .int .i64 n2, .int .i64 d2, .int .i64 n3, .int .i64 d3, .int .i64 n4, .int .i64 d4, .int .i64 n5, .int .i64 d5, .int .i64 n6, .int .i64 d6, .slice none 0 0] 29) = W4 from HW4.out]
      clear HW4 f0 f1 f2 f3 f4 f5 f6 f7 f8 f9 f10 f11 f12 f13 f14
      have H7 : (Tryd.prog.info? 26).map (·.size) = some (usL S0).length := by rw [usL_len, A7]; kernel_rfl
      have H8 : (Tryd.prog.info? 26).map (·.size) = some (usL [(n0, d0), (n1, d1), (n2, d2), (n3, d3), (n4, d4), (n5, d5), (n6, d6)]).length := by kernel_rfl
      have H9 : (Tryd.prog.info? 26).map (·.size) = some (usL S1).toArray.size := by rw [List.size_toArray, usL_len, A9]; kernel_rfl
      replace H7 := hide H7
      replace H8 := hide H8
      replace H9 := hide H9
      have OC := hide (show (usL S1).toArray.all (·.oneCell') = true from all_oneCell_toArray (fun v hv => us_one (u := nilS) rfl v (List.mem_append_left _ hv)))
      have TH := hide (fun (W : World) (h : Below W4.heap.size W4 W) => show W.there tb 0 (usL S1).toArray.size by rw [List.size_toArray, usL_len, A9]; exact BF.there (Bk.up R1.out h) A7)
      generalize wr.heap.size = xb at *
      go_upto_region 6 with (first
        | (refine wpList_load_mid rfl 26 (.tmp 13) rfl tb 0 rfl (usL S0) _ (BF.pre R1.out) Tryd.underlying26 rfl H7.out ?_)
        | (refine wpList_load_mid rfl 26 (.tmp 15) rfl xb 0 rfl (usL [(n0, d0), (n1, d1), (n2, d2), (n3, d3), (n4, d4), (n5, d5), (n6, d6)]) _ (BF.pre R2.out) Tryd.underlying26 rfl H8.out ?_)
        | (go_at_call 42; refine (CP.out _).mono ?_; rintro e w5 ⟨rfl, B5⟩; replace B5 := hide B5)
        | (refine wpList_store_mid rfl 26 (.tmp 18) (.tmp 17) rfl tb 0 (usL S1).toArray rfl rfl (TH.out _ B5.out) H9.out OC.out ?_))
      have G1 := hide (show BF (w5.setCells tb 0 (usL S1)) tb S1 nilS from BF.all (Bk.up R1.out B5.out) A7 A9)
      have G0 := hide (show BF (w5.setCells tb 0 (usL S1)) w.heap.size z00 nilS from (setCells_far _ _ 0 (by omega) _ _ _).trans (Bk.up R0.out B5.out))
      have G2 := hide (show BF (w5.setCells tb 0 (usL S1)) xb [(n0, d0), (n1, d1), (n2, d2), (n3, d3), (n4, d4), (n5, d5), (n6, d6)] nilS from (setCells_far _ _ 0 (by omega) _ _ _).trans (Bk.up R2.out B5.out))
      have GB := hide (show Below w.heap.size w (w5.setCells tb 0 (usL S1)) from (bto RB.out B5.out).grown (setCells_grown _ _ _ _) (bto RB.out B5.out).size (fun k hk => by cases hk; omega))
      (try rw [show (usL S1).toArray.toList = usL S1 from rfl])
      clear R1 R0 R2 RB B5 CP TH OC H7 H8 H9
      generalize w5.setCells tb 0 (usL S1) = W6 at *
      have e1 : W6.cell? ⟨tb, 14, none⟩ = some (.slice none 0 0) := BF.last G1.out A9
      have e2 : W6.cell? ⟨xb, 14, none⟩ = some (.slice none 0 0) := BF.last G2.out rfl
      have z1 := Bk.fz G1.out 14
      have N1 := hide (show BF (W6.setCell ⟨tb, 14, none⟩ (.slice none 0 0)) tb S1 nilS by
        have := Bk.put G1.out 14 (.slice none 0 0)
        rw [List.set_append_right _ _ (by rw [usL_len, A9]; omega), usL_len, A9] at this
        exact this)
      have N0 := hide (show BF (W6.setCell ⟨tb, 14, none⟩ (.slice none 0 0)) w.heap.size z00 nilS from Bk.far G0.out (by omega) _ _)
      have NB := hide (show Below w.heap.size w (W6.setCell ⟨tb, 14, none⟩ (.slice none 0 0)) from GB.out.setCell (by simp; omega) _)
      rw [← HS1.out] at N1
      clear G0 G1 G2 GB HS1 A9
      have hI : (Tryd.prog.info? 41).isSome = true := by kernel_rfl
      obtain ⟨i1, hj⟩ := Option.isSome_iff_exists.1 hI
      go_wp2_with (at_builtin; refine wpList_append_own_none rfl (.tmp 20) (.tmp 22) 27 rfl 0 41 i1 2 Tryd.underlying27 hj (.slice none 0 0) 0 [] rfl (World.ownsRow_nil _ _ _ _) rfl ?_)
      go_roundw
      case rel => exact .mk (k + 1) (by go_num) (by omega) N0.out N1.out NB.out
      case measure => simp [intOf]; omega
    · obtain rfl : k = l.length := by omega
      have hlt' : ¬ ((l.length : Nat) : Int) < l.length := by omega
      have EQ : sumU (l.take l.length) = SU := by rw [List.take_length]; exact HSU.out
      rw [EQ] at Q1
      have A7 : SU.length = 7 := by rw [← EQ]; exact (AU.out _).1
      have q0 := hide (show wr.heap[tb]? = some (.cells (usL SU ++ [nilS]).toArray 29) from Q1.out)
      have q2 := hide (show wr.heap[w.heap.size]? = some (.cells (usL z00 ++ [nilS]).toArray 29) from Q0.out)
      have l3 : (usL SU ++ [nilS]).length = 15 := by rw [List.length_append, usL_len, A7]; rfl
      clear Q0 Q1 EQ
      go_upto_region 8 with fail
      refine wp_region_list ?_
      refine wpList_load_mid rfl 29 (.tmp 3) rfl tb 0 rfl (usL SU ++ [nilS]) _ (range_blk q0.out) Tryd.underlying29 rfl (by rw [l3]; kernel_rfl) ?_
      refine wpList_store_mid rfl 29 (.tmp 2) (.tmp 26) rfl w.heap.size 0 (usL SU ++ [nilS]).toArray rfl rfl (there_blk q2.out (by simp only [List.size_toArray, l3]; rfl)) (by rw [List.size_toArray, l3]; kernel_rfl) (all_oneCell_toArray (us_one rfl)) ?_
      go_wp2_with fail
      refine ret_cell (b := w.heap.size) (cs := usL SU ++ [nilS]) Tryd.results28 rfl (World.rangeAt_setCells_same _ _ _ _ (there_blk q2.out (by simp only [List.size_toArray, l3]; rfl))) Tryd.underlying29 rfl (by rw [l3]; kernel_rfl) rfl ?_
      exact ⟨rfl, BW.out.grown (setCells_grown _ _ _ _) BW.out.size (fun k hk => by cases hk; simp)⟩
end Go.Proofs.YticgcokhdipomaaDoor.nm
