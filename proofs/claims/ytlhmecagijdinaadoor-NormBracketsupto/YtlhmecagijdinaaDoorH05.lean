/-
  The sum of plain forms: by the program.
  The form of a number with a unit; of a sum of three: by the program.
  The form of a sum of three numbers with units; kinds: by the program.
-/
import Derived.Test.YtlhmecagijdinaaDoorH04
import Derived.Laws.AppendOwnNone
import Derived.Test.YtlhmecagijdinaaDoorN20
import Derived.Deep.OwnRows
set_option linter.unusedVariables false
set_option linter.unusedSimpArgs false
namespace Go.Proofs.YtlhmecagijdinaaDoor.nm
open Go.RowKit

/-- A slice of plain forms. -/
def PF (w : World) (v : Value) (l : List (List (Int × Int))) : Prop := RowOf w 15 (fun b o us => Un w b o us ∧ w.cell? ⟨b, o + 14, none⟩ = some nilS) v l
theorem PF.low {w w' : World} {v : Value} {l : List (List (Int × Int))} (h : PF w v l) (hw : Below w.heap.size w w') : PF w' v l :=
  RowOf.mono h hw.size (fun b o x hb _ hx => ⟨hx.1.below hw hb, (hw.cell (p := ⟨b, o + 14, none⟩) hb).trans hx.2⟩)
def sumU (l : List (List (Int × Int))) : List (Int × Int) := l.foldl plU z01
theorem sumU_us {l : List (List (Int × Int))} (h : ∀ x ∈ l, Us x) : ∀ z, Us z → Us (l.foldl plU z) := by
  induction l with
  | nil => intro z hz; exact hz
  | cons x r ih => intro z hz; exact ih (fun y hy => h y (by simp [hy])) _ (plU_us hz (h x (by simp)))
theorem sumU_step {l : List (List (Int × Int))} {k : Nat} {x : List (Int × Int)} (h : l[k]? = some x) : sumU (l.take (k + 1)) = plU (sumU (l.take k)) x := by
  unfold sumU
  rw [List.take_add_one, h, List.foldl_append]
  rfl
/-- The first seven fractions of a form in a block of its own. -/
theorem BF.pre {w : World} {b : Nat} {us : List (Int × Int)} {u : Value} (h : BF w b us u) : w.rangeAt b 0 (usL us) := fun j v hv => by
  rw [Nat.zero_add, Bk.cell h, List.getElem?_append_left (List.getElem?_eq_some_iff.1 hv).1, hv]
theorem BF.there {w : World} {b : Nat} {us : List (Int × Int)} {u : Value} (h : BF w b us u) (hu : us.length = 7) : w.there b 0 14 := fun j hj => by
  have hl := usL_len us
  refine ⟨?_, by rw [Nat.zero_add]; exact Bk.fz h j⟩
  rw [Nat.zero_add, Bk.cell h, List.getElem?_eq_getElem (by rw [List.length_append]; omega)]; rfl
/-- Seven fractions are put into a form's. -/
theorem BF.all {w : World} {b : Nat} {us vs : List (Int × Int)} {u : Value} (h : BF w b us u) (hu : us.length = 7) (hv : vs.length = 7) : BF (w.setCells b 0 (usL vs)) b vs u := by
  have key : ∀ (xs : List Value) (o : Nat) (w : World) (cs : List Value), Bk w b 30 cs → o + xs.length ≤ cs.length → Bk (w.setCells b o xs) b 30 (cs.take o ++ xs ++ cs.drop (o + xs.length)) := by
    intro xs
    induction xs with
    | nil => intro o w cs h _; simpa [World.setCells] using h
    | cons x r ih =>
      intro o w cs h hl
      simp only [List.length_cons] at hl
      have h2 := ih (o + 1) (w.setCell ⟨b, o, none⟩ x) (cs.set o x) (Bk.put h o x) (by rw [List.length_set]; omega)
      have e : (cs.set o x).take (o + 1) ++ r ++ (cs.set o x).drop (o + 1 + r.length) = cs.take o ++ x :: r ++ cs.drop (o + (x :: r).length) := by
        rw [List.take_add_one, List.take_set_of_le (by omega), List.getElem?_set_self (by omega), List.drop_set_of_lt (by omega), List.length_cons, show o + 1 + r.length = o + (r.length + 1) by omega]
        simp
      rw [e] at h2
      exact h2
  have l1 := usL_len us
  have l2 := usL_len vs
  have := key (usL vs) 0 w _ h (by rw [List.length_append]; omega)
  unfold BF
  rw [List.take_zero, List.nil_append, Nat.zero_add, List.drop_append_of_le_length (by omega), List.drop_of_length_le (by omega), List.nil_append] at this
  exact this
theorem setCells_far (b r o : Nat) (hb : b ≠ r) : ∀ (xs : List Value) (o : Nat) (w : World), (w.setCells r o xs).heap[b]? = w.heap[b]? := by
  intro xs
  induction xs with
  | nil => intro o w; rfl
  | cons x xs ih => intro o w; exact (ih (o + 1) _).trans (Below.heap_setCell w ⟨r, o, none⟩ x b hb)
def RelSu (w : World) (tb : Nat) (l : List (List (Int × Int))) (i : Value) (wr : World) : Prop := ∃ k : Nat, i = .int .i64 k ∧ k ≤ l.length ∧ Hid (BF wr w.heap.size z00 nilS ∧ BF wr tb (sumU (l.take k)) nilS ∧ Below w.heap.size w wr)
theorem RelSu.mk {w : World} {tb : Nat} {l : List (List (Int × Int))} {i : Value} {wr : World} (k : Nat) (h1 : i = .int .i64 k) (h2 : k ≤ l.length) (h3 : BF wr w.heap.size z00 nilS) (h4 : BF wr tb (sumU (l.take k)) nilS) (h5 : Below w.heap.size w wr) : RelSu w tb l i wr := ⟨k, h1, h2, h3, h4, h5⟩
set_option maxRecDepth 100000 in
set_option maxHeartbeats 8000000 in
theorem sum0_any (l : List (List (Int × Int))) (v : Value) (w : World) (hN : Nth w) (hv : PF w v l) : Calls Tryd.prog 29 #[v] w fun e w' => e = .returned (foV (sumU l) nilS) ∧ Below w.heap.size w w' := by
  have CZ := hide (fun (W : World) (h : Below w.heap.size w W) => zero_any W (hN.low h))
  rw [show foV z01 nilS = .agg #[.int .i64 0, .int .i64 1, .int .i64 0, .int .i64 1, .int .i64 0, .int .i64 1, .int .i64 0, .int .i64 1, .int .i64 0, .int .i64 1, .int .i64 0, .int .i64 1, .int .i64 0, .int .i64 1, .slice none 0 0] from rfl] at CZ
  have HV := hide hv
  have AU := hide (show ∀ k, Us (sumU (l.take k)) from fun k => sumU_us (fun x hx => by
    obtain ⟨i, hi, rfl⟩ := List.mem_iff_getElem.1 hx
    have hi2 : i < l.length := by rw [List.length_take] at hi; omega
    obtain ⟨_, _, _, _, _, _, _, hu, _⟩ := RowOf.at hv (i := i) (x := l[i]) (List.getElem?_eq_getElem hi2)
    rw [List.getElem_take]; exact hu.1) _ zus)
  obtain ⟨a, c, rfl, h9⟩ := RowOf.shape hv
  clear hv hN
  obtain ⟨W1, hW1⟩ : ∃ W1, w.alloc (.cells #[.int .i64 0, .int .i64 0, .int .i64 0, .int .i64 0, .int .i64 0, .int .i64 0, .int .i64 0, .int .i64 0, .int .i64 0, .int .i64 0, .int .i64 0, .int .i64 0, .int .i64 0, .int .i64 0, .slice none 0 0] 30) = W1 := ⟨_, rfl⟩
  have B0 := hide (show Below w.heap.size w W1 by rw [← hW1]; exact bplus (Below.refl _ _) _)
  have P1 := hide (show BF W1 w.heap.size z00 nilS by rw [← hW1]; exact Bk.new w _ _)
  have HW1 := hide hW1
  obtain ⟨SU, hSU⟩ : ∃ x, sumU l = x := ⟨_, rfl⟩
  rw [hSU]
  have HSU := hide hSU
  clear hW1 hSU
  go_enter Tryd.func29, Tryd.ntmps29
  go_upto_region 1 with fail
  rw [HW1.out]
  clear HW1
  go_upto_region 2 with (go_at_call 21; refine (CZ.out _ B0.out).mono ?_; rintro e wz ⟨rfl, BZ⟩; replace BZ := hide BZ; clear CZ)
  have hz : w.heap.size < wz.heap.size := Nat.lt_of_lt_of_le (Bk.lt P1.out) BZ.out.size
  have B2 := hide (show Below w.heap.size w (wz.alloc (.cells #[.int .i64 0, .int .i64 1, .int .i64 0, .int .i64 1, .int .i64 0, .int .i64 1, .int .i64 0, .int .i64 1, .int .i64 0, .int .i64 1, .int .i64 0, .int .i64 1, .int .i64 0, .int .i64 1, .slice none 0 0] 30)) from bplus (bto B0.out BZ.out) _)
  have F0 := hide (show BF (wz.alloc (.cells #[.int .i64 0, .int .i64 1, .int .i64 0, .int .i64 1, .int .i64 0, .int .i64 1, .int .i64 0, .int .i64 1, .int .i64 0, .int .i64 1, .int .i64 0, .int .i64 1, .int .i64 0, .int .i64 1, .slice none 0 0] 30)) wz.heap.size z01 nilS from Bk.new wz _ _)
  have F1 := hide (show BF (wz.alloc (.cells #[.int .i64 0, .int .i64 1, .int .i64 0, .int .i64 1, .int .i64 0, .int .i64 1, .int .i64 0, .int .i64 1, .int .i64 0, .int .i64 1, .int .i64 0, .int .i64 1, .int .i64 0, .int .i64 1, .slice none 0 0] 30)) w.heap.size z00 nilS from (Bk.up P1.out BZ.out).more _)
  clear P1 B0 BZ
  generalize wz.alloc (.cells #[.int .i64 0, .int .i64 1, .int .i64 0, .int .i64 1, .int .i64 0, .int .i64 1, .int .i64 0, .int .i64 1, .int .i64 0, .int .i64 1, .int .i64 0, .int .i64 1, .int .i64 0, .int .i64 1, .slice none 0 0] 30) = W2 at *
  generalize wz.heap.size = tb at *
  go_wp2_with fail
  go_loopw [9] (fun i wr => RelSu w tb l i wr) (fun i _ => l.length - (intOf i).toNat)
  case atStart => exact .mk 0 rfl (by omega) F1.out F0.out B2.out
  case round =>
    obtain ⟨k, rfl, hk, R⟩ := hrel
    have Q0 := hide R.out.1
    have Q1 := hide R.out.2.1
    have BW := hide R.out.2.2
    clear R F0 F1 B2
    by_cases hlt : k < l.length
    · have hlt' : (k : Int) < l.length := by omega
      obtain ⟨x, hx⟩ : ∃ x, l[k]? = some x := ⟨_, List.getElem?_eq_getElem hlt⟩
      obtain ⟨b, o, c', hv', hb, -, -, hu, hu14⟩ := RowOf.at HV.out hx
      obtain ⟨rfl, rfl⟩ : a = some ⟨b, o, none⟩ ∧ c = c' := by cases hv'; exact ⟨rfl, rfl⟩
      have f14 : wr.cell? ⟨b, o + k * 15 + 14, none⟩ = some (.slice none 0 0) := (BW.out.cell (p := ⟨b, o + k * 15 + 14, none⟩) hb).trans hu14
      have hbw : b < wr.heap.size := by have := BW.out.size; omega
      have nb : b ≠ wr.heap.size := by omega
      have htb : tb < wr.heap.size := Bk.lt Q1.out
      have ntb : tb ≠ wr.heap.size := by omega
      have XU := hide hu.1
      have ST := hide (sumU_step hx)
      have A7 : (sumU (l.take k)).length = 7 := (AU.out k).1
      have A8 := hide (AU.out k)
      have A9 : (sumU (l.take (k + 1))).length = 7 := (AU.out (k + 1)).1
      obtain ⟨S1, hS1⟩ : ∃ S1, sumU (l.take (k + 1)) = S1 := ⟨_, rfl⟩
      obtain ⟨S0, hS0⟩ : ∃ S0, sumU (l.take k) = S0 := ⟨_, rfl⟩
      rw [hS1] at ST A9
      rw [hS0] at ST A7 A8 Q1
      have CP := hide (fun (W : World) => plus_any S0 x W A8.out XU.out)
      rw [← ST.out] at CP
      obtain ⟨n0, d0, n1, d1, n2, d2, n3, d3, n4, d4, n5, d5, n6, d6, rfl⟩ := us7 XU.out
      obtain ⟨f0, f1, f2, f3, f4, f5, f6, f7, f8, f9, f10, f11, f12, f13⟩ := (hu.below BW.out hb).fa
      rw [usV_eq] at CP
      unfold usV at CP
      have HS1 := hide hS1
      clear hS1 hS0 hx hv' hu hu14
      obtain ⟨W4, hW4⟩ : ∃ W4, wr.alloc (.cells #[.int .i64 n0, .int .i64 d0, .int .i64 n1, .int .i64 d1, .int .i64 n2, .int .i64 d2, .int .i64 n3, .int .i64 d3, .int .i64 n4, .int .i64 d4, .int .i64 n5, .int .i64 d5, .int .i64 n6, .int .i64 d6, .slice none 0 0] 30) = W4 := ⟨_, rfl⟩
      have HW4 := hide hW4
      have R1 := hide (show BF W4 tb S0 nilS by rw [← hW4]; exact Bk.more Q1.out _)
      have R0 := hide (show BF W4 w.heap.size z00 nilS by rw [← hW4]; exact Bk.more Q0.out _)
      have R2 := hide (show BF W4 wr.heap.size [(n0, d0), (n1, d1), (n2, d2), (n3, d3), (n4, d4), (n5, d5), (n6, d6)] nilS by rw [← hW4]; exact Bk.new wr _ _)
      have RB := hide (show Below w.heap.size w W4 by rw [← hW4]; exact bplus BW.out _)
      clear hW4 Q0 Q1 BW
      go_upto_region 5 with fail
      rw [show wr.alloc (.cells #[.int .i64 n0, .int .i64 d0, .int .i64 n1, .int .i64 d1, .int .i64 n2, .int .i64 d2, .int .i64 n3, .int .i64 d3, .int .i64 n4, .int .i64 d4, .int .i64 n5, .int .i64 d5, .int .i64 n6, .int .i64 d6, .slice none 0 0] 30) = W4 from HW4.out]
      clear HW4 f0 f1 f2 f3 f4 f5 f6 f7 f8 f9 f10 f11 f12 f13 f14
      have H7 : (Tryd.prog.info? 27).map (·.size) = some (usL S0).length := by rw [usL_len, A7]; kernel_rfl
      have H8 : (Tryd.prog.info? 27).map (·.size) = some (usL [(n0, d0), (n1, d1), (n2, d2), (n3, d3), (n4, d4), (n5, d5), (n6, d6)]).length := by kernel_rfl
      have H9 : (Tryd.prog.info? 27).map (·.size) = some (usL S1).toArray.size := by rw [List.size_toArray, usL_len, A9]; kernel_rfl
      replace H7 := hide H7
      replace H8 := hide H8
      replace H9 := hide H9
      have OC := hide (show (usL S1).toArray.all (·.oneCell') = true from all_oneCell_toArray (fun v hv => us_one (u := nilS) rfl v (List.mem_append_left _ hv)))
      have TH := hide (fun (W : World) (h : Below W4.heap.size W4 W) => show W.there tb 0 (usL S1).toArray.size by rw [List.size_toArray, usL_len, A9]; exact BF.there (Bk.up R1.out h) A7)
      generalize wr.heap.size = xb at *
      go_upto_region 6 with (first
        | (refine wpList_load_mid rfl 27 (.tmp 13) rfl tb 0 rfl (usL S0) _ (BF.pre R1.out) Tryd.underlying27 rfl H7.out ?_)
        | (refine wpList_load_mid rfl 27 (.tmp 15) rfl xb 0 rfl (usL [(n0, d0), (n1, d1), (n2, d2), (n3, d3), (n4, d4), (n5, d5), (n6, d6)]) _ (BF.pre R2.out) Tryd.underlying27 rfl H8.out ?_)
        | (go_at_call 47; refine (CP.out _).mono ?_; rintro e w5 ⟨rfl, B5⟩; replace B5 := hide B5)
        | (refine wpList_store_mid rfl 27 (.tmp 18) (.tmp 17) rfl tb 0 (usL S1).toArray rfl rfl (TH.out _ B5.out) H9.out OC.out ?_))
      have G1 := hide (show BF (w5.setCells tb 0 (usL S1)) tb S1 nilS from BF.all (Bk.up R1.out B5.out) A7 A9)
      have G0 := hide (show BF (w5.setCells tb 0 (usL S1)) w.heap.size z00 nilS from (setCells_far _ _ 0 (by omega) _ _ _).trans (Bk.up R0.out B5.out))
      have G2 := hide (show BF (w5.setCells tb 0 (usL S1)) xb [(n0, d0), (n1, d1), (n2, d2), (n3, d3), (n4, d4), (n5, d5), (n6, d6)] nilS from (setCells_far _ _ 0 (by omega) _ _ _).trans (Bk.up R2.out B5.out))
      have GB := hide (show Below w.heap.size w (w5.setCells tb 0 (usL S1)) from (bto RB.out B5.out).grown (setCells_grown _ _ _ _) (bto RB.out B5.out).size (fun k hk => by cases hk; omega))
      (try rw [show (usL S1).toArray.toList = usL S1 from rfl])
      clear R1 R0 R2 RB B5 CP TH OC H7 H8 H9
      generalize w5.setCells tb 0 (usL S1) = W6 at *
      have e1 : W6.cell? ⟨tb, 14, none⟩ = some (.slice none 0 0) := BF.last G1.out A9
      have e2 : W6.cell? ⟨xb, 14, none⟩ = some (.slice none 0 0) := BF.last G2.out rfl
      have z1 := Bk.fz G1.out 14
      have N1 := hide (show BF (W6.setCell ⟨tb, 14, none⟩ (.slice none 0 0)) tb S1 nilS by
        have := Bk.put G1.out 14 (.slice none 0 0)
        rw [List.set_append_right _ _ (by rw [usL_len, A9]; omega), usL_len, A9] at this
        exact this)
      have N0 := hide (show BF (W6.setCell ⟨tb, 14, none⟩ (.slice none 0 0)) w.heap.size z00 nilS from Bk.far G0.out (by omega) _ _)
      have NB := hide (show Below w.heap.size w (W6.setCell ⟨tb, 14, none⟩ (.slice none 0 0)) from GB.out.setCell (by simp; omega) _)
      rw [← HS1.out] at N1
      clear G0 G1 G2 GB HS1 A9
      have hI : (Tryd.prog.info? 51).isSome = true := by kernel_rfl
      obtain ⟨i1, hj⟩ := Option.isSome_iff_exists.1 hI
      go_wp2_with (at_builtin; refine wpList_append_own_none rfl (.tmp 20) (.tmp 22) 28 rfl 0 51 i1 2 Tryd.underlying28 hj (.slice none 0 0) 0 [] rfl (World.ownsRow_nil _ _ _ _) rfl ?_)
      go_roundw
      case rel => exact .mk (k + 1) (by go_num) (by omega) N0.out N1.out NB.out
      case measure => simp [intOf]; omega
    · obtain rfl : k = l.length := by omega
      have hlt' : ¬ ((l.length : Nat) : Int) < l.length := by omega
      have EQ : sumU (l.take l.length) = SU := by rw [List.take_length]; exact HSU.out
      rw [EQ] at Q1
      have A7 : SU.length = 7 := by rw [← EQ]; exact (AU.out _).1
      have q0 := hide (show wr.heap[tb]? = some (.cells (usL SU ++ [nilS]).toArray 30) from Q1.out)
      have q2 := hide (show wr.heap[w.heap.size]? = some (.cells (usL z00 ++ [nilS]).toArray 30) from Q0.out)
      have l3 : (usL SU ++ [nilS]).length = 15 := by rw [List.length_append, usL_len, A7]; rfl
      clear Q0 Q1 EQ
      go_upto_region 8 with fail
      refine wp_region_list ?_
      refine wpList_load_mid rfl 30 (.tmp 3) rfl tb 0 rfl (usL SU ++ [nilS]) _ (range_blk q0.out) Tryd.underlying30 rfl (by rw [l3]; kernel_rfl) ?_
      refine wpList_store_mid rfl 30 (.tmp 2) (.tmp 26) rfl w.heap.size 0 (usL SU ++ [nilS]).toArray rfl rfl (there_blk q2.out (by simp only [List.size_toArray, l3]; rfl)) (by rw [List.size_toArray, l3]; kernel_rfl) (all_oneCell_toArray (us_one rfl)) ?_
      go_wp2_with fail
      refine ret_cell (b := w.heap.size) (cs := usL SU ++ [nilS]) Tryd.results29 rfl (World.rangeAt_setCells_same _ _ _ _ (there_blk q2.out (by simp only [List.size_toArray, l3]; rfl))) Tryd.underlying30 rfl (by rw [l3]; kernel_rfl) rfl ?_
      exact ⟨rfl, BW.out.grown (setCells_grown _ _ _ _) BW.out.size (fun k hk => by cases hk; simp)⟩
end Go.Proofs.YtlhmecagijdinaaDoor.nm
set_option linter.unusedVariables false
set_option linter.unusedSimpArgs false
namespace Go.Proofs.YtlhmecagijdinaaDoor.nm
open Go.RowKit

theorem Bk.puts {b : Nat} {T : TypeId} : ∀ (xs : List Value) (o : Nat) (w : World) (cs : List Value), Bk w b T cs → o + xs.length ≤ cs.length → Bk (w.setCells b o xs) b T (cs.take o ++ xs ++ cs.drop (o + xs.length)) := by
  intro xs
  induction xs with
  | nil => intro o w cs h _; simpa [World.setCells] using h
  | cons x r ih =>
    intro o w cs h hl
    simp only [List.length_cons] at hl
    have h2 := ih (o + 1) (w.setCell ⟨b, o, none⟩ x) (cs.set o x) (Bk.put h o x) (by rw [List.length_set]; omega)
    have e : (cs.set o x).take (o + 1) ++ r ++ (cs.set o x).drop (o + 1 + r.length) = cs.take o ++ x :: r ++ cs.drop (o + (x :: r).length) := by
      rw [List.take_add_one, List.take_set_of_le (by omega), List.getElem?_set_self (by omega), List.drop_set_of_lt (by omega), List.length_cons, show o + 1 + r.length = o + (r.length + 1) by omega]
      simp
    rw [e] at h2
    exact h2
/-- Plain forms, cell by cell. -/
def fl (fs : List (List (Int × Int))) : List Value := fs.flatMap fun us => usL us ++ [nilS]
theorem fl_len {fs : List (List (Int × Int))} (h : ∀ x ∈ fs, x.length = 7) : (fl fs).length = fs.length * 15 := by
  induction fs with
  | nil => rfl
  | cons x r ih =>
    have := ih (fun y hy => h y (by simp [hy]))
    have h7 := h x (by simp)
    simp only [fl, List.flatMap_cons, List.length_append, List.length_cons, List.length_nil] at this ⊢
    rw [usL_len, h7, this]; omega
theorem fl_put {fs : List (List (Int × Int))} (h : ∀ x ∈ fs, x.length = 7) {k : Nat} (hk : k < fs.length) (us : List (Int × Int)) (hu : us.length = 7) : (fl fs).take (k * 15) ++ (usL us ++ [nilS]) ++ (fl fs).drop (k * 15 + 15) = fl (fs.set k us) := by
  induction fs generalizing k with
  | nil => simp at hk
  | cons x r ih =>
    have h7 := h x (by simp)
    have lx : (usL x ++ [nilS]).length = 15 := by rw [List.length_append, usL_len, h7]; rfl
    cases k with
    | zero =>
      simp only [fl, List.flatMap_cons, List.set_cons_zero, Nat.zero_mul, List.take_zero, List.nil_append, Nat.zero_add]
      rw [List.drop_left' lx]
    | succ k =>
      have hi := ih (fun y hy => h y (by simp [hy])) (k := k) (by simpa using hk)
      simp only [fl, List.flatMap_cons, List.set_cons_succ] at hi ⊢
      rw [← hi, show (k + 1) * 15 = 15 + k * 15 by omega]
      rw [List.take_append, List.take_of_length_le (by omega), lx, show 15 + k * 15 - 15 = k * 15 by omega, show 15 + k * 15 + 15 = 15 + (k * 15 + 15) by omega]
      rw [List.drop_append, List.drop_of_length_le (by omega), lx, show 15 + (k * 15 + 15) - 15 = k * 15 + 15 by omega]
      simp
theorem fl_at {fs : List (List (Int × Int))} (h : ∀ x ∈ fs, x.length = 7) {k j : Nat} {us : List (Int × Int)} (hk : fs[k]? = some us) (hj : j < 15) : (fl fs)[k * 15 + j]? = (usL us ++ [nilS])[j]? := by
  induction fs generalizing k with
  | nil => simp at hk
  | cons x r ih =>
    have h7 := h x (by simp)
    have lx : (usL x ++ [nilS]).length = 15 := by rw [List.length_append, usL_len, h7]; rfl
    cases k with
    | zero =>
      simp at hk; subst hk
      simp only [fl, List.flatMap_cons, Nat.zero_mul, Nat.zero_add]
      rw [List.getElem?_append_left (by omega)]
    | succ k =>
      have hi := ih (fun y hy => h y (by simp [hy])) (k := k) (by simpa using hk)
      simp only [fl, List.flatMap_cons] at hi ⊢
      rw [List.getElem?_append_right (by omega), lx, show (k + 1) * 15 + j - 15 = k * 15 + j by omega, hi]
theorem pf_of {w : World} {b : Nat} {T : TypeId} {fs : List (List (Int × Int))} (h : Bk w b T (fl fs)) (hu : ∀ x ∈ fs, Us x) (h0 : 0 < fs.length) (h9 : fs.length ≤ 1000000000) : PF w (.slice (some ⟨b, 0, none⟩) fs.length fs.length) fs := by
  refine .inr ⟨b, 0, fs.length, rfl, h0, Bk.lt h, Nat.le_refl _, h9, by omega, fun i us hi => ?_⟩
  have h7 : ∀ x ∈ fs, x.length = 7 := fun x hx => (hu x hx).1
  have hus := hu us (List.mem_of_getElem? hi)
  refine ⟨⟨hus, fun j r hj => ?_⟩, ?_⟩
  · obtain ⟨rn, rd⟩ := r
    obtain ⟨e1, e2⟩ := usL_at hj
    have hj7 : j < 7 := by have := (List.getElem?_eq_some_iff.1 hj).1; rw [hus.1] at this; exact this
    have ll := usL_len us
    rw [hus.1] at ll
    refine ⟨?_, ?_⟩
    · rw [Bk.cell h, show 0 + i * 15 + j * 2 = i * 15 + j * 2 by omega, fl_at h7 hi (by omega), List.getElem?_append_left (by omega), e1]
    · rw [Bk.cell h, show 0 + i * 15 + j * 2 + 1 = i * 15 + (j * 2 + 1) by omega, fl_at h7 hi (by omega), List.getElem?_append_left (by omega), e2]
  · have ll := usL_len us
    rw [hus.1] at ll
    rw [Bk.cell h, show 0 + i * 15 + 14 = i * 15 + 14 by omega, fl_at h7 hi (by omega), List.getElem?_append_right (by omega), show 14 - (usL us).length = 0 by omega]
    rfl
set_option maxRecDepth 100000 in
set_option maxHeartbeats 8000000 in
theorem form_num (n d u : Int) (a : Option Addr) (m c : Nat) (w : World) (hN : Nth w) (hn : i64 n) (hd : i64 d) (hu : i64 u) : Calls Tryd.prog 16 #[.agg #[.int .i64 1, .int .i64 n, .int .i64 d, .int .i64 u, .slice a m c]] w fun e w' => e = .returned (foV (oneU u (n, d)) nilS) ∧ Below w.heap.size w w' := by
  have CO := hide (fun (W : World) (h : Below w.heap.size w W) => oneF_any u n d W (hN.low h) hu hn hd)
  have US := hide (one_us u n d hn hd)
  obtain ⟨OU, hOU⟩ : ∃ x, oneU u (n, d) = x := ⟨_, rfl⟩
  rw [hOU] at CO US ⊢
  unfold foV at CO ⊢
  obtain ⟨W1, hW1⟩ : ∃ W1, (w.alloc (.cells #[.int .i64 1, .int .i64 n, .int .i64 d, .int .i64 u, .slice a m c] 26)).alloc (.cells #[.int .i64 0, .int .i64 0, .int .i64 0, .int .i64 0, .int .i64 0, .int .i64 0, .int .i64 0, .int .i64 0, .int .i64 0, .int .i64 0, .int .i64 0, .int .i64 0, .int .i64 0, .int .i64 0, .slice none 0 0] 30) = W1 := ⟨_, rfl⟩
  have B0 := hide (show Below w.heap.size w W1 by rw [← hW1]; exact bplus (bplus (Below.refl _ _) _) _)
  have P0 := hide (show Bk W1 w.heap.size 26 [.int .i64 1, .int .i64 n, .int .i64 d, .int .i64 u, .slice a m c] by rw [← hW1]; exact (two_new w _ _).1)
  have P1 := hide (show BF W1 (w.heap.size + 1) z00 nilS by rw [← hW1]; exact (two_new w _ _).2)
  have HW1 := hide hW1
  have a0 := Bk.cell P0.out 0
  have a1 := Bk.cell P0.out 1
  have a2 := Bk.cell P0.out 2
  have a3 := Bk.cell P0.out 3
  simp at a0 a1 a2 a3
  have l3 : (usL OU ++ [nilS]).length = 15 := by rw [List.length_append, usL_len, US.out.1]; rfl
  have H9 : (Tryd.prog.info? 30).map (·.size) = some (usL OU ++ [nilS]).toArray.size := by rw [List.size_toArray, l3]; kernel_rfl
  replace H9 := hide H9
  have TH := hide (fun (W : World) (h : Below W1.heap.size W1 W) => show W.there (w.heap.size + 1) 0 (usL OU ++ [nilS]).toArray.size from there_blk (show W.heap[w.heap.size + 1]? = some (.cells (usL z00 ++ [nilS]).toArray 30) from Bk.up P1.out h) (by simp only [List.size_toArray, l3]; rfl))
  clear hW1 hN hOU
  go_enter Tryd.func16, Tryd.ntmps16
  go_upto_region 1 with fail
  rw [HW1.out]
  clear HW1
  go_wp2_with (first
    | (go_at_call 32; refine (CO.out _ B0.out).mono ?_; rintro e w5 ⟨rfl, B5⟩; replace B5 := hide B5)
    | (refine wpList_store_mid rfl 30 (.tmp 2) (.tmp 14) rfl (w.heap.size + 1) 0 (usL OU ++ [nilS]).toArray rfl rfl (TH.out _ B5.out) H9.out (all_oneCell_toArray (us_one rfl)) ?_))
  refine ret_cell (b := w.heap.size + 1) (cs := usL OU ++ [nilS]) Tryd.results16 rfl (World.rangeAt_setCells_same _ _ _ _ (TH.out _ B5.out)) Tryd.underlying30 rfl (by rw [l3]; kernel_rfl) rfl ?_
  exact ⟨rfl, (bto B0.out B5.out).grown (setCells_grown _ _ _ _) (bto B0.out B5.out).size (fun k hk => by cases hk; simp)⟩
end Go.Proofs.YtlhmecagijdinaaDoor.nm
set_option linter.unusedVariables false
set_option linter.unusedSimpArgs false
namespace Go.Proofs.YtlhmecagijdinaaDoor.nm
open Go.RowKit

theorem mk3 (W : World) : (Instr.makeSlice 49 (.int .i64 3) (.int .i64 3)).run Tryd.prog W = .ok (.slice (some ⟨W.heap.size, 0, none⟩) 3 3) (W.alloc (.cells (fl [z00, z00, z00]).toArray 30)) := by
  have hI : (Tryd.prog.info? 30).isSome = true := by kernel_rfl
  obtain ⟨i, hi⟩ := Option.isSome_iff_exists.1 hI
  have hz : (Tryd.prog.info? 30).map (fun i => (i.zero, i.size, i.bytes)) = some (some (.agg (usL z00 ++ [nilS]).toArray), 15, 136) := by kernel_rfl
  rw [hi] at hz
  simp only [Option.map_some, Option.some.injEq, Prod.mk.injEq] at hz
  obtain ⟨h1, h2, h3⟩ := hz
  have hr := run_make (P := Tryd.prog) W 49 30 i (.agg (usL z00 ++ [nilS]).toArray) Tryd.underlying49 hi h1 .i64 .i64 3 3 (by omega) (by omega) (by rw [h3]; decide) (by omega)
  have e : madeCells (Value.agg (usL z00 ++ [nilS]).toArray).cells (Int.toNat 3 * 15) = (fl [z00, z00, z00]).toArray := by kernel_rfl
  rw [h2, e] at hr
  exact hr
/-- Numbers with units. -/
def nuE (x : Int × Int × Int) : Ex := .mk 1 x.1 x.2.1 x.2.2 []
def onU (x : Int × Int × Int) : List (Int × Int) := oneU x.2.2 (x.1, x.2.1)
/-- The first k are told. -/
def flK (k : Nat) (xs : List (Int × Int × Int)) : List (List (Int × Int)) := (xs.take k).map onU ++ (xs.drop k).map (fun _ => z00)
theorem flK_step {k : Nat} {xs : List (Int × Int × Int)} {x : Int × Int × Int} (h : xs[k]? = some x) : (flK k xs).set k (onU x) = flK (k + 1) xs := by
  have hk := (List.getElem?_eq_some_iff.1 h).1
  unfold flK
  rw [List.set_append_right _ _ (by simp; omega), show k - ((xs.take k).map onU).length = 0 by simp; omega, drop_atE h, List.map_cons, List.set_cons_zero, List.take_add_one, h]
  simp
theorem flK_len (k : Nat) (xs : List (Int × Int × Int)) : (flK k xs).length = xs.length := by simp [flK]; omega
theorem flK_end (xs : List (Int × Int × Int)) : flK xs.length xs = xs.map onU := by simp [flK]
def Nu (x : Int × Int × Int) : Prop := i64 x.1 ∧ i64 x.2.1 ∧ i64 x.2.2
theorem flK_us {k : Nat} {xs : List (Int × Int × Int)} (h : ∀ x ∈ xs, Nu x) : ∀ y ∈ flK k xs, y.length = 7 := by
  intro y hy
  unfold flK at hy
  rcases List.mem_append.1 hy with hy | hy
  · obtain ⟨x, hx, rfl⟩ := List.mem_map.1 hy
    obtain ⟨h1, h2, h3⟩ := h x (List.mem_of_mem_take hx)
    exact (one_us _ _ _ h1 h2).1
  · obtain ⟨x, _, rfl⟩ := List.mem_map.1 hy
    rfl
def RelFo (w : World) (lb : Nat) (xs : List (Int × Int × Int)) (e5 : List Value) (i : Value) (wr : World) : Prop := ∃ k : Nat, i = .int .i64 k ∧ k ≤ xs.length ∧ Hid (Bk wr lb 30 (fl (flK k xs)) ∧ BF wr (w.heap.size + 1) z00 nilS ∧ Bk wr w.heap.size 26 e5 ∧ Below w.heap.size w wr)
theorem RelFo.mk {w : World} {lb : Nat} {xs : List (Int × Int × Int)} {e5 : List Value} {i : Value} {wr : World} (k : Nat) (h1 : i = .int .i64 k) (h2 : k ≤ xs.length) (h3 : Bk wr lb 30 (fl (flK k xs))) (h4 : BF wr (w.heap.size + 1) z00 nilS) (h5 : Bk wr w.heap.size 26 e5) (h6 : Below w.heap.size w wr) : RelFo w lb xs e5 i wr := ⟨k, h1, h2, h3, h4, h5, h6⟩
set_option maxRecDepth 100000 in
set_option maxHeartbeats 8000000 in
theorem form_sum3 (xs : List (Int × Int × Int)) (hx3 : xs.length = 3) (v : Value) (w : World) (hN : Nth w) (hxs : ∀ x ∈ xs, Nu x) (hv : EM w v (xs.map nuE)) : Calls Tryd.prog 16 #[.agg #[.int .i64 2, .int .i64 0, .int .i64 0, .int .i64 0, v]] w fun e w' => e = .returned (foV (sumU (xs.map onU)) nilS) ∧ Below w.heap.size w w' := by
  have CF := hide (fun (n d u : Int) (a : Option Addr) (m c : Nat) (W : World) (h : Below w.heap.size w W) => form_num n d u a m c W (hN.low h))
  have CS := hide (fun (W : World) (h : Below w.heap.size w W) => fun (v : Value) (hv : PF W v (xs.map onU)) => sum0_any (xs.map onU) v W (hN.low h) hv)
  have HV := hide hv
  obtain ⟨a, c, rfl, h9⟩ := hv.shape
  have AU := hide (show Us (sumU (xs.map onU)) from sumU_us (fun y hy => by
    obtain ⟨x, hx, rfl⟩ := List.mem_map.1 hy
    obtain ⟨h1, h2, h3⟩ := hxs x hx
    exact one_us _ _ _ h1 h2) _ zus)
  have AO := hide (show ∀ y ∈ xs.map onU, Us y from fun y hy => by
    obtain ⟨x, hx, rfl⟩ := List.mem_map.1 hy
    obtain ⟨h1, h2, h3⟩ := hxs x hx
    exact one_us _ _ _ h1 h2)
  have l4 : (xs.map nuE).length = 3 := by rw [List.length_map]; exact hx3
  rw [l4]
  rw [l4] at HV
  have HX := hide hxs
  have H3 := hide hx3
  clear hv hN hxs l4 h9
  obtain ⟨SU, hSU⟩ : ∃ x, sumU (xs.map onU) = x := ⟨_, rfl⟩
  rw [hSU] at CS AU ⊢
  unfold foV at CS CF ⊢
  clear hSU
  obtain ⟨W1, hW1⟩ : ∃ W1, (w.alloc (.cells #[.int .i64 2, .int .i64 0, .int .i64 0, .int .i64 0, .slice a (3 : Nat) c] 26)).alloc (.cells #[.int .i64 0, .int .i64 0, .int .i64 0, .int .i64 0, .int .i64 0, .int .i64 0, .int .i64 0, .int .i64 0, .int .i64 0, .int .i64 0, .int .i64 0, .int .i64 0, .int .i64 0, .int .i64 0, .slice none 0 0] 30) = W1 := ⟨_, rfl⟩
  have B0 := hide (show Below w.heap.size w W1 by rw [← hW1]; exact bplus (bplus (Below.refl _ _) _) _)
  have P0 := hide (show Bk W1 w.heap.size 26 [.int .i64 2, .int .i64 0, .int .i64 0, .int .i64 0, .slice a (3 : Nat) c] by rw [← hW1]; exact (two_new w _ _).1)
  have P1 := hide (show BF W1 (w.heap.size + 1) z00 nilS by rw [← hW1]; exact (two_new w _ _).2)
  have HW1 := hide hW1
  have a0 := Bk.cell P0.out 0
  have a4 := Bk.cell P0.out 4
  simp at a0 a4
  clear hW1
  go_enter Tryd.func16, Tryd.ntmps16
  go_upto_region 1 with fail
  rw [show (w.alloc (.cells #[.int .i64 2, .int .i64 0, .int .i64 0, .int .i64 0, .slice a 3 c] 26)).alloc (.cells #[.int .i64 0, .int .i64 0, .int .i64 0, .int .i64 0, .int .i64 0, .int .i64 0, .int .i64 0, .int .i64 0, .int .i64 0, .int .i64 0, .int .i64 0, .int .i64 0, .int .i64 0, .int .i64 0, .slice none 0 0] 30) = W1 from HW1.out]
  clear HW1
  have MK := mk3 W1
  have F0 : flK 0 xs = [z00, z00, z00] := by
    match xs, H3.out with
    | [x0, x1, x2], _ => rfl
  have hlb : w.heap.size + 1 < W1.heap.size := Bk.lt P1.out
  have K0 := hide (show Bk (W1.alloc (.cells (fl [z00, z00, z00]).toArray 30)) W1.heap.size 30 (fl (flK 0 xs)) by rw [F0]; exact Bk.new W1 _ _)
  have K1 := hide (show BF (W1.alloc (.cells (fl [z00, z00, z00]).toArray 30)) (w.heap.size + 1) z00 nilS from Bk.more P1.out _)
  have K2 := hide (show Bk (W1.alloc (.cells (fl [z00, z00, z00]).toArray 30)) w.heap.size 26 [.int .i64 2, .int .i64 0, .int .i64 0, .int .i64 0, .slice a (3 : Nat) c] from Bk.more P0.out _)
  have K3 := hide (show Below w.heap.size w (W1.alloc (.cells (fl [z00, z00, z00]).toArray 30)) from bplus B0.out _)
  go_upto_region 7 with fail
  clear MK F0 P0 P1 B0 a0 a4
  generalize W1.alloc (.cells (fl [z00, z00, z00]).toArray 30) = W2 at *
  generalize W1.heap.size = lb at *
  have a4 := Bk.cell K2.out 4
  simp at a4
  go_wp2_with fail
  go_loopw [27] (fun i wr => RelFo w lb xs [.int .i64 2, .int .i64 0, .int .i64 0, .int .i64 0, .slice a (3 : Nat) c] i wr) (fun i _ => 3 - (intOf i).toNat)
  case atStart => exact .mk 0 rfl (by omega) K0.out K1.out K2.out K3.out
  case round =>
    obtain ⟨k, rfl, hk, R⟩ := hrel
    have Q0 := hide R.out.1
    have Q1 := hide R.out.2.1
    have Q2 := hide R.out.2.2.1
    have BW := hide R.out.2.2.2
    clear R K0 K1 K2 K3 a4
    have h3 : xs.length = 3 := H3.out
    have L0 := hide (show (fl (flK k xs)).length = 45 by rw [fl_len (flK_us HX.out), flK_len, h3])
    by_cases hlt : k < 3
    · have hlt' : (k : Int) < 3 := by omega
      obtain ⟨x, hx⟩ : ∃ x, xs[k]? = some x := ⟨_, List.getElem?_eq_getElem (by omega)⟩
      obtain ⟨b, o, c', u5, hv', hb, -, -, xo, t5, hu5, hku⟩ := HV.out.at (i := k) (x := nuE x) (by rw [List.getElem?_map, hx]; rfl)
      obtain ⟨rfl, -, rfl⟩ := Value.slice.inj hv'
      obtain ⟨ua, uc, hus, -⟩ := hku.shape
      replace hus : u5 = .slice ua 0 uc := hus
      subst hus
      obtain ⟨i1, i2, i3⟩ := HX.out x (List.mem_of_getElem? hx)
      have FS := hide (flK_step hx)
      have L7 : (onU x).length = 7 := (one_us x.2.2 x.1 x.2.1 i1 i2).1
      have CI := hide (fun (W : World) (h : Below w.heap.size w W) => CF.out x.1 x.2.1 x.2.2 ua 0 uc W h i1 i2 i3)
      rw [show oneU x.2.2 (x.1, x.2.1) = onU x from rfl] at CI
      obtain ⟨c0, c1, c2, c3⟩ := t5.below BW.out hb
      have c4 := (BW.out.cell (p := ⟨b, o + k * 5 + 4, none⟩) hb).trans hu5
      replace c0 : wr.cell? ⟨b, o + k * 5, none⟩ = some (.int .i64 1) := c0
      replace c1 : wr.cell? ⟨b, o + k * 5 + 1, none⟩ = some (.int .i64 x.1) := c1
      replace c2 : wr.cell? ⟨b, o + k * 5 + 2, none⟩ = some (.int .i64 x.2.1) := c2
      replace c3 : wr.cell? ⟨b, o + k * 5 + 3, none⟩ = some (.int .i64 x.2.2) := c3
      have hbw : b < wr.heap.size := by have := BW.out.size; omega
      have nb : b ≠ wr.heap.size := by omega
      generalize onU x = OU at *
      have l3 : (usL OU ++ [nilS]).length = 15 := by rw [List.length_append, usL_len, L7]; rfl
      have H9 : (Tryd.prog.info? 30).map (·.size) = some (usL OU ++ [nilS]).toArray.size := by rw [List.size_toArray, l3]; kernel_rfl
      replace H9 := hide H9
      have TH := hide (fun (W : World) (h : Below wr.heap.size wr W) => show W.there lb (k * 15) (usL OU ++ [nilS]).toArray.size from fun j hj => by
        have q := Bk.up Q0.out h
        rw [List.size_toArray, l3] at hj
        refine ⟨?_, Bk.fz q _⟩
        rw [Bk.cell q, List.getElem?_eq_getElem (by rw [L0.out]; omega)]; rfl)
      have NX := hide (fun (W : World) (h : Below wr.heap.size wr W) => show Bk (W.setCells lb (k * 15) (usL OU ++ [nilS])) lb 30 (fl (flK (k + 1) xs)) by
        have q := Bk.puts (usL OU ++ [nilS]) (k * 15) W _ (Bk.up Q0.out h) (by rw [L0.out, l3]; omega)
        rw [l3, fl_put (flK_us HX.out) (by rw [flK_len]; omega) OU L7, FS.out] at q
        exact q)
      have NY := hide (fun (W : World) (h : Below wr.heap.size wr W) => show BF (W.setCells lb (k * 15) (usL OU ++ [nilS])) (w.heap.size + 1) z00 nilS from (setCells_far _ _ 0 (by omega) _ _ _).trans (Bk.up Q1.out h))
      have NZ := hide (fun (W : World) (h : Below wr.heap.size wr W) => show Bk (W.setCells lb (k * 15) (usL OU ++ [nilS])) w.heap.size 26 [.int .i64 2, .int .i64 0, .int .i64 0, .int .i64 0, .slice (some ⟨b, o, none⟩) (3 : Nat) c] from (setCells_far _ _ 0 (by omega) _ _ _).trans (Bk.up Q2.out h))
      have NB := hide (fun (W : World) (h : Below wr.heap.size wr W) => show Below w.heap.size w (W.setCells lb (k * 15) (usL OU ++ [nilS])) from (bto BW.out h).grown (setCells_grown _ _ _ _) (bto BW.out h).size (fun k hk => by cases hk; omega))
      clear Q0 Q1 Q2 L0 hx t5 hu5 hku FS xo
      (try clear hv')
      go_wp2_with (first
        | (go_at_call 16; refine (CI.out _ (bplus BW.out _)).mono ?_; rintro e w5 ⟨rfl, B5⟩; replace B5 := hide (bto (bplus (Below.refl wr.heap.size wr) _) B5))
        | (refine wpList_store_mid rfl 30 (.tmp 36) (.tmp 35) rfl lb (k * 15) (usL OU ++ [nilS]).toArray rfl rfl (TH.out _ B5.out) H9.out (all_oneCell_toArray (us_one rfl)) ?_))
      go_roundw
      case rel => exact .mk (k + 1) (by go_num) (by omega) (NX.out _ B5.out) (NY.out _ B5.out) (NZ.out _ B5.out) (NB.out _ B5.out)
      case measure => simp [intOf]; omega
    · obtain rfl : k = 3 := by omega
      have hlt' : ¬ ((3 : Nat) : Int) < 3 := by omega
      have b0 := Bk.cell Q2.out 0
      simp at b0
      have E3 : flK 3 xs = xs.map onU := by rw [← h3]; exact flK_end xs
      rw [E3] at Q0
      have CI := hide (CS.out wr BW.out (.slice (some ⟨lb, 0, none⟩) 3 3) (by
        have := pf_of Q0.out AO.out (by rw [List.length_map]; omega) (by rw [List.length_map]; omega)
        rwa [List.length_map, h3] at this))
      have L7 : SU.length = 7 := AU.out.1
      have l3 : (usL SU ++ [nilS]).length = 15 := by rw [List.length_append, usL_len, L7]; rfl
      have H9 : (Tryd.prog.info? 30).map (·.size) = some (usL SU ++ [nilS]).toArray.size := by rw [List.size_toArray, l3]; kernel_rfl
      replace H9 := hide H9
      have TH := hide (fun (W : World) (h : Below wr.heap.size wr W) => show W.there (w.heap.size + 1) 0 (usL SU ++ [nilS]).toArray.size from there_blk (show W.heap[w.heap.size + 1]? = some (.cells (usL z00 ++ [nilS]).toArray 30) from Bk.up Q1.out h) (by simp only [List.size_toArray, l3]; rfl))
      clear Q0 Q1 Q2 E3 L0 CS CF AO AU
      go_wp2_with (first
        | (go_at_call 29; refine CI.out.mono ?_; rintro e w5 ⟨rfl, B5⟩; replace B5 := hide B5)
        | (refine wpList_store_mid rfl 30 (.tmp 2) (.tmp 43) rfl (w.heap.size + 1) 0 (usL SU ++ [nilS]).toArray rfl rfl (TH.out _ B5.out) H9.out (all_oneCell_toArray (us_one rfl)) ?_))
      refine ret_cell (b := w.heap.size + 1) (cs := usL SU ++ [nilS]) Tryd.results16 rfl (World.rangeAt_setCells_same _ _ _ _ (TH.out _ B5.out)) Tryd.underlying30 rfl (by rw [l3]; kernel_rfl) rfl ?_
      exact ⟨rfl, (bto BW.out B5.out).grown (setCells_grown _ _ _ _) (bto BW.out B5.out).size (fun k hk => by cases hk; simp)⟩
end Go.Proofs.YtlhmecagijdinaaDoor.nm
