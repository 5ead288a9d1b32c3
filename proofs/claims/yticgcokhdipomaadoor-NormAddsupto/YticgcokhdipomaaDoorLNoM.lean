/-
  Kinds, and the form that every program must know: by the program.
-/
import Derived.Test.YticgcokhdipomaaDoorLNoL
set_option linter.unusedVariables false
set_option linter.unusedSimpArgs false
namespace Go.Proofs.YticgcokhdipomaaDoor.nm
open Go.RowKit cc

theorem bxk_5m {w : World} {b : Nat} {u0 u1 u2 u3 u4 : Value} {T : TypeId} (h : w.heap[b]? = some (.cells #[u0, u1, u2, u3, u4] T)) : w.cell? ⟨b, 0, none⟩ = some u0 ∧ w.cell? ⟨b, 1, none⟩ = some u1 ∧ w.cell? ⟨b, 2, none⟩ = some u2 ∧ w.cell? ⟨b, 3, none⟩ = some u3 ∧ w.cell? ⟨b, 4, none⟩ = some u4 :=
  ⟨by rw [row_blk h]; rfl, by rw [row_blk h]; rfl, by rw [row_blk h]; rfl, by rw [row_blk h]; rfl, by rw [row_blk h]; rfl⟩
theorem far_blkm {w w1 : World} {b : Nat} {o : Obj} (h : w.heap[b]? = some o) (B : Below w.heap.size w w1) : w1.heap[b]? = some o := (B.block _ (Array.getElem?_eq_some_iff.1 h).1).trans h
/-- What Kind tells: the kind and the error. -/
def kdT (x : Ex) : Nat := if exM x 340 = true then kdE x else 0
def kdX (x : Ex) : Nat := if exM x 340 = true then (if kdE x = 0 then 4 else 0) else 1
set_option maxRecDepth 100000 in
set_option maxHeartbeats 4000000 in
theorem kindP_any (x : Ex) (u : Value) (w : World) (hx : x.Ok) (hu : EM w u x.ks) :
    Calls Tryd.prog 64 #[exV x u] w fun e w' => e = .returned (.tuple #[.int .i64 (kdT x), .int .i64 (kdX x)]) ∧ Below w.heap.size w w' := by
  obtain ⟨a, c, rfl, hl9⟩ := hu.shape
  have PQ := hide (heap_alloc_new w (.cells #[.int .i64 x.k, .int .i64 x.n, .int .i64 x.d, .int .i64 x.u, .slice a x.ks.length c] 51))
  have HB := hide (bplus (Below.refl w.heap.size w) (.cells #[.int .i64 x.k, .int .i64 x.n, .int .i64 x.d, .int .i64 x.u, .slice a x.ks.length c] 51))
  have C1 := hide (fun (W : World) (B : Below w.heap.size w W) => calcMay_any x (.slice a x.ks.length c) W hx (hu.low B))
  have C2 := hide (fun (hm : exM x 340 = true) (W : World) (B : Below w.heap.size w W) => kindOf_all (szE x) x 340 (.slice a x.ks.length c) W (Nat.le_refl _) hm (hu.low B))
  have T1 := hide (show kdT x = (if exM x 340 = true then kdE x else 0) from rfl)
  have T2 := hide (show kdX x = (if exM x 340 = true then (if kdE x = 0 then 4 else 0) else 1) from rfl)
  unfold exV at C1 C2 ⊢
  clear hu hx
  cases hm : exM x 340
  · have HM := hide hm
    replace T1 := hide (show (kdT x : Int) = 0 by rw [T1.out, hm]; rfl)
    replace T2 := hide (show (kdX x : Int) = 1 by rw [T2.out, hm]; rfl)
    rw [T1.out, T2.out]
    clear hm C2 T1 T2
    generalize x.k = xk at *
    generalize x.n = xn at *
    generalize x.d = xd at *
    generalize x.u = xu at *
    generalize x.ks.length = xl at *
    go_enter Tryd.func64, Tryd.ntmps64
    go_wp2_with (go_at_call 82; refine (C1.out _ HB.out).mono ?_; rintro e w1 ⟨rfl, B1⟩; rw [HM.out]; replace HB := hide (bto HB.out B1); clear B1 C1)
    go_ret2
    exact ⟨rfl, HB.out⟩
  · have HM := hide hm
    replace C2 := hide (C2.out hm)
    replace T1 := hide (show (kdT x : Int) = kdE x by rw [T1.out, hm]; rfl)
    replace T2 := hide (show (kdX x : Int) = (if kdE x = 0 then 4 else 0 : Nat) by rw [T2.out, hm]; rfl)
    rw [T1.out, T2.out]
    clear hm T1 T2
    generalize x.k = xk at *
    generalize x.n = xn at *
    generalize x.d = xd at *
    generalize x.u = xu at *
    generalize x.ks.length = xl at *
    generalize kdE x = kx at *
    by_cases h0 : kx = 0
    · subst h0
      rw [if_pos rfl]
      go_enter Tryd.func64, Tryd.ntmps64
      go_wp2_with (first
        | (go_at_call 82; refine (C1.out _ HB.out).mono ?_; rintro e w1 ⟨rfl, B1⟩; rw [HM.out]; replace PQ := hide (far_blkm PQ.out B1); replace HB := hide (bto HB.out B1); obtain ⟨r0, r1, r2, r3, r4⟩ := bxk_5m PQ.out; clear B1 C1)
        | (go_at_call 83; refine (C2.out _ HB.out).mono ?_; rintro e w2 ⟨rfl, B1⟩; replace HB := hide (bto HB.out B1); clear B1 C2))
      go_ret2
      exact ⟨rfl, HB.out⟩
    · rw [if_neg h0]
      have h1 : ¬ (kx : Int) = 0 := by omega
      have h2 : ((kx : Int) == 0) = false := by simpa using h1
      go_enter Tryd.func64, Tryd.ntmps64
      go_wp2_with (first
        | (go_at_call 82; refine (C1.out _ HB.out).mono ?_; rintro e w1 ⟨rfl, B1⟩; rw [HM.out]; replace PQ := hide (far_blkm PQ.out B1); replace HB := hide (bto HB.out B1); obtain ⟨r0, r1, r2, r3, r4⟩ := bxk_5m PQ.out; clear B1 C1)
        | (go_at_call 83; refine (C2.out _ HB.out).mono ?_; rintro e w2 ⟨rfl, B1⟩; replace HB := hide (bto HB.out B1); clear B1 C2))
      go_ret2
      exact ⟨rfl, HB.out⟩
/-- An expression of lengths, by its kind. -/
theorem kindIs_len (x : Ex) (u : Value) (w : World) (hx : x.Ok) (hu : EM w u x.ks) (h1 : kdT x = 2) (h2 : kdX x = 0) : Calls Tryd.prog 43 #[exV x u, .int .i64 2] w fun e w' => e = .returned (.int .i64 0) ∧ Below w.heap.size w w' := by
  have C := hide (fun (W : World) (h : Below w.heap.size w W) => kindP_any x u W hx (hu.low h))
  rw [h1, h2] at C
  obtain ⟨a, c, rfl, hl9⟩ := hu.shape
  have HB := hide (bplus (Below.refl w.heap.size w) (.cells #[.int .i64 x.k, .int .i64 x.n, .int .i64 x.d, .int .i64 x.u, .slice a x.ks.length c] 51))
  unfold exV at C ⊢
  generalize x.k = xk at *
  generalize x.n = xn at *
  generalize x.d = xd at *
  generalize x.u = xu at *
  generalize x.ks.length = xl at *
  clear hu hx h1 h2
  go_enter Tryd.func43, Tryd.ntmps43
  go_wp2_with (go_at_call 64; refine (C.out _ HB.out).mono ?_; rintro e w1 ⟨rfl, B1⟩; replace HB := hide (bto HB.out B1); clear B1 C)
  go_ret
  exact ⟨rfl, HB.out⟩
set_option maxRecDepth 100000 in
set_option maxHeartbeats 8000000 in
/-- A sum of three numbers with units, as a form. -/
theorem formF_sum3 (xs : List (Int × Int × Int)) (hx3 : xs.length = 3) (v : Value) (w : World) (hN : Nth w) (hxs : ∀ x ∈ xs, Nu x) (hv : EM w v (xs.map nuE)) (h1 : kdT (.mk 2 0 0 0 (xs.map nuE)) = 2) (h2 : kdX (.mk 2 0 0 0 (xs.map nuE)) = 0) :
    Calls Tryd.prog 29 #[.agg #[.int .i64 2, .int .i64 0, .int .i64 0, .int .i64 0, v]] w fun e w' => e = .returned (.tuple #[foV (sumU (xs.map onU)) nilS, .int .i64 0]) ∧ Below w.heap.size w w' := by
  have i0 : i64 0 := ⟨by decide, by decide⟩
  have i2 : i64 2 := ⟨by decide, by decide⟩
  have C1 := hide (fun (W : World) (h : Below w.heap.size w W) => kindIs_len (.mk 2 0 0 0 (xs.map nuE)) v W ⟨i2, i0, i0, i0⟩ (hv.low h) h1 h2)
  have C2 := hide (fun (W : World) (h : Below w.heap.size w W) => form_sum3 xs hx3 v W (hN.low h) hxs (hv.low h))
  have AU := hide (show Us (sumU (xs.map onU)) from sumU_us (fun y hy => by
    obtain ⟨x, hx, rfl⟩ := List.mem_map.1 hy
    obtain ⟨h1, h2, h3⟩ := hxs x hx
    exact one_us _ _ _ h1 h2) _ zus)
  obtain ⟨SU, hSU⟩ : ∃ x, sumU (xs.map onU) = x := ⟨_, rfl⟩
  rw [hSU] at C2 AU ⊢
  unfold foV at C2 ⊢
  unfold exV at C1
  simp only [Ex.k, Ex.n, Ex.d, Ex.u] at C1
  obtain ⟨a, c, rfl, hl9⟩ := hv.shape
  obtain ⟨W1, hW1⟩ : ∃ W1, (w.alloc (.cells #[.int .i64 2, .int .i64 0, .int .i64 0, .int .i64 0, .slice a (xs.map nuE).length c] 51)).alloc (.cells #[.int .i64 0, .int .i64 0, .int .i64 0, .int .i64 0, .int .i64 0, .int .i64 0, .int .i64 0, .int .i64 0, .int .i64 0, .int .i64 0, .int .i64 0, .int .i64 0, .int .i64 0, .int .i64 0, .slice none 0 0] 29) = W1 := ⟨_, rfl⟩
  have B0 := hide (show Below w.heap.size w W1 by rw [← hW1]; exact bplus (bplus (Below.refl _ _) _) _)
  have P0 := hide (show Bk W1 w.heap.size 51 [.int .i64 2, .int .i64 0, .int .i64 0, .int .i64 0, .slice a (xs.map nuE).length c] by rw [← hW1]; exact (two_new w _ _).1)
  have P1 := hide (show BF W1 (w.heap.size + 1) z00 nilS by rw [← hW1]; exact (two_new w _ _).2)
  have HW1 := hide hW1
  generalize (xs.map nuE).length = xl at *
  obtain ⟨a0, a1, a2, a3, a4⟩ := bxk_5m P0.out
  have L7 : SU.length = 7 := AU.out.1
  have l3 : (usL SU ++ [nilS]).length = 15 := by rw [List.length_append, usL_len, L7]; rfl
  have H9 : (Tryd.prog.info? 29).map (·.size) = some (usL SU ++ [nilS]).toArray.size := by rw [List.size_toArray, l3]; kernel_rfl
  replace H9 := hide H9
  have TH := hide (fun (W : World) (h : Below W1.heap.size W1 W) => show W.there (w.heap.size + 1) 0 (usL SU ++ [nilS]).toArray.size from there_blk (show W.heap[w.heap.size + 1]? = some (.cells (usL z00 ++ [nilS]).toArray 29) from Bk.up P1.out h) (by simp only [List.size_toArray, l3]; rfl))
  have KE := hide (fun (W : World) (h : Below W1.heap.size W1 W) => bxk_5m (Bk.up P0.out h))
  clear hW1 hN hSU hv hxs h1 h2 P0 P1 AU
  go_enter Tryd.func29, Tryd.ntmps29
  go_upto_region 1 with fail
  rw [HW1.out]
  clear HW1
  go_wp2_with (first
    | (go_at_call 43; refine (C1.out _ B0.out).mono ?_; rintro e w1 ⟨rfl, B1⟩; obtain ⟨e0, e1, e2, e3, e4⟩ := KE.out w1 B1; replace B1 := hide B1)
    | (go_at_call 44; refine (C2.out _ (bto B0.out B1.out)).mono ?_; rintro e w5 ⟨rfl, B5⟩; replace B5 := hide (bto B1.out B5))
    | (refine wpList_store_mid rfl 29 (.tmp 2) (.tmp 12) rfl (w.heap.size + 1) 0 (usL SU ++ [nilS]).toArray rfl rfl (TH.out _ B5.out) H9.out (all_oneCell_toArray (us_one rfl)) ?_))
  refine ret_cell2 (b := w.heap.size + 1) (cs := usL SU ++ [nilS]) Tryd.results29 rfl rfl (World.rangeAt_setCells_same _ _ _ _ (TH.out _ B5.out)) Tryd.underlying29 rfl (by rw [l3]; kernel_rfl) rfl ?_
  exact ⟨rfl, (bto B0.out B5.out).grown (setCells_grown _ _ _ _) (bto B0.out B5.out).size (fun k hk => by cases hk; simp)⟩
theorem numE_any (n u : Int) (w : World) : Calls Tryd.prog 30 #[.int .i64 n, .int .i64 u] w fun e w' => e = .returned (.agg #[.int .i64 1, .int .i64 n, .int .i64 1, .int .i64 u, .slice none 0 0]) ∧ Below w.heap.size w w' := by
  go_enter Tryd.func30, Tryd.ntmps30
  go_wp2
  exact bodyPost_ret (v := .agg #[.int .i64 1, .int .i64 n, .int .i64 1, .int .i64 u, .slice none 0 0]) (by simp [results, Tryd.results30, go_sem]) rfl ⟨rfl, bplus (Below.refl _ _) _⟩
def awX : List (Int × Int × Int) := [(1, 1, 1), (2, 1, 2), (3, 1, 1)]
def aw15 : List Value := [.int .i64 1, .int .i64 1, .int .i64 1, .int .i64 1, .slice none 0 0, .int .i64 1, .int .i64 2, .int .i64 1, .int .i64 2, .slice none 0 0, .int .i64 1, .int .i64 3, .int .i64 1, .int .i64 1, .slice none 0 0]
theorem aw_em {w : World} {b : Nat} {T : TypeId} (h : Bk w b T aw15) : EM w (.slice (some ⟨b, 0, none⟩) 3 3) (awX.map nuE) := by
  have c := fun j => Bk.cell h j
  have i1 : i64 1 := ⟨by decide, by decide⟩
  have i2 : i64 2 := ⟨by decide, by decide⟩
  have i3 : i64 3 := ⟨by decide, by decide⟩
  refine .row b 0 3 (awX.map nuE) (fun _ => .slice none 0 0) (by decide) (Bk.lt h) (by decide) (by decide) (by decide) ?_ ?_ ?_ ?_
  · intro i v hi
    match i, hi with
    | 0, hi => cases hi; exact ⟨i1, i1, i1, i1⟩
    | 1, hi => cases hi; exact ⟨i1, i2, i1, i2⟩
    | 2, hi => cases hi; exact ⟨i1, i3, i1, i1⟩
  · intro i v hi
    match i, hi with
    | 0, hi => cases hi; exact ⟨c 0, c 1, c 2, c 3⟩
    | 1, hi => cases hi; exact ⟨c 5, c 6, c 7, c 8⟩
    | 2, hi => cases hi; exact ⟨c 10, c 11, c 12, c 13⟩
  · intro i v hi
    match i, hi with
    | 0, hi => cases hi; exact c 4
    | 1, hi => cases hi; exact c 9
    | 2, hi => cases hi; exact c 14
  · intro i v hi
    match i, hi with
    | 0, hi => cases hi; exact .nil _ _
    | 1, hi => cases hi; exact .nil _ _
    | 2, hi => cases hi; exact .nil _ _
theorem aw_nu : ∀ x ∈ awX, Nu x := by
  intro x hx
  simp [awX] at hx
  rcases hx with rfl | rfl | rfl <;> exact ⟨⟨by decide, by decide⟩, ⟨by decide, by decide⟩, ⟨by decide, by decide⟩⟩
theorem aw_k : kdT (.mk 2 0 0 0 (awX.map nuE)) = 2 := by decide +kernel
theorem aw_x : kdX (.mk 2 0 0 0 (awX.map nuE)) = 0 := by decide +kernel
theorem aw_su : sumU (awX.map onU) = [(4, 1), (2, 1), (0, 1), (0, 1), (0, 1), (0, 1), (0, 1)] := by decide +kernel
set_option maxRecDepth 100000 in
set_option maxHeartbeats 8000000 in
theorem awakeN_any (w : World) (hN : Nth w) : Calls Tryd.prog 14 #[] w fun e w' => e = .returned (.bool true) ∧ Below w.heap.size w w' := by
  have CN := hide (fun (n u : Int) (W : World) => numE_any n u W)
  have CF := hide (fun (W : World) (h : Below w.heap.size w W) => formF_sum3 awX rfl (.slice (some ⟨W.heap.size, 0, none⟩) 3 3) (W.alloc (.cells aw15.toArray 51)) (hN.low (bplus h _)) aw_nu (aw_em (Bk.new W _ _)) aw_k aw_x)
  rw [aw_su, show foV [(4, 1), (2, 1), (0, 1), (0, 1), (0, 1), (0, 1), (0, 1)] nilS = .agg #[.int .i64 4, .int .i64 1, .int .i64 2, .int .i64 1, .int .i64 0, .int .i64 1, .int .i64 0, .int .i64 1, .int .i64 0, .int .i64 1, .int .i64 0, .int .i64 1, .int .i64 0, .int .i64 1, .slice none 0 0] from rfl, show aw15.toArray = #[.int .i64 1, .int .i64 1, .int .i64 1, .int .i64 1, .slice none 0 0, .int .i64 1, .int .i64 2, .int .i64 1, .int .i64 2, .slice none 0 0, .int .i64 1, .int .i64 3, .int .i64 1, .int .i64 1, .slice none 0 0] from rfl] at CF
  have BB := hide (Below.refl w.heap.size w)
  clear hN
  go_enter Tryd.func14, Tryd.ntmps14
  go_wp2_with (first
    | (go_at_call 30; refine (CN.out _ _ _).mono ?_; rintro e w1 ⟨rfl, B1⟩; replace BB := hide (bto BB.out B1); clear B1)
    | (go_at_call 29; refine (CF.out _ BB.out).mono ?_; rintro e w5 ⟨rfl, B5⟩; replace BB := hide (bto (bplus BB.out _) B5); clear B5))
  go_ret
  exact ⟨rfl, bplus BB.out _⟩
end Go.Proofs.YticgcokhdipomaaDoor.nm
