/-
  Kinds, and the form that every program must know: by the program.
  Which units a form uses: by the program.
  Which units a form uses, its parts too: by the program, by the reference.
  Which units plain forms have: by the program.
-/
import Derived.Test.YtlhmecagijdinaaDoorH05
set_option linter.unusedVariables false
set_option linter.unusedSimpArgs false
namespace Go.Proofs.YtlhmecagijdinaaDoor.nm
open Go.RowKit cc

theorem bxk_5m {w : World} {b : Nat} {u0 u1 u2 u3 u4 : Value} {T : TypeId} (h : w.heap[b]? = some (.cells #[u0, u1, u2, u3, u4] T)) : w.cell? ⟨b, 0, none⟩ = some u0 ∧ w.cell? ⟨b, 1, none⟩ = some u1 ∧ w.cell? ⟨b, 2, none⟩ = some u2 ∧ w.cell? ⟨b, 3, none⟩ = some u3 ∧ w.cell? ⟨b, 4, none⟩ = some u4 :=
  ⟨by rw [row_blk h]; rfl, by rw [row_blk h]; rfl, by rw [row_blk h]; rfl, by rw [row_blk h]; rfl, by rw [row_blk h]; rfl⟩
theorem far_blkm {w w1 : World} {b : Nat} {o : Obj} (h : w.heap[b]? = some o) (B : Below w.heap.size w w1) : w1.heap[b]? = some o := (B.block _ (Array.getElem?_eq_some_iff.1 h).1).trans h
/-- What Kind tells: the kind and the error. -/
def kdT (x : Ex) : Nat := if exM x 340 = true then kdE x else 0
def kdX (x : Ex) : Nat := if exM x 340 = true then (if kdE x = 0 then 4 else 0) else 1
set_option maxRecDepth 100000 in
set_option maxHeartbeats 4000000 in
theorem kindP_any (x : Ex) (u : Value) (w : World) (hx : x.Ok) (hu : EM w u x.ks) :
    Calls Tryd.prog 31 #[exV x u] w fun e w' => e = .returned (.tuple #[.int .i64 (kdT x), .int .i64 (kdX x)]) ∧ Below w.heap.size w w' := by
  obtain ⟨a, c, rfl, hl9⟩ := hu.shape
  have PQ := hide (heap_alloc_new w (.cells #[.int .i64 x.k, .int .i64 x.n, .int .i64 x.d, .int .i64 x.u, .slice a x.ks.length c] 26))
  have HB := hide (bplus (Below.refl w.heap.size w) (.cells #[.int .i64 x.k, .int .i64 x.n, .int .i64 x.d, .int .i64 x.u, .slice a x.ks.length c] 26))
  have C1 := hide (fun (W : World) (B : Below w.heap.size w W) => calcMay_any x (.slice a x.ks.length c) W hx (hu.low B))
  have C2 := hide (fun (hm : exM x 340 = true) (W : World) (B : Below w.heap.size w W) => kindOf_all (szE x) x 340 (.slice a x.ks.length c) W (Nat.le_refl _) hm (hu.low B))
  have T1 := hide (show kdT x = (if exM x 340 = true then kdE x else 0) from rfl)
  have T2 := hide (show kdX x = (if exM x 340 = true then (if kdE x = 0 then 4 else 0) else 1) from rfl)
  unfold exV at C1 C2 ⊢
  clear hu hx
  cases hm : exM x 340
  · have HM := hide hm
    replace T1 := hide (show (kdT x : Int) = 0 by rw [T1.out, hm]; rfl)
    replace T2 := hide (show (kdX x : Int) = 1 by rw [T2.out, hm]; rfl)
    rw [T1.out, T2.out]
    clear hm C2 T1 T2
    generalize x.k = xk at *
    generalize x.n = xn at *
    generalize x.d = xd at *
    generalize x.u = xu at *
    generalize x.ks.length = xl at *
    go_enter Tryd.func31, Tryd.ntmps31
    go_wp2_with (go_at_call 52; refine (C1.out _ HB.out).mono ?_; rintro e w1 ⟨rfl, B1⟩; rw [HM.out]; replace HB := hide (bto HB.out B1); clear B1 C1)
    go_ret2
    exact ⟨rfl, HB.out⟩
  · have HM := hide hm
    replace C2 := hide (C2.out hm)
    replace T1 := hide (show (kdT x : Int) = kdE x by rw [T1.out, hm]; rfl)
    replace T2 := hide (show (kdX x : Int) = (if kdE x = 0 then 4 else 0 : Nat) by rw [T2.out, hm]; rfl)
    rw [T1.out, T2.out]
    clear hm T1 T2
    generalize x.k = xk at *
    generalize x.n = xn at *
    generalize x.d = xd at *
    generalize x.u = xu at *
    generalize x.ks.length = xl at *
    generalize kdE x = kx at *
    by_cases h0 : kx = 0
    · subst h0
      rw [if_pos rfl]
      go_enter Tryd.func31, Tryd.ntmps31
      go_wp2_with (first
        | (go_at_call 52; refine (C1.out _ HB.out).mono ?_; rintro e w1 ⟨rfl, B1⟩; rw [HM.out]; replace PQ := hide (far_blkm PQ.out B1); replace HB := hide (bto HB.out B1); obtain ⟨r0, r1, r2, r3, r4⟩ := bxk_5m PQ.out; clear B1 C1)
        | (go_at_call 53; refine (C2.out _ HB.out).mono ?_; rintro e w2 ⟨rfl, B1⟩; replace HB := hide (bto HB.out B1); clear B1 C2))
      go_ret2
      exact ⟨rfl, HB.out⟩
    · rw [if_neg h0]
      have h1 : ¬ (kx : Int) = 0 := by omega
      have h2 : ((kx : Int) == 0) = false := by simpa using h1
      go_enter Tryd.func31, Tryd.ntmps31
      go_wp2_with (first
        | (go_at_call 52; refine (C1.out _ HB.out).mono ?_; rintro e w1 ⟨rfl, B1⟩; rw [HM.out]; replace PQ := hide (far_blkm PQ.out B1); replace HB := hide (bto HB.out B1); obtain ⟨r0, r1, r2, r3, r4⟩ := bxk_5m PQ.out; clear B1 C1)
        | (go_at_call 53; refine (C2.out _ HB.out).mono ?_; rintro e w2 ⟨rfl, B1⟩; replace HB := hide (bto HB.out B1); clear B1 C2))
      go_ret2
      exact ⟨rfl, HB.out⟩
/-- An expression of lengths, by its kind. -/
theorem kindIs_len (x : Ex) (u : Value) (w : World) (hx : x.Ok) (hu : EM w u x.ks) (h1 : kdT x = 2) (h2 : kdX x = 0) : Calls Tryd.prog 15 #[exV x u, .int .i64 2] w fun e w' => e = .returned (.int .i64 0) ∧ Below w.heap.size w w' := by
  have C := hide (fun (W : World) (h : Below w.heap.size w W) => kindP_any x u W hx (hu.low h))
  rw [h1, h2] at C
  obtain ⟨a, c, rfl, hl9⟩ := hu.shape
  have HB := hide (bplus (Below.refl w.heap.size w) (.cells #[.int .i64 x.k, .int .i64 x.n, .int .i64 x.d, .int .i64 x.u, .slice a x.ks.length c] 26))
  unfold exV at C ⊢
  generalize x.k = xk at *
  generalize x.n = xn at *
  generalize x.d = xd at *
  generalize x.u = xu at *
  generalize x.ks.length = xl at *
  clear hu hx h1 h2
  go_enter Tryd.func15, Tryd.ntmps15
  go_wp2_with (go_at_call 31; refine (C.out _ HB.out).mono ?_; rintro e w1 ⟨rfl, B1⟩; replace HB := hide (bto HB.out B1); clear B1 C)
  go_ret
  exact ⟨rfl, HB.out⟩
set_option maxRecDepth 100000 in
set_option maxHeartbeats 8000000 in
/-- A sum of three numbers with units, as a form. -/
theorem formF_sum3 (xs : List (Int × Int × Int)) (hx3 : xs.length = 3) (v : Value) (w : World) (hN : Nth w) (hxs : ∀ x ∈ xs, Nu x) (hv : EM w v (xs.map nuE)) (h1 : kdT (.mk 2 0 0 0 (xs.map nuE)) = 2) (h2 : kdX (.mk 2 0 0 0 (xs.map nuE)) = 0) :
    Calls Tryd.prog 6 #[.agg #[.int .i64 2, .int .i64 0, .int .i64 0, .int .i64 0, v]] w fun e w' => e = .returned (.tuple #[foV (sumU (xs.map onU)) nilS, .int .i64 0]) ∧ Below w.heap.size w w' := by
  have i0 : i64 0 := ⟨by decide, by decide⟩
  have i2 : i64 2 := ⟨by decide, by decide⟩
  have C1 := hide (fun (W : World) (h : Below w.heap.size w W) => kindIs_len (.mk 2 0 0 0 (xs.map nuE)) v W ⟨i2, i0, i0, i0⟩ (hv.low h) h1 h2)
  have C2 := hide (fun (W : World) (h : Below w.heap.size w W) => form_sum3 xs hx3 v W (hN.low h) hxs (hv.low h))
  have AU := hide (show Us (sumU (xs.map onU)) from sumU_us (fun y hy => by
    obtain ⟨x, hx, rfl⟩ := List.mem_map.1 hy
    obtain ⟨h1, h2, h3⟩ := hxs x hx
    exact one_us _ _ _ h1 h2) _ zus)
  obtain ⟨SU, hSU⟩ : ∃ x, sumU (xs.map onU) = x := ⟨_, rfl⟩
  rw [hSU] at C2 AU ⊢
  unfold foV at C2 ⊢
  unfold exV at C1
  simp only [Ex.k, Ex.n, Ex.d, Ex.u] at C1
  obtain ⟨a, c, rfl, hl9⟩ := hv.shape
  obtain ⟨W1, hW1⟩ : ∃ W1, (w.alloc (.cells #[.int .i64 2, .int .i64 0, .int .i64 0, .int .i64 0, .slice a (xs.map nuE).length c] 26)).alloc (.cells #[.int .i64 0, .int .i64 0, .int .i64 0, .int .i64 0, .int .i64 0, .int .i64 0, .int .i64 0, .int .i64 0, .int .i64 0, .int .i64 0, .int .i64 0, .int .i64 0, .int .i64 0, .int .i64 0, .slice none 0 0] 30) = W1 := ⟨_, rfl⟩
  have B0 := hide (show Below w.heap.size w W1 by rw [← hW1]; exact bplus (bplus (Below.refl _ _) _) _)
  have P0 := hide (show Bk W1 w.heap.size 26 [.int .i64 2, .int .i64 0, .int .i64 0, .int .i64 0, .slice a (xs.map nuE).length c] by rw [← hW1]; exact (two_new w _ _).1)
  have P1 := hide (show BF W1 (w.heap.size + 1) z00 nilS by rw [← hW1]; exact (two_new w _ _).2)
  have HW1 := hide hW1
  generalize (xs.map nuE).length = xl at *
  obtain ⟨a0, a1, a2, a3, a4⟩ := bxk_5m P0.out
  have L7 : SU.length = 7 := AU.out.1
  have l3 : (usL SU ++ [nilS]).length = 15 := by rw [List.length_append, usL_len, L7]; rfl
  have H9 : (Tryd.prog.info? 30).map (·.size) = some (usL SU ++ [nilS]).toArray.size := by rw [List.size_toArray, l3]; kernel_rfl
  replace H9 := hide H9
  have TH := hide (fun (W : World) (h : Below W1.heap.size W1 W) => show W.there (w.heap.size + 1) 0 (usL SU ++ [nilS]).toArray.size from there_blk (show W.heap[w.heap.size + 1]? = some (.cells (usL z00 ++ [nilS]).toArray 30) from Bk.up P1.out h) (by simp only [List.size_toArray, l3]; rfl))
  have KE := hide (fun (W : World) (h : Below W1.heap.size W1 W) => bxk_5m (Bk.up P0.out h))
  clear hW1 hN hSU hv hxs h1 h2 P0 P1 AU
  go_enter Tryd.func6, Tryd.ntmps6
  go_upto_region 1 with fail
  rw [HW1.out]
  clear HW1
  go_wp2_with (first
    | (go_at_call 15; refine (C1.out _ B0.out).mono ?_; rintro e w1 ⟨rfl, B1⟩; obtain ⟨e0, e1, e2, e3, e4⟩ := KE.out w1 B1; replace B1 := hide B1)
    | (go_at_call 16; refine (C2.out _ (bto B0.out B1.out)).mono ?_; rintro e w5 ⟨rfl, B5⟩; replace B5 := hide (bto B1.out B5))
    | (refine wpList_store_mid rfl 30 (.tmp 2) (.tmp 12) rfl (w.heap.size + 1) 0 (usL SU ++ [nilS]).toArray rfl rfl (TH.out _ B5.out) H9.out (all_oneCell_toArray (us_one rfl)) ?_))
  refine ret_cell2 (b := w.heap.size + 1) (cs := usL SU ++ [nilS]) Tryd.results6 rfl rfl (World.rangeAt_setCells_same _ _ _ _ (TH.out _ B5.out)) Tryd.underlying30 rfl (by rw [l3]; kernel_rfl) rfl ?_
  exact ⟨rfl, (bto B0.out B5.out).grown (setCells_grown _ _ _ _) (bto B0.out B5.out).size (fun k hk => by cases hk; simp)⟩
theorem numE_any (n u : Int) (w : World) : Calls Tryd.prog 18 #[.int .i64 n, .int .i64 u] w fun e w' => e = .returned (.agg #[.int .i64 1, .int .i64 n, .int .i64 1, .int .i64 u, .slice none 0 0]) ∧ Below w.heap.size w w' := by
  go_enter Tryd.func18, Tryd.ntmps18
  go_wp2
  exact bodyPost_ret (v := .agg #[.int .i64 1, .int .i64 n, .int .i64 1, .int .i64 u, .slice none 0 0]) (by simp [results, Tryd.results18, go_sem]) rfl ⟨rfl, bplus (Below.refl _ _) _⟩
def awX : List (Int × Int × Int) := [(1, 1, 1), (2, 1, 2), (3, 1, 1)]
def aw15 : List Value := [.int .i64 1, .int .i64 1, .int .i64 1, .int .i64 1, .slice none 0 0, .int .i64 1, .int .i64 2, .int .i64 1, .int .i64 2, .slice none 0 0, .int .i64 1, .int .i64 3, .int .i64 1, .int .i64 1, .slice none 0 0]
theorem aw_em {w : World} {b : Nat} {T : TypeId} (h : Bk w b T aw15) : EM w (.slice (some ⟨b, 0, none⟩) 3 3) (awX.map nuE) := by
  have c := fun j => Bk.cell h j
  have i1 : i64 1 := ⟨by decide, by decide⟩
  have i2 : i64 2 := ⟨by decide, by decide⟩
  have i3 : i64 3 := ⟨by decide, by decide⟩
  refine .row b 0 3 (awX.map nuE) (fun _ => .slice none 0 0) (by decide) (Bk.lt h) (by decide) (by decide) (by decide) ?_ ?_ ?_ ?_
  · intro i v hi
    match i, hi with
    | 0, hi => cases hi; exact ⟨i1, i1, i1, i1⟩
    | 1, hi => cases hi; exact ⟨i1, i2, i1, i2⟩
    | 2, hi => cases hi; exact ⟨i1, i3, i1, i1⟩
  · intro i v hi
    match i, hi with
    | 0, hi => cases hi; exact ⟨c 0, c 1, c 2, c 3⟩
    | 1, hi => cases hi; exact ⟨c 5, c 6, c 7, c 8⟩
    | 2, hi => cases hi; exact ⟨c 10, c 11, c 12, c 13⟩
  · intro i v hi
    match i, hi with
    | 0, hi => cases hi; exact c 4
    | 1, hi => cases hi; exact c 9
    | 2, hi => cases hi; exact c 14
  · intro i v hi
    match i, hi with
    | 0, hi => cases hi; exact .nil _ _
    | 1, hi => cases hi; exact .nil _ _
    | 2, hi => cases hi; exact .nil _ _
theorem aw_nu : ∀ x ∈ awX, Nu x := by
  intro x hx
  simp [awX] at hx
  rcases hx with rfl | rfl | rfl <;> exact ⟨⟨by decide, by decide⟩, ⟨by decide, by decide⟩, ⟨by decide, by decide⟩⟩
theorem aw_k : kdT (.mk 2 0 0 0 (awX.map nuE)) = 2 := by decide +kernel
theorem aw_x : kdX (.mk 2 0 0 0 (awX.map nuE)) = 0 := by decide +kernel
theorem aw_su : sumU (awX.map onU) = [(4, 1), (2, 1), (0, 1), (0, 1), (0, 1), (0, 1), (0, 1)] := by decide +kernel
set_option maxRecDepth 100000 in
set_option maxHeartbeats 8000000 in
theorem awakeN_any (w : World) (hN : Nth w) : Calls Tryd.prog 8 #[] w fun e w' => e = .returned (.bool true) ∧ Below w.heap.size w w' := by
  have CN := hide (fun (n u : Int) (W : World) => numE_any n u W)
  have CF := hide (fun (W : World) (h : Below w.heap.size w W) => formF_sum3 awX rfl (.slice (some ⟨W.heap.size, 0, none⟩) 3 3) (W.alloc (.cells aw15.toArray 26)) (hN.low (bplus h _)) aw_nu (aw_em (Bk.new W _ _)) aw_k aw_x)
  rw [aw_su, show foV [(4, 1), (2, 1), (0, 1), (0, 1), (0, 1), (0, 1), (0, 1)] nilS = .agg #[.int .i64 4, .int .i64 1, .int .i64 2, .int .i64 1, .int .i64 0, .int .i64 1, .int .i64 0, .int .i64 1, .int .i64 0, .int .i64 1, .int .i64 0, .int .i64 1, .int .i64 0, .int .i64 1, .slice none 0 0] from rfl, show aw15.toArray = #[.int .i64 1, .int .i64 1, .int .i64 1, .int .i64 1, .slice none 0 0, .int .i64 1, .int .i64 2, .int .i64 1, .int .i64 2, .slice none 0 0, .int .i64 1, .int .i64 3, .int .i64 1, .int .i64 1, .slice none 0 0] from rfl] at CF
  have BB := hide (Below.refl w.heap.size w)
  clear hN
  go_enter Tryd.func8, Tryd.ntmps8
  go_wp2_with (first
    | (go_at_call 18; refine (CN.out _ _ _).mono ?_; rintro e w1 ⟨rfl, B1⟩; replace BB := hide (bto BB.out B1); clear B1)
    | (go_at_call 6; refine (CF.out _ BB.out).mono ?_; rintro e w5 ⟨rfl, B5⟩; replace BB := hide (bto (bplus BB.out _) B5); clear B5))
  go_ret
  exact ⟨rfl, bplus BB.out _⟩
end Go.Proofs.YtlhmecagijdinaaDoor.nm
set_option linter.unusedVariables false
set_option linter.unusedSimpArgs false
namespace Go.Proofs.YtlhmecagijdinaaDoor.nm
open Go.RowKit

def orI (a b : Int) : Int := bits BinOp.or IntKind.i64 a b
def bitK (k : Nat) : Int := wrap64 (2 ^ ((k : Int) + 1).toNat)
def orU (m : Int) : List (Int × Int) → Nat → Int
  | [], _ => m
  | r :: rs, k => orU (if r = (0, 1) then m else orI m (bitK k)) rs (k + 1)
/-- The units of forms, at most so deep, beside those that are there. -/
def usX : Nat → List Fo → Int → Int
  | 0, _, m => m
  | n + 1, l, m => l.foldl (fun m a => orI m (a.ps.foldl (fun m p => usX n p.2 m) (orU 0 a.us 0))) m
def usG (n : Nat) (us : List (Int × Int)) (ps : List Pa) : Int := ps.foldl (fun m p => usX n p.2 m) (orU 0 us 0)
theorem usX_succ (n : Nat) (l : List Fo) (m : Int) : usX (n + 1) l m = l.foldl (fun m a => orI m (usG n a.us a.ps)) m := rfl
def RelUo (W1 : World) (us : List (Int × Int)) (i u : Value) (wr : World) : Prop := ∃ (k : Nat) (m : Int), i = .int .i64 k ∧ u = .int .i64 m ∧ k ≤ 7 ∧ Below W1.heap.size W1 wr ∧ Hid (orU 0 us 0 = orU m (us.drop k) k)
theorem RelUo.mk {W1 : World} {us : List (Int × Int)} {i u : Value} {wr : World} (k : Nat) (m : Int) (h1 : i = .int .i64 k) (h2 : u = .int .i64 m) (h3 : k ≤ 7) (h4 : Below W1.heap.size W1 wr) (h5 : orU 0 us 0 = orU m (us.drop k) k) : RelUo W1 us i u wr := ⟨k, m, h1, h2, h3, h4, h5⟩
theorem orU_step {us : List (Int × Int)} {k : Nat} {r : Int × Int} {m : Int} (h : orU 0 us 0 = orU m (us.drop k) k) (hr : us[k]? = some r) : orU 0 us 0 = orU (if r = (0, 1) then m else orI m (bitK k)) (us.drop (k + 1)) (k + 1) := by
  rw [h, drop_atE hr, orU]
set_option maxRecDepth 100000 in
set_option maxHeartbeats 8000000 in
theorem usedOf_any (us : List (Int × Int)) (w : World) (hN : Nth w) (hus : Us us) : Calls Tryd.prog 68 #[usV us] w fun e w' => e = .returned (.int .i64 (orU 0 us 0)) ∧ Below w.heap.size w w' := by
  have HUS := hide hus
  have HN := hide hN
  obtain ⟨n0, d0, n1, d1, n2, d2, n3, d3, n4, d4, n5, d5, n6, d6, rfl⟩ := us7 hus
  rw [usV_eq]
  clear hus hN
  obtain ⟨r, hr⟩ : ∃ r, orU 0 [(n0, d0), (n1, d1), (n2, d2), (n3, d3), (n4, d4), (n5, d5), (n6, d6)] 0 = r := ⟨_, rfl⟩
  have HR := hide hr
  rw [hr]
  clear hr
  obtain ⟨W1, hW1⟩ : ∃ W1, w.alloc (.cells #[.int .i64 n0, .int .i64 d0, .int .i64 n1, .int .i64 d1, .int .i64 n2, .int .i64 d2, .int .i64 n3, .int .i64 d3, .int .i64 n4, .int .i64 d4, .int .i64 n5, .int .i64 d5, .int .i64 n6, .int .i64 d6] 67) = W1 := ⟨_, rfl⟩
  have B0 := hide (show Below w.heap.size w W1 by rw [← hW1]; exact bplus (Below.refl _ _) _)
  have HW1 := hide hW1
  have N1 := hide (HN.out.low B0.out)
  clear hW1 HN
  generalize hU : [(n0, d0), (n1, d1), (n2, d2), (n3, d3), (n4, d4), (n5, d5), (n6, d6)] = US at *
  go_enter Tryd.func68, Tryd.ntmps68
  go_wp2
  rw [HW1.out]
  go_loopw [7, 3] (fun i u wr => RelUo W1 US i u wr) (fun i _ _ => 7 - (intOf i).toNat)
  case atStart => exact .mk 0 0 rfl rfl (by omega) (Below.refl _ _) rfl
  case round =>
    obtain ⟨k, m, rfl, rfl, hk, BE, R⟩ := hrel
    replace BE := hide BE
    by_cases hlt : k < 7
    · obtain ⟨rn, rd, hr, ⟨rn1, rn2⟩, ⟨rd1, rd2⟩⟩ := us_at HUS.out hlt
      have IX := ix7 (n0 := n0) (d0 := d0) (n1 := n1) (d1 := d1) (n2 := n2) (d2 := d2) (n3 := n3) (d3 := d3) (n4 := n4) (d4 := d4) (n5 := n5) (d5 := d5) (n6 := n6) (d6 := d6) hlt 67 (.inr rfl) (n := rn) (d := rd) (by rw [hU]; exact hr)
      have R2 := hide (orU_step R.out hr)
      have hlt' : (k : Int) < 7 := by omega
      obtain ⟨g0, g1, g2⟩ := N1.out.low BE.out
      have g3 : 0 ≠ wr.heap.size := by omega
      have BX := hide (bplus BE.out (.cells #[.int .i64 rn, .int .i64 rd] 23))
      clear hr R
      by_cases hz : rn = 0 ∧ rd = 1
      · obtain ⟨rfl, rfl⟩ := hz
        rw [if_pos rfl] at R2
        go_wp2
        go_roundw
        case rel => exact .mk (k + 1) m (by go_num) rfl (by omega) BX.out R2.out
        case measure => simp [intOf]; omega
      · rw [if_neg (by simpa using hz)] at R2
        go_wp2
        all_goals (first | (exfalso; omega) | skip)
        all_goals
          (try subst_vars)
          go_roundw
          case rel => exact .mk (k + 1) (orI m (bitK k)) (by go_num) rfl (by omega) BX.out R2.out
          case measure => simp [intOf]; omega
    · obtain rfl : k = 7 := by omega
      have F := hide (show m = r by rw [← HR.out, R.out, List.drop_of_length_le (by rw [HUS.out.1]; omega)]; rfl)
      have hlt' : ¬ ((7 : Nat) : Int) < 7 := by omega
      clear R
      go_wp2
      go_ret
      exact ⟨ret_int F.out, bto B0.out BE.out⟩
end Go.Proofs.YtlhmecagijdinaaDoor.nm
set_option linter.unusedVariables false
set_option linter.unusedSimpArgs false
namespace Go.Proofs.YtlhmecagijdinaaDoor.nm
open Go.RowKit

theorem usX_eq {n : Nat} {l : List Fo} (h : n = 0 → l = []) (m : Int) : usX n l m = l.foldl (fun m a => orI m (usG (n - 1) a.us a.ps)) m := by
  cases n with
  | zero => rw [h rfl]; rfl
  | succ n => exact usX_succ n l m
/-- A fold on its way. -/
def RelFd {α : Type} (W : World) (f : Int → α → Int) (z : Int) (l : List α) (i u : Value) (wr : World) : Prop := ∃ (k : Nat) (m : Int), i = .int .i64 k ∧ u = .int .i64 m ∧ k ≤ l.length ∧ Below W.heap.size W wr ∧ Hid (z = (l.drop k).foldl f m)
theorem RelFd.mk {α : Type} {W : World} {f : Int → α → Int} {z : Int} {l : List α} {i u : Value} {wr : World} (k : Nat) (m : Int) (h1 : i = .int .i64 k) (h2 : u = .int .i64 m) (h3 : k ≤ l.length) (h4 : Below W.heap.size W wr) (h5 : z = (l.drop k).foldl f m) : RelFd W f z l i u wr := ⟨k, m, h1, h2, h3, h4, h5⟩
theorem fd_step {α : Type} {f : Int → α → Int} {z m : Int} {l : List α} {k : Nat} {x : α} (h : z = (l.drop k).foldl f m) (hx : l[k]? = some x) : z = (l.drop (k + 1)).foldl f (f m x) := by rw [h, drop_atE hx, List.foldl_cons]
theorem fd_end {α : Type} {f : Int → α → Int} {z m : Int} {l : List α} {k : Nat} (h : z = (l.drop k).foldl f m) (hk : l.length ≤ k) : z = m := by rw [h, List.drop_of_length_le hk]; rfl
end Go.Proofs.YtlhmecagijdinaaDoor.nm
set_option linter.unusedVariables false
set_option linter.unusedSimpArgs false
namespace Go.Proofs.YtlhmecagijdinaaDoor.nm
open Go.RowKit

/-- The units that forms have, and whether all of them are plain. -/
def upT : List Fo → Int → Int × Bool
  | [], m => (m, true)
  | x :: l, m => if x.ps.length = 0 then upT l (orI m (orU 0 x.us 0)) else (0, false)
def RelUp (W : World) (z : Int × Bool) (l : List Fo) (i u : Value) (wr : World) : Prop := ∃ (k : Nat) (m : Int), i = .int .i64 k ∧ u = .int .i64 m ∧ k ≤ l.length ∧ Below W.heap.size W wr ∧ Hid (z = upT (l.drop k) m)
theorem RelUp.mk {W : World} {z : Int × Bool} {l : List Fo} {i u : Value} {wr : World} (k : Nat) (m : Int) (h1 : i = .int .i64 k) (h2 : u = .int .i64 m) (h3 : k ≤ l.length) (h4 : Below W.heap.size W wr) (h5 : z = upT (l.drop k) m) : RelUp W z l i u wr := ⟨k, m, h1, h2, h3, h4, h5⟩
set_option maxRecDepth 100000 in
set_option maxHeartbeats 8000000 in
theorem usedPlain_any (n : Nat) (l : List Fo) (v : Value) (w : World) (hN : Nth w) (hl : FM w n v l) : Calls Tryd.prog 48 #[v] w fun e w' => e = .returned (.tuple #[.int .i64 (upT l 0).1, .bool (upT l 0).2]) ∧ Below w.heap.size w w' := by
  obtain ⟨a, c, rfl, hl9⟩ := hl.shape
  have EQ := hide (show upT l 0 = upT (l.drop 0) 0 from rfl)
  obtain ⟨z, hz⟩ : ∃ z, upT l 0 = z := ⟨_, rfl⟩
  rw [hz] at EQ ⊢
  have HV := hide hl
  have HN := hide hN
  have hw0 : w.heap.size ≤ w.heap.size := Nat.le_refl _
  clear hz hl hN
  go_enter Tryd.func48, Tryd.ntmps48
  go_wp2_with fail
  go_loopw [9, 4] (fun i u wr => RelUp w z l i u wr) (fun i _ _ => l.length - (intOf i).toNat)
  case atStart => exact .mk 0 0 rfl rfl (by omega) (Below.refl _ _) EQ.out
  case round =>
    clear EQ
    obtain ⟨k, m, rfl, rfl, hk, BE, R⟩ := hrel
    replace BE := hide BE
    by_cases hlt : k < l.length
    · obtain ⟨x, hx⟩ : ∃ x, l[k]? = some x := ⟨_, List.getElem?_eq_getElem hlt⟩
      obtain ⟨j, hj, b, o, c', u5, hv, hb, -, -, q0, q1, hu⟩ := HV.out.at hx
      obtain ⟨rfl, rfl⟩ : a = some ⟨b, o, none⟩ ∧ c = c' := by cases hv; exact ⟨rfl, rfl⟩
      have hlt' : (k : Int) < l.length := by omega
      have R2 := hide (show z = if x.ps.length = 0 then upT (l.drop (k + 1)) (orI m (orU 0 x.us 0)) else (0, false) by rw [R.out, drop_atE hx]; rfl)
      have f14 := (BE.out.cell (p := ⟨b, o + k * 15 + 14, none⟩) hb).trans q1
      have hbw : b < wr.heap.size := by have := BE.out.size; omega
      have nb : b ≠ wr.heap.size := by omega
      obtain ⟨xus, xps⟩ := x
      simp only [Fo.us, Fo.ps] at q0 hu R2 f14
      obtain ⟨xa, xc, hxs, hx9⟩ := hu.shape
      subst hxs
      have QU := hide q0.1
      have CI := hide (fun (W : World) (h : Below w.heap.size w W) => usedOf_any xus W (HN.out.low h) QU.out)
      obtain ⟨gx, hgx⟩ : ∃ gx, orU 0 xus 0 = gx := ⟨_, rfl⟩
      rw [hgx] at CI R2
      clear hgx
      obtain ⟨xn0, xd0, xn1, xd1, xn2, xd2, xn3, xd3, xn4, xd4, xn5, xd5, xn6, xd6, rfl⟩ := us7 QU.out
      rw [usV_eq] at CI
      obtain ⟨f0, f1, f2, f3, f4, f5, f6, f7, f8, f9, f10, f11, f12, f13⟩ := (q0.below BE.out hb).fa
      clear hv hx q0 q1 hu R hj
      by_cases hp : xps.length = 0
      · replace R2 := hide (R2.out.trans (if_pos hp))
        have hp' : ¬ (0 : Int) < xps.length := by omega
        go_wp2_with (go_at_call 68; refine (CI.out _ (bplus BE.out _)).mono ?_; rintro e w4 ⟨rfl, B4⟩; replace B4 := hide (bto (bplus BE.out _) B4))
        go_roundw
        case rel => exact .mk (k + 1) (orI m gx) (by go_num) rfl (by omega) B4.out R2.out
        case measure => simp [intOf]; omega
      · replace R2 := hide (R2.out.trans (if_neg hp))
        have hp' : (0 : Int) < xps.length := by omega
        go_wp2
        rw [R2.out]
        exact bodyPost_ret (v := .tuple #[.int .i64 0, .bool false]) (by simp [results, Tryd.results48, go_sem]) rfl ⟨rfl, bplus BE.out _⟩
    · have hlt' : ¬ (k : Int) < l.length := by omega
      have F := hide (show z = (m, true) by rw [R.out, List.drop_of_length_le (by omega)]; rfl)
      clear R
      go_wp2
      rw [F.out]
      exact bodyPost_ret (v := .tuple #[.int .i64 m, .bool true]) (by simp [results, Tryd.results48, go_sem]) rfl ⟨rfl, BE.out⟩
end Go.Proofs.YtlhmecagijdinaaDoor.nm
