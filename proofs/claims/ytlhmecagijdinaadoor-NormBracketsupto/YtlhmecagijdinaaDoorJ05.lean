/-
  The kind of an expression: by the reference.
  Numbers: by the program, by the reference; the law.
-/
import Derived.Test.YtlhmecagijdinaaDoorH12
import Derived.Test.YtlhmecagijdinaaDoorK11
import Derived.Test.YtlhmecagijdinaaDoorH06
import Derived.Test.YtlhmecagijdinaaDoorN19
set_option linter.unusedVariables false
set_option linter.unusedSimpArgs false
namespace Go.Proofs.YtlhmecagijdinaaDoor.cc
open Go.RowKit

theorem bxk_5c {w : World} {b : Nat} {u0 u1 u2 u3 u4 : Value} {T : TypeId} (h : w.heap[b]? = some (.cells #[u0, u1, u2, u3, u4] T)) : w.cell? ⟨b, 0, none⟩ = some u0 ∧ w.cell? ⟨b, 1, none⟩ = some u1 ∧ w.cell? ⟨b, 2, none⟩ = some u2 ∧ w.cell? ⟨b, 3, none⟩ = some u3 ∧ w.cell? ⟨b, 4, none⟩ = some u4 :=
  ⟨by rw [row_blk h]; rfl, by rw [row_blk h]; rfl, by rw [row_blk h]; rfl, by rw [row_blk h]; rfl, by rw [row_blk h]; rfl⟩
theorem far_blk {w w1 : World} {b : Nat} {o : Obj} (h : w.heap[b]? = some o) (B : Below w.heap.size w w1) : w1.heap[b]? = some o := (B.block _ (Array.getElem?_eq_some_iff.1 h).1).trans h
theorem more_blk {w : World} {b : Nat} {o : Obj} (h : w.heap[b]? = some o) (p : Obj) : (w.alloc p).heap[b]? = some o := far_blk h (bplus (Below.refl _ _) p)
theorem fz_of {w : World} {b : Nat} {cs : Array Value} {T : TypeId} (h : w.heap[b]? = some (.cells cs T)) : ∀ j, w.frozen? ⟨b, j, none⟩ = false := fun j => by simp [World.frozen?, h]
theorem bxk_3c {w : World} {b : Nat} {u0 u1 u2 : Value} {T : TypeId} (h : w.heap[b]? = some (.cells #[u0, u1, u2] T)) : w.cell? ⟨b, 0, none⟩ = some u0 ∧ w.cell? ⟨b, 1, none⟩ = some u1 ∧ w.cell? ⟨b, 2, none⟩ = some u2 :=
  ⟨by rw [row_blk h]; rfl, by rw [row_blk h]; rfl, by rw [row_blk h]; rfl⟩
/-- The counts lie in their block. -/
def Cnt (w : World) (b : Nat) (l : List Nat) : Prop := w.heap[b]? = some (.cells #[.int .i64 (cnK l 0), .int .i64 (cnK l 1), .int .i64 (cnK l 2)] 87)
theorem Cnt.put0 {w : World} {b : Nat} {l : List Nat} (h : Cnt w b l) {n : Int} (hn : n = (cnK l 0 : Int) + 1) : Cnt (w.setCell ⟨b, 0, none⟩ (.int .i64 n)) b (l ++ [0]) := by
  unfold Cnt
  rw [setCell_blk h, cnK_snoc, cnK_snoc, cnK_snoc, hn]
  rfl
theorem Cnt.put1 {w : World} {b : Nat} {l : List Nat} (h : Cnt w b l) {n : Int} (hn : n = (cnK l 1 : Int) + 1) : Cnt (w.setCell ⟨b, 1, none⟩ (.int .i64 n)) b (l ++ [1]) := by
  unfold Cnt
  rw [setCell_blk h, cnK_snoc, cnK_snoc, cnK_snoc, hn]
  rfl
theorem Cnt.put2 {w : World} {b : Nat} {l : List Nat} (h : Cnt w b l) {n : Int} (hn : n = (cnK l 2 : Int) + 1) : Cnt (w.setCell ⟨b, 2, none⟩ (.int .i64 n)) b (l ++ [2]) := by
  unfold Cnt
  rw [setCell_blk h, cnK_snoc, cnK_snoc, cnK_snoc, hn]
  rfl
def KrC (N : Nat) : Prop := ∀ (x : Ex) (j : Nat) (u : Value) (w : World), szE x ≤ N → exM x j = true → EM w u x.ks → Calls Tryd.prog 36 #[exV x u] w fun e w' => e = .returned (.int .i64 (kdE x)) ∧ Below w.heap.size w w'
def RelKr (w : World) (l : List Ex) (ob : Obj) (i : Value) (wr : World) : Prop := ∃ m : Nat, i = .int .i64 m ∧ m ≤ l.length ∧ Below w.heap.size w wr ∧ Hid (wr.heap[w.heap.size]? = some ob) ∧ Hid (Cnt wr (w.heap.size + 1) ((l.take m).map kdE)) ∧ w.heap.size + 1 < wr.heap.size
theorem RelKr.mk {w : World} {l : List Ex} {ob : Obj} {i : Value} {wr : World} (m : Nat) (h1 : i = .int .i64 m) (h2 : m ≤ l.length) (h3 : Below w.heap.size w wr) (h4 : wr.heap[w.heap.size]? = some ob) (h5 : Cnt wr (w.heap.size + 1) ((l.take m).map kdE)) : RelKr w l ob i wr := ⟨m, h1, h2, h3, h4, h5, (Array.getElem?_eq_some_iff.1 h5).1⟩
theorem take_snoc {l : List Ex} {m : Nat} {x : Ex} (h : l[m]? = some x) : (l.take (m + 1)).map kdE = (l.take m).map kdE ++ [kdE x] := by
  rw [List.take_add_one, h, List.map_append]; rfl
theorem set_low {w w1 : World} {b j : Nat} {v : Value} (h : Below w.heap.size w w1) (hb : w.heap.size ≤ b) : Below w.heap.size w (w1.setCell ⟨b, j, none⟩ v) := h.setCell hb _
set_option maxRecDepth 100000 in
set_option maxHeartbeats 8000000 in
theorem kindR_all (N : Nat) : KrC N := by
  induction N with
  | zero => intro x j u w hN; rw [szE_ks] at hN; omega
  | succ N ih =>
    intro x j u w hN hm hu
    obtain ⟨a, c, rfl, hl9⟩ := hu.shape
    have HK := fun hk => (exM_kids hm hk).1
    rw [szE_ks] at hN
    obtain ⟨k, n, d, q, ks⟩ := x
    simp only [Ex.k, Ex.n, Ex.d, Ex.u, Ex.ks] at hN hl9 HK hu
    have E := hide (kdE_mk k n d q ks)
    have E2 := hide (fun hk => kd_rf (k := k) hm hk)
    show Calls Tryd.prog 36 #[.agg #[.int .i64 k, .int .i64 n, .int .i64 d, .int .i64 q, .slice a ks.length c]] w _
    obtain ⟨X, hX⟩ : ∃ X, Ex.mk k n d q ks = X := ⟨_, rfl⟩
    rw [hX] at E E2 hm ⊢
    clear hX
    have B0 := bplus (Below.refl w.heap.size w) (.cells #[.int .i64 k, .int .i64 n, .int .i64 d, .int .i64 q, .slice a ks.length c] 26)
    by_cases k1 : k = 1
    · subst k1
      replace E := hide (show kdE X = (if q = 0 then 1 else 2) by rw [E.out, if_pos rfl])
      have HB := hide B0
      by_cases u0 : q = 0
      · subst u0
        have F := hide (show (kdE X : Int) = 1 by rw [E.out]; rfl)
        clear E E2 hm hu ih B0
        go_enter Tryd.func36, Tryd.ntmps36
        go_wp2
        go_ret
        exact ⟨ret_int F.out.symm, HB.out⟩
      · have F := hide (show (kdE X : Int) = 2 by rw [E.out, if_neg u0]; rfl)
        have u1 : (q == 0) = false := by simpa using u0
        clear E E2 hm hu ih B0
        go_enter Tryd.func36, Tryd.ntmps36
        go_wp2
        go_ret
        exact ⟨ret_int F.out.symm, HB.out⟩
    have hms := hide (HK k1)
    have HV := hide hu
    have IH := hide ih
    replace E2 := hide (E2.out k1)
    have k1' : (k == 1) = false := by simpa using k1
    have s1 := (show (w.alloc (.cells #[.int .i64 k, .int .i64 n, .int .i64 d, .int .i64 q, .slice a ks.length c] 26)).heap.size = w.heap.size + 1 by simp)
    have C0 := hide (show Cnt ((w.alloc (.cells #[.int .i64 k, .int .i64 n, .int .i64 d, .int .i64 q, .slice a ks.length c] 26)).alloc (.cells #[.int .i64 0, .int .i64 0, .int .i64 0] 87)) (w.heap.size + 1) ((ks.take 0).map kdE) by
      unfold Cnt; rw [← s1]; exact heap_alloc_new _ _)
    have P0 := hide (more_blk (heap_alloc_new w (.cells #[.int .i64 k, .int .i64 n, .int .i64 d, .int .i64 q, .slice a ks.length c] 26)) (.cells #[.int .i64 0, .int .i64 0, .int .i64 0] 87))
    have HB := hide (bplus B0 (.cells #[.int .i64 0, .int .i64 0, .int .i64 0] 87))
    clear E hm hu ih B0 HK s1
    go_enter Tryd.func36, Tryd.ntmps36
    go_wp2
    go_loopw [17] (fun i wr => RelKr w ks (.cells #[.int .i64 k, .int .i64 n, .int .i64 d, .int .i64 q, .slice a ks.length c] 26) i wr) (fun i _ => ks.length - (intOf i).toNat)
    case atStart => exact .mk 0 rfl (by omega) HB.out P0.out C0.out
    case round =>
      clear HB P0 C0
      obtain ⟨m, rfl, hm, BE, PQ, CN, hsz⟩ := hrel
      replace BE := hide BE
      by_cases hlt : m < ks.length
      · obtain ⟨x, hx⟩ : ∃ x, ks[m]? = some x := ⟨_, List.getElem?_eq_getElem hlt⟩
        obtain ⟨b, o, c', u, hv', hb, -, -, xo, t5, hu5, hku⟩ := HV.out.at hx
        obtain ⟨rfl, rfl⟩ : a = some ⟨b, o, none⟩ ∧ c = c' := by cases hv'; exact ⟨rfl, rfl⟩
        obtain ⟨ua, uc, hus, hks9⟩ := hku.shape
        have SZ := hide (show szE x ≤ N by have := szEs_at hx; omega)
        have KU := hide hku
        have MX := hide (exMs_at hms.out hx)
        have TS := hide (take_snoc hx)
        have hlt' : (m : Int) < ks.length := by omega
        obtain ⟨c0, c1, c2, c3⟩ := t5.below BE.out hb
        have c4 := (BE.out.cell (p := ⟨b, o + m * 5 + 4, none⟩) hb).trans hu5
        have hbw : b < wr.heap.size := by have := BE.out.size; omega
        have nb : b ≠ wr.heap.size := by omega
        have KL := kdE_le _ x (Nat.le_refl _)
        clear hx hv' t5 hu5 hku xo
        subst hus
        have CI := hide (fun (W : World) (h : Below w.heap.size w W) => IH.out x (j - 1) (.slice ua x.ks.length uc) W SZ.out MX.out (KU.out.low h))
        unfold exV at CI
        generalize x.k = xk at *
        generalize x.n = xn at *
        generalize x.d = xd at *
        generalize x.u = xu at *
        have L0 := cnK_le ((ks.take m).map kdE) 0
        have L1 := cnK_le ((ks.take m).map kdE) 1
        have L2 := cnK_le ((ks.take m).map kdE) 2
        have hll : ((ks.take m).map kdE).length ≤ 1000000000 := by rw [List.length_map, List.length_take]; omega
        generalize (ks.take m).map kdE = lk at *
        have z0 : (cnK lk 0 : Int) ≤ 1000000000 := by omega
        have z1 : (cnK lk 1 : Int) ≤ 1000000000 := by omega
        have z2 : (cnK lk 2 : Int) ≤ 1000000000 := by omega
        rcases (show kdE x = 0 ∨ kdE x = 1 ∨ kdE x = 2 by omega) with hk | hk | hk
        · rw [hk] at CI TS
          clear hk KL
          go_wp2_with (go_at_call 36; refine (CI.out _ (bplus BE.out _)).mono ?_; rintro e w4 ⟨rfl, B4⟩; replace PQ := hide (far_blk (more_blk PQ.out _) B4); replace CN := hide (show Cnt w4 (w.heap.size + 1) lk from far_blk (more_blk CN.out _) B4); replace BE := hide (bto (bplus BE.out _) B4); obtain ⟨r0, r1, r2⟩ := bxk_3c CN.out; have fz := fz_of CN.out; clear B4)
          go_roundw
          case rel => exact .mk (m + 1) (by go_num) (by omega) (set_low BE.out (by omega)) ((Below.heap_setCell _ _ _ _ (by show w.heap.size ≠ w.heap.size + 1; omega)).trans PQ.out) (by rw [TS.out]; exact CN.out.put0 (by first | rfl | go_num))
          case measure => simp [intOf]; omega
        · rw [hk] at CI TS
          clear hk KL
          go_wp2_with (go_at_call 36; refine (CI.out _ (bplus BE.out _)).mono ?_; rintro e w4 ⟨rfl, B4⟩; replace PQ := hide (far_blk (more_blk PQ.out _) B4); replace CN := hide (show Cnt w4 (w.heap.size + 1) lk from far_blk (more_blk CN.out _) B4); replace BE := hide (bto (bplus BE.out _) B4); obtain ⟨r0, r1, r2⟩ := bxk_3c CN.out; have fz := fz_of CN.out; clear B4)
          go_roundw
          case rel => exact .mk (m + 1) (by go_num) (by omega) (set_low BE.out (by omega)) ((Below.heap_setCell _ _ _ _ (by show w.heap.size ≠ w.heap.size + 1; omega)).trans PQ.out) (by rw [TS.out]; exact CN.out.put1 (by first | rfl | go_num))
          case measure => simp [intOf]; omega
        · rw [hk] at CI TS
          clear hk KL
          go_wp2_with (go_at_call 36; refine (CI.out _ (bplus BE.out _)).mono ?_; rintro e w4 ⟨rfl, B4⟩; replace PQ := hide (far_blk (more_blk PQ.out _) B4); replace CN := hide (show Cnt w4 (w.heap.size + 1) lk from far_blk (more_blk CN.out _) B4); replace BE := hide (bto (bplus BE.out _) B4); obtain ⟨r0, r1, r2⟩ := bxk_3c CN.out; have fz := fz_of CN.out; clear B4)
          go_roundw
          case rel => exact .mk (m + 1) (by go_num) (by omega) (set_low BE.out (by omega)) ((Below.heap_setCell _ _ _ _ (by show w.heap.size ≠ w.heap.size + 1; omega)).trans PQ.out) (by rw [TS.out]; exact CN.out.put2 (by first | rfl | go_num))
          case measure => simp [intOf]; omega
      · have hlt' : ¬ (m : Int) < ks.length := by omega
        rw [List.take_of_length_le (by omega)] at CN
        obtain ⟨r0, r1, r2⟩ := bxk_3c CN.out
        obtain ⟨p0, p1, p2, p3, p4⟩ := bxk_5c PQ.out
        generalize cnK (ks.map kdE) 0 = a0 at *
        generalize cnK (ks.map kdE) 1 = a1 at *
        generalize cnK (ks.map kdE) 2 = a2 at *
        generalize ks.length = len at *
        clear CN
        by_cases h0 : 0 < a0
        · have F := hide (show (kdE X : Int) = 0 by rw [E2.out]; unfold rfK; rw [if_pos h0]; rfl)
          have h0' : (0 : Int) < a0 := by omega
          clear E2
          go_wp2
          go_ret
          exact ⟨ret_int F.out.symm, BE.out⟩
        have h0' : ¬ (0 : Int) < a0 := by omega
        replace E2 := hide (show kdE X = if k = 4 ∧ a2 = 1 then 2 else if a1 = len then 1 else if a2 = len ∧ ¬ k = 4 ∧ ¬ k = 5 then 2 else 0 by rw [E2.out]; unfold rfK; rw [if_neg h0])
        by_cases h4 : k = 4 ∧ a2 = 1
        · obtain ⟨rfl, rfl⟩ := h4
          have F := hide (show (kdE X : Int) = 2 by rw [E2.out, if_pos ⟨rfl, rfl⟩]; rfl)
          clear E2
          go_wp2
          go_ret
          exact ⟨ret_int F.out.symm, BE.out⟩
        replace E2 := hide (show kdE X = if a1 = len then 1 else if a2 = len ∧ ¬ k = 4 ∧ ¬ k = 5 then 2 else 0 by rw [E2.out, if_neg h4])
        by_cases k4 : k = 4
        · subst k4
          have n2 : ¬ (a2 : Int) = 1 := fun e => h4 ⟨rfl, by omega⟩
          have n2' : ((a2 : Int) == 1) = false := by simpa using n2
          by_cases h1 : a1 = len
          · have F := hide (show (kdE X : Int) = 1 by rw [E2.out, if_pos h1]; rfl)
            subst h1
            clear E2 h4
            go_wp2
            go_ret
            exact ⟨ret_int F.out.symm, BE.out⟩
          · have F := hide (show (kdE X : Int) = 0 by rw [E2.out, if_neg h1, if_neg (by simp)]; rfl)
            have h1' : ¬ (a1 : Int) = len := by omega
            have h1b : ((a1 : Int) == len) = false := by simpa using h1'
            clear E2 h4
            go_wp2
            all_goals (go_ret; exact ⟨ret_int F.out.symm, BE.out⟩)
        have k4' : (k == 4) = false := by simpa using k4
        by_cases h1 : a1 = len
        · have F := hide (show (kdE X : Int) = 1 by rw [E2.out, if_pos h1]; rfl)
          subst h1
          clear E2 h4
          go_wp2
          go_ret
          exact ⟨ret_int F.out.symm, BE.out⟩
        have h1' : ¬ (a1 : Int) = len := by omega
        have h1b : ((a1 : Int) == len) = false := by simpa using h1'
        replace E2 := hide (show kdE X = if a2 = len ∧ ¬ k = 4 ∧ ¬ k = 5 then 2 else 0 by rw [E2.out, if_neg h1])
        by_cases h2 : a2 = len
        · subst h2
          by_cases k5 : k = 5
          · subst k5
            have F := hide (show (kdE X : Int) = 0 by rw [E2.out, if_neg (by simp)]; rfl)
            clear E2 h4
            go_wp2
            go_ret
            exact ⟨ret_int F.out.symm, BE.out⟩
          · have F := hide (show (kdE X : Int) = 2 by rw [E2.out, if_pos ⟨rfl, k4, k5⟩]; rfl)
            have k5' : (k == 5) = false := by simpa using k5
            have k4n : (k != 4) = true := by simpa using k4
            have k5n : (k != 5) = true := by simpa using k5
            clear E2 h4
            go_wp2
            go_ret
            exact ⟨ret_int F.out.symm, BE.out⟩
        · have F := hide (show (kdE X : Int) = 0 by rw [E2.out, if_neg (fun h => h2 h.1)]; rfl)
          have h2' : ¬ (a2 : Int) = len := by omega
          have h2b : ((a2 : Int) == len) = false := by simpa using h2'
          clear E2 h4
          go_wp2
          go_ret
          exact ⟨ret_int F.out.symm, BE.out⟩
end Go.Proofs.YtlhmecagijdinaaDoor.cc
set_option linter.unusedVariables false
set_option linter.unusedSimpArgs false
namespace Go.Proofs.YtlhmecagijdinaaDoor.nm
open Go.RowKit cc

set_option maxRecDepth 100000 in
set_option maxHeartbeats 4000000 in
theorem kindR_any (x : Ex) (u : Value) (w : World) (hx : x.Ok) (hu : EM w u x.ks) :
    Calls Tryd.prog 17 #[exV x u] w fun e w' => e = .returned (.tuple #[.int .i64 (kdT x), .int .i64 (kdX x)]) ∧ Below w.heap.size w w' := by
  obtain ⟨a, c, rfl, hl9⟩ := hu.shape
  have PQ := hide (heap_alloc_new w (.cells #[.int .i64 x.k, .int .i64 x.n, .int .i64 x.d, .int .i64 x.u, .slice a x.ks.length c] 26))
  have HB := hide (bplus (Below.refl w.heap.size w) (.cells #[.int .i64 x.k, .int .i64 x.n, .int .i64 x.d, .int .i64 x.u, .slice a x.ks.length c] 26))
  have C1 := hide (fun (W : World) (B : Below w.heap.size w W) => calcMayR_any x (.slice a x.ks.length c) W hx (hu.low B))
  have C2 := hide (fun (hm : exM x 340 = true) (W : World) (B : Below w.heap.size w W) => kindR_all (szE x) x 340 (.slice a x.ks.length c) W (Nat.le_refl _) hm (hu.low B))
  have T1 := hide (show kdT x = (if exM x 340 = true then kdE x else 0) from rfl)
  have T2 := hide (show kdX x = (if exM x 340 = true then (if kdE x = 0 then 4 else 0) else 1) from rfl)
  unfold exV at C1 C2 ⊢
  clear hu hx
  cases hm : exM x 340
  · have HM := hide hm
    replace T1 := hide (show (kdT x : Int) = 0 by rw [T1.out, hm]; rfl)
    replace T2 := hide (show (kdX x : Int) = 1 by rw [T2.out, hm]; rfl)
    rw [T1.out, T2.out]
    clear hm C2 T1 T2
    generalize x.k = xk at *
    generalize x.n = xn at *
    generalize x.d = xd at *
    generalize x.u = xu at *
    generalize x.ks.length = xl at *
    go_enter Tryd.func17, Tryd.ntmps17
    go_wp2_with (go_at_call 35; refine (C1.out _ HB.out).mono ?_; rintro e w1 ⟨rfl, B1⟩; rw [HM.out]; replace HB := hide (bto HB.out B1); clear B1 C1)
    go_ret2
    exact ⟨rfl, HB.out⟩
  · have HM := hide hm
    replace C2 := hide (C2.out hm)
    replace T1 := hide (show (kdT x : Int) = kdE x by rw [T1.out, hm]; rfl)
    replace T2 := hide (show (kdX x : Int) = (if kdE x = 0 then 4 else 0 : Nat) by rw [T2.out, hm]; rfl)
    rw [T1.out, T2.out]
    clear hm T1 T2
    generalize x.k = xk at *
    generalize x.n = xn at *
    generalize x.d = xd at *
    generalize x.u = xu at *
    generalize x.ks.length = xl at *
    generalize kdE x = kx at *
    by_cases h0 : kx = 0
    · subst h0
      rw [if_pos rfl]
      go_enter Tryd.func17, Tryd.ntmps17
      go_wp2_with (first
        | (go_at_call 35; refine (C1.out _ HB.out).mono ?_; rintro e w1 ⟨rfl, B1⟩; rw [HM.out]; replace PQ := hide (far_blkm PQ.out B1); replace HB := hide (bto HB.out B1); obtain ⟨r0, r1, r2, r3, r4⟩ := bxk_5m PQ.out; clear B1 C1)
        | (go_at_call 36; refine (C2.out _ HB.out).mono ?_; rintro e w2 ⟨rfl, B1⟩; replace HB := hide (bto HB.out B1); clear B1 C2))
      go_ret2
      exact ⟨rfl, HB.out⟩
    · rw [if_neg h0]
      have h1 : ¬ (kx : Int) = 0 := by omega
      have h2 : ((kx : Int) == 0) = false := by simpa using h1
      go_enter Tryd.func17, Tryd.ntmps17
      go_wp2_with (first
        | (go_at_call 35; refine (C1.out _ HB.out).mono ?_; rintro e w1 ⟨rfl, B1⟩; rw [HM.out]; replace PQ := hide (far_blkm PQ.out B1); replace HB := hide (bto HB.out B1); obtain ⟨r0, r1, r2, r3, r4⟩ := bxk_5m PQ.out; clear B1 C1)
        | (go_at_call 36; refine (C2.out _ HB.out).mono ?_; rintro e w2 ⟨rfl, B1⟩; replace HB := hide (bto HB.out B1); clear B1 C2))
      go_ret2
      exact ⟨rfl, HB.out⟩
/-- What Number tells: the number and the error. -/
def z0R : Int → Int × Int := fun _ => (0, 0)
def nuT (x : Ex) : Int × Int := if kdX x = 0 ∧ kdT x = 1 then rkE z0R x else (0, 0)
def nuX (x : Ex) : Nat := if kdX x = 0 then (if kdT x = 1 then 0 else 4) else kdX x
theorem kd_cases (x : Ex) : (kdX x = 0 ∧ exM x 340 = true ∧ kdT x = kdE x ∧ (kdE x = 1 ∨ kdE x = 2)) ∨ (kdX x = 1 ∧ kdT x = 0) ∨ (kdX x = 4 ∧ kdT x = 0) := by
  have hle := kdE_le _ x (Nat.le_refl _)
  unfold kdX kdT
  by_cases h : exM x 340 = true
  · rw [if_pos h, if_pos h]
    by_cases h0 : kdE x = 0
    · rw [if_pos h0]; exact .inr (.inr ⟨rfl, h0⟩)
    · rw [if_neg h0]; exact .inl ⟨rfl, h, rfl, by omega⟩
  · rw [if_neg h, if_neg h]; exact .inr (.inl ⟨rfl, rfl⟩)
/-- The error of an expression that is no number. -/
theorem kindIs_num (x : Ex) (u : Value) (w : World) (hx : x.Ok) (hu : EM w u x.ks) : Calls Tryd.prog 15 #[exV x u, .int .i64 1] w fun e w' => e = .returned (.int .i64 (nuX x)) ∧ Below w.heap.size w w' := by
  have C := hide (fun (W : World) (h : Below w.heap.size w W) => kindP_any x u W hx (hu.low h))
  have KK := kd_cases x
  have EX := hide (show nuX x = if kdX x = 0 then (if kdT x = 1 then 0 else 4) else kdX x from rfl)
  obtain ⟨a, c, rfl, hl9⟩ := hu.shape
  have HB := hide (bplus (Below.refl w.heap.size w) (.cells #[.int .i64 x.k, .int .i64 x.n, .int .i64 x.d, .int .i64 x.u, .slice a x.ks.length c] 26))
  unfold exV at C ⊢
  generalize nuX x = nx at *
  generalize x.k = xk at *
  generalize x.n = xn at *
  generalize x.d = xd at *
  generalize x.u = xu at *
  generalize x.ks.length = xl at *
  clear hu hx
  rcases KK with ⟨h1, -, h2, h3⟩ | ⟨h1, h2⟩ | ⟨h1, h2⟩
  · rcases h3 with h3 | h3
    all_goals
      rw [h1, h2, h3] at C EX
      have EX2 := EX.out
      simp at EX2
      subst EX2
      clear h1 h2 h3 EX
      go_enter Tryd.func15, Tryd.ntmps15
      go_wp2_with (go_at_call 31; refine (C.out _ HB.out).mono ?_; rintro e w1 ⟨rfl, B1⟩; replace HB := hide (bto HB.out B1); clear B1 C)
      go_ret
      exact ⟨rfl, HB.out⟩
  all_goals
    rw [h1, h2] at C
    rw [h1] at EX
    have EX2 := EX.out
    simp at EX2
    subst EX2
    clear h1 h2 EX
    go_enter Tryd.func15, Tryd.ntmps15
    go_wp2_with (go_at_call 31; refine (C.out _ HB.out).mono ?_; rintro e w1 ⟨rfl, B1⟩; replace HB := hide (bto HB.out B1); clear B1 C)
    go_ret
    exact ⟨rfl, HB.out⟩
theorem nu_cases (x : Ex) : (nuX x = 0 ∧ nuT x = rkE z0R x ∧ exM x 340 = true ∧ kdE x = 1) ∨ ((nuX x = 1 ∨ nuX x = 4) ∧ nuT x = (0, 0)) := by
  have K := kd_cases x
  unfold nuX nuT
  rcases K with ⟨h1, h2, h3, h4⟩ | ⟨h1, h2⟩ | ⟨h1, h2⟩
  · rw [h1, h3]
    rcases h4 with h4 | h4
    · rw [h4]; exact .inl ⟨rfl, rfl, h2, rfl⟩
    · rw [h4]; exact .inr ⟨.inr rfl, rfl⟩
  · rw [h1, h2]; exact .inr ⟨.inl rfl, rfl⟩
  · rw [h1, h2]; exact .inr ⟨.inr rfl, rfl⟩
def nuV (x : Ex) : Value := .tuple #[ratV (nuT x), .int .i64 (nuX x)]
def c00 : List (Int × Int) := [(0, 0), (0, 0), (0, 0), (0, 0), (0, 0), (0, 0)]
end Go.Proofs.YtlhmecagijdinaaDoor.nm
