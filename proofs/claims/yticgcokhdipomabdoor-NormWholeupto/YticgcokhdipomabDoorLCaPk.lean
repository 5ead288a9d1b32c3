/-
  The kind of an expression: by the reference.
-/
import Derived.Test.YticgcokhdipomabDoorLCaO
set_option linter.unusedVariables false
set_option linter.unusedSimpArgs false
namespace Go.Proofs.YticgcokhdipomabDoor.cc
open Go.RowKit

theorem bxk_5c {w : World} {b : Nat} {u0 u1 u2 u3 u4 : Value} {T : TypeId} (h : w.heap[b]? = some (.cells #[u0, u1, u2, u3, u4] T)) : w.cell? ⟨b, 0, none⟩ = some u0 ∧ w.cell? ⟨b, 1, none⟩ = some u1 ∧ w.cell? ⟨b, 2, none⟩ = some u2 ∧ w.cell? ⟨b, 3, none⟩ = some u3 ∧ w.cell? ⟨b, 4, none⟩ = some u4 :=
  ⟨by rw [row_blk h]; rfl, by rw [row_blk h]; rfl, by rw [row_blk h]; rfl, by rw [row_blk h]; rfl, by rw [row_blk h]; rfl⟩
theorem far_blk {w w1 : World} {b : Nat} {o : Obj} (h : w.heap[b]? = some o) (B : Below w.heap.size w w1) : w1.heap[b]? = some o := (B.block _ (Array.getElem?_eq_some_iff.1 h).1).trans h
theorem more_blk {w : World} {b : Nat} {o : Obj} (h : w.heap[b]? = some o) (p : Obj) : (w.alloc p).heap[b]? = some o := far_blk h (bplus (Below.refl _ _) p)
theorem fz_of {w : World} {b : Nat} {cs : Array Value} {T : TypeId} (h : w.heap[b]? = some (.cells cs T)) : ∀ j, w.frozen? ⟨b, j, none⟩ = false := fun j => by simp [World.frozen?, h]
theorem bxk_3c {w : World} {b : Nat} {u0 u1 u2 : Value} {T : TypeId} (h : w.heap[b]? = some (.cells #[u0, u1, u2] T)) : w.cell? ⟨b, 0, none⟩ = some u0 ∧ w.cell? ⟨b, 1, none⟩ = some u1 ∧ w.cell? ⟨b, 2, none⟩ = some u2 :=
  ⟨by rw [row_blk h]; rfl, by rw [row_blk h]; rfl, by rw [row_blk h]; rfl⟩
/-- The counts lie in their block. -/
def Cnt (w : World) (b : Nat) (l : List Nat) : Prop := w.heap[b]? = some (.cells #[.int .i64 (cnK l 0), .int .i64 (cnK l 1), .int .i64 (cnK l 2)] 90)
theorem Cnt.put0 {w : World} {b : Nat} {l : List Nat} (h : Cnt w b l) {n : Int} (hn : n = (cnK l 0 : Int) + 1) : Cnt (w.setCell ⟨b, 0, none⟩ (.int .i64 n)) b (l ++ [0]) := by
  unfold Cnt
  rw [setCell_blk h, cnK_snoc, cnK_snoc, cnK_snoc, hn]
  rfl
theorem Cnt.put1 {w : World} {b : Nat} {l : List Nat} (h : Cnt w b l) {n : Int} (hn : n = (cnK l 1 : Int) + 1) : Cnt (w.setCell ⟨b, 1, none⟩ (.int .i64 n)) b (l ++ [1]) := by
  unfold Cnt
  rw [setCell_blk h, cnK_snoc, cnK_snoc, cnK_snoc, hn]
  rfl
theorem Cnt.put2 {w : World} {b : Nat} {l : List Nat} (h : Cnt w b l) {n : Int} (hn : n = (cnK l 2 : Int) + 1) : Cnt (w.setCell ⟨b, 2, none⟩ (.int .i64 n)) b (l ++ [2]) := by
  unfold Cnt
  rw [setCell_blk h, cnK_snoc, cnK_snoc, cnK_snoc, hn]
  rfl
def KrC (N : Nat) : Prop := ∀ (x : Ex) (j : Nat) (u : Value) (w : World), szE x ≤ N → exM x j = true → EM w u x.ks → Calls Tryd.prog 40 #[exV x u] w fun e w' => e = .returned (.int .i64 (kdE x)) ∧ Below w.heap.size w w'
def RelKr (w : World) (l : List Ex) (ob : Obj) (i : Value) (wr : World) : Prop := ∃ m : Nat, i = .int .i64 m ∧ m ≤ l.length ∧ Below w.heap.size w wr ∧ Hid (wr.heap[w.heap.size]? = some ob) ∧ Hid (Cnt wr (w.heap.size + 1) ((l.take m).map kdE)) ∧ w.heap.size + 1 < wr.heap.size
theorem RelKr.mk {w : World} {l : List Ex} {ob : Obj} {i : Value} {wr : World} (m : Nat) (h1 : i = .int .i64 m) (h2 : m ≤ l.length) (h3 : Below w.heap.size w wr) (h4 : wr.heap[w.heap.size]? = some ob) (h5 : Cnt wr (w.heap.size + 1) ((l.take m).map kdE)) : RelKr w l ob i wr := ⟨m, h1, h2, h3, h4, h5, (Array.getElem?_eq_some_iff.1 h5).1⟩
theorem take_snoc {l : List Ex} {m : Nat} {x : Ex} (h : l[m]? = some x) : (l.take (m + 1)).map kdE = (l.take m).map kdE ++ [kdE x] := by
  rw [List.take_add_one, h, List.map_append]; rfl
theorem set_low {w w1 : World} {b j : Nat} {v : Value} (h : Below w.heap.size w w1) (hb : w.heap.size ≤ b) : Below w.heap.size w (w1.setCell ⟨b, j, none⟩ v) := h.setCell hb _
set_option maxRecDepth 100000 in
set_option maxHeartbeats 8000000 in
theorem kindR_all (N : Nat) : KrC N := by
  induction N with
  | zero => intro x j u w hN; rw [szE_ks] at hN; omega
  | succ N ih =>
    intro x j u w hN hm hu
    obtain ⟨a, c, rfl, hl9⟩ := hu.shape
    have HK := fun hk => (exM_kids hm hk).1
    rw [szE_ks] at hN
    obtain ⟨k, n, d, q, ks⟩ := x
    simp only [Ex.k, Ex.n, Ex.d, Ex.u, Ex.ks] at hN hl9 HK hu
    have E := hide (kdE_mk k n d q ks)
    have E2 := hide (fun hk => kd_rf (k := k) hm hk)
    show Calls Tryd.prog 40 #[.agg #[.int .i64 k, .int .i64 n, .int .i64 d, .int .i64 q, .slice a ks.length c]] w _
    obtain ⟨X, hX⟩ : ∃ X, Ex.mk k n d q ks = X := ⟨_, rfl⟩
    rw [hX] at E E2 hm ⊢
    clear hX
    have B0 := bplus (Below.refl w.heap.size w) (.cells #[.int .i64 k, .int .i64 n, .int .i64 d, .int .i64 q, .slice a ks.length c] 26)
    by_cases k1 : k = 1
    · subst k1
      replace E := hide (show kdE X = (if q = 0 then 1 else 2) by rw [E.out, if_pos rfl])
      have HB := hide B0
      by_cases u0 : q = 0
      · subst u0
        have F := hide (show (kdE X : Int) = 1 by rw [E.out]; rfl)
        clear E E2 hm hu ih B0
        go_enter Tryd.func40, Tryd.ntmps40
        go_wp2
        go_ret
        exact ⟨ret_int F.out.symm, HB.out⟩
      · have F := hide (show (kdE X : Int) = 2 by rw [E.out, if_neg u0]; rfl)
        have u1 : (q == 0) = false := by simpa using u0
        clear E E2 hm hu ih B0
        go_enter Tryd.func40, Tryd.ntmps40
        go_wp2
        go_ret
        exact ⟨ret_int F.out.symm, HB.out⟩
    have hms := hide (HK k1)
    have HV := hide hu
    have IH := hide ih
    replace E2 := hide (E2.out k1)
    have k1' : (k == 1) = false := by simpa using k1
    have s1 := (show (w.alloc (.cells #[.int .i64 k, .int .i64 n, .int .i64 d, .int .i64 q, .slice a ks.length c] 26)).heap.size = w.heap.size + 1 by simp)
    have C0 := hide (show Cnt ((w.alloc (.cells #[.int .i64 k, .int .i64 n, .int .i64 d, .int .i64 q, .slice a ks.length c] 26)).alloc (.cells #[.int .i64 0, .int .i64 0, .int .i64 0] 90)) (w.heap.size + 1) ((ks.take 0).map kdE) by
      unfold Cnt; rw [← s1]; exact heap_alloc_new _ _)
    have P0 := hide (more_blk (heap_alloc_new w (.cells #[.int .i64 k, .int .i64 n, .int .i64 d, .int .i64 q, .slice a ks.length c] 26)) (.cells #[.int .i64 0, .int .i64 0, .int .i64 0] 90))
    have HB := hide (bplus B0 (.cells #[.int .i64 0, .int .i64 0, .int .i64 0] 90))
    clear E hm hu ih B0 HK s1
    go_enter Tryd.func40, Tryd.ntmps40
    go_wp2
    go_loopw [17] (fun i wr => RelKr w ks (.cells #[.int .i64 k, .int .i64 n, .int .i64 d, .int .i64 q, .slice a ks.length c] 26) i wr) (fun i _ => ks.length - (intOf i).toNat)
    case atStart => exact .mk 0 rfl (by omega) HB.out P0.out C0.out
    case round =>
      clear HB P0 C0
      obtain ⟨m, rfl, hm, BE, PQ, CN, hsz⟩ := hrel
      replace BE := hide BE
      by_cases hlt : m < ks.length
      · obtain ⟨x, hx⟩ : ∃ x, ks[m]? = some x := ⟨_, List.getElem?_eq_getElem hlt⟩
        obtain ⟨b, o, c', u, hv', hb, -, -, xo, t5, hu5, hku⟩ := HV.out.at hx
        obtain ⟨rfl, rfl⟩ : a = some ⟨b, o, none⟩ ∧ c = c' := by cases hv'; exact ⟨rfl, rfl⟩
        obtain ⟨ua, uc, hus, hks9⟩ := hku.shape
        have SZ := hide (show szE x ≤ N by have := szEs_at hx; omega)
        have KU := hide hku
        have MX := hide (exMs_at hms.out hx)
        have TS := hide (take_snoc hx)
        have hlt' : (m : Int) < ks.length := by omega
        obtain ⟨c0, c1, c2, c3⟩ := t5.below BE.out hb
        have c4 := (BE.out.cell (p := ⟨b, o + m * 5 + 4, none⟩) hb).trans hu5
        have hbw : b < wr.heap.size := by have := BE.out.size; omega
        have nb : b ≠ wr.heap.size := by omega
        have KL := kdE_le _ x (Nat.le_refl _)
        clear hx hv' t5 hu5 hku xo
        subst hus
        have CI := hide (fun (W : World) (h : Below w.heap.size w W) => IH.out x (j - 1) (.slice ua x.ks.length uc) W SZ.out MX.out (KU.out.low h))
        unfold exV at CI
        generalize x.k = xk at *
        generalize x.n = xn at *
        generalize x.d = xd at *
        generalize x.u = xu at *
        have L0 := cnK_le ((ks.take m).map kdE) 0
        have L1 := cnK_le ((ks.take m).map kdE) 1
        have L2 := cnK_le ((ks.take m).map kdE) 2
        have hll : ((ks.take m).map kdE).length ≤ 1000000000 := by rw [List.length_map, List.length_take]; omega
        generalize (ks.take m).map kdE = lk at *
        have z0 : (cnK lk 0 : Int) ≤ 1000000000 := by omega
        have z1 : (cnK lk 1 : Int) ≤ 1000000000 := by omega
        have z2 : (cnK lk 2 : Int) ≤ 1000000000 := by omega
        rcases (show kdE x = 0 ∨ kdE x = 1 ∨ kdE x = 2 by omega) with hk | hk | hk
        · rw [hk] at CI TS
          clear hk KL
          go_wp2_with (go_at_call 40; refine (CI.out _ (bplus BE.out _)).mono ?_; rintro e w4 ⟨rfl, B4⟩; replace PQ := hide (far_blk (more_blk PQ.out _) B4); replace CN := hide (show Cnt w4 (w.heap.size + 1) lk from far_blk (more_blk CN.out _) B4); replace BE := hide (bto (bplus BE.out _) B4); obtain ⟨r0, r1, r2⟩ := bxk_3c CN.out; have fz := fz_of CN.out; clear B4)
          go_roundw
          case rel => exact .mk (m + 1) (by go_num) (by omega) (set_low BE.out (by omega)) ((Below.heap_setCell _ _ _ _ (by show w.heap.size ≠ w.heap.size + 1; omega)).trans PQ.out) (by rw [TS.out]; exact CN.out.put0 (by first | rfl | go_num))
          case measure => simp [intOf]; omega
        · rw [hk] at CI TS
          clear hk KL
          go_wp2_with (go_at_call 40; refine (CI.out _ (bplus BE.out _)).mono ?_; rintro e w4 ⟨rfl, B4⟩; replace PQ := hide (far_blk (more_blk PQ.out _) B4); replace CN := hide (show Cnt w4 (w.heap.size + 1) lk from far_blk (more_blk CN.out _) B4); replace BE := hide (bto (bplus BE.out _) B4); obtain ⟨r0, r1, r2⟩ := bxk_3c CN.out; have fz := fz_of CN.out; clear B4)
          go_roundw
          case rel => exact .mk (m + 1) (by go_num) (by omega) (set_low BE.out (by omega)) ((Below.heap_setCell _ _ _ _ (by show w.heap.size ≠ w.heap.size + 1; omega)).trans PQ.out) (by rw [TS.out]; exact CN.out.put1 (by first | rfl | go_num))
          case measure => simp [intOf]; omega
        · rw [hk] at CI TS
          clear hk KL
          go_wp2_with (go_at_call 40; refine (CI.out _ (bplus BE.out _)).mono ?_; rintro e w4 ⟨rfl, B4⟩; replace PQ := hide (far_blk (more_blk PQ.out _) B4); replace CN := hide (show Cnt w4 (w.heap.size + 1) lk from far_blk (more_blk CN.out _) B4); replace BE := hide (bto (bplus BE.out _) B4); obtain ⟨r0, r1, r2⟩ := bxk_3c CN.out; have fz := fz_of CN.out; clear B4)
          go_roundw
          case rel => exact .mk (m + 1) (by go_num) (by omega) (set_low BE.out (by omega)) ((Below.heap_setCell _ _ _ _ (by show w.heap.size ≠ w.heap.size + 1; omega)).trans PQ.out) (by rw [TS.out]; exact CN.out.put2 (by first | rfl | go_num))
          case measure => simp [intOf]; omega
      · have hlt' : ¬ (m : Int) < ks.length := by omega
        rw [List.take_of_length_le (by omega)] at CN
        obtain ⟨r0, r1, r2⟩ := bxk_3c CN.out
        obtain ⟨p0, p1, p2, p3, p4⟩ := bxk_5c PQ.out
        generalize cnK (ks.map kdE) 0 = a0 at *
        generalize cnK (ks.map kdE) 1 = a1 at *
        generalize cnK (ks.map kdE) 2 = a2 at *
        generalize ks.length = len at *
        clear CN
        by_cases h0 : 0 < a0
        · have F := hide (show (kdE X : Int) = 0 by rw [E2.out]; unfold rfK; rw [if_pos h0]; rfl)
          have h0' : (0 : Int) < a0 := by omega
          clear E2
          go_wp2
          go_ret
          exact ⟨ret_int F.out.symm, BE.out⟩
        have h0' : ¬ (0 : Int) < a0 := by omega
        replace E2 := hide (show kdE X = if k = 4 ∧ a2 = 1 then 2 else if a1 = len then 1 else if a2 = len ∧ ¬ k = 4 ∧ ¬ k = 5 then 2 else 0 by rw [E2.out]; unfold rfK; rw [if_neg h0])
        by_cases h4 : k = 4 ∧ a2 = 1
        · obtain ⟨rfl, rfl⟩ := h4
          have F := hide (show (kdE X : Int) = 2 by rw [E2.out, if_pos ⟨rfl, rfl⟩]; rfl)
          clear E2
          go_wp2
          go_ret
          exact ⟨ret_int F.out.symm, BE.out⟩
        replace E2 := hide (show kdE X = if a1 = len then 1 else if a2 = len ∧ ¬ k = 4 ∧ ¬ k = 5 then 2 else 0 by rw [E2.out, if_neg h4])
        by_cases k4 : k = 4
        · subst k4
          have n2 : ¬ (a2 : Int) = 1 := fun e => h4 ⟨rfl, by omega⟩
          have n2' : ((a2 : Int) == 1) = false := by simpa using n2
          by_cases h1 : a1 = len
          · have F := hide (show (kdE X : Int) = 1 by rw [E2.out, if_pos h1]; rfl)
            subst h1
            clear E2 h4
            go_wp2
            go_ret
            exact ⟨ret_int F.out.symm, BE.out⟩
          · have F := hide (show (kdE X : Int) = 0 by rw [E2.out, if_neg h1, if_neg (by simp)]; rfl)
            have h1' : ¬ (a1 : Int) = len := by omega
            have h1b : ((a1 : Int) == len) = false := by simpa using h1'
            clear E2 h4
            go_wp2
            all_goals (go_ret; exact ⟨ret_int F.out.symm, BE.out⟩)
        have k4' : (k == 4) = false := by simpa using k4
        by_cases h1 : a1 = len
        · have F := hide (show (kdE X : Int) = 1 by rw [E2.out, if_pos h1]; rfl)
          subst h1
          clear E2 h4
          go_wp2
          go_ret
          exact ⟨ret_int F.out.symm, BE.out⟩
        have h1' : ¬ (a1 : Int) = len := by omega
        have h1b : ((a1 : Int) == len) = false := by simpa using h1'
        replace E2 := hide (show kdE X = if a2 = len ∧ ¬ k = 4 ∧ ¬ k = 5 then 2 else 0 by rw [E2.out, if_neg h1])
        by_cases h2 : a2 = len
        · subst h2
          by_cases k5 : k = 5
          · subst k5
            have F := hide (show (kdE X : Int) = 0 by rw [E2.out, if_neg (by simp)]; rfl)
            clear E2 h4
            go_wp2
            go_ret
            exact ⟨ret_int F.out.symm, BE.out⟩
          · have F := hide (show (kdE X : Int) = 2 by rw [E2.out, if_pos ⟨rfl, k4, k5⟩]; rfl)
            have k5' : (k == 5) = false := by simpa using k5
            have k4n : (k != 4) = true := by simpa using k4
            have k5n : (k != 5) = true := by simpa using k5
            clear E2 h4
            go_wp2
            go_ret
            exact ⟨ret_int F.out.symm, BE.out⟩
        · have F := hide (show (kdE X : Int) = 0 by rw [E2.out, if_neg (fun h => h2 h.1)]; rfl)
          have h2' : ¬ (a2 : Int) = len := by omega
          have h2b : ((a2 : Int) == len) = false := by simpa using h2'
          clear E2 h4
          go_wp2
          go_ret
          exact ⟨ret_int F.out.symm, BE.out⟩
end Go.Proofs.YticgcokhdipomabDoor.cc
