/-
  The law of parts.
-/
import Derived.Test.YtlkocepoohhglaaDoorLCaQ
set_option linter.unusedVariables false
set_option linter.unusedSimpArgs false
namespace Go.Proofs.YtlkocepoohhglaaDoor.cc
open Go.RowKit

def RelPt (w : World) (l : List Ex) (ob : Obj) (i n : Value) (wr : World) : Prop := ∃ m : Nat, i = .int .i64 m ∧ n = .int .i64 (cnK ((l.take m).map kdE) 2) ∧ m ≤ l.length ∧ Below w.heap.size w wr ∧ Hid (wr.heap[w.heap.size]? = some ob)
theorem RelPt.mk {w : World} {l : List Ex} {ob : Obj} {i n : Value} {wr : World} (m : Nat) (h1 : i = .int .i64 m) (h2 : n = .int .i64 (cnK ((l.take m).map kdE) 2)) (h3 : m ≤ l.length) (h4 : Below w.heap.size w wr) (h5 : wr.heap[w.heap.size]? = some ob) : RelPt w l ob i n wr := ⟨m, h1, h2, h3, h4, h5⟩
theorem ret_t {a : Bool} (h : a = true) : Ending.returned (.bool a) = .returned (.bool true) := by rw [h]
set_option maxRecDepth 100000 in
set_option maxHeartbeats 8000000 in
theorem law_calcParts (x : Ex) (u : Value) (w : World) (hx : x.Ok) (hu : EM w u x.ks) (hI : Kinds w) (hU : Uni w) :
    Calls Tryd.prog 6 #[exV x u] w fun e w' => e = .returned (.bool true) ∧ Below w.heap.size w w' := by
  obtain ⟨a, c, rfl, hl9⟩ := hu.shape
  obtain ⟨k, n, d, q, ks⟩ := x
  simp only [Ex.ks] at hl9 hu
  have C1 := hide (fun (W : World) (B : Below w.heap.size w W) => show Calls Tryd.prog 12 #[.agg #[.int .i64 k, .int .i64 n, .int .i64 d, .int .i64 q, .slice a ks.length c]] W _ from kindP_any (.mk k n d q ks) (.slice a ks.length c) W hx (hu.low B))
  have C3 := hide (fun (W : World) (B : Below w.heap.size w W) => awake11_any W (hI.below B) (hU.below B))
  have HV := hide hu
  have T1 := hide (show kdT (.mk k n d q ks) = (if exM (.mk k n d q ks) 340 = true then kdE (.mk k n d q ks) else 0) from rfl)
  have T2 := hide (show kdX (.mk k n d q ks) = (if exM (.mk k n d q ks) 340 = true then (if kdE (.mk k n d q ks) = 0 then 4 else 0) else 1) from rfl)
  have KK := hide (show exM (.mk k n d q ks) 340 = true → ¬ kdE (.mk k n d q ks) = 0 → ¬ k = 1 → ∀ (i : Nat) (y : Ex), ks[i]? = some y → exM y 340 = true ∧ (kdE y = 1 ∨ kdE y = 2) ∧ (¬ k = 4 → kdE y = kdE (.mk k n d q ks)) ∧ (k = 5 → kdE y = 1) from fun hm hk h1 i y hy => kids_kind hm hk h1 hy)
  have KP := hide (show exM (.mk k n d q ks) 340 = true → ¬ kdE (.mk k n d q ks) = 0 → k = 4 → (kdE (.mk k n d q ks) = 1 ∧ cnK (ks.map kdE) 2 = 0) ∨ (kdE (.mk k n d q ks) = 2 ∧ cnK (ks.map kdE) 2 = 1) from fun hm hk h4 => prod_lens hm hk h4)
  have KN := hide (show k = 1 → kdE (.mk k n d q ks) = if q = 0 then 1 else 2 from fun h => by rw [kdE_mk, if_pos h])
  have KL := kdE_le _ (.mk k n d q ks) (Nat.le_refl _)
  have PQ := hide (heap_alloc_new w (.cells #[.int .i64 k, .int .i64 n, .int .i64 d, .int .i64 q, .slice a ks.length c] 26))
  have HB := hide (bplus (Below.refl w.heap.size w) (.cells #[.int .i64 k, .int .i64 n, .int .i64 d, .int .i64 q, .slice a ks.length c] 26))
  show Calls Tryd.prog 6 #[.agg #[.int .i64 k, .int .i64 n, .int .i64 d, .int .i64 q, .slice a ks.length c]] w _
  clear hu hU hI hx
  generalize Ex.mk k n d q ks = X at *
  by_cases hbad : exM X 340 = true ∧ ¬ kdE X = 0
  case neg =>
    have hkt : (kdT X : Int) = 0 := by
      rw [T1.out]
      by_cases hm : exM X 340 = true
      · rw [if_pos hm]; have : kdE X = 0 := Decidable.of_not_not (fun h => hbad ⟨hm, h⟩); rw [this]; rfl
      · rw [if_neg hm]; rfl
    have hkx : (kdX X : Int) = 1 ∨ (kdX X : Int) = 4 := by
      rw [T2.out]
      by_cases hm : exM X 340 = true
      · rw [if_pos hm]; have : kdE X = 0 := Decidable.of_not_not (fun h => hbad ⟨hm, h⟩); rw [if_pos this]; exact .inr rfl
      · rw [if_neg hm]; exact .inl rfl
    rw [hkt] at C1
    rcases hkx with h | h
    all_goals
      rw [h] at C1
      clear T1 T2 KK KP KN KL hkt h hbad
      go_enter Tryd.func6, Tryd.ntmps6
      go_wp2_with (first
        | (go_at_call 12; refine (C1.out _ HB.out).mono ?_; rintro e w1 ⟨rfl, B1⟩; replace PQ := hide (far_blk PQ.out B1); replace HB := hide (bto HB.out B1); obtain ⟨r0, r1, r2, r3, r4⟩ := bxk_5c PQ.out; clear B1 C1)
        | (go_at_call 11; refine (C3.out _ HB.out).mono ?_; rintro e w3 ⟨rfl, B1⟩; replace HB := hide (bto HB.out B1); clear B1 C3))
      go_ret
      exact ⟨rfl, HB.out⟩
  obtain ⟨hm, hk0⟩ := hbad
  have hkt : (kdT X : Int) = kdE X := by rw [T1.out, if_pos hm]
  have hkx : (kdX X : Int) = 0 := by rw [T2.out, if_pos hm, if_neg hk0]; rfl
  rw [hkt, hkx] at C1
  replace KK := hide (KK.out hm hk0)
  replace KP := hide (KP.out hm hk0)
  clear T1 T2 hkt hkx hm
  by_cases h1 : k = 1
  · subst h1
    replace KN := hide (KN.out rfl)
    by_cases hq : q = 0
    · subst hq
      rw [show (kdE X : Int) = 1 by rw [KN.out]; rfl] at C1
      clear KK KP KN KL hk0
      go_enter Tryd.func6, Tryd.ntmps6
      go_wp2_with (first
        | (go_at_call 12; refine (C1.out _ HB.out).mono ?_; rintro e w1 ⟨rfl, B1⟩; replace PQ := hide (far_blk PQ.out B1); replace HB := hide (bto HB.out B1); obtain ⟨r0, r1, r2, r3, r4⟩ := bxk_5c PQ.out; clear B1 C1)
        | (go_at_call 11; refine (C3.out _ HB.out).mono ?_; rintro e w3 ⟨rfl, B1⟩; replace HB := hide (bto HB.out B1); clear B1 C3))
      go_ret
      exact ⟨rfl, HB.out⟩
    · rw [show (kdE X : Int) = 2 by rw [KN.out, if_neg hq]; rfl] at C1
      have hq1 : (q == 0) = false := by simpa using hq
      have hq2 : (q != 0) = true := by simpa using hq
      clear KK KP KN KL hk0
      go_enter Tryd.func6, Tryd.ntmps6
      go_wp2_with (first
        | (go_at_call 12; refine (C1.out _ HB.out).mono ?_; rintro e w1 ⟨rfl, B1⟩; replace PQ := hide (far_blk PQ.out B1); replace HB := hide (bto HB.out B1); obtain ⟨r0, r1, r2, r3, r4⟩ := bxk_5c PQ.out; clear B1 C1)
        | (go_at_call 11; refine (C3.out _ HB.out).mono ?_; rintro e w3 ⟨rfl, B1⟩; replace HB := hide (bto HB.out B1); clear B1 C3))
      go_ret
      exact ⟨rfl, HB.out⟩
  have h1' : (k == 1) = false := by simpa using h1
  replace KK := hide (KK.out h1)
  clear KN
  obtain ⟨kx, hkx⟩ : ∃ kx, kdE X = kx := ⟨_, rfl⟩
  rw [hkx] at KK KP C1 KL hk0
  have hkx2 : kx = 1 ∨ kx = 2 := by omega
  clear hkx KL hk0
  go_enter Tryd.func6, Tryd.ntmps6
  go_wp2_with (first
    | (go_at_call 12; refine (C1.out _ HB.out).mono ?_; rintro e w1 ⟨rfl, B1⟩; replace PQ := hide (far_blk PQ.out B1); replace HB := hide (bto HB.out B1); obtain ⟨r0, r1, r2, r3, r4⟩ := bxk_5c PQ.out; clear B1 C1))
  go_loopw [46, 5] (fun i m wr => RelPt w ks (.cells #[.int .i64 k, .int .i64 n, .int .i64 d, .int .i64 q, .slice a ks.length c] 26) i m wr) (fun i _ _ => ks.length - (intOf i).toNat)
  case atStart => exact .mk 0 rfl rfl (by omega) HB.out PQ.out
  case round =>
    clear HB PQ r0 r1 r2 r3 r4
    obtain ⟨m, rfl, rfl, hm, BE, PQ⟩ := hrel
    replace BE := hide BE
    by_cases hlt : m < ks.length
    · obtain ⟨y, hy⟩ : ∃ y, ks[m]? = some y := ⟨_, List.getElem?_eq_getElem hlt⟩
      obtain ⟨b, o, c', v, hv', hb, -, -, yo, t5, hu5, hku⟩ := HV.out.at hy
      obtain ⟨rfl, rfl⟩ : a = some ⟨b, o, none⟩ ∧ c = c' := by cases hv'; exact ⟨rfl, rfl⟩
      obtain ⟨ua, uc, hus, hks9⟩ := hku.shape
      have KU := hide hku
      have YO := hide yo
      obtain ⟨ym, yk, yn4, y5⟩ := KK.out m y hy
      have TS := hide (take_snoc hy)
      have hlt' : (m : Int) < ks.length := by omega
      obtain ⟨c0, c1, c2, c3⟩ := t5.below BE.out hb
      have c4 := (BE.out.cell (p := ⟨b, o + m * 5 + 4, none⟩) hb).trans hu5
      have hbw : b < wr.heap.size := by have := BE.out.size; omega
      have nb : b ≠ wr.heap.size := by omega
      clear hy hv' t5 hu5 hku yo
      subst hus
      have CI := hide (fun (W : World) (h : Below w.heap.size w W) => kindP_any y (.slice ua y.ks.length uc) W YO.out (KU.out.low h))
      unfold exV at CI
      rw [show (kdT y : Int) = kdE y by unfold kdT; rw [if_pos ym], show (kdX y : Int) = 0 by unfold kdX; rw [if_pos ym, if_neg (by omega)]; rfl] at CI
      generalize y.k = xk at *
      generalize y.n = xn at *
      generalize y.d = xd at *
      generalize y.u = xu at *
      have L2 := cnK_le ((ks.take m).map kdE) 2
      have hll : ((ks.take m).map kdE).length ≤ 1000000000 := by rw [List.length_map, List.length_take]; omega
      have TC := hide (show cnK ((ks.take (m + 1)).map kdE) 2 = cnK ((ks.take m).map kdE) 2 + if kdE y = 2 then 1 else 0 by rw [TS.out, cnK_snoc])
      generalize cnK ((ks.take m).map kdE) 2 = lk at *
      have z2 : (lk : Int) ≤ 1000000000 := by omega
      clear TS L2 hll ym
      by_cases k4 : k = 4
      · have k4n : (k != 4) = false := by simp [k4]
        have k5n : (k == 5) = false := by simp; omega
        have k4e : (k == 4) = true := by simp [k4]
        clear yn4 y5 KP KK k4
        rcases yk with h | h
        · rw [h] at CI TC
          clear h
          go_wp2_with (go_at_call 12; refine (CI.out _ (bplus BE.out _)).mono ?_; rintro e w4 ⟨rfl, B4⟩; replace PQ := hide (far_blk (more_blk PQ.out _) B4); obtain ⟨r0, r1, r2, r3, r4⟩ := bxk_5c PQ.out; replace BE := hide (bto (bplus BE.out _) B4); clear B4)
          go_roundw
          case rel => exact .mk (m + 1) (by go_num) (by rw [TC.out]; rfl) (by omega) BE.out PQ.out
          case measure => simp [intOf]; omega
        · rw [h] at CI TC
          clear h
          go_wp2_with (go_at_call 12; refine (CI.out _ (bplus BE.out _)).mono ?_; rintro e w4 ⟨rfl, B4⟩; replace PQ := hide (far_blk (more_blk PQ.out _) B4); obtain ⟨r0, r1, r2, r3, r4⟩ := bxk_5c PQ.out; replace BE := hide (bto (bplus BE.out _) B4); clear B4)
          go_roundw
          case rel => exact .mk (m + 1) (by go_num) (by rw [TC.out]; go_num) (by omega) BE.out PQ.out
          case measure => simp [intOf]; omega
      · have k4n : (k != 4) = true := by simpa using k4
        have e := yn4 k4
        by_cases k5 : k = 5
        · have hy1 := y5 k5
          have f1 : ((1 : Int) != (kx : Int)) = false := by simp; omega
          have f2 : (1 : Int) = (kx : Int) := by omega
          have F2 := hide f2
          have k5n : (k == 5) = true := by simp [k5]
          rw [hy1] at CI TC
          clear yn4 y5 e hy1 yk KP KK k5 k4 f2 hkx2
          go_wp2_with (go_at_call 12; refine (CI.out _ (bplus BE.out _)).mono ?_; rintro e w4 ⟨rfl, B4⟩; replace PQ := hide (far_blk (more_blk PQ.out _) B4); obtain ⟨r0, r1, r2, r3, r4⟩ := bxk_5c PQ.out; replace BE := hide (bto (bplus BE.out _) B4); clear B4)
          go_roundw
          case rel => exact .mk (m + 1) (by go_num) (by rw [TC.out]; rfl) (by omega) BE.out PQ.out
          case measure => simp [intOf]; omega
        · have k5n : (k == 5) = false := by simpa using k5
          rcases yk with h | h
          · have f1 : ((1 : Int) != (kx : Int)) = false := by simp; omega
            rw [h] at CI TC
            clear yn4 y5 e KP KK hkx2 h
            go_wp2_with (go_at_call 12; refine (CI.out _ (bplus BE.out _)).mono ?_; rintro e w4 ⟨rfl, B4⟩; replace PQ := hide (far_blk (more_blk PQ.out _) B4); obtain ⟨r0, r1, r2, r3, r4⟩ := bxk_5c PQ.out; replace BE := hide (bto (bplus BE.out _) B4); clear B4)
            go_roundw
            case rel => exact .mk (m + 1) (by go_num) (by rw [TC.out]; rfl) (by omega) BE.out PQ.out
            case measure => simp [intOf]; omega
          · have f1 : ((2 : Int) != (kx : Int)) = false := by simp; omega
            rw [h] at CI TC
            clear yn4 y5 e KP KK hkx2 h
            go_wp2_with (go_at_call 12; refine (CI.out _ (bplus BE.out _)).mono ?_; rintro e w4 ⟨rfl, B4⟩; replace PQ := hide (far_blk (more_blk PQ.out _) B4); obtain ⟨r0, r1, r2, r3, r4⟩ := bxk_5c PQ.out; replace BE := hide (bto (bplus BE.out _) B4); clear B4)
            go_roundw
            case rel => exact .mk (m + 1) (by go_num) (by rw [TC.out]; go_num) (by omega) BE.out PQ.out
            case measure => simp [intOf]; omega
    · have hlt' : ¬ (m : Int) < ks.length := by omega
      rw [List.take_of_length_le (by omega)] at *
      obtain ⟨r0, r1, r2, r3, r4⟩ := bxk_5c PQ.out
      have HB := hide BE.out
      by_cases k4 : k = 4
      · have k4n : (k != 4) = false := by simp [k4]
        rcases KP.out k4 with ⟨hx1, h0⟩ | ⟨hx1, h0⟩
        · subst hx1
          rw [h0]
          clear h0 KK KP hkx2
          go_wp2_with (first
            | (go_at_call 11; refine (C3.out _ HB.out).mono ?_; rintro e w3 ⟨rfl, B1⟩; replace HB := hide (bto HB.out B1); clear B1 C3))
          go_ret
          exact ⟨rfl, HB.out⟩
        · subst hx1
          rw [h0]
          clear h0 KK KP hkx2
          go_wp2_with (first
            | (go_at_call 11; refine (C3.out _ HB.out).mono ?_; rintro e w3 ⟨rfl, B1⟩; replace HB := hide (bto HB.out B1); clear B1 C3))
          go_ret
          exact ⟨rfl, HB.out⟩
      · have k4n : (k != 4) = true := by simpa using k4
        generalize cnK (ks.map kdE) 2 = lk at *
        clear KK KP
        go_wp2_with (first
          | (go_at_call 11; refine (C3.out _ HB.out).mono ?_; rintro e w3 ⟨rfl, B1⟩; replace HB := hide (bto HB.out B1); clear B1 C3))
        go_ret
        exact ⟨rfl, HB.out⟩
end Go.Proofs.YtlkocepoohhglaaDoor.cc
