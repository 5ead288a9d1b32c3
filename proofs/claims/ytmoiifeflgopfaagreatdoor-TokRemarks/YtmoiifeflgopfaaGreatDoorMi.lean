/-
  A number of a stylesheet, by the program.
  A number of a stylesheet, by the program: the whole.
-/
import Derived.Test.YtmoiifeflgopfaaGreatDoorMh
import Derived.Lib.SmallJoins
import Derived.Deep.RegionHeld3
set_option linter.unusedVariables false
set_option linter.unusedSimpArgs false
namespace Go.Proofs.YtmoiifeflgopfaaGreatDoor
open Go.RowKit

theorem trimL_bl (s : ByteArray) : bl ⟨(Lib.trimLeftB s.data.toList 48).toArray⟩ = cut0 (bl s) := by
  unfold bl Lib.trimLeftB cut0
  simp only
  generalize s.data.toList = l
  induction l with
  | nil => rfl
  | cons c l ih =>
    by_cases h : c = 48
    · subst h
      rw [List.dropWhile_cons_of_pos (by rfl), List.map_cons, List.dropWhile_cons_of_pos (by rfl)]
      exact ih
    · have h1 : ((c.toNat : Int) == 48) = false := by
        simp only [beq_eq_false_iff_ne]
        intro e
        exact h (UInt8.toNat_inj.1 (by show c.toNat = 48; omega))
      rw [List.dropWhile_cons_of_neg (by simpa using h), List.map_cons, List.dropWhile_cons_of_neg (by simp [h1])]
theorem dropW_map (l : List UInt8) : (l.dropWhile (· == 48)).map (fun b => (b.toNat : Int)) = (l.map fun b => (b.toNat : Int)).dropWhile (· == 48) := by
  induction l with
  | nil => rfl
  | cons c l ih =>
    by_cases h : c = 48
    · subst h
      rw [List.dropWhile_cons_of_pos (by rfl), List.map_cons, List.dropWhile_cons_of_pos (by rfl)]
      exact ih
    · have h1 : ((c.toNat : Int) == 48) = false := by
        simp only [beq_eq_false_iff_ne]
        intro e
        exact h (UInt8.toNat_inj.1 (by show c.toNat = 48; omega))
      rw [List.dropWhile_cons_of_neg (by simpa using h), List.map_cons, List.dropWhile_cons_of_neg (by simp [h1])]
theorem trimR_bl (s : ByteArray) : bl ⟨(Lib.trimRightB s.data.toList 48).toArray⟩ = cutR (bl s) := by
  unfold bl Lib.trimRightB cutR
  show ((s.data.toList.reverse.dropWhile (· == 48)).reverse.toArray.toList.map _) = _
  rw [List.map_reverse]
  rw [dropW_map, List.map_reverse]
/-- A value's post. -/
def PostV (b : Bool) (D : List Int) (k : Int) (w : World) (e : Ending) (w' : World) : Prop := e = .returned (ratV (valOf b D k).1 (valOf b D k).2) ∧ Below w.heap.size w w'
theorem trimL_any (s : ByteArray) (w : World) : Calls Tryz.prog 72 #[.string s, .string ⟨#[48]⟩] w fun e w' => ∃ t, e = .returned (.string t) ∧ bl t = cut0 (bl s) ∧ w' = w :=
  (sh_strings_TrimLeft_one s 48 (by decide) w).mono fun _ _ ⟨h1, h2⟩ => ⟨_, h1, trimL_bl s, h2⟩
theorem trimR_any (s : ByteArray) (w : World) (hs : s.size ≤ 9223372036854775807) : Calls Tryz.prog 73 #[.string s, .string ⟨#[48]⟩] w fun e w' => ∃ t, e = .returned (.string t) ∧ bl t = cutR (bl s) ∧ w' = w :=
  (sh_strings_TrimRight_one s 48 (by decide) w hs).mono fun _ _ ⟨h1, h2⟩ => ⟨_, h1, trimR_bl s, h2⟩
theorem parse_any (s : ByteArray) (w : World) (h1 : bl s ≠ []) (h2 : (bl s).length ≤ 18) (h3 : Digs (bl s)) :
    Calls Tryz.prog 74 #[.string s, .int .i64 10, .int .i64 64] w fun e w' => e = .returned (.tuple #[.int .u64 (natOf (bl s)), .nilIface]) ∧ Below w.heap.size w w' :=
  (sh_strconv_ParseUint_10_at64_ok s (by rw [bl_len] at h2; omega) (natOf (bl s)) (parse_str s h1 h2 h3) w).mono fun _ w' ⟨h1, h2⟩ => ⟨h1, by
    rcases h2 with rfl | rfl
    · exact Below.refl _ _
    · exact Joins.below_bytesWorld _ _ _ _ (Nat.le_refl _)⟩
theorem PostV.mk {b : Bool} {D : List Int} {k : Int} {w w' : World} {e : Ending} {n d : Int} (hv : valOf b D k = (n, d)) (h1 : e = .returned (ratV n d)) (h2 : Below w.heap.size w w') : PostV b D k w e w' := by
  unfold PostV; rw [hv]; exact ⟨h1, h2⟩
set_option maxRecDepth 100000 in
set_option maxHeartbeats 1000000 in
theorem value_0 (b h : Bool) (x y : ByteArray) (e : Int) (w : World) (hl : (bl x ++ bl y).length ≤ 1000000000) (he : -18014398509481984 ≤ e ∧ e ≤ 18014398509481984) (hd : Digs (bl x ++ bl y)) (h0 : cutR (cut0 (bl x ++ bl y)) = []) :
    Calls Tryz.prog 53 #[numV b x y e h] w fun e' w' => PostV b (bl x ++ bl y) (e - (bl y).length) w e' w' := by
  have XY := hide (bl_app x y)
  have xy9 : x.size + y.size ≤ 1000000000 := by rw [List.length_append, bl_len, bl_len] at hl; exact hl
  obtain ⟨k1, k2⟩ := cut_len (bl x ++ bl y)
  have K2 := hide (show (cut0 (bl x ++ bl y)).length ≤ 9223372036854775807 by omega)
  have V := hide (val_zero (b := b) (k := e - (bl y).length) h0)
  have G := hide h0
  clear h0 k1 k2 hd hl
  unfold numV
  go_enter Tryz.func53, Tryz.ntmps53
  go_wp2_with (first
    | (go_at_call 72; refine (trimL_any (x ++ y) _).mono ?_; rintro e1 w1 ⟨kp, rfl, hk, rfl⟩; rw [XY.out] at hk; replace hk := hide hk; skip)
    | (go_at_call 73; refine (trimR_any kp _ (size_of hk.out K2.out)).mono ?_; rintro e1 w2 ⟨ct, rfl, hc, rfl⟩; rw [hk.out] at hc; replace hc := hide hc; have n1 := emp_of hc.out G.out))
  refine bodyPost_ret (v := .agg #[.int .i64 0, .int .i64 1]) (by simp [results, Tryz.results53, go_sem]) rfl ?_
  exact .mk V.out rfl (bplus (bplus (Below.refl _ _) _) _)
set_option maxRecDepth 100000 in
set_option maxHeartbeats 1000000 in
theorem value_1 (b h : Bool) (x y : ByteArray) (e : Int) (w : World) (hl : (bl x ++ bl y).length ≤ 1000000000) (he : -18014398509481984 ≤ e ∧ e ≤ 18014398509481984) (hd : Digs (bl x ++ bl y)) (h0 : cutR (cut0 (bl x ++ bl y)) ≠ []) (h1 : 18 < (cutR (cut0 (bl x ++ bl y))).length) :
    Calls Tryz.prog 53 #[numV b x y e h] w fun e' w' => PostV b (bl x ++ bl y) (e - (bl y).length) w e' w' := by
  have XY := hide (bl_app x y)
  have xy9 : x.size + y.size ≤ 1000000000 := by rw [List.length_append, bl_len, bl_len] at hl; exact hl
  obtain ⟨k1, k2⟩ := cut_len (bl x ++ bl y)
  have K2 := hide (show (cut0 (bl x ++ bl y)).length ≤ 9223372036854775807 by omega)
  have V := hide (val_over (b := b) (k := e - (bl y).length) h0 h1)
  have G := hide h0
  have G1 := hide h1
  clear h0 h1 k1 k2 hd hl
  unfold numV
  go_enter Tryz.func53, Tryz.ntmps53
  go_wp2_with (first
    | (go_at_call 72; refine (trimL_any (x ++ y) _).mono ?_; rintro e1 w1 ⟨kp, rfl, hk, rfl⟩; rw [XY.out] at hk; replace hk := hide hk; skip)
    | (go_at_call 73; refine (trimR_any kp _ (size_of hk.out K2.out)).mono ?_; rintro e1 w2 ⟨ct, rfl, hc, rfl⟩; rw [hk.out] at hc; replace hc := hide hc; have n1 := full_of hc.out G.out; have n2 : (18 : Int) < (ct.size : Int) := (by have := G1.out; rw [← hc.out, bl_len] at this; omega)))
  refine bodyPost_ret (v := .agg #[.int .i64 0, .int .i64 0]) (by simp [results, Tryz.results53, go_sem]) rfl ?_
  exact .mk V.out rfl (bplus (bplus (Below.refl _ _) _) _)
set_option maxRecDepth 100000 in
set_option maxHeartbeats 1000000 in
theorem value_2 (b h : Bool) (x y : ByteArray) (e : Int) (w : World) (hl : (bl x ++ bl y).length ≤ 1000000000) (he : -18014398509481984 ≤ e ∧ e ≤ 18014398509481984) (hd : Digs (bl x ++ bl y)) (h0 : cutR (cut0 (bl x ++ bl y)) ≠ []) (h1 : (cutR (cut0 (bl x ++ bl y))).length ≤ 18) (hB : shB (natOf (cutR (cut0 (bl x ++ bl y)))) (e - (bl y).length + ((cut0 (bl x ++ bl y)).length - (cutR (cut0 (bl x ++ bl y))).length : Nat)) = false) :
    Calls Tryz.prog 53 #[numV b x y e h] w fun e' w' => PostV b (bl x ++ bl y) (e - (bl y).length) w e' w' := by
  have XY := hide (bl_app x y)
  have xy9 : x.size + y.size ≤ 1000000000 := by rw [List.length_append, bl_len, bl_len] at hl; exact hl
  obtain ⟨k1, k2⟩ := cut_len (bl x ++ bl y)
  have K2 := hide (show (cut0 (bl x ++ bl y)).length ≤ 9223372036854775807 by omega)
  have hn1 := cnt_pos hd h0
  have hn2 := natOf_lt hd.cut.2 h1
  have G := hide h0
  have G1 := hide h1
  have DG := hide hd.cut.2
  have YL := hide (bl_len y)
  have V := hide (val_fr (b := b) (k := e - (bl y).length) h0 h1)
  have hs := sh_le (p := e - (bl y).length + ((cut0 (bl x ++ bl y)).length - (cutR (cut0 (bl x ++ bl y))).length : Nat)) (show natOf (cutR (cut0 (bl x ++ bl y))) ≤ 9223372036854775807 by omega)
  have yl : (bl y).length ≤ 1000000000 := by rw [List.length_append] at hl; omega
  obtain ⟨p, hp⟩ : ∃ p, e - (bl y).length + ((cut0 (bl x ++ bl y)).length - (cutR (cut0 (bl x ++ bl y))).length : Nat) = p := ⟨_, rfl⟩
  obtain ⟨n, hn⟩ : ∃ n, natOf (cutR (cut0 (bl x ++ bl y))) = n := ⟨_, rfl⟩
  have hpb : -1152921504606846976 ≤ p ∧ p ≤ 1152921504606846976 := by omega
  rw [hp] at hs V hB
  rw [hn] at hs V hB hn1 hn2
  have PE := hide (show ∀ kp ct : ByteArray, bl kp = cut0 (bl x ++ bl y) → bl ct = cutR (cut0 (bl x ++ bl y)) → e - (y.size : Int) + kp.size - ct.size = p ∧ -1000 ≤ (kp.size : Int) ∧ (kp.size : Int) ≤ 1000000000 ∧ (ct.size : Int) ≤ 18 ∧ (y.size : Int) ≤ 1000000000 from fun kp ct q1 q2 => by
    rw [← bl_len kp, ← bl_len ct, ← bl_len y, q1, q2]; omega)
  have SH := hide fun W => shifted_any n p W hn1 (by omega) hpb.1 hpb.2
  have HN := hide hn
  have HB := hide hB
  have F := hide (fr_sh (n := n) p)
  clear h0 h1 k1 k2 hd hl hp hn hB hn1 hn2 hpb yl
  unfold numV
  go_enter Tryz.func53, Tryz.ntmps53
  go_wp2_with (first
    | (go_at_call 72; refine (trimL_any (x ++ y) _).mono ?_; rintro e1 w1 ⟨kp, rfl, hk, rfl⟩; rw [XY.out] at hk; replace hk := hide hk; skip)
    | (go_at_call 73; refine (trimR_any kp _ (size_of hk.out K2.out)).mono ?_; rintro e1 w2 ⟨ct, rfl, hc, rfl⟩; rw [hk.out] at hc; replace hc := hide hc; have n1 := full_of hc.out G.out; have n2 : ¬ (18 : Int) < (ct.size : Int) := (by have := G1.out; rw [← hc.out, bl_len] at this; omega); obtain ⟨q1, q2, q3, q4, q5⟩ := PE.out kp ct hk.out hc.out; have E1 := hide q1; clear q1))
  refine (parse_any ct _ (by rw [hc.out]; exact G.out) (by rw [hc.out]; exact G1.out) (by rw [hc.out]; exact DG.out)).mono ?_
  rintro e1 w5 ⟨he5, B5⟩
  rw [hc.out, HN.out] at he5
  subst he5
  have c0 : w5.cell? ⟨w.heap.size, 0, none⟩ = some (.bool b) := by (rw [B5.cell (p := ⟨w.heap.size, 0, none⟩) (by simp <;> omega)]; first | done | simp [go_sem])
  have c2 : w5.cell? ⟨w.heap.size, 2, none⟩ = some (.string y) := by (rw [B5.cell (p := ⟨w.heap.size, 2, none⟩) (by simp <;> omega)]; first | done | simp [go_sem])
  have c3 : w5.cell? ⟨w.heap.size, 3, none⟩ = some (.int .i64 e) := by (rw [B5.cell (p := ⟨w.heap.size, 3, none⟩) (by simp <;> omega)]; first | done | simp [go_sem])
  have m0 : w5.cell? ⟨w.heap.size + 1, 0, none⟩ = some (.int .i64 0) := by (rw [B5.cell (p := ⟨w.heap.size + 1, 0, none⟩) (by simp <;> omega)]; first | done | simp [go_sem])
  have f0 : w5.frozen? ⟨w.heap.size + 1, 0, none⟩ = false := by (rw [B5.frozen (p := ⟨w.heap.size + 1, 0, none⟩) (by simp <;> omega)]; first | done | simp [go_sem])
  have m1 : w5.cell? ⟨w.heap.size + 1, 1, none⟩ = some (.int .i64 0) := by (rw [B5.cell (p := ⟨w.heap.size + 1, 1, none⟩) (by simp <;> omega)]; first | done | simp [go_sem])
  have f1 : w5.frozen? ⟨w.heap.size + 1, 1, none⟩ = false := by (rw [B5.frozen (p := ⟨w.heap.size + 1, 1, none⟩) (by simp <;> omega)]; first | done | simp [go_sem])
  replace B5 := hide (show Below w.heap.size w w5 from bto (bplus (bplus (Below.refl _ _) _) _) B5)
  go_wp2_with (go_at_call 75; rw [E1.out]; refine (SH.out _).mono ?_; rintro e1 w6 ⟨rfl, rfl⟩; rw [HB.out])
  refine bodyPost_ret (v := .agg #[.int .i64 0, .int .i64 0]) (by simp [results, Tryz.results53, go_sem, m0, m1]) rfl ?_
  exact .mk (by rw [V.out, F.out, HB.out]; cases b <;> rfl) rfl (by repeat (first | (with_reducible exact B5.out) | (with_reducible refine Below.setCell ?_ (by simp) _)))
set_option maxRecDepth 100000 in
set_option maxHeartbeats 1000000 in
theorem value_3 (b h : Bool) (x y : ByteArray) (e : Int) (w : World) (hl : (bl x ++ bl y).length ≤ 1000000000) (he : -18014398509481984 ≤ e ∧ e ≤ 18014398509481984) (hd : Digs (bl x ++ bl y)) (h0 : cutR (cut0 (bl x ++ bl y)) ≠ []) (h1 : (cutR (cut0 (bl x ++ bl y))).length ≤ 18) (hB : shB (natOf (cutR (cut0 (bl x ++ bl y)))) (e - (bl y).length + ((cut0 (bl x ++ bl y)).length - (cutR (cut0 (bl x ++ bl y))).length : Nat)) = true) :
    Calls Tryz.prog 53 #[numV b x y e h] w fun e' w' => PostV b (bl x ++ bl y) (e - (bl y).length) w e' w' := by
  have XY := hide (bl_app x y)
  have xy9 : x.size + y.size ≤ 1000000000 := by rw [List.length_append, bl_len, bl_len] at hl; exact hl
  obtain ⟨k1, k2⟩ := cut_len (bl x ++ bl y)
  have K2 := hide (show (cut0 (bl x ++ bl y)).length ≤ 9223372036854775807 by omega)
  have hn1 := cnt_pos hd h0
  have hn2 := natOf_lt hd.cut.2 h1
  have G := hide h0
  have G1 := hide h1
  have DG := hide hd.cut.2
  have YL := hide (bl_len y)
  have V := hide (val_fr (b := b) (k := e - (bl y).length) h0 h1)
  have hs := sh_le (p := e - (bl y).length + ((cut0 (bl x ++ bl y)).length - (cutR (cut0 (bl x ++ bl y))).length : Nat)) (show natOf (cutR (cut0 (bl x ++ bl y))) ≤ 9223372036854775807 by omega)
  have yl : (bl y).length ≤ 1000000000 := by rw [List.length_append] at hl; omega
  obtain ⟨p, hp⟩ : ∃ p, e - (bl y).length + ((cut0 (bl x ++ bl y)).length - (cutR (cut0 (bl x ++ bl y))).length : Nat) = p := ⟨_, rfl⟩
  obtain ⟨n, hn⟩ : ∃ n, natOf (cutR (cut0 (bl x ++ bl y))) = n := ⟨_, rfl⟩
  have hpb : -1152921504606846976 ≤ p ∧ p ≤ 1152921504606846976 := by omega
  rw [hp] at hs V hB
  rw [hn] at hs V hB hn1 hn2
  have PE := hide (show ∀ kp ct : ByteArray, bl kp = cut0 (bl x ++ bl y) → bl ct = cutR (cut0 (bl x ++ bl y)) → e - (y.size : Int) + kp.size - ct.size = p ∧ -1000 ≤ (kp.size : Int) ∧ (kp.size : Int) ≤ 1000000000 ∧ (ct.size : Int) ≤ 18 ∧ (y.size : Int) ≤ 1000000000 from fun kp ct q1 q2 => by
    rw [← bl_len kp, ← bl_len ct, ← bl_len y, q1, q2]; omega)
  have SH := hide fun W => shifted_any n p W hn1 (by omega) hpb.1 hpb.2
  have HN := hide hn
  have HB := hide hB
  have F := hide (fr_sh (n := n) p)
  clear h0 h1 k1 k2 hd hl hp hn hB hn1 hn2 hpb yl
  cases b
  · unfold numV
    go_enter Tryz.func53, Tryz.ntmps53
    go_wp2_with (first
      | (go_at_call 72; refine (trimL_any (x ++ y) _).mono ?_; rintro e1 w1 ⟨kp, rfl, hk, rfl⟩; rw [XY.out] at hk; replace hk := hide hk; skip)
      | (go_at_call 73; refine (trimR_any kp _ (size_of hk.out K2.out)).mono ?_; rintro e1 w2 ⟨ct, rfl, hc, rfl⟩; rw [hk.out] at hc; replace hc := hide hc; have n1 := full_of hc.out G.out; have n2 : ¬ (18 : Int) < (ct.size : Int) := (by have := G1.out; rw [← hc.out, bl_len] at this; omega); obtain ⟨q1, q2, q3, q4, q5⟩ := PE.out kp ct hk.out hc.out; have E1 := hide q1; clear q1))
    refine (parse_any ct _ (by rw [hc.out]; exact G.out) (by rw [hc.out]; exact G1.out) (by rw [hc.out]; exact DG.out)).mono ?_
    rintro e1 w5 ⟨he5, B5⟩
    rw [hc.out, HN.out] at he5
    subst he5
    have c0 : w5.cell? ⟨w.heap.size, 0, none⟩ = some (.bool false) := by (rw [B5.cell (p := ⟨w.heap.size, 0, none⟩) (by simp <;> omega)]; first | done | simp [go_sem])
    have c2 : w5.cell? ⟨w.heap.size, 2, none⟩ = some (.string y) := by (rw [B5.cell (p := ⟨w.heap.size, 2, none⟩) (by simp <;> omega)]; first | done | simp [go_sem])
    have c3 : w5.cell? ⟨w.heap.size, 3, none⟩ = some (.int .i64 e) := by (rw [B5.cell (p := ⟨w.heap.size, 3, none⟩) (by simp <;> omega)]; first | done | simp [go_sem])
    have m0 : w5.cell? ⟨w.heap.size + 1, 0, none⟩ = some (.int .i64 0) := by (rw [B5.cell (p := ⟨w.heap.size + 1, 0, none⟩) (by simp <;> omega)]; first | done | simp [go_sem])
    have f0 : w5.frozen? ⟨w.heap.size + 1, 0, none⟩ = false := by (rw [B5.frozen (p := ⟨w.heap.size + 1, 0, none⟩) (by simp <;> omega)]; first | done | simp [go_sem])
    have m1 : w5.cell? ⟨w.heap.size + 1, 1, none⟩ = some (.int .i64 0) := by (rw [B5.cell (p := ⟨w.heap.size + 1, 1, none⟩) (by simp <;> omega)]; first | done | simp [go_sem])
    have f1 : w5.frozen? ⟨w.heap.size + 1, 1, none⟩ = false := by (rw [B5.frozen (p := ⟨w.heap.size + 1, 1, none⟩) (by simp <;> omega)]; first | done | simp [go_sem])
    have Z5 := hide (World.block_lt_of_cell? _ _ m0)
    replace B5 := hide (show Below w.heap.size w w5 from bto (bplus (bplus (Below.refl _ _) _) _) B5)
    go_wp2_with (first
      | (go_at_call 75; rw [E1.out]; refine (SH.out _).mono ?_; rintro e1 w6 ⟨rfl, rfl⟩; rw [HB.out])
      | (go_at_call 76; refine (made_any false _ _ _ hs.1 hs.2).mono ?_; rintro e1 w7 ⟨rfl, B7⟩; unfold ratV; replace m0 := (B7.cell (p := ⟨w.heap.size + 1, 0, none⟩) (World.block_lt_of_cell? _ _ m0)).trans m0; replace m1 := (B7.cell (p := ⟨w.heap.size + 1, 1, none⟩) (World.block_lt_of_cell? _ _ m1)).trans m1; replace f0 := (B7.frozen (p := ⟨w.heap.size + 1, 0, none⟩) Z5.out).trans f0; replace f1 := (B7.frozen (p := ⟨w.heap.size + 1, 1, none⟩) Z5.out).trans f1; replace B5 := hide (bto B5.out B7); clear B7))
    refine bodyPost_ret (v := .agg #[.int .i64 (((shN n p : Nat) : Int)), .int .i64 (shD n p)]) (by simp [results, Tryz.results53, go_sem, m0, m1]) rfl ?_
    exact .mk (by rw [V.out, F.out, HB.out]; rfl) rfl (by repeat (first | (with_reducible exact B5.out) | (with_reducible refine Below.setCell ?_ (by simp) _)))
  · unfold numV
    go_enter Tryz.func53, Tryz.ntmps53
    go_wp2_with (first
      | (go_at_call 72; refine (trimL_any (x ++ y) _).mono ?_; rintro e1 w1 ⟨kp, rfl, hk, rfl⟩; rw [XY.out] at hk; replace hk := hide hk; skip)
      | (go_at_call 73; refine (trimR_any kp _ (size_of hk.out K2.out)).mono ?_; rintro e1 w2 ⟨ct, rfl, hc, rfl⟩; rw [hk.out] at hc; replace hc := hide hc; have n1 := full_of hc.out G.out; have n2 : ¬ (18 : Int) < (ct.size : Int) := (by have := G1.out; rw [← hc.out, bl_len] at this; omega); obtain ⟨q1, q2, q3, q4, q5⟩ := PE.out kp ct hk.out hc.out; have E1 := hide q1; clear q1))
    refine (parse_any ct _ (by rw [hc.out]; exact G.out) (by rw [hc.out]; exact G1.out) (by rw [hc.out]; exact DG.out)).mono ?_
    rintro e1 w5 ⟨he5, B5⟩
    rw [hc.out, HN.out] at he5
    subst he5
    have c0 : w5.cell? ⟨w.heap.size, 0, none⟩ = some (.bool true) := by (rw [B5.cell (p := ⟨w.heap.size, 0, none⟩) (by simp <;> omega)]; first | done | simp [go_sem])
    have c2 : w5.cell? ⟨w.heap.size, 2, none⟩ = some (.string y) := by (rw [B5.cell (p := ⟨w.heap.size, 2, none⟩) (by simp <;> omega)]; first | done | simp [go_sem])
    have c3 : w5.cell? ⟨w.heap.size, 3, none⟩ = some (.int .i64 e) := by (rw [B5.cell (p := ⟨w.heap.size, 3, none⟩) (by simp <;> omega)]; first | done | simp [go_sem])
    have m0 : w5.cell? ⟨w.heap.size + 1, 0, none⟩ = some (.int .i64 0) := by (rw [B5.cell (p := ⟨w.heap.size + 1, 0, none⟩) (by simp <;> omega)]; first | done | simp [go_sem])
    have f0 : w5.frozen? ⟨w.heap.size + 1, 0, none⟩ = false := by (rw [B5.frozen (p := ⟨w.heap.size + 1, 0, none⟩) (by simp <;> omega)]; first | done | simp [go_sem])
    have m1 : w5.cell? ⟨w.heap.size + 1, 1, none⟩ = some (.int .i64 0) := by (rw [B5.cell (p := ⟨w.heap.size + 1, 1, none⟩) (by simp <;> omega)]; first | done | simp [go_sem])
    have f1 : w5.frozen? ⟨w.heap.size + 1, 1, none⟩ = false := by (rw [B5.frozen (p := ⟨w.heap.size + 1, 1, none⟩) (by simp <;> omega)]; first | done | simp [go_sem])
    have Z5 := hide (World.block_lt_of_cell? _ _ m0)
    replace B5 := hide (show Below w.heap.size w w5 from bto (bplus (bplus (Below.refl _ _) _) _) B5)
    go_wp2_with (first
      | (go_at_call 75; rw [E1.out]; refine (SH.out _).mono ?_; rintro e1 w6 ⟨rfl, rfl⟩; rw [HB.out])
      | (go_at_call 76; refine (made_any true _ _ _ hs.1 hs.2).mono ?_; rintro e1 w7 ⟨rfl, B7⟩; unfold ratV; replace m0 := (B7.cell (p := ⟨w.heap.size + 1, 0, none⟩) (World.block_lt_of_cell? _ _ m0)).trans m0; replace m1 := (B7.cell (p := ⟨w.heap.size + 1, 1, none⟩) (World.block_lt_of_cell? _ _ m1)).trans m1; replace f0 := (B7.frozen (p := ⟨w.heap.size + 1, 0, none⟩) Z5.out).trans f0; replace f1 := (B7.frozen (p := ⟨w.heap.size + 1, 1, none⟩) Z5.out).trans f1; replace B5 := hide (bto B5.out B7); clear B7))
    refine bodyPost_ret (v := .agg #[.int .i64 (-((shN n p : Nat) : Int)), .int .i64 (shD n p)]) (by simp [results, Tryz.results53, go_sem, m0, m1]) rfl ?_
    exact .mk (by rw [V.out, F.out, HB.out]; rfl) rfl (by repeat (first | (with_reducible exact B5.out) | (with_reducible refine Below.setCell ?_ (by simp) _)))
theorem value_any (b h : Bool) (x y : ByteArray) (e : Int) (w : World) (hl : (bl x ++ bl y).length ≤ 1000000000) (he : -18014398509481984 ≤ e ∧ e ≤ 18014398509481984) (hd : Digs (bl x ++ bl y)) :
    Calls Tryz.prog 53 #[numV b x y e h] w fun e' w' => PostV b (bl x ++ bl y) (e - (bl y).length) w e' w' := by
  by_cases h0 : cutR (cut0 (bl x ++ bl y)) = []
  · exact value_0 b h x y e w hl he hd h0
  by_cases h1 : 18 < (cutR (cut0 (bl x ++ bl y))).length
  · exact value_1 b h x y e w hl he hd h0 h1
  cases hB : shB (natOf (cutR (cut0 (bl x ++ bl y)))) (e - (bl y).length + ((cut0 (bl x ++ bl y)).length - (cutR (cut0 (bl x ++ bl y))).length : Nat))
  · exact value_2 b h x y e w hl he hd h0 (by omega) hB
  · exact value_3 b h x y e w hl he hd h0 (by omega) hB
end Go.Proofs.YtmoiifeflgopfaaGreatDoor
set_option linter.unusedVariables false
set_option linter.unusedSimpArgs false
namespace Go.Proofs.YtmoiifeflgopfaaGreatDoor
open Go.RowKit

/-- What is told of a text as a number. -/
def dN (S : List Int) : Int := ((dec S).getD ((0, 0), false)).1.1
def dD (S : List Int) : Int := ((dec S).getD ((0, 0), false)).1.2
def dW (S : List Int) : Bool := ((dec S).getD ((0, 0), false)).2
def dE (S : List Int) : Int := if (dec S).isSome then 0 else 3
def decV (S : List Int) : Value := .tuple #[ratV (dN S) (dD S), .bool (dW S), .int .i64 (dE S)]
theorem decV_none {S : List Int} (h : dec S = none) : decV S = .tuple #[ratV 0 0, .bool false, .int .i64 3] := by unfold decV dN dD dW dE; rw [h]; rfl
theorem decV_some {S : List Int} {r : Int × Int} {b : Bool} (h : dec S = some (r, b)) : decV S = .tuple #[ratV r.1 r.2, .bool b, .int .i64 0] := by unfold decV dN dD dW dE; rw [h]; rfl
set_option maxRecDepth 100000 in
set_option maxHeartbeats 1000000 in
theorem decP_any (s : ByteArray) (w : World) (hs : s.size ≤ 1000000000) :
    Calls Tryz.prog 32 #[.string s] w fun e w' => e = .returned (decV (bl s)) ∧ Below w.heap.size w w' := by
  go_enter Tryz.func32, Tryz.ntmps32
  go_wp2_with fail
  refine (takeApart_any s _ (by omega)).mono ?_
  rintro e w1 ⟨b, x, y, i, h, ok, rfl, hta, B1⟩
  have z1 : w.heap.size < w1.heap.size := by have := B1.size; simp at this; omega
  have m0 : w1.cell? ⟨w.heap.size, 0, none⟩ = some (.int .i64 0) := by rw [B1.cell (p := ⟨w.heap.size, 0, none⟩) (by simp)]; simp [go_sem]
  have m1 : w1.cell? ⟨w.heap.size, 1, none⟩ = some (.int .i64 0) := by rw [B1.cell (p := ⟨w.heap.size, 1, none⟩) (by simp)]; simp [go_sem]
  have f0 : w1.frozen? ⟨w.heap.size, 0, none⟩ = false := by rw [B1.frozen (p := ⟨w.heap.size, 0, none⟩) (by simp)]; simp [go_sem]
  have f1 : w1.frozen? ⟨w.heap.size, 1, none⟩ = false := by rw [B1.frozen (p := ⟨w.heap.size, 1, none⟩) (by simp)]; simp [go_sem]
  replace B1 := hide (show Below w.heap.size w w1 from bto (bplus (Below.refl _ _) _) B1)
  rcases hta with ⟨rfl, hn⟩ | ⟨rfl, E, hE, e1, e2, hl, hd, hv⟩
  · have V := hide (decV_none hn)
    clear hn
    unfold numV
    go_wp2
    refine bodyPost_ret (v := .tuple #[.agg #[.int .i64 0, .int .i64 0], .bool false, .int .i64 3]) (by simp [results, Tryz.results32, go_sem, m0, m1, z1, Nat.ne_of_lt z1, Nat.ne_of_gt z1]) rfl ?_
    exact ⟨by rw [V.out]; rfl, by repeat (first | (with_reducible exact B1.out) | (with_reducible refine Below.setCell ?_ (by simp) _) | (with_reducible refine bplus ?_ _))⟩
  · rw [bl_len] at hl
    have hl2 : (bl x ++ bl y).length ≤ 1000000000 := by omega
    have hyl : (bl y).length ≤ 1000000000 := by rw [List.length_append] at hl2; omega
    rw [← val_near hd hl2 hyl hE] at hv
    have V := hide (decV_some hv)
    have C := hide fun W => value_any b h x y i W hl2 ⟨e1, e2⟩ hd
    clear hv hl hl2 hyl hd hE e1 e2
    unfold numV
    go_wp2
    have HB := hide (show Below w1.heap.size w1 (w1.alloc (.cells #[.bool b, .string x, .string y, .int .i64 i, .bool h] 70)) from bplus (Below.refl _ _) _)
    have k4 : (w1.alloc (.cells #[.bool b, .string x, .string y, .int .i64 i, .bool h] 70)).cell? ⟨w1.heap.size, 4, none⟩ = some (.bool h) := by simp [go_sem]
    have Z := hide z1
    have K4 := hide k4
    clear k4
    go_region_with
      (go_at_call 53; refine (C.out _).mono ?_; rintro e2 w2 ⟨rfl, B2⟩; unfold ratV; have B3 := hide (show Below w1.heap.size w1 w2 from (by first | (with_reducible exact bto HB.out B2) | (with_reducible exact bto HB.out.drew B2) | (with_reducible exact bto HB.out.drew.drew B2))); replace m0 := (B3.out.cell (p := ⟨w.heap.size, 0, none⟩) Z.out).trans m0; replace m1 := (B3.out.cell (p := ⟨w.heap.size, 1, none⟩) Z.out).trans m1; replace f0 := (B3.out.frozen (p := ⟨w.heap.size, 0, none⟩) Z.out).trans f0; replace f1 := (B3.out.frozen (p := ⟨w.heap.size, 1, none⟩) Z.out).trans f1; have k4 := (B2.cell (p := ⟨w1.heap.size, 4, none⟩) (by simp)).trans K4.out; have z2 : w.heap.size < w2.heap.size := Nat.lt_of_lt_of_le Z.out B3.out.size; clear B2)
    all_goals go_wp2
    all_goals
      refine bodyPost_ret (v := .tuple #[.agg #[.int .i64 (valOf b (bl x ++ bl y) (i - (bl y).length)).1, .int .i64 (valOf b (bl x ++ bl y) (i - (bl y).length)).2], .bool h, .int .i64 0]) (by simp [results, Tryz.results32, go_sem, m0, m1]) rfl ?_
      exact ⟨by rw [V.out]; rfl, by repeat (first | (with_reducible exact bto B1.out B3.out) | (with_reducible refine Below.setCell ?_ (by simp) _) | (with_reducible refine bplus ?_ _) | (with_reducible refine Below.drew ?_) | (with_reducible refine below_drewN ?_ _))⟩
end Go.Proofs.YtmoiifeflgopfaaGreatDoor
