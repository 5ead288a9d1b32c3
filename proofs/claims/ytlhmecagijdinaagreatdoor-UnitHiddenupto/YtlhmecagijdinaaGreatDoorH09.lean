/-
  May all of some forms be; their sum: by the program.
  Nothing of each unit, and so much of one: by the reference.
-/
import Derived.Test.YtlhmecagijdinaaGreatDoorH08
import Derived.Test.YtlhmecagijdinaaGreatDoorMNoB
set_option linter.unusedVariables false
set_option linter.unusedSimpArgs false
namespace Go.Proofs.YtlhmecagijdinaaGreatDoor.nm
open Go.RowKit

theorem fm_range {w : World} {n : Nat} {v : Value} {l : List Fo} {k : Nat} {f : Fo} (h : FM w n v l) (hf : l[k]? = some f) : ∃ m b o c u, v = .slice (some ⟨b, o, none⟩) l.length c ∧ b < w.heap.size ∧ Us f.us ∧ w.rangeAt b (o + k * 15) (usL f.us ++ [u]) ∧ PM w m u f.ps := by
  obtain ⟨m, -, b, o, c, u, hv, hb, -, -, hun, h14, hpm⟩ := FM.at h hf
  refine ⟨m, b, o, c, u, hv, hb, hun.1, fun j x hj => ?_, hpm⟩
  have l14 := usL_len f.us
  have l7 := hun.1.1
  by_cases hj14 : j < 14
  · rw [List.getElem?_append_left (by omega)] at hj
    exact un_cell hun hj
  · have hj2 := (List.getElem?_eq_some_iff.1 hj).1
    rw [List.length_append, List.length_singleton] at hj2
    obtain rfl : j = 14 := by omega
    rw [List.getElem?_append_right (by omega), show 14 - (usL f.us).length = 0 by omega] at hj
    simp at hj
    subst hj
    exact h14
def RelAlF (w : World) (l : List Fo) (R0 : Bool) (i : Value) (wr : World) : Prop := ∃ k : Nat, i = .int .i64 k ∧ k ≤ l.length ∧ Hid (R0 = (l.drop k).all (maF 340) ∧ Below w.heap.size w wr)
theorem RelAlF.mk {w : World} {l : List Fo} {R0 : Bool} {i : Value} {wr : World} (k : Nat) (h1 : i = .int .i64 k) (h2 : k ≤ l.length) (h3 : R0 = (l.drop k).all (maF 340)) (h4 : Below w.heap.size w wr) : RelAlF w l R0 i wr := ⟨k, h1, h2, h3, h4⟩
/-- What Add tells. -/
def tlU (l : List Fo) : List (Int × Int) := if l.all (maF 340) = true then ssU l else z01
def tlP (l : List Fo) : List Pa := if l.all (maF 340) = true then ssP l else []
end Go.Proofs.YtlhmecagijdinaaGreatDoor.nm
set_option linter.unusedVariables false
set_option linter.unusedSimpArgs false
namespace Go.Proofs.YtlhmecagijdinaaGreatDoor.nm
open Go.RowKit

theorem may_same (n d : Int) : wk.mayB n d = mayB n d := rfl
theorem cleanR_any (n d : Int) (w : World) (hn : i64 n) (hd : i64 d) : Calls Tryz.prog 35 #[.agg #[.int .i64 n, .int .i64 d]] w fun e w' => e = .returned (.agg #[.int .i64 (ctR (n, d)).1, .int .i64 (ctR (n, d)).2]) ∧ Below w.heap.size w w' := by
  refine (wk.clean_any n d w hn hd).mono ?_
  rintro e w1 ⟨rfl, U⟩
  refine ⟨?_, U.1⟩
  unfold wk.clN wk.clD ctR
  rw [may_same]
  cases mayB n d <;> rfl
set_option maxRecDepth 100000 in
set_option maxHeartbeats 8000000 in
theorem zeroR_any (w : World) : Calls Tryz.prog 13 #[] w fun e w' => e = .returned (foV z01 nilS) ∧ Below w.heap.size w w' := by
  have CI0 := hide (fun (W : World) => (wk.int_any 0 W).mono (R' := fun e w' => e = .returned (.agg #[.int .i64 0, .int .i64 1]) ∧ Below W.heap.size W w') (by rintro e w1 ⟨rfl, cc, rfl⟩; exact ⟨rfl, bplus (Below.refl _ _) _⟩))
  obtain ⟨W1, hW1⟩ : ∃ W1, (w.alloc (.cells (usL z00 ++ [nilS]).toArray 30)).alloc (.cells (usL z00 ++ [nilS]).toArray 30) = W1 := ⟨_, rfl⟩
  have B0 := hide (show Below w.heap.size w W1 by rw [← hW1]; exact bplus (bplus (Below.refl _ _) _) _)
  have P0 := hide (show BF W1 w.heap.size z00 nilS by rw [← hW1]; exact (Bk.new w _ _).more _)
  have P1 := hide (show BF W1 (w.heap.size + 1) z00 nilS by rw [← hW1]; have := Bk.new (w.alloc (.cells (usL z00 ++ [nilS]).toArray 30)) 30 (usL z00 ++ [nilS]); rwa [show (w.alloc (.cells (usL z00 ++ [nilS]).toArray 30)).heap.size = w.heap.size + 1 by simp] at this)
  have HW1 := hide hW1
  clear hW1
  go_enter Tryz.func13, Tryz.ntmps13
  go_wp2_with fail
  rw [show (w.alloc (.cells #[.int .i64 0, .int .i64 0, .int .i64 0, .int .i64 0, .int .i64 0, .int .i64 0, .int .i64 0, .int .i64 0, .int .i64 0, .int .i64 0, .int .i64 0, .int .i64 0, .int .i64 0, .int .i64 0, .slice none 0 0] 30)).alloc (.cells #[.int .i64 0, .int .i64 0, .int .i64 0, .int .i64 0, .int .i64 0, .int .i64 0, .int .i64 0, .int .i64 0, .int .i64 0, .int .i64 0, .int .i64 0, .int .i64 0, .int .i64 0, .int .i64 0, .slice none 0 0] 30) = W1 from HW1.out]
  go_loopw [4] (fun i wr => RelZ w i wr) (fun i _ => 7 - (intOf i).toNat)
  case atStart => exact .mk 0 rfl (by omega) P0.out P1.out B0.out
  case round =>
    obtain ⟨k, rfl, hk, R⟩ := hrel
    have Q0 := hide R.out.1
    have Q1 := hide R.out.2.1
    have BW := hide R.out.2.2
    clear R P0 P1 B0 HW1
    by_cases hlt : k < 7
    · have hlt' : (k : Int) < 7 := by omega
      have KC := hide (fun (W : World) (h : Below wr.heap.size wr W) => And.intro (BF.at (Bk.up Q1.out h : BF W (w.heap.size + 1) (zK k) nilS) (zK_len (by omega)) (zK_at hlt)) (Bk.fz (Bk.up Q1.out h)))
      have N0 := hide (fun (W : World) (h : Below wr.heap.size wr W) => show BF ((W.setCell ⟨w.heap.size + 1, k * 2, none⟩ (.int .i64 0)).setCell ⟨w.heap.size + 1, k * 2 + 1, none⟩ (.int .i64 1)) w.heap.size z00 nilS from Bk.far (Bk.far (Bk.up Q0.out h) (by omega) _ _) (by omega) _ _)
      have N1 := hide (fun (W : World) (h : Below wr.heap.size wr W) => show BF ((W.setCell ⟨w.heap.size + 1, k * 2, none⟩ (.int .i64 0)).setCell ⟨w.heap.size + 1, k * 2 + 1, none⟩ (.int .i64 1)) (w.heap.size + 1) (zK (k + 1)) nilS by have := BF.put (Bk.up Q1.out h : BF W (w.heap.size + 1) (zK k) nilS) (k := k) (by rw [zK_len (by omega)]; omega) 0 1; rwa [zK_step hlt] at this)
      have N2 := hide (fun (W : World) (h : Below wr.heap.size wr W) => show Below w.heap.size w ((W.setCell ⟨w.heap.size + 1, k * 2, none⟩ (.int .i64 0)).setCell ⟨w.heap.size + 1, k * 2 + 1, none⟩ (.int .i64 1)) from ((bto BW.out h).setCell (by simp) _).setCell (by simp) _)
      clear Q0 Q1
      go_wp2_with (go_at_call 30; refine (CI0.out _).mono ?_; rintro e w4 ⟨rfl, B4⟩; replace B4 := hide B4; obtain ⟨⟨c0, c1⟩, cz⟩ := KC.out w4 B4.out; have z0 := cz (k * 2); have z1 := cz (k * 2 + 1); clear cz)
      go_roundw
      case rel => exact .mk (k + 1) (by go_num) (by omega) (N0.out _ B4.out) (N1.out _ B4.out) (N2.out _ B4.out)
      case measure => simp [intOf]; omega
    · obtain rfl : k = 7 := by omega
      have q0 : wr.heap[w.heap.size]? = some (.cells (usL z00 ++ [nilS]).toArray 30) := Q0.out
      have q1 : wr.heap[w.heap.size + 1]? = some (.cells (usL z01 ++ [nilS]).toArray 30) := Q1.out
      replace q0 := hide q0
      replace q1 := hide q1
      clear Q0 Q1
      go_upto_region 7 with fail
      refine wp_region_list ?_
      refine wpList_load_mid rfl 30 (.tmp 1) rfl (w.heap.size + 1) 0 rfl (usL z01 ++ [nilS]) _ (range_blk q1.out) Tryz.underlying30 rfl (by kernel_rfl) ?_
      refine wpList_store_mid rfl 30 (.tmp 0) (.tmp 12) rfl w.heap.size 0 (usL z01 ++ [nilS]).toArray rfl rfl (there_blk q0.out rfl) (by kernel_rfl) (by simp [Value.oneCell', usL, z01, nilS]) ?_
      go_wp2_with fail
      refine ret_cell (b := w.heap.size) (cs := usL z01 ++ [nilS]) Tryz.results13 rfl (World.rangeAt_setCells_same _ _ _ _ (there_blk q0.out rfl)) Tryz.underlying30 rfl (by kernel_rfl) rfl ?_
      exact ⟨rfl, BW.out.grown (setCells_grown _ _ _ _) BW.out.size (fun k hk => by cases hk; exact Nat.le_refl _)⟩
set_option maxRecDepth 100000 in
set_option maxHeartbeats 8000000 in
theorem oneR_any (u n d : Int) (w : World) (hu : i64 u) (hn : i64 n) (hd : i64 d) : Calls Tryz.prog 32 #[.int .i64 u, .agg #[.int .i64 n, .int .i64 d]] w fun e w' => e = .returned (foV (oneU u (n, d)) nilS) ∧ Below w.heap.size w w' := by
  have CZ := hide (fun (W : World) (h : Below w.heap.size w W) => zeroR_any W)
  rw [show foV z01 nilS = .agg #[.int .i64 0, .int .i64 1, .int .i64 0, .int .i64 1, .int .i64 0, .int .i64 1, .int .i64 0, .int .i64 1, .int .i64 0, .int .i64 1, .int .i64 0, .int .i64 1, .int .i64 0, .int .i64 1, .slice none 0 0] from rfl] at CZ
  have CC := hide (fun (W : World) => cleanR_any n d W hn hd)
  have US := hide (one_us u n d hn hd)
  obtain ⟨US2, hUS2⟩ : ∃ x, oneU u (n, d) = x := ⟨_, rfl⟩
  rw [hUS2] at US ⊢
  have HUS2 := hide hUS2
  clear hUS2
  obtain ⟨u1, u2⟩ := hu
  obtain ⟨W1, hW1⟩ : ∃ W1, (w.alloc (.cells #[.int .i64 n, .int .i64 d] 23)).alloc (.cells #[.int .i64 0, .int .i64 0, .int .i64 0, .int .i64 0, .int .i64 0, .int .i64 0, .int .i64 0, .int .i64 0, .int .i64 0, .int .i64 0, .int .i64 0, .int .i64 0, .int .i64 0, .int .i64 0, .slice none 0 0] 30) = W1 := ⟨_, rfl⟩
  have B0 := hide (show Below w.heap.size w W1 by rw [← hW1]; exact bplus (bplus (Below.refl _ _) _) _)
  have P0 := hide (show Bk W1 w.heap.size 23 [.int .i64 n, .int .i64 d] by rw [← hW1]; exact (two_new w _ _).1)
  have P1 := hide (show BF W1 (w.heap.size + 1) z00 nilS by rw [← hW1]; exact (two_new w _ _).2)
  have HW1 := hide hW1
  clear hW1
  go_enter Tryz.func32, Tryz.ntmps32
  go_upto_region 1 with fail
  rw [HW1.out]
  clear HW1
  go_upto_region 2 with (go_at_call 13; refine (CZ.out _ B0.out).mono ?_; rintro e wz ⟨rfl, BZ⟩; replace BZ := hide BZ; clear CZ)
  have hz : w.heap.size + 1 < wz.heap.size := Nat.lt_of_lt_of_le (Bk.lt P1.out) BZ.out.size
  have B2 := hide (show Below w.heap.size w (wz.alloc (.cells #[.int .i64 0, .int .i64 1, .int .i64 0, .int .i64 1, .int .i64 0, .int .i64 1, .int .i64 0, .int .i64 1, .int .i64 0, .int .i64 1, .int .i64 0, .int .i64 1, .int .i64 0, .int .i64 1, .slice none 0 0] 30)) from bplus (bto B0.out BZ.out) _)
  have F0 := hide (show BF (wz.alloc (.cells #[.int .i64 0, .int .i64 1, .int .i64 0, .int .i64 1, .int .i64 0, .int .i64 1, .int .i64 0, .int .i64 1, .int .i64 0, .int .i64 1, .int .i64 0, .int .i64 1, .int .i64 0, .int .i64 1, .slice none 0 0] 30)) wz.heap.size z01 nilS from Bk.new wz _ _)
  have F1 := hide (show BF (wz.alloc (.cells #[.int .i64 0, .int .i64 1, .int .i64 0, .int .i64 1, .int .i64 0, .int .i64 1, .int .i64 0, .int .i64 1, .int .i64 0, .int .i64 1, .int .i64 0, .int .i64 1, .int .i64 0, .int .i64 1, .slice none 0 0] 30)) (w.heap.size + 1) z00 nilS from (Bk.up P1.out BZ.out).more _)
  have F2 := hide (show Bk (wz.alloc (.cells #[.int .i64 0, .int .i64 1, .int .i64 0, .int .i64 1, .int .i64 0, .int .i64 1, .int .i64 0, .int .i64 1, .int .i64 0, .int .i64 1, .int .i64 0, .int .i64 1, .int .i64 0, .int .i64 1, .slice none 0 0] 30)) w.heap.size 23 [.int .i64 n, .int .i64 d] from (Bk.up P0.out BZ.out).more _)
  clear P0 P1 B0 BZ
  generalize wz.alloc (.cells #[.int .i64 0, .int .i64 1, .int .i64 0, .int .i64 1, .int .i64 0, .int .i64 1, .int .i64 0, .int .i64 1, .int .i64 0, .int .i64 1, .int .i64 0, .int .i64 1, .int .i64 0, .int .i64 1, .slice none 0 0] 30) = W2 at *
  generalize wz.heap.size = fb at *
  have a0 := Bk.cell F2.out 0
  have a1 := Bk.cell F2.out 1
  simp at a0 a1
  by_cases hin : 1 ≤ u ∧ u ≤ 7
  · obtain ⟨i1, i2⟩ := hin
    obtain ⟨k, hk⟩ : ∃ k : Nat, u - 1 = (k : Int) := ⟨(u - 1).toNat, by omega⟩
    have k7 : k < 7 := by omega
    have wr1 : IntKind.i64.wrap (u - 1) = (k : Int) := by rw [← hk]; simp [IntKind.wrap, go_sem]; omega
    have k7' : (k : Int) < 7 := by omega
    have EU := hide (show US2 = z01.set k (ctR (n, d)) by rw [← HUS2.out]; unfold oneU; rw [if_pos ⟨i1, i2⟩, hk]; rfl)
    clear HUS2
    obtain ⟨ct, hct⟩ : ∃ ct, ctR (n, d) = ct := ⟨_, rfl⟩
    rw [hct] at CC EU
    clear hct hk
    have KC := hide (fun (W : World) (h : Below W2.heap.size W2 W) => And.intro (BF.at (Bk.up F0.out h : BF W fb z01 nilS) rfl (k := k) (n := 0) (d := 1) (by rcases (show k = 0 ∨ k = 1 ∨ k = 2 ∨ k = 3 ∨ k = 4 ∨ k = 5 ∨ k = 6 by omega) with rfl | rfl | rfl | rfl | rfl | rfl | rfl <;> rfl)) (Bk.fz (Bk.up F0.out h)))
    have NF := hide (fun (W : World) (h : Below W2.heap.size W2 W) => show BF ((W.setCell ⟨fb, k * 2, none⟩ (.int .i64 ct.1)).setCell ⟨fb, k * 2 + 1, none⟩ (.int .i64 ct.2)) fb US2 nilS by
      have := BF.put (Bk.up F0.out h : BF W fb z01 nilS) (k := k) k7 ct.1 ct.2
      rwa [show ((ct.1, ct.2) : Int × Int) = ct from rfl, ← EU.out] at this)
    have NR := hide (fun (W : World) (h : Below W2.heap.size W2 W) => show BF ((W.setCell ⟨fb, k * 2, none⟩ (.int .i64 ct.1)).setCell ⟨fb, k * 2 + 1, none⟩ (.int .i64 ct.2)) (w.heap.size + 1) z00 nilS from Bk.far (Bk.far (Bk.up F1.out h) (by omega) _ _) (by omega) _ _)
    have NB := hide (fun (W : World) (h : Below W2.heap.size W2 W) => show Below w.heap.size w ((W.setCell ⟨fb, k * 2, none⟩ (.int .i64 ct.1)).setCell ⟨fb, k * 2 + 1, none⟩ (.int .i64 ct.2)) from ((bto B2.out h).setCell (by simp; omega) _).setCell (by simp; omega) _)
    clear F0 F1 F2 B2
    go_upto_region 4 with (go_at_call 35; refine (CC.out _).mono ?_; rintro e wc ⟨rfl, BC⟩; replace BC := hide BC; obtain ⟨⟨v0, v1⟩, vz⟩ := KC.out wc BC.out; have vz0 := vz (k * 2); have vz1 := vz (k * 2 + 1); clear vz)
    replace NF := hide (NF.out wc BC.out)
    replace NR := hide (NR.out wc BC.out)
    replace NB := hide (NB.out wc BC.out)
    clear KC BC v0 v1 vz0 vz1 EU CC
    generalize (wc.setCell ⟨fb, k * 2, none⟩ (.int .i64 ct.1)).setCell ⟨fb, k * 2 + 1, none⟩ (.int .i64 ct.2) = W3 at *
    have q0 := hide (show W3.heap[fb]? = some (.cells (usL US2 ++ [nilS]).toArray 30) from NF.out)
    have q2 := hide (show W3.heap[w.heap.size + 1]? = some (.cells (usL z00 ++ [nilS]).toArray 30) from NR.out)
    have l3 : (usL US2 ++ [nilS]).length = 15 := by rw [List.length_append, usL_len, US.out.1]; rfl
    refine wp_region_list ?_
    refine wpList_load_mid rfl 30 (.tmp 5) rfl fb 0 rfl (usL US2 ++ [nilS]) _ (range_blk q0.out) Tryz.underlying30 rfl (by rw [l3]; kernel_rfl) ?_
    refine wpList_store_mid rfl 30 (.tmp 4) (.tmp 19) rfl (w.heap.size + 1) 0 (usL US2 ++ [nilS]).toArray rfl rfl (there_blk q2.out (by simp only [List.size_toArray, l3]; rfl)) (by rw [List.size_toArray, l3]; kernel_rfl) (all_oneCell_toArray (us_one rfl)) ?_
    go_wp2_with fail
    refine ret_cell (b := w.heap.size + 1) (cs := usL US2 ++ [nilS]) Tryz.results32 rfl (World.rangeAt_setCells_same _ _ _ _ (there_blk q2.out (by simp only [List.size_toArray, l3]; rfl))) Tryz.underlying30 rfl (by rw [l3]; kernel_rfl) rfl ?_
    exact ⟨rfl, NB.out.grown (setCells_grown _ _ _ _) NB.out.size (fun k hk => by cases hk; simp)⟩
  · obtain rfl : US2 = z01 := by rw [← HUS2.out]; unfold oneU; rw [if_neg hin]
    clear HUS2
    have q0 := hide (show W2.heap[fb]? = some (.cells (usL z01 ++ [nilS]).toArray 30) from F0.out)
    have q2 := hide (show W2.heap[w.heap.size + 1]? = some (.cells (usL z00 ++ [nilS]).toArray 30) from F1.out)
    clear CC US F0 F1 F2 a0 a1
    rcases (show u < 1 ∨ (1 ≤ u ∧ 7 < u) by omega) with hlo | ⟨hlo, hhi⟩
    all_goals
      (try have hl1 : ¬ 1 ≤ u := (by omega))
      (try have hl2 : ¬ u ≤ 7 := (by omega))
      (try have hl3 : decide (1 ≤ u) = false := (by simp; omega))
      (try have hl4 : decide (1 ≤ u) = true := (by simp; omega))
      go_upto_region 4 with fail
      refine wp_region_list ?_
      refine wpList_load_mid rfl 30 (.tmp 5) rfl fb 0 rfl (usL z01 ++ [nilS]) _ (range_blk q0.out) Tryz.underlying30 rfl (by kernel_rfl) ?_
      refine wpList_store_mid rfl 30 (.tmp 4) (.tmp 19) rfl (w.heap.size + 1) 0 (usL z01 ++ [nilS]).toArray rfl rfl (there_blk q2.out rfl) (by kernel_rfl) (all_oneCell_toArray (us_one rfl)) ?_
      go_wp2_with fail
      refine ret_cell (b := w.heap.size + 1) (cs := usL z01 ++ [nilS]) Tryz.results32 rfl (World.rangeAt_setCells_same _ _ _ _ (there_blk q2.out rfl)) Tryz.underlying30 rfl (by kernel_rfl) rfl ?_
      exact ⟨rfl, B2.out.grown (setCells_grown _ _ _ _) B2.out.size (fun k hk => by cases hk; simp)⟩
end Go.Proofs.YtlhmecagijdinaaGreatDoor.nm
