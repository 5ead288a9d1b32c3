/-
  One unit's form: by the program.
-/
import Derived.Test.YticgcokhdipomaaDoorLNoH
set_option linter.unusedVariables false
set_option linter.unusedSimpArgs false
namespace Go.Proofs.YticgcokhdipomaaDoor.nm
open Go.RowKit

/-- So much of one unit. -/
def oneU (u : Int) (r : Int × Int) : List (Int × Int) := if 1 ≤ u ∧ u ≤ 7 then z01.set (u - 1).toNat (ctR r) else z01
theorem one_us (u n d : Int) (hn : i64 n) (hd : i64 d) : Us (oneU u (n, d)) := by
  unfold oneU
  split
  · refine ⟨by rw [List.length_set]; rfl, fun r hr => ?_⟩
    rcases List.mem_or_eq_of_mem_set hr with h | h
    · exact zus.2 r h
    · rw [h]; exact ct_i64 hn hd
  · exact zus
theorem us_one {us : List (Int × Int)} {u : Value} (hu : u.oneCell' = true) : ∀ v ∈ usL us ++ [u], v.oneCell' = true := by
  intro v hv
  rcases List.mem_append.1 hv with hv | hv
  · simp only [usL, List.mem_flatMap] at hv
    obtain ⟨r, -, hv⟩ := hv
    simp at hv
    rcases hv with rfl | rfl <;> rfl
  · simp at hv; subst hv; exact hu
set_option maxRecDepth 100000 in
set_option maxHeartbeats 8000000 in
theorem oneF_any (u n d : Int) (w : World) (hN : Nth w) (hu : i64 u) (hn : i64 n) (hd : i64 d) : Calls Tryd.prog 9 #[.int .i64 u, .agg #[.int .i64 n, .int .i64 d]] w fun e w' => e = .returned (foV (oneU u (n, d)) nilS) ∧ Below w.heap.size w w' := by
  have CZ := hide (fun (W : World) (h : Below w.heap.size w W) => zero_any W (hN.low h))
  rw [show foV z01 nilS = .agg #[.int .i64 0, .int .i64 1, .int .i64 0, .int .i64 1, .int .i64 0, .int .i64 1, .int .i64 0, .int .i64 1, .int .i64 0, .int .i64 1, .int .i64 0, .int .i64 1, .int .i64 0, .int .i64 1, .slice none 0 0] from rfl] at CZ
  have CC := hide (fun (W : World) => counted_any n d W hn hd)
  have US := hide (one_us u n d hn hd)
  obtain ⟨US2, hUS2⟩ : ∃ x, oneU u (n, d) = x := ⟨_, rfl⟩
  rw [hUS2] at US ⊢
  have HUS2 := hide hUS2
  clear hUS2
  obtain ⟨u1, u2⟩ := hu
  obtain ⟨W1, hW1⟩ : ∃ W1, (w.alloc (.cells #[.int .i64 n, .int .i64 d] 24)).alloc (.cells #[.int .i64 0, .int .i64 0, .int .i64 0, .int .i64 0, .int .i64 0, .int .i64 0, .int .i64 0, .int .i64 0, .int .i64 0, .int .i64 0, .int .i64 0, .int .i64 0, .int .i64 0, .int .i64 0, .slice none 0 0] 29) = W1 := ⟨_, rfl⟩
  have B0 := hide (show Below w.heap.size w W1 by rw [← hW1]; exact bplus (bplus (Below.refl _ _) _) _)
  have P0 := hide (show Bk W1 w.heap.size 24 [.int .i64 n, .int .i64 d] by rw [← hW1]; exact (two_new w _ _).1)
  have P1 := hide (show BF W1 (w.heap.size + 1) z00 nilS by rw [← hW1]; exact (two_new w _ _).2)
  have HW1 := hide hW1
  clear hW1 hN
  go_enter Tryd.func9, Tryd.ntmps9
  go_upto_region 1 with fail
  rw [HW1.out]
  clear HW1
  go_upto_region 2 with (go_at_call 7; refine (CZ.out _ B0.out).mono ?_; rintro e wz ⟨rfl, BZ⟩; replace BZ := hide BZ; clear CZ)
  have hz : w.heap.size + 1 < wz.heap.size := Nat.lt_of_lt_of_le (Bk.lt P1.out) BZ.out.size
  have B2 := hide (show Below w.heap.size w (wz.alloc (.cells #[.int .i64 0, .int .i64 1, .int .i64 0, .int .i64 1, .int .i64 0, .int .i64 1, .int .i64 0, .int .i64 1, .int .i64 0, .int .i64 1, .int .i64 0, .int .i64 1, .int .i64 0, .int .i64 1, .slice none 0 0] 29)) from bplus (bto B0.out BZ.out) _)
  have F0 := hide (show BF (wz.alloc (.cells #[.int .i64 0, .int .i64 1, .int .i64 0, .int .i64 1, .int .i64 0, .int .i64 1, .int .i64 0, .int .i64 1, .int .i64 0, .int .i64 1, .int .i64 0, .int .i64 1, .int .i64 0, .int .i64 1, .slice none 0 0] 29)) wz.heap.size z01 nilS from Bk.new wz _ _)
  have F1 := hide (show BF (wz.alloc (.cells #[.int .i64 0, .int .i64 1, .int .i64 0, .int .i64 1, .int .i64 0, .int .i64 1, .int .i64 0, .int .i64 1, .int .i64 0, .int .i64 1, .int .i64 0, .int .i64 1, .int .i64 0, .int .i64 1, .slice none 0 0] 29)) (w.heap.size + 1) z00 nilS from (Bk.up P1.out BZ.out).more _)
  have F2 := hide (show Bk (wz.alloc (.cells #[.int .i64 0, .int .i64 1, .int .i64 0, .int .i64 1, .int .i64 0, .int .i64 1, .int .i64 0, .int .i64 1, .int .i64 0, .int .i64 1, .int .i64 0, .int .i64 1, .int .i64 0, .int .i64 1, .slice none 0 0] 29)) w.heap.size 24 [.int .i64 n, .int .i64 d] from (Bk.up P0.out BZ.out).more _)
  clear P0 P1 B0 BZ
  generalize wz.alloc (.cells #[.int .i64 0, .int .i64 1, .int .i64 0, .int .i64 1, .int .i64 0, .int .i64 1, .int .i64 0, .int .i64 1, .int .i64 0, .int .i64 1, .int .i64 0, .int .i64 1, .int .i64 0, .int .i64 1, .slice none 0 0] 29) = W2 at *
  generalize wz.heap.size = fb at *
  have a0 := Bk.cell F2.out 0
  have a1 := Bk.cell F2.out 1
  simp at a0 a1
  by_cases hin : 1 ≤ u ∧ u ≤ 7
  · obtain ⟨i1, i2⟩ := hin
    obtain ⟨k, hk⟩ : ∃ k : Nat, u - 1 = (k : Int) := ⟨(u - 1).toNat, by omega⟩
    have k7 : k < 7 := by omega
    have wr1 : IntKind.i64.wrap (u - 1) = (k : Int) := by rw [← hk]; simp [IntKind.wrap, go_sem]; omega
    have k7' : (k : Int) < 7 := by omega
    have EU := hide (show US2 = z01.set k (ctR (n, d)) by rw [← HUS2.out]; unfold oneU; rw [if_pos ⟨i1, i2⟩, hk]; rfl)
    clear HUS2
    obtain ⟨ct, hct⟩ : ∃ ct, ctR (n, d) = ct := ⟨_, rfl⟩
    rw [hct] at CC EU
    clear hct hk
    have KC := hide (fun (W : World) (h : Below W2.heap.size W2 W) => And.intro (BF.at (Bk.up F0.out h : BF W fb z01 nilS) rfl (k := k) (n := 0) (d := 1) (by rcases (show k = 0 ∨ k = 1 ∨ k = 2 ∨ k = 3 ∨ k = 4 ∨ k = 5 ∨ k = 6 by omega) with rfl | rfl | rfl | rfl | rfl | rfl | rfl <;> rfl)) (Bk.fz (Bk.up F0.out h)))
    have NF := hide (fun (W : World) (h : Below W2.heap.size W2 W) => show BF ((W.setCell ⟨fb, k * 2, none⟩ (.int .i64 ct.1)).setCell ⟨fb, k * 2 + 1, none⟩ (.int .i64 ct.2)) fb US2 nilS by
      have := BF.put (Bk.up F0.out h : BF W fb z01 nilS) (k := k) k7 ct.1 ct.2
      rwa [show ((ct.1, ct.2) : Int × Int) = ct from rfl, ← EU.out] at this)
    have NR := hide (fun (W : World) (h : Below W2.heap.size W2 W) => show BF ((W.setCell ⟨fb, k * 2, none⟩ (.int .i64 ct.1)).setCell ⟨fb, k * 2 + 1, none⟩ (.int .i64 ct.2)) (w.heap.size + 1) z00 nilS from Bk.far (Bk.far (Bk.up F1.out h) (by omega) _ _) (by omega) _ _)
    have NB := hide (fun (W : World) (h : Below W2.heap.size W2 W) => show Below w.heap.size w ((W.setCell ⟨fb, k * 2, none⟩ (.int .i64 ct.1)).setCell ⟨fb, k * 2 + 1, none⟩ (.int .i64 ct.2)) from ((bto B2.out h).setCell (by simp; omega) _).setCell (by simp; omega) _)
    clear F0 F1 F2 B2
    go_upto_region 4 with (go_at_call 23; refine (CC.out _).mono ?_; rintro e wc ⟨rfl, BC⟩; replace BC := hide BC; obtain ⟨⟨v0, v1⟩, vz⟩ := KC.out wc BC.out; have vz0 := vz (k * 2); have vz1 := vz (k * 2 + 1); clear vz)
    replace NF := hide (NF.out wc BC.out)
    replace NR := hide (NR.out wc BC.out)
    replace NB := hide (NB.out wc BC.out)
    clear KC BC v0 v1 vz0 vz1 EU CC
    generalize (wc.setCell ⟨fb, k * 2, none⟩ (.int .i64 ct.1)).setCell ⟨fb, k * 2 + 1, none⟩ (.int .i64 ct.2) = W3 at *
    have q0 := hide (show W3.heap[fb]? = some (.cells (usL US2 ++ [nilS]).toArray 29) from NF.out)
    have q2 := hide (show W3.heap[w.heap.size + 1]? = some (.cells (usL z00 ++ [nilS]).toArray 29) from NR.out)
    have l3 : (usL US2 ++ [nilS]).length = 15 := by rw [List.length_append, usL_len, US.out.1]; rfl
    refine wp_region_list ?_
    refine wpList_load_mid rfl 29 (.tmp 5) rfl fb 0 rfl (usL US2 ++ [nilS]) _ (range_blk q0.out) Tryd.underlying29 rfl (by rw [l3]; kernel_rfl) ?_
    refine wpList_store_mid rfl 29 (.tmp 4) (.tmp 19) rfl (w.heap.size + 1) 0 (usL US2 ++ [nilS]).toArray rfl rfl (there_blk q2.out (by simp only [List.size_toArray, l3]; rfl)) (by rw [List.size_toArray, l3]; kernel_rfl) (all_oneCell_toArray (us_one rfl)) ?_
    go_wp2_with fail
    refine ret_cell (b := w.heap.size + 1) (cs := usL US2 ++ [nilS]) Tryd.results9 rfl (World.rangeAt_setCells_same _ _ _ _ (there_blk q2.out (by simp only [List.size_toArray, l3]; rfl))) Tryd.underlying29 rfl (by rw [l3]; kernel_rfl) rfl ?_
    exact ⟨rfl, NB.out.grown (setCells_grown _ _ _ _) NB.out.size (fun k hk => by cases hk; simp)⟩
  · obtain rfl : US2 = z01 := by rw [← HUS2.out]; unfold oneU; rw [if_neg hin]
    clear HUS2
    have q0 := hide (show W2.heap[fb]? = some (.cells (usL z01 ++ [nilS]).toArray 29) from F0.out)
    have q2 := hide (show W2.heap[w.heap.size + 1]? = some (.cells (usL z00 ++ [nilS]).toArray 29) from F1.out)
    clear CC US F0 F1 F2 a0 a1
    rcases (show u < 1 ∨ (1 ≤ u ∧ 7 < u) by omega) with hlo | ⟨hlo, hhi⟩
    all_goals
      (try have hl1 : ¬ 1 ≤ u := (by omega))
      (try have hl2 : ¬ u ≤ 7 := (by omega))
      (try have hl3 : decide (1 ≤ u) = false := (by simp; omega))
      (try have hl4 : decide (1 ≤ u) = true := (by simp; omega))
      go_upto_region 4 with fail
      refine wp_region_list ?_
      refine wpList_load_mid rfl 29 (.tmp 5) rfl fb 0 rfl (usL z01 ++ [nilS]) _ (range_blk q0.out) Tryd.underlying29 rfl (by kernel_rfl) ?_
      refine wpList_store_mid rfl 29 (.tmp 4) (.tmp 19) rfl (w.heap.size + 1) 0 (usL z01 ++ [nilS]).toArray rfl rfl (there_blk q2.out rfl) (by kernel_rfl) (all_oneCell_toArray (us_one rfl)) ?_
      go_wp2_with fail
      refine ret_cell (b := w.heap.size + 1) (cs := usL z01 ++ [nilS]) Tryd.results9 rfl (World.rangeAt_setCells_same _ _ _ _ (there_blk q2.out rfl)) Tryd.underlying29 rfl (by kernel_rfl) rfl ?_
      exact ⟨rfl, B2.out.grown (setCells_grown _ _ _ _) B2.out.size (fun k hk => by cases hk; simp)⟩
end Go.Proofs.YticgcokhdipomaaDoor.nm
