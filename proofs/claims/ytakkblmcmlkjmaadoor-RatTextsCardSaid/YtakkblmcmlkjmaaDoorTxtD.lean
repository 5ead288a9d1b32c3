/-
  Texts as fractions: by the program, whole.
-/
import Derived.Test.YtakkblmcmlkjmaaDoorTxtC
set_option linter.unusedVariables false
set_option linter.unusedSimpArgs false
namespace Go.Proofs.YtakkblmcmlkjmaaDoor
open Go.RowKit Go.Shelf

def PostPs (s : ByteArray) (w : World) (e : Ending) (w' : World) : Prop := ∃ n d c, e = .returned (.tuple #[.agg #[.int .i64 n, .int .i64 d], .int .i64 c]) ∧ Hid (PS s.data.toList n d c) ∧ Below w.heap.size w w'
theorem data_ext {s t : ByteArray} (h : s.data.toList = t.data.toList) : s = t := by
  apply ByteArray.ext
  exact Array.toList_inj.1 h
set_option maxRecDepth 100000 in
set_option maxHeartbeats 1000000 in
theorem read_ovr (w : World) : Calls Tryd.prog 12 #[.string ⟨#[111, 118, 101, 114]⟩] w fun e w' => e = .returned (.tuple #[.agg #[.int .i64 0, .int .i64 0], .bool true]) ∧ Below w.heap.size w w' := by
  have B0 := hide (bplus (Below.refl w.heap.size w) (.cells #[.int .i64 0, .int .i64 0] 23))
  go_enter Tryd.func12, Tryd.ntmps12
  go_wp2
  refine bodyPost_ret (v := .tuple #[.agg #[.int .i64 0, .int .i64 0], .bool true]) (by simp [results, Tryd.results12, go_sem]) rfl ?_
  exact ⟨rfl, by repeat (first | (with_reducible exact B0.out) | (with_reducible refine Below.setCell ?_ (by simp) _) | (with_reducible refine bplus ?_ _))⟩
theorem txB_list (n d : Int) : (txB n d).data.toList = tx n d := rfl
theorem isV00 : isV 0 0 = false := by decide
set_option maxRecDepth 100000 in
set_option maxHeartbeats 2000000 in
theorem parseP_any (s : ByteArray) (w : World) (hs : s.size ≤ 140737488355328) (hT : TabT w) (he : Errs w) :
    Calls Tryd.prog 6 #[.string s] w fun e w' => PostPs s w e w' := by
  have HT := hide (fun (W : World) (h : Below w.heap.size w W) => hT.below h)
  have he0 := he.below (bplus (Below.refl w.heap.size w) (.cells #[.int .i64 0, .int .i64 0] 23))
  clear hT he
  by_cases hne : s.data.toList = ovr
  · obtain rfl : s = ⟨#[111, 118, 101, 114]⟩ := data_ext hne
    have FIN := hide (show PS ((⟨#[111, 118, 101, 114]⟩ : ByteArray).data.toList) 0 0 0 from .inl ⟨rfl, rfl, rfl, rfl⟩)
    have E := hide (show txB 0 0 = ⟨#[111, 118, 101, 114]⟩ by unfold txB tx; rw [isV00]; rfl)
    have CR := hide (read_ovr (w.alloc (.cells #[.int .i64 0, .int .i64 0] 23)))
    have CT := hide (fun (W : World) (h : Below w.heap.size w W) => textP_any 0 0 W (by omega) (by omega) (by omega) (by omega) (HT.out W h))
    clear hne he0
    go_enter Tryd.func6, Tryd.ntmps6
    go_wp2_with (first
      | (go_at_call 12; refine CR.out.mono ?_; rintro e w1 ⟨rfl, B1⟩; have z1 : w.heap.size < w1.heap.size := (by have := B1.size; simp at this; omega); have m0 : w1.cell? ⟨w.heap.size, 0, none⟩ = some (.int .i64 0) := (by rw [B1.cell (p := ⟨w.heap.size, 0, none⟩) (by simp)]; simp [go_sem]); have m1 : w1.cell? ⟨w.heap.size, 1, none⟩ = some (.int .i64 0) := (by rw [B1.cell (p := ⟨w.heap.size, 1, none⟩) (by simp)]; simp [go_sem]); have f0 : w1.frozen? ⟨w.heap.size, 0, none⟩ = false := (by rw [B1.frozen (p := ⟨w.heap.size, 0, none⟩) (by simp)]; simp [go_sem]); have f1 : w1.frozen? ⟨w.heap.size, 1, none⟩ = false := (by rw [B1.frozen (p := ⟨w.heap.size, 1, none⟩) (by simp)]; simp [go_sem]); have zne := Nat.ne_of_lt z1; have zne2 := Nat.ne_of_gt z1; replace B1 := hide (show Below w.heap.size w w1 from bto (bplus (Below.refl _ _) _) B1))
      | (go_at_call 4; refine (CT.out _ (by repeat (first | (with_reducible exact B1.out) | (with_reducible refine Below.setCell ?_ (by first | (simp; done) | (simp; omega) | omega) _) | (with_reducible refine bplus ?_ _)))).mono ?_; rintro e w3 ⟨rfl, B3⟩; rw [E.out]; have k0 := (B3.cell (p := ⟨w1.heap.size, 0, none⟩) (by simp)).trans (show _ = some (.int .i64 0) by simp [go_sem]); have k1 := (B3.cell (p := ⟨w1.heap.size, 1, none⟩) (by simp)).trans (show _ = some (.int .i64 0) by simp [go_sem]); have y3 := B3.size; simp at y3; have m0' := (B3.cell (p := ⟨w.heap.size, 0, none⟩) (by simp; omega)).trans (show _ = some (.int .i64 0) by simp [go_sem, z1, zne, zne2, m0]); have m1' := (B3.cell (p := ⟨w.heap.size, 1, none⟩) (by simp; omega)).trans (show _ = some (.int .i64 0) by simp [go_sem, z1, zne, zne2, m1]); have f0' := (B3.frozen (p := ⟨w.heap.size, 0, none⟩) (by simp; omega)).trans (show _ = false by simp [go_sem, z1, zne, zne2, f0]); have f1' := (B3.frozen (p := ⟨w.heap.size, 1, none⟩) (by simp; omega)).trans (show _ = false by simp [go_sem, z1, zne, zne2, f1]); replace B3 := hide (show Below w.heap.size w w3 from bto (by repeat (first | (with_reducible exact B1.out) | (with_reducible refine Below.setCell ?_ (by first | (simp; done) | (simp; omega) | omega) _) | (with_reducible refine bplus ?_ _))) B3)))
    refine bodyPost_ret (v := .tuple #[.agg #[.int .i64 0, .int .i64 0], .int .i64 0]) (by simp [results, Tryd.results6, go_sem, m0', m1', k0, k1]) rfl ?_
    exact ⟨_, _, _, rfl, FIN.out, (by repeat (first | (with_reducible exact B3.out) | (with_reducible refine Below.setCell ?_ (by simp) _) | (with_reducible refine bplus ?_ _)))⟩
  · have CR := hide (read_any s (w.alloc (.cells #[.int .i64 0, .int .i64 0] 23)) hs hne he0)
    have PP := ps_pf s.data.toList hne
    cases hp : pf s.data.toList with
    | none =>
      rw [hp] at CR PP
      have FIN := hide PP
      unfold rfV at CR
      clear hp hne he0 PP
      go_enter Tryd.func6, Tryd.ntmps6
      go_wp2_with (go_at_call 12; refine CR.out.mono ?_; rintro e w1 ⟨rfl, B1⟩; have z1 : w.heap.size < w1.heap.size := (by have := B1.size; simp at this; omega); have m0 : w1.cell? ⟨w.heap.size, 0, none⟩ = some (.int .i64 0) := (by rw [B1.cell (p := ⟨w.heap.size, 0, none⟩) (by simp)]; simp [go_sem]); have m1 : w1.cell? ⟨w.heap.size, 1, none⟩ = some (.int .i64 0) := (by rw [B1.cell (p := ⟨w.heap.size, 1, none⟩) (by simp)]; simp [go_sem]); have f0 : w1.frozen? ⟨w.heap.size, 0, none⟩ = false := (by rw [B1.frozen (p := ⟨w.heap.size, 0, none⟩) (by simp)]; simp [go_sem]); have f1 : w1.frozen? ⟨w.heap.size, 1, none⟩ = false := (by rw [B1.frozen (p := ⟨w.heap.size, 1, none⟩) (by simp)]; simp [go_sem]); have zne := Nat.ne_of_lt z1; have zne2 := Nat.ne_of_gt z1; replace B1 := hide (show Below w.heap.size w w1 from bto (bplus (Below.refl _ _) _) B1))
      refine bodyPost_ret (v := .tuple #[.agg #[.int .i64 0, .int .i64 0], .int .i64 3]) (by simp [results, Tryd.results6, go_sem, m0, m1, z1, zne, zne2]) rfl ?_
      exact ⟨_, _, _, rfl, FIN.out, (by repeat (first | (with_reducible exact B1.out) | (with_reducible refine Below.setCell ?_ (by first | (simp; done) | (simp; omega) | omega) _) | (with_reducible refine bplus ?_ _)))⟩
    | some r =>
      obtain ⟨n, d⟩ := r
      obtain ⟨i1, i2⟩ := pf_I64 hp
      rw [hp] at CR PP
      unfold rfV at CR
      simp only at PP
      have CT := hide (fun (W : World) (h : Below w.heap.size w W) => textP_any n d W i1.1 i1.2 i2.1 i2.2 (HT.out W h))
      by_cases hq : isV n d = true ∧ s.data.toList = txV n d
      · rw [if_pos hq] at PP
        have FIN := hide (PP i1 i2)
        have E := hide (show txB n d = s from data_ext (by rw [txB_list, hq.2]; unfold tx; rw [if_pos hq.1]))
        clear PP hp hne he0 hq i1 i2
        go_enter Tryd.func6, Tryd.ntmps6
        go_wp2_with (first
          | (go_at_call 12; refine CR.out.mono ?_; rintro e w1 ⟨rfl, B1⟩; have z1 : w.heap.size < w1.heap.size := (by have := B1.size; simp at this; omega); have m0 : w1.cell? ⟨w.heap.size, 0, none⟩ = some (.int .i64 0) := (by rw [B1.cell (p := ⟨w.heap.size, 0, none⟩) (by simp)]; simp [go_sem]); have m1 : w1.cell? ⟨w.heap.size, 1, none⟩ = some (.int .i64 0) := (by rw [B1.cell (p := ⟨w.heap.size, 1, none⟩) (by simp)]; simp [go_sem]); have f0 : w1.frozen? ⟨w.heap.size, 0, none⟩ = false := (by rw [B1.frozen (p := ⟨w.heap.size, 0, none⟩) (by simp)]; simp [go_sem]); have f1 : w1.frozen? ⟨w.heap.size, 1, none⟩ = false := (by rw [B1.frozen (p := ⟨w.heap.size, 1, none⟩) (by simp)]; simp [go_sem]); have zne := Nat.ne_of_lt z1; have zne2 := Nat.ne_of_gt z1; replace B1 := hide (show Below w.heap.size w w1 from bto (bplus (Below.refl _ _) _) B1))
          | (go_at_call 4; refine (CT.out _ (by repeat (first | (with_reducible exact B1.out) | (with_reducible refine Below.setCell ?_ (by first | (simp; done) | (simp; omega) | omega) _) | (with_reducible refine bplus ?_ _)))).mono ?_; rintro e w3 ⟨rfl, B3⟩; rw [E.out]; have k0 := (B3.cell (p := ⟨w1.heap.size, 0, none⟩) (by simp)).trans (show _ = some (.int .i64 n) by simp [go_sem]); have k1 := (B3.cell (p := ⟨w1.heap.size, 1, none⟩) (by simp)).trans (show _ = some (.int .i64 d) by simp [go_sem]); have y3 := B3.size; simp at y3; have m0' := (B3.cell (p := ⟨w.heap.size, 0, none⟩) (by simp; omega)).trans (show _ = some (.int .i64 0) by simp [go_sem, z1, zne, zne2, m0]); have m1' := (B3.cell (p := ⟨w.heap.size, 1, none⟩) (by simp; omega)).trans (show _ = some (.int .i64 0) by simp [go_sem, z1, zne, zne2, m1]); have f0' := (B3.frozen (p := ⟨w.heap.size, 0, none⟩) (by simp; omega)).trans (show _ = false by simp [go_sem, z1, zne, zne2, f0]); have f1' := (B3.frozen (p := ⟨w.heap.size, 1, none⟩) (by simp; omega)).trans (show _ = false by simp [go_sem, z1, zne, zne2, f1]); replace B3 := hide (show Below w.heap.size w w3 from bto (by repeat (first | (with_reducible exact B1.out) | (with_reducible refine Below.setCell ?_ (by first | (simp; done) | (simp; omega) | omega) _) | (with_reducible refine bplus ?_ _))) B3)))
        refine bodyPost_ret (v := .tuple #[.agg #[.int .i64 n, .int .i64 d], .int .i64 0]) (by simp [results, Tryd.results6, go_sem, m0', m1', k0, k1]) rfl ?_
        exact ⟨_, _, _, rfl, FIN.out, (by repeat (first | (with_reducible exact B3.out) | (with_reducible refine Below.setCell ?_ (by simp) _) | (with_reducible refine bplus ?_ _)))⟩
      · rw [if_neg hq] at PP
        have FIN := hide PP
        have hdiff : (txB n d).data.toList ≠ s.data.toList := fun h => by
          rw [txB_list] at h
          unfold tx at h
          by_cases hv : isV n d = true
          · rw [if_pos hv] at h; exact hq ⟨hv, h.symm⟩
          · rw [if_neg hv] at h; exact hne h.symm
        obtain ⟨tt, htt⟩ : ∃ tt, txB n d = tt := ⟨_, rfl⟩
        rw [htt] at hdiff
        have E := hide htt
        have q2 : (tt.toList == s.toList) = false := by rw [beq_eq_false_iff_ne]; exact fun h => hdiff (by rwa [Lib.toList_data, Lib.toList_data] at h)
        have q3 : ¬ tt = s := fun h => hdiff (by rw [h])
        clear PP hp hne he0 hq i1 i2 htt hdiff
        go_enter Tryd.func6, Tryd.ntmps6
        go_wp2_with (first
          | (go_at_call 12; refine CR.out.mono ?_; rintro e w1 ⟨rfl, B1⟩; have z1 : w.heap.size < w1.heap.size := (by have := B1.size; simp at this; omega); have m0 : w1.cell? ⟨w.heap.size, 0, none⟩ = some (.int .i64 0) := (by rw [B1.cell (p := ⟨w.heap.size, 0, none⟩) (by simp)]; simp [go_sem]); have m1 : w1.cell? ⟨w.heap.size, 1, none⟩ = some (.int .i64 0) := (by rw [B1.cell (p := ⟨w.heap.size, 1, none⟩) (by simp)]; simp [go_sem]); have f0 : w1.frozen? ⟨w.heap.size, 0, none⟩ = false := (by rw [B1.frozen (p := ⟨w.heap.size, 0, none⟩) (by simp)]; simp [go_sem]); have f1 : w1.frozen? ⟨w.heap.size, 1, none⟩ = false := (by rw [B1.frozen (p := ⟨w.heap.size, 1, none⟩) (by simp)]; simp [go_sem]); have zne := Nat.ne_of_lt z1; have zne2 := Nat.ne_of_gt z1; replace B1 := hide (show Below w.heap.size w w1 from bto (bplus (Below.refl _ _) _) B1))
          | (go_at_call 4; refine (CT.out _ (by repeat (first | (with_reducible exact B1.out) | (with_reducible refine Below.setCell ?_ (by first | (simp; done) | (simp; omega) | omega) _) | (with_reducible refine bplus ?_ _)))).mono ?_; rintro e w3 ⟨rfl, B3⟩; rw [E.out]; have k0 := (B3.cell (p := ⟨w1.heap.size, 0, none⟩) (by simp)).trans (show _ = some (.int .i64 n) by simp [go_sem]); have k1 := (B3.cell (p := ⟨w1.heap.size, 1, none⟩) (by simp)).trans (show _ = some (.int .i64 d) by simp [go_sem]); have y3 := B3.size; simp at y3; have m0' := (B3.cell (p := ⟨w.heap.size, 0, none⟩) (by simp; omega)).trans (show _ = some (.int .i64 0) by simp [go_sem, z1, zne, zne2, m0]); have m1' := (B3.cell (p := ⟨w.heap.size, 1, none⟩) (by simp; omega)).trans (show _ = some (.int .i64 0) by simp [go_sem, z1, zne, zne2, m1]); have f0' := (B3.frozen (p := ⟨w.heap.size, 0, none⟩) (by simp; omega)).trans (show _ = false by simp [go_sem, z1, zne, zne2, f0]); have f1' := (B3.frozen (p := ⟨w.heap.size, 1, none⟩) (by simp; omega)).trans (show _ = false by simp [go_sem, z1, zne, zne2, f1]); replace B3 := hide (show Below w.heap.size w w3 from bto (by repeat (first | (with_reducible exact B1.out) | (with_reducible refine Below.setCell ?_ (by first | (simp; done) | (simp; omega) | omega) _) | (with_reducible refine bplus ?_ _))) B3)))
        refine bodyPost_ret (v := .tuple #[.agg #[.int .i64 0, .int .i64 0], .int .i64 3]) (by simp [results, Tryd.results6, go_sem, m0', m1', k0, k1]) rfl ?_
        exact ⟨_, _, _, rfl, FIN.out, (by repeat (first | (with_reducible exact B3.out) | (with_reducible refine Below.setCell ?_ (by simp) _) | (with_reducible refine bplus ?_ _)))⟩
end Go.Proofs.YtakkblmcmlkjmaaDoor
