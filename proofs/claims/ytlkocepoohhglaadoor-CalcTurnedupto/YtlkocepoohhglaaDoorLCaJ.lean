/-
  calc(1px + 2em), read: by the program.
-/
import Derived.Test.YtlkocepoohhglaaDoorLCaI
import Derived.Test.YtlkocepoohhglaaDoorA04
set_option linter.unusedVariables false
set_option linter.unusedSimpArgs false
namespace Go.Proofs.YtlkocepoohhglaaDoor.cc
open Go.RowKit

theorem low_of {w w1 w2 : World} {g : Nat} (h : Below w.heap.size w w1) (m : w1.grownBy w2 (some g)) (hg : w.heap.size ≤ g) : Below w.heap.size w w2 :=
  h.grown m h.size (fun k hk => by cases hk; exact hg)
theorem cell_low {w w1 : World} {b j : Nat} {v : Value} (h : w.cell? ⟨b, j, none⟩ = some v) (B : Below w.heap.size w w1) : w1.cell? ⟨b, j, none⟩ = some v :=
  (B.cell (p := ⟨b, j, none⟩) (World.block_lt_of_cell? _ _ h)).trans h
theorem cell_keep {w w1 : World} {b j g : Nat} {v : Value} (h : w.cell? ⟨b, j, none⟩ = some v) (hb : b ≠ g) (m : w.grownBy w1 (some g)) : w1.cell? ⟨b, j, none⟩ = some v := by
  have := m.block b (World.block_lt_of_cell? _ _ h) (by intro e; cases e; exact hb rfl)
  simp only [World.cell?, this] at h ⊢
  exact h
theorem gr_noneC {w w' : World} (h : w.grownBy w' none) : Below w.heap.size w w' := ⟨h.os, h.tape, h.output, h.size, fun k hk => h.block k hk (by simp)⟩
/-- The sum is told. -/
def Two (w : World) (e : Ending) (w' : World) : Prop := ∃ gp cp, e = .returned (.tuple #[.agg #[.int .i64 2, .int .i64 0, .int .i64 0, .int .i64 0, .slice (some ⟨gp, 0, none⟩) 2 cp], .bool true]) ∧ w'.cell? ⟨gp, 8, none⟩ = some (.int .i64 2) ∧ w.heap.size ≤ gp
set_option maxRecDepth 100000 in
set_option maxHeartbeats 4000000 in
theorem sum_two (W w : World) (g : Nat) (hC : Cu W w g [tD1, tSp, tPl, tSp, tD2]) (hU : Uni W) :
    Calls Tryd.prog 82 #[.pointer (some ⟨g, 0, none⟩)] w fun e w' => Two w e w' ∧ Cu W w' g [] ∧ w.grownBy w' (some g) := by
  have hg := hC.lt
  have gw := hC.wid
  have C1 := hide (fun (w1 : World) (hB : Bx w1 w.heap.size g) (h1 : Cu W w1 g [tD1, tSp, tPl, tSp, tD2]) => chainS_two W w1 w.heap.size g hB (by omega) h1 hU)
  have nR := (show (w.alloc (.cells #[.pointer (some ⟨g, 0, none⟩)] 72)).heap.size = w.heap.size + 1 by simp)
  have nS := (show ((w.alloc (.cells #[.pointer (some ⟨g, 0, none⟩)] 72)).alloc z5).heap.size = w.heap.size + 2 by simp)
  have PR := hide (heap_alloc_new (w.alloc (.cells #[.pointer (some ⟨g, 0, none⟩)] 72)) z5)
  rw [nR] at PR
  have HC := hide (hC.low (bplus (bplus (Below.refl _ _) (.cells #[.pointer (some ⟨g, 0, none⟩)] 72)) z5))
  have HM := hide (Mod.of g (bplus (bplus (Below.refl w.heap.size w) (.cells #[.pointer (some ⟨g, 0, none⟩)] 72)) z5))
  have HX := hide (show Bx _ w.heap.size g from more_blk (heap_alloc_new w (.cells #[.pointer (some ⟨g, 0, none⟩)] 72)) z5)
  have ng : w.heap.size + 1 ≠ g := by omega
  have NS := hide nS
  unfold z5 at PR HC HM HX NS
  clear hC hU nR nS
  go_enter Tryd.func82, Tryd.ntmps82
  go_wp2_with (go_at_call 89; refine (C1.out _ HX.out HC.out).mono ?_; rintro e w1 ⟨gp, cp, rfl, c8, hlo, hhi, D1, M1⟩; rw [NS.out] at hlo; replace PR := hide (keepM PR.out ng M1); replace HC := hide D1; replace HM := hide (Mod.trans HM.out M1); obtain ⟨r0, r1, r2, r3, r4⟩ := bxk_5c PR.out; have fz := fz_of PR.out; have K8 := hide c8; clear D1 M1 C1 c8)
  refine ret5 (v0 := .int .i64 2) (v1 := .int .i64 0) (v2 := .int .i64 0) (v3 := .int .i64 0) (v4 := .slice (some ⟨gp, 0, none⟩) 2 cp) (v := .bool true) Tryd.results82 rfl rfl PR.out rfl ⟨⟨gp, cp, rfl, ?_, by omega⟩, set5_cu HC.out ng (by omega) _ _ _ _ _, set5_mod HM.out (by omega) _ _ _ _ _⟩
  rw [set5_cell (by omega) hhi]
  exact K8.out
theorem sp_a : spL [tD1, tSp, tPl, tSp, tD2] = [tD1, tSp, tPl, tSp, tD2] := by rfl
set_option maxRecDepth 100000 in
set_option maxHeartbeats 8000000 in
theorem sums_two (w : World) (v : Value) (hv : VM w v [tD1, tSp, tPl, tSp, tD2]) (hU : Uni w) :
    Calls Tryd.prog 73 #[v] w fun e w' => ∃ kb kc gp cp, e = .returned (.tuple #[.slice (some ⟨kb, 0, none⟩) 1 kc, .bool true]) ∧ (w'.cell? ⟨kb, 0, none⟩ = some (.int .i64 2) ∧ w'.cell? ⟨kb, 1, none⟩ = some (.int .i64 0) ∧ w'.cell? ⟨kb, 2, none⟩ = some (.int .i64 0) ∧ w'.cell? ⟨kb, 3, none⟩ = some (.int .i64 0) ∧ w'.cell? ⟨kb, 4, none⟩ = some (.slice (some ⟨gp, 0, none⟩) 2 cp)) ∧ w'.cell? ⟨gp, 8, none⟩ = some (.int .i64 2) ∧ w.heap.size ≤ gp ∧ Below w.heap.size w w' := by
  obtain ⟨i0, hi, hz0, hz1, hz2⟩ := info_parts infoE5
  obtain ⟨a, c, rfl, hl9⟩ := hv.shape
  have HC := hide (show Cu w (w.alloc (.cells #[.slice a [tD1, tSp, tPl, tSp, tD2].length c] 74)) w.heap.size [tD1, tSp, tPl, tSp, tD2] from ⟨_, heap_alloc_new w _, hv, Nat.le_refl _, bplus (Below.refl _ _) _⟩)
  have HM := hide (Mod.refl (w.alloc (.cells #[.slice a [tD1, tSp, tPl, tSp, tD2].length c] 74)) w.heap.size)
  have HB := hide (bplus (Below.refl w.heap.size w) (.cells #[.slice a [tD1, tSp, tPl, tSp, tD2].length c] 74))
  have S1 := hide (fun (w1 : World) (h1 : Cu w w1 w.heap.size [tD1, tSp, tPl, tSp, tD2]) => spacesC_any w w1 w.heap.size _ h1)
  rw [sp_a] at S1
  have C1 := hide (fun (w1 : World) (h1 : Cu w w1 w.heap.size [tD1, tSp, tPl, tSp, tD2]) => sum_two w w1 w.heap.size h1 hU)
  have S2 := hide (fun (w1 : World) (h1 : Cu w w1 w.heap.size []) => spacesC_any w w1 w.heap.size _ h1)
  have D0 := hide (fun (w1 : World) (h1 : Cu w w1 w.heap.size []) => doneC_any w w1 w.heap.size _ h1)
  clear hv hU
  generalize [tD1, tSp, tPl, tSp, tD2].length = vn at *
  go_enter Tryd.func73, Tryd.ntmps73
  go_wp2
  refine wp_loop_rounds 1 ?_
  rw [rounds_succ]
  go_wp2_with (first
    | (go_at_call 43; refine (S1.out _ HC.out).mono ?_; rintro e w1 ⟨rfl, D1, M1⟩; replace HC := hide D1; replace HB := hide (low_of HB.out M1 (Nat.le_refl _)); clear D1 M1 S1)
    | (go_at_call 82; refine (C1.out _ HC.out).mono ?_; rintro e w2 ⟨⟨gp, cp, rfl, c8, hgp⟩, D1, M1⟩; have hgp2 := Nat.lt_of_lt_of_le HC.out.lt hgp; replace HC := hide D1; replace HB := hide (low_of HB.out M1 (Nat.le_refl _)); have K8 := hide c8; clear D1 M1 C1 c8)
    | (at_builtin; refine wpList_append_lies _ rfl _ _ 24 rfl (w.heap.size + 1) 26 i0 _ 5 56 Tryd.underlying24 hi hz0 hz1 hz2 rfl (by decide) (.slice none 0 0) 0 [] rfl (World.ownsRow_nil _ _ _ _) ⟨_, 0, none⟩ 1 1 [.int .i64 2, .int .i64 0, .int .i64 0, .int .i64 0, .slice (some ⟨gp, 0, none⟩) 2 cp] rfl rfl (new5 _ _ _ _ _ _ _ _ (by simp)) (by intro u hu; simp at hu; rcases hu with rfl | rfl | rfl | rfl | rfl <;> rfl) (by decide) (by decide) (by decide) (by have := HC.out.lt; simp; omega) _ rfl ?_; intro kb kc w3 hown hg3 _ hlt3; have B3 := bto (bplus (bplus (Below.refl w2.heap.size w2) _) _) (gr_noneC hg3); replace HC := hide (HC.out.low B3); replace HB := hide (bto HB.out B3); replace K8 := hide (cell_low K8.out B3); have OW := hide hown; clear hown hg3 B3)
    | (go_at_call 43; refine (S2.out _ HC.out).mono ?_; rintro e w4 ⟨rfl, D1, M1⟩; replace OW := hide (ownE_mod OW.out (by omega) M1); replace HC := hide D1; replace HB := hide (low_of HB.out M1 (Nat.le_refl _)); replace K8 := hide (cell_keep K8.out (by omega) M1); clear D1 M1 S2)
    | (go_at_call 45; refine (D0.out _ HC.out).mono ?_; rintro e w5 ⟨rfl, rfl⟩; clear D0))
  go_ret2
  have OC := fun (j : Nat) (x : Value) => OW.out.cells (g := kb) rfl j x
  refine ⟨kb, kc, gp, cp, rfl, ⟨?_, ?_, ?_, ?_, ?_⟩, K8.out, by omega, HB.out⟩
  · have := OC 0 (.int .i64 2) rfl
    rwa [Addr.add_lit, Nat.zero_add] at this
  · have := OC 1 (.int .i64 0) rfl
    rwa [Addr.add_lit, Nat.zero_add] at this
  · have := OC 2 (.int .i64 0) rfl
    rwa [Addr.add_lit, Nat.zero_add] at this
  · have := OC 3 (.int .i64 0) rfl
    rwa [Addr.add_lit, Nat.zero_add] at this
  · have := OC 4 (.slice (some ⟨gp, 0, none⟩) 2 cp) rfl
    rwa [Addr.add_lit, Nat.zero_add] at this
/-- The sum is told, and nothing below has changed. -/
def TwoB (w : World) (e : Ending) (w' : World) : Prop := Two w e w' ∧ Below w.heap.size w w'
set_option maxRecDepth 100000 in
set_option maxHeartbeats 4000000 in
theorem oneSum_two (w : World) (v : Value) (hv : VM w v [tD1, tSp, tPl, tSp, tD2]) (hU : Uni w) :
    Calls Tryd.prog 58 #[v] w (TwoB w) := by
  have PR := hide (heap_alloc_new w z5)
  have HB := hide (bplus (Below.refl w.heap.size w) z5)
  have C1 := hide (sums_two (w.alloc z5) v (hv.low HB.out) (hU.below HB.out))
  have nS := hide (show (w.alloc z5).heap.size = w.heap.size + 1 by simp)
  obtain ⟨a, c, rfl, hl9⟩ := hv.shape
  clear hv hU
  unfold z5 at PR HB C1 nS
  generalize [tD1, tSp, tPl, tSp, tD2].length = vn at *
  go_enter Tryd.func58, Tryd.ntmps58
  go_wp2_with (go_at_call 73; refine C1.out.mono ?_; rintro e w1 ⟨kb, kc, gp, cp, rfl, ⟨k0, k1, k2, k3, k4⟩, c8, hgp, B1⟩; rw [nS.out] at hgp; replace PR := hide (far_blk PR.out B1); replace HB := hide (bto HB.out B1); obtain ⟨r0, r1, r2, r3, r4⟩ := bxk_5c PR.out; have fz := fz_of PR.out; have K8 := hide c8; clear B1 C1 c8)
  refine ret5 (v0 := .int .i64 2) (v1 := .int .i64 0) (v2 := .int .i64 0) (v3 := .int .i64 0) (v4 := .slice (some ⟨gp, 0, none⟩) 2 cp) (v := .bool true) Tryd.results58 rfl rfl PR.out rfl ⟨⟨gp, cp, rfl, ?_, by omega⟩, set5_low HB.out (Nat.le_refl _) _ _ _ _ _⟩
  rw [set5_cell (k := gp) (by omega) (World.block_lt_of_cell? _ _ K8.out)]
  exact K8.out
theorem like_calc : likeB ⟨#[99, 97, 108, 99]⟩ ⟨#[99, 97, 108, 99]⟩ = true := by decide
set_option maxRecDepth 100000 in
set_option maxHeartbeats 4000000 in
theorem function_two (w : World) (v : Value) (hv : VM w v [tD1, tSp, tPl, tSp, tD2]) (hU : Uni w) :
    Calls Tryd.prog 53 #[.string ⟨#[99, 97, 108, 99]⟩, v] w (TwoB w) := by
  have PR := hide (heap_alloc_new w z5)
  have HB := hide (bplus (Below.refl w.heap.size w) z5)
  have C0 := hide (fun (W : World) => alike_any ⟨#[99, 97, 108, 99]⟩ ⟨#[99, 97, 108, 99]⟩ W (by decide))
  rw [like_calc] at C0
  have C1 := hide (fun (w1 : World) (B : Below w.heap.size w w1) => oneSum_two w1 v (hv.low B) (hU.below B))
  have nS := hide (show (w.alloc z5).heap.size = w.heap.size + 1 by simp)
  obtain ⟨a, c, rfl, hl9⟩ := hv.shape
  clear hv hU
  unfold z5 at PR HB nS
  generalize [tD1, tSp, tPl, tSp, tD2].length = vn at *
  go_enter Tryd.func53, Tryd.ntmps53
  go_wp2_with (first
    | (go_at_call 18; refine (C0.out _).mono ?_; rintro e w1 ⟨rfl, q, hw1⟩; have B1 := below_of_drew hw1; have s1 := B1.size; rw [nS.out] at s1; replace PR := hide (far_blk PR.out B1); replace HB := hide (bto HB.out B1); clear B1 hw1 C0)
    | (go_at_call 58; refine (C1.out _ HB.out).mono ?_; rintro e w2 ⟨⟨gp, cp, rfl, c8, hgp⟩, B1⟩; replace PR := hide (far_blk PR.out B1); replace HB := hide (bto HB.out B1); obtain ⟨r0, r1, r2, r3, r4⟩ := bxk_5c PR.out; have fz := fz_of PR.out; have K8 := hide c8; clear B1 C1 c8))
  refine ret5 (v0 := .int .i64 2) (v1 := .int .i64 0) (v2 := .int .i64 0) (v3 := .int .i64 0) (v4 := .slice (some ⟨gp, 0, none⟩) 2 cp) (v := .bool true) Tryd.results53 rfl rfl PR.out rfl ⟨⟨gp, cp, rfl, ?_, by omega⟩, set5_low HB.out (Nat.le_refl _) _ _ _ _ _⟩
  rw [set5_cell (k := gp) (by omega) (World.block_lt_of_cell? _ _ K8.out)]
  exact K8.out
set_option maxRecDepth 100000 in
set_option maxHeartbeats 4000000 in
theorem expr_two (w : World) (n d : Int) (i h : Bool) (a : Option Addr) (m c : Nat) (hv : VM w (.slice a m c) [tD1, tSp, tPl, tSp, tD2]) (hU : Uni w) :
    Calls Tryd.prog 46 #[.agg #[.int .i64 2, .string ⟨#[99, 97, 108, 99]⟩, .int .i64 n, .int .i64 d, .bool i, .bool h, .slice a m c]] w (TwoB w) := by
  have nR := (show (w.alloc (.cells #[.int .i64 2, .string ⟨#[99, 97, 108, 99]⟩, .int .i64 n, .int .i64 d, .bool i, .bool h, .slice a m c] 68)).heap.size = w.heap.size + 1 by simp)
  have nS := hide (show ((w.alloc (.cells #[.int .i64 2, .string ⟨#[99, 97, 108, 99]⟩, .int .i64 n, .int .i64 d, .bool i, .bool h, .slice a m c] 68)).alloc z5).heap.size = w.heap.size + 2 by simp)
  have PR := hide (heap_alloc_new (w.alloc (.cells #[.int .i64 2, .string ⟨#[99, 97, 108, 99]⟩, .int .i64 n, .int .i64 d, .bool i, .bool h, .slice a m c] 68)) z5)
  rw [nR] at PR
  have HB := hide (bplus (bplus (Below.refl w.heap.size w) (.cells #[.int .i64 2, .string ⟨#[99, 97, 108, 99]⟩, .int .i64 n, .int .i64 d, .bool i, .bool h, .slice a m c] 68)) z5)
  have C1 := hide (function_two _ (.slice a m c) (hv.low HB.out) (hU.below HB.out))
  clear hv hU nR
  unfold z5 at PR HB nS C1
  go_enter Tryd.func46, Tryd.ntmps46
  go_wp2_with (go_at_call 53; refine C1.out.mono ?_; rintro e w2 ⟨⟨gp, cp, rfl, c8, hgp⟩, B1⟩; rw [nS.out] at hgp; replace PR := hide (far_blk PR.out B1); replace HB := hide (bto HB.out B1); obtain ⟨r0, r1, r2, r3, r4⟩ := bxk_5c PR.out; have fz := fz_of PR.out; have K8 := hide c8; clear B1 C1 c8)
  refine ret5 (v0 := .int .i64 2) (v1 := .int .i64 0) (v2 := .int .i64 0) (v3 := .int .i64 0) (v4 := .slice (some ⟨gp, 0, none⟩) 2 cp) (v := .bool true) Tryd.results46 rfl rfl PR.out rfl ⟨⟨gp, cp, rfl, ?_, by omega⟩, set5_low HB.out (by omega) _ _ _ _ _⟩
  rw [set5_cell (k := gp) (by omega) (World.block_lt_of_cell? _ _ K8.out)]
  exact K8.out
end Go.Proofs.YtlkocepoohhglaaDoor.cc
