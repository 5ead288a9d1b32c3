/-
  A sum of two, read: by the program.
-/
import Derived.Test.YtlkocepoohhglaaDoorLCaH
import Derived.Deep.AppendLies
set_option linter.unusedVariables false
set_option linter.unusedSimpArgs false
namespace Go.Proofs.YtlkocepoohhglaaDoor.cc
open Go.RowKit

def tD1 : VT := .mk ⟨12, ⟨#[112, 120]⟩, 1, 1, true, false⟩ []
def tSp : VT := .mk ⟨13, ⟨#[]⟩, 0, 0, false, false⟩ []
def tPl : VT := .mk ⟨9, ⟨#[43]⟩, 0, 0, false, false⟩ []
def tD2 : VT := .mk ⟨12, ⟨#[101, 109]⟩, 2, 1, true, false⟩ []
theorem op_a : opB ⟨#[42]⟩ ⟨#[47]⟩ false [tSp, tPl, tSp, tD2] = (false, false, [tSp, tPl, tSp, tD2]) := by rfl
theorem op_b : opB ⟨#[43]⟩ ⟨#[45]⟩ true [tSp, tPl, tSp, tD2] = (false, true, [tD2]) := by rfl
theorem op_c : opB ⟨#[42]⟩ ⟨#[47]⟩ false [] = (false, false, []) := by rfl
theorem op_d : opB ⟨#[43]⟩ ⟨#[45]⟩ true [] = (false, false, []) := by rfl
theorem un_px : (unB ⟨#[112, 120]⟩ : Int) = 1 := by decide
theorem un_em : (unB ⟨#[101, 109]⟩ : Int) = 2 := by decide
theorem infoE5 : (Tryd.prog.info? 26).map (fun i => (i.zero, i.size, i.bytes)) = some (some (.agg #[.int .i64 0, .int .i64 0, .int .i64 0, .int .i64 0, .slice none 0 0]), 5, 56) := by kernel_rfl
theorem new5 (w : World) (g : Nat) (u0 u1 u2 u3 u4 : Value) (t : TypeId) (hg : g = w.heap.size) : ∀ j x, [u0, u1, u2, u3, u4][j]? = some x → (w.alloc (.cells #[u0, u1, u2, u3, u4] t)).cell? ((⟨g, 0, none⟩ : Addr).add j) = some x := fun j x hx => by
  subst hg
  match j, hx with
  | 0, hx => simp at hx; subst hx; simp [Addr.add]
  | 1, hx => simp at hx; subst hx; simp [Addr.add]
  | 2, hx => simp at hx; subst hx; simp [Addr.add]
  | 3, hx => simp at hx; subst hx; simp [Addr.add]
  | 4, hx => simp at hx; subst hx; simp [Addr.add]
theorem ownE_mod {w w1 : World} {base g : Nat} {v : Value} {n : Nat} {xs : List Value} (h : w.ownsRow base 26 5 v n xs) (hg : g < base) (m : w.grownBy w1 (some g)) : w1.ownsRow base 26 5 v n xs :=
  h.kept m (.inr (fun e => by have := (h.lt g e).1; omega))
theorem ownE_low {w w1 : World} {base : Nat} {v : Value} {n : Nat} {xs : List Value} (h : w.ownsRow base 26 5 v n xs) (b : Below w.heap.size w w1) : w1.ownsRow base 26 5 v n xs :=
  h.kept (Mod.of w.heap.size b) (by cases hv : v.ownBlock with | none => exact .inl rfl | some k => exact .inr (fun e => by have := (h.lt k hv).2; cases e; omega))
theorem ownE_one {w : World} {b base : Nat} {u0 u1 u2 u3 u4 : Value} (h : w.heap[b]? = some (.cells #[u0, u1, u2, u3, u4] 26)) (hb : base ≤ b) : w.ownsRow base 26 5 (.slice (some ⟨b, 0, none⟩) 1 1) 1 [u0, u1, u2, u3, u4] :=
  ⟨rfl, .inr ⟨b, 1, _, rfl, hb, h, Nat.le_refl _, by decide, rfl, rfl⟩⟩
theorem cu_grown {W w w1 : World} {g kb : Nat} {l : List VT} (h : Cu W w g l) (m : w.grownBy w1 (some kb)) (hk : kb ≠ g) (hW : W.heap.size ≤ kb) : Cu W w1 g l := by
  obtain ⟨v, c1, c2, c3, c4⟩ := h
  exact ⟨v, keepM c1 (Ne.symm hk) m, c2, c3, c4.grown m c4.size (fun k e => by cases e; exact hW)⟩
theorem mod_grown {w0 w w1 : World} {g kb : Nat} (h : w0.grownBy w (some g)) (m : w.grownBy w1 (some kb)) (hk : w0.heap.size ≤ kb) : w0.grownBy w1 (some g) :=
  ⟨m.os.trans h.os, m.tape.trans h.tape, m.output.trans h.output, Nat.le_trans h.size m.size, fun k hk' hne => (m.block k (Nat.lt_of_lt_of_le hk' h.size) (by intro e; cases e; omega)).trans (h.block k hk' hne)⟩
theorem app_two {W w0 w w8 : World} {q g kb R : Nat} {l : List VT} {o p ob : Obj} (PR : w.heap[R]? = some ob) (HX : Bx w q g) (HC : Cu W w g l) (HM : w0.grownBy w (some g)) (hg : ((w.alloc o).alloc p).grownBy w8 (some kb)) (h1 : w0.heap.size ≤ kb) (h2 : R ≠ kb) (h3 : W.heap.size ≤ kb ∧ kb ≠ g) (h4 : q < w0.heap.size) :
    w8.heap[R]? = some ob ∧ Bx w8 q g ∧ Cu W w8 g l ∧ w0.grownBy w8 (some g) :=
  ⟨keepM (more_blk (more_blk PR o) p) h2 hg, keepM (more_blk (more_blk HX o) p) (by omega) hg, cu_grown (HC.low (bplus (bplus (Below.refl _ _) o) p)) hg h3.2 h3.1, mod_grown (Mod.trans HM (Mod.of g (bplus (bplus (Below.refl _ _) o) p))) hg h1⟩
theorem set5_cell {w : World} {b k j : Nat} {v0 v1 v2 v3 v4 : Value} (hk : k ≠ b) (hl : k < w.heap.size) : (set5 w b v0 v1 v2 v3 v4).cell? ⟨k, j, none⟩ = w.cell? ⟨k, j, none⟩ := by
  have := set5_far (w := w) hk v0 v1 v2 v3 v4 hl
  simp only [World.cell?, this]
set_option maxRecDepth 100000 in
set_option maxHeartbeats 8000000 in
theorem chainS_two (W w : World) (q g : Nat) (hB : Bx w q g) (hqg : q ≠ g) (hC : Cu W w g [tD1, tSp, tPl, tSp, tD2]) (hU : Uni W) :
    Calls Tryd.prog 89 #[.int .i64 2, .int .i64 3, .func (.func 90) #[] #[.pointer (some ⟨q, 0, none⟩)], .func (.func 92) #[] #[.pointer (some ⟨q, 0, none⟩)]] w fun e w' => ∃ gp cp, e = .returned (.tuple #[.agg #[.int .i64 2, .int .i64 0, .int .i64 0, .int .i64 0, .slice (some ⟨gp, 0, none⟩) 2 cp], .bool true]) ∧ w'.cell? ⟨gp, 8, none⟩ = some (.int .i64 2) ∧ w.heap.size ≤ gp ∧ gp < w'.heap.size ∧ Cu W w' g [] ∧ w.grownBy w' (some g) := by
  obtain ⟨i0, hi, hz0, hz1, hz2⟩ := info_parts infoE5
  have hg := hC.lt
  have gw := hC.wid
  have hq : q < w.heap.size := (Array.getElem?_eq_some_iff.1 hB).1
  have C1 := hide (fun (w1 : World) (hB : Bx w1 q g) (h1 : Cu W w1 g [tD1, tSp, tPl, tSp, tD2]) => sumF_one W w1 q g 1 ⟨#[112, 120]⟩ 1 1 true false [] [tSp, tPl, tSp, tD2] hB h1 op_a (by decide) hU un_px (by decide) (by decide) (by decide) (by decide) (by decide) (by decide))
  have C2 := hide (fun (w1 : World) (hB : Bx w1 q g) (h1 : Cu W w1 g [tSp, tPl, tSp, tD2]) => sumF_op W w1 q g _ hB h1)
  rw [op_b] at C2
  have C3 := hide (fun (w1 : World) (hB : Bx w1 q g) (h1 : Cu W w1 g [tD2]) => sumF_one W w1 q g 2 ⟨#[101, 109]⟩ 2 1 true false [] [] hB h1 op_c (by decide) hU un_em (by decide) (by decide) (by decide) (by decide) (by decide) (by decide))
  have C4 := hide (fun (w1 : World) (hB : Bx w1 q g) (h1 : Cu W w1 g []) => sumF_op W w1 q g _ hB h1)
  rw [op_d] at C4
  simp only at C2 C4
  have PR := hide (heap_alloc_new w z5)
  have HC := hide (hC.low (bplus (Below.refl _ _) z5))
  have HM := hide (Mod.of g (bplus (Below.refl w.heap.size w) z5))
  have HX := hide (hB.low (bplus (Below.refl w.heap.size w) z5))
  have ng : w.heap.size ≠ g := by omega
  unfold z5 at PR HC HM HX
  clear hC hU hB
  go_enter Tryd.func89, Tryd.ntmps89
  go_wp2_with (first
    | (go_at_call 90; refine (C1.out _ HX.out HC.out).mono ?_; rintro e w1 ⟨rfl, D1, M1⟩; replace PR := hide (keepM PR.out ng M1); replace HX := hide (HX.out.mod hqg M1); have sz1 := Nat.le_trans (show w.heap.size + 1 ≤ (w.alloc (.cells #[.int .i64 0, .int .i64 0, .int .i64 0, .int .i64 0, .slice none 0 0] 26)).heap.size by simp) M1.size; replace HC := hide D1; replace HM := hide (Mod.trans HM.out M1); clear D1 M1 C1)
    | (go_at_call 92; refine (C2.out _ (HX.out.low (bplus (bplus (Below.refl _ _) _) _)) (HC.out.low (bplus (bplus (Below.refl _ _) _) _))).mono ?_; rintro e w2 ⟨rfl, D2, M2⟩; replace PR := hide (keepM (more_blk (more_blk PR.out _) _) ng M2); replace HX := hide ((HX.out.low (bplus (bplus (Below.refl _ _) _) _)).mod hqg M2); have OW := hide (ownE_mod (ownE_one (base := w.heap.size + 1) (heap_alloc_new (w1.alloc (.cells #[.int .i64 1, .int .i64 1, .int .i64 1, .int .i64 1, .slice none 0 0] 26)) (.cells #[.int .i64 1, .int .i64 1, .int .i64 1, .int .i64 1, .slice none 0 0] 26)) (by simp; omega)) (by omega) M2); replace HC := hide D2; replace HM := hide (Mod.trans (Mod.trans HM.out (Mod.of g (bplus (bplus (Below.refl _ _) _) _))) M2); clear D2 M2 C2))
  have hkb : (w1.alloc (.cells #[.int .i64 1, .int .i64 1, .int .i64 1, .int .i64 1, .slice none 0 0] 26)).heap.size = w1.heap.size + 1 := by simp
  rw [hkb] at OW
  refine wp_loop_rounds 2 ?_
  rw [rounds_succ]
  go_wp2_with (first
    | (go_at_call 90; refine (C3.out _ HX.out HC.out).mono ?_; rintro e w3 ⟨rfl, D1, M1⟩; replace PR := hide (keepM PR.out ng M1); replace HX := hide (HX.out.mod hqg M1); replace OW := hide (ownE_mod OW.out (by omega) M1); replace HC := hide D1; replace HM := hide (Mod.trans HM.out M1); clear D1 M1 C3)
    | (at_builtin; refine wpList_append_lies _ rfl _ _ 24 rfl (w.heap.size + 1) 26 i0 _ 5 56 Tryd.underlying24 hi hz0 hz1 hz2 rfl (by decide) (.slice (some ⟨w1.heap.size + 1, 0, none⟩) 1 1) 1 [.int .i64 1, .int .i64 1, .int .i64 1, .int .i64 1, .slice none 0 0] rfl ((ownE_low OW.out (bplus (Below.refl _ _) _)).alloc _) ⟨_, 0, none⟩ 1 1 [.int .i64 1, .int .i64 2, .int .i64 1, .int .i64 2, .slice none 0 0] rfl rfl (new5 _ _ _ _ _ _ _ _ (by simp)) (by intro u hu; simp at hu; rcases hu with rfl | rfl | rfl | rfl | rfl <;> rfl) (by decide) (by decide) (by decide) (by have := HM.out.size; have := (OW.out.lt (w1.heap.size + 1) rfl).2; simp; omega) _ rfl ?_; intro gp cpp w5 hown hg5 _ hlt5; obtain ⟨PR5, HX5, HC5, HM5⟩ := app_two (kb := w1.heap.size + 1) PR.out HX.out HC.out HM.out hg5 (by omega) (by omega) (by omega) hq; replace PR := hide PR5; replace HX := hide HX5; replace HC := hide HC5; replace HM := hide HM5; replace OW := hide hown; clear hg5 hown PR5 HX5 HC5 HM5)
    | (go_at_call 92; refine (C4.out _ HX.out HC.out).mono ?_; rintro e w6 ⟨rfl, D2, M2⟩; replace PR := hide (keepM PR.out ng M2); replace OW := hide (ownE_mod OW.out (by omega) M2); replace HC := hide D2; replace HM := hide (Mod.trans HM.out M2); obtain ⟨r0, r1, r2, r3, r4⟩ := bxk_5c PR.out; have fz := fz_of PR.out; clear D2 M2 C4))
  rw [rounds_succ]
  go_wp2
  have OC := OW.out.cells (g := gp) rfl 8 (.int .i64 2) rfl
  rw [Addr.add_lit, Nat.zero_add] at OC
  obtain ⟨OL0, OL⟩ := OW.out.lt gp rfl
  refine ret5 (v0 := .int .i64 2) (v1 := .int .i64 0) (v2 := .int .i64 0) (v3 := .int .i64 0) (v4 := .slice (some ⟨gp, 0, none⟩) 2 cpp) (v := .bool true) Tryd.results89 rfl rfl PR.out rfl ⟨gp, cpp, rfl, ?_, by omega, Nat.lt_of_lt_of_le OL (set5_grown _ _ _ _ _ _ _).size, set5_cu HC.out ng gw _ _ _ _ _, set5_mod HM.out (Nat.le_refl _) _ _ _ _ _⟩
  rw [set5_cell (by omega) OL]
  exact OC
end Go.Proofs.YtlkocepoohhglaaDoor.cc
