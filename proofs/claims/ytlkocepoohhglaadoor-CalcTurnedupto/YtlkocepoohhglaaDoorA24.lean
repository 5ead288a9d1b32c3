/-
  The reference's next token.
-/
import Derived.Test.YtlkocepoohhglaaDoorA22
import Derived.Test.YtlkocepoohhglaaDoorA23
set_option linter.unusedVariables false
set_option linter.unusedSimpArgs false
namespace Go.Proofs.YtlkocepoohhglaaDoor
open Go.RowKit

/-- The reference's table of kinds, laid. -/
structure Kinds (w : World) : Prop where
  lt : 1 < w.heap.size
  k0 : w.cell? ⟨1, 0, none⟩ = some (.int .i64 21)
  k1 : w.cell? ⟨1, 1, none⟩ = some (.int .i64 22)
  k2 : w.cell? ⟨1, 2, none⟩ = some (.int .i64 19)
  k3 : w.cell? ⟨1, 3, none⟩ = some (.int .i64 20)
  k4 : w.cell? ⟨1, 4, none⟩ = some (.int .i64 23)
  k5 : w.cell? ⟨1, 5, none⟩ = some (.int .i64 24)
  k6 : w.cell? ⟨1, 6, none⟩ = some (.int .i64 18)
  k7 : w.cell? ⟨1, 7, none⟩ = some (.int .i64 16)
  k8 : w.cell? ⟨1, 8, none⟩ = some (.int .i64 17)
theorem sing0 : wrap32 (((⟨#[40, 41, 91, 93, 123, 125, 44, 58, 59]⟩ : ByteArray)[0]).toNat : Int) = 40 := by kernel_rfl
theorem sing1 : wrap32 (((⟨#[40, 41, 91, 93, 123, 125, 44, 58, 59]⟩ : ByteArray)[1]).toNat : Int) = 41 := by kernel_rfl
theorem sing2 : wrap32 (((⟨#[40, 41, 91, 93, 123, 125, 44, 58, 59]⟩ : ByteArray)[2]).toNat : Int) = 91 := by kernel_rfl
theorem sing3 : wrap32 (((⟨#[40, 41, 91, 93, 123, 125, 44, 58, 59]⟩ : ByteArray)[3]).toNat : Int) = 93 := by kernel_rfl
theorem sing4 : wrap32 (((⟨#[40, 41, 91, 93, 123, 125, 44, 58, 59]⟩ : ByteArray)[4]).toNat : Int) = 123 := by kernel_rfl
theorem sing5 : wrap32 (((⟨#[40, 41, 91, 93, 123, 125, 44, 58, 59]⟩ : ByteArray)[5]).toNat : Int) = 125 := by kernel_rfl
theorem sing6 : wrap32 (((⟨#[40, 41, 91, 93, 123, 125, 44, 58, 59]⟩ : ByteArray)[6]).toNat : Int) = 44 := by kernel_rfl
theorem sing7 : wrap32 (((⟨#[40, 41, 91, 93, 123, 125, 44, 58, 59]⟩ : ByteArray)[7]).toNat : Int) = 58 := by kernel_rfl
theorem sing8 : wrap32 (((⟨#[40, 41, 91, 93, 123, 125, 44, 58, 59]⟩ : ByteArray)[8]).toNat : Int) = 59 := by kernel_rfl
theorem Nums.litq2 {w : World} {n : Nat} (h : w.heap.size = n) (x : Int) (t : TypeId) : Nums .i32 (w.alloc (.cells #[.int .i32 x] t)) (.slice (some ⟨n, 0, none⟩) 1 1) [x] := by
  subst h; exact Nums.lit w t [x] 1 rfl (by omega) (by omega)
theorem tok_br {s : List Int} {k : Int} (h : brk (nx s 0) = k) (hk : k ≠ 9) : tokn s = (tk k, s.drop 1) := by
  rw [tokn_next]; unfold nextR; rw [h, if_pos hk]
def RelNx (x : Int) (i : Value) : Prop := ∃ k : Nat, k ≤ 9 ∧ i = .int .i64 k ∧ Hid (∀ j, j < k → x ≠ [40, 41, 91, 93, 123, 125, 44, 58, 59].getD j 0)
theorem RelNx.mk {x : Int} (k : Nat) {i : Value} (h1 : k ≤ 9) (h2 : i = .int .i64 k) (h3 : ∀ j, j < k → x ≠ [40, 41, 91, 93, 123, 125, 44, 58, 59].getD j 0) : RelNx x i := ⟨k, h1, h2, h3⟩
theorem nx_step {x : Int} {k : Nat} (h : ∀ j, j < k → x ≠ [40, 41, 91, 93, 123, 125, 44, 58, 59].getD j 0) (hk : x ≠ [40, 41, 91, 93, 123, 125, 44, 58, 59].getD k 0) : ∀ j, j < k + 1 → x ≠ [40, 41, 91, 93, 123, 125, 44, 58, 59].getD j 0 := fun j hj => by
  by_cases e : j < k
  · exact h j e
  · obtain rfl : j = k := by omega
    exact hk
theorem nx_none {x : Int} (h : ∀ j, j < 9 → x ≠ [40, 41, 91, 93, 123, 125, 44, 58, 59].getD j 0) : ¬ brk x ≠ 9 := by
  have a0 := h 0 (by decide); have a1 := h 1 (by decide); have a2 := h 2 (by decide); have a3 := h 3 (by decide); have a4 := h 4 (by decide); have a5 := h 5 (by decide); have a6 := h 6 (by decide); have a7 := h 7 (by decide); have a8 := h 8 (by decide)
  simp at a0 a1 a2 a3 a4 a5 a6 a7 a8
  rw [brk_iff]; omega
set_option maxRecDepth 100000 in
set_option maxHeartbeats 8000000 in
theorem nextR_any (T : TypeId) (W w : World) (b : Nat) (v : Value) (l s : List Int) (hL : l.length ≤ 250000000) (hK : Kinds W) (h0 : nx s 0 ≠ -1) (h : At T W w b v l s) :
    Calls Tryd.prog 56 #[.pointer (some ⟨b, 0, none⟩)] w fun e w' => Tells e (tokn s).1 ∧ AtR T W w' b v l (tokn s).2 ∧ w.grownBy w' (some b) := by
  have hb0 := h.lt
  have nb1 : ¬ w.heap.size = b := by omega
  have nb2 : ¬ b = w.heap.size := by omega
  have hbw : b < (w.alloc tok0).heap.size := by simp; omega
  have A1 := hide (h.below (bplus (Below.refl _ _) tok0))
  have M0 := hide (Mod.of b (bplus (Below.refl w.heap.size w) tok0))
  have Z := hide (tok0_alloc w)
  have L0 := hide hL
  have L9 := hide (show l.length ≤ 35184372088832 by omega)
  have HN := hide h0
  have L1 := nx_pos h0
  have hWb : 1 < b := by obtain ⟨_, k1, _⟩ := h.ex; have := k1.ge; have := hK.lt; omega
  have hWn : ¬ 1 = b := by omega
  have hWn2 : ¬ b = 1 := by omega
  have KH := hide hK
  clear h hL h0 hK
  obtain ⟨w0, hw0⟩ : ∃ w0, w.alloc tok0 = w0 := ⟨_, rfl⟩
  rw [hw0] at hbw A1 M0 Z
  have hw0' : w.alloc (.cells #[.int .i64 0, .string ⟨#[]⟩, .int .i64 0, .int .i64 0, .bool false, .bool false] 66) = w0 := hw0
  have HZ := hide hw0'
  clear hw0
  have M := hide (Mod.refl w0 b)
  obtain ⟨p, ST, hpl, hlb⟩ := A1.out.stand
  have hp9 : p ≤ 140737488355328 := by omega
  replace ST := hide ST
  clear A1
  obtain ⟨x0, hx0⟩ : ∃ x, nx s 0 = x := ⟨_, rfl⟩
  have H0 := hide (show nx s (Int.toNat 0) = x0 from hx0)
  obtain ⟨x1, hx1⟩ : ∃ x, nx s 1 = x := ⟨_, rfl⟩
  have H1 := hide (show nx s (Int.toNat 1) = x1 from hx1)
  obtain ⟨x2, hx2⟩ : ∃ x, nx s 2 = x := ⟨_, rfl⟩
  have H2 := hide (show nx s (Int.toNat 2) = x2 from hx2)
  obtain ⟨x3, hx3⟩ : ∃ x, nx s 3 = x := ⟨_, rfl⟩
  have H3 := hide (show nx s (Int.toNat 3) = x3 from hx3)
  go_enter Tryd.func56, Tryd.ntmps56
  go_wp2_with (first
    | (go_at_call 55; refine (standAt_any T W _ b v l s p _ ST.out (by decide) (by decide)).mono ?_; rintro e w1 ⟨he, B1⟩; (first | (rw [H0.out] at he) | (rw [H1.out] at he) | (rw [H2.out] at he) | (rw [H3.out] at he)); subst he; replace ST := hide (ST.out.below B1); replace M := hide (Mod.trans M.out (Mod.of b B1)); (try clear c1 f1); have c1 := ST.out.c1; have f1 := ST.out.f1; (try clear f0 f2 f3 f4 f5 c0 c2 c3 c4 c5 g1 d1); obtain ⟨f0, g1, f2, f3, f4, f5, c0, d1, c2, c3, c4, c5⟩ := tok0_free (keep Z.out (Nat.ne_of_gt hb0) M.out); clear B1))
  clear hw0'
  go_loopw [14] (fun i wr => RelNx x0 i ∧ wr = w1) (fun i _ => 9 - (intOf i).toNat)
  case atStart => exact ⟨.mk 0 (by omega) rfl (fun j hj => absurd hj (by omega)), rfl⟩
  case round =>
    obtain ⟨⟨k, hk, rfl, R⟩, rfl⟩ := hrel
    by_cases hlt : k < 9
    · rcases (show k = 0 ∨ k = 1 ∨ k = 2 ∨ k = 3 ∨ k = 4 ∨ k = 5 ∨ k = 6 ∨ k = 7 ∨ k = 8 by omega) with rfl | rfl | rfl | rfl | rfl | rfl | rfl | rfl | rfl
      · rw [show (((0 : Nat)) : Int) = (0 : Int) from rfl]
        have sk := sing0
        by_cases hx : x0 = 40
        · subst hx
          have E := hide (tok_br (s := s) (k := 21) (by rw [hx0]; decide) (by decide))
          have kk := (ST.out.rd.bel.cell (p := ⟨1, 0, none⟩) KH.out.lt).trans KH.out.k0
          clear hx0 hx1 hx2 hx3
          go_wp2
          have FA := (ST.out.inc 1 ((p : Int) + 1) (by omega) (by omega)).atR (by omega)
          have MM := Mod.trans M0.out (Mod.trans M.out (ST.out.mod ((p : Int) + 1)))
          refine bodyPost_ret (v := tkV 21 ⟨#[]⟩ 0 0 false false) (by simp [results, Tryd.results56, go_sem, tkV, c0, d1, c2, c3, c4, c5]) rfl ?_
          exact ⟨.tk (congrArg Prod.fst E.out), by rw [E.out]; repeat (first | (with_reducible exact FA) | (with_reducible refine AtR.put ?_ hb0 _ _)), by repeat (first | (with_reducible exact MM) | (with_reducible refine Mod.put ?_ (Nat.le_refl _) _ _))⟩
        · have R' := hide (nx_step R.out (show x0 ≠ [40, 41, 91, 93, 123, 125, 44, 58, 59].getD 0 0 from hx))
          have e1 : (x0 == 40) = false := by simpa using hx
          have e2 : ((40 : Int) == x0) = false := by simp; exact fun e => hx e.symm
          have e3 : ¬ (40 : Int) = x0 := fun e => hx e.symm
          go_wp2
          exact ⟨⟨.mk 1 (by omega) rfl R'.out, trivial⟩, by simp [intOf]⟩
      · rw [show (((1 : Nat)) : Int) = (1 : Int) from rfl]
        have sk := sing1
        by_cases hx : x0 = 41
        · subst hx
          have E := hide (tok_br (s := s) (k := 22) (by rw [hx0]; decide) (by decide))
          have kk := (ST.out.rd.bel.cell (p := ⟨1, 1, none⟩) KH.out.lt).trans KH.out.k1
          clear hx0 hx1 hx2 hx3
          go_wp2
          have FA := (ST.out.inc 1 ((p : Int) + 1) (by omega) (by omega)).atR (by omega)
          have MM := Mod.trans M0.out (Mod.trans M.out (ST.out.mod ((p : Int) + 1)))
          refine bodyPost_ret (v := tkV 22 ⟨#[]⟩ 0 0 false false) (by simp [results, Tryd.results56, go_sem, tkV, c0, d1, c2, c3, c4, c5]) rfl ?_
          exact ⟨.tk (congrArg Prod.fst E.out), by rw [E.out]; repeat (first | (with_reducible exact FA) | (with_reducible refine AtR.put ?_ hb0 _ _)), by repeat (first | (with_reducible exact MM) | (with_reducible refine Mod.put ?_ (Nat.le_refl _) _ _))⟩
        · have R' := hide (nx_step R.out (show x0 ≠ [40, 41, 91, 93, 123, 125, 44, 58, 59].getD 1 0 from hx))
          have e1 : (x0 == 41) = false := by simpa using hx
          have e2 : ((41 : Int) == x0) = false := by simp; exact fun e => hx e.symm
          have e3 : ¬ (41 : Int) = x0 := fun e => hx e.symm
          go_wp2
          exact ⟨⟨.mk 2 (by omega) rfl R'.out, trivial⟩, by simp [intOf]⟩
      · rw [show (((2 : Nat)) : Int) = (2 : Int) from rfl]
        have sk := sing2
        by_cases hx : x0 = 91
        · subst hx
          have E := hide (tok_br (s := s) (k := 19) (by rw [hx0]; decide) (by decide))
          have kk := (ST.out.rd.bel.cell (p := ⟨1, 2, none⟩) KH.out.lt).trans KH.out.k2
          clear hx0 hx1 hx2 hx3
          go_wp2
          have FA := (ST.out.inc 1 ((p : Int) + 1) (by omega) (by omega)).atR (by omega)
          have MM := Mod.trans M0.out (Mod.trans M.out (ST.out.mod ((p : Int) + 1)))
          refine bodyPost_ret (v := tkV 19 ⟨#[]⟩ 0 0 false false) (by simp [results, Tryd.results56, go_sem, tkV, c0, d1, c2, c3, c4, c5]) rfl ?_
          exact ⟨.tk (congrArg Prod.fst E.out), by rw [E.out]; repeat (first | (with_reducible exact FA) | (with_reducible refine AtR.put ?_ hb0 _ _)), by repeat (first | (with_reducible exact MM) | (with_reducible refine Mod.put ?_ (Nat.le_refl _) _ _))⟩
        · have R' := hide (nx_step R.out (show x0 ≠ [40, 41, 91, 93, 123, 125, 44, 58, 59].getD 2 0 from hx))
          have e1 : (x0 == 91) = false := by simpa using hx
          have e2 : ((91 : Int) == x0) = false := by simp; exact fun e => hx e.symm
          have e3 : ¬ (91 : Int) = x0 := fun e => hx e.symm
          go_wp2
          exact ⟨⟨.mk 3 (by omega) rfl R'.out, trivial⟩, by simp [intOf]⟩
      · rw [show (((3 : Nat)) : Int) = (3 : Int) from rfl]
        have sk := sing3
        by_cases hx : x0 = 93
        · subst hx
          have E := hide (tok_br (s := s) (k := 20) (by rw [hx0]; decide) (by decide))
          have kk := (ST.out.rd.bel.cell (p := ⟨1, 3, none⟩) KH.out.lt).trans KH.out.k3
          clear hx0 hx1 hx2 hx3
          go_wp2
          have FA := (ST.out.inc 1 ((p : Int) + 1) (by omega) (by omega)).atR (by omega)
          have MM := Mod.trans M0.out (Mod.trans M.out (ST.out.mod ((p : Int) + 1)))
          refine bodyPost_ret (v := tkV 20 ⟨#[]⟩ 0 0 false false) (by simp [results, Tryd.results56, go_sem, tkV, c0, d1, c2, c3, c4, c5]) rfl ?_
          exact ⟨.tk (congrArg Prod.fst E.out), by rw [E.out]; repeat (first | (with_reducible exact FA) | (with_reducible refine AtR.put ?_ hb0 _ _)), by repeat (first | (with_reducible exact MM) | (with_reducible refine Mod.put ?_ (Nat.le_refl _) _ _))⟩
        · have R' := hide (nx_step R.out (show x0 ≠ [40, 41, 91, 93, 123, 125, 44, 58, 59].getD 3 0 from hx))
          have e1 : (x0 == 93) = false := by simpa using hx
          have e2 : ((93 : Int) == x0) = false := by simp; exact fun e => hx e.symm
          have e3 : ¬ (93 : Int) = x0 := fun e => hx e.symm
          go_wp2
          exact ⟨⟨.mk 4 (by omega) rfl R'.out, trivial⟩, by simp [intOf]⟩
      · rw [show (((4 : Nat)) : Int) = (4 : Int) from rfl]
        have sk := sing4
        by_cases hx : x0 = 123
        · subst hx
          have E := hide (tok_br (s := s) (k := 23) (by rw [hx0]; decide) (by decide))
          have kk := (ST.out.rd.bel.cell (p := ⟨1, 4, none⟩) KH.out.lt).trans KH.out.k4
          clear hx0 hx1 hx2 hx3
          go_wp2
          have FA := (ST.out.inc 1 ((p : Int) + 1) (by omega) (by omega)).atR (by omega)
          have MM := Mod.trans M0.out (Mod.trans M.out (ST.out.mod ((p : Int) + 1)))
          refine bodyPost_ret (v := tkV 23 ⟨#[]⟩ 0 0 false false) (by simp [results, Tryd.results56, go_sem, tkV, c0, d1, c2, c3, c4, c5]) rfl ?_
          exact ⟨.tk (congrArg Prod.fst E.out), by rw [E.out]; repeat (first | (with_reducible exact FA) | (with_reducible refine AtR.put ?_ hb0 _ _)), by repeat (first | (with_reducible exact MM) | (with_reducible refine Mod.put ?_ (Nat.le_refl _) _ _))⟩
        · have R' := hide (nx_step R.out (show x0 ≠ [40, 41, 91, 93, 123, 125, 44, 58, 59].getD 4 0 from hx))
          have e1 : (x0 == 123) = false := by simpa using hx
          have e2 : ((123 : Int) == x0) = false := by simp; exact fun e => hx e.symm
          have e3 : ¬ (123 : Int) = x0 := fun e => hx e.symm
          go_wp2
          exact ⟨⟨.mk 5 (by omega) rfl R'.out, trivial⟩, by simp [intOf]⟩
      · rw [show (((5 : Nat)) : Int) = (5 : Int) from rfl]
        have sk := sing5
        by_cases hx : x0 = 125
        · subst hx
          have E := hide (tok_br (s := s) (k := 24) (by rw [hx0]; decide) (by decide))
          have kk := (ST.out.rd.bel.cell (p := ⟨1, 5, none⟩) KH.out.lt).trans KH.out.k5
          clear hx0 hx1 hx2 hx3
          go_wp2
          have FA := (ST.out.inc 1 ((p : Int) + 1) (by omega) (by omega)).atR (by omega)
          have MM := Mod.trans M0.out (Mod.trans M.out (ST.out.mod ((p : Int) + 1)))
          refine bodyPost_ret (v := tkV 24 ⟨#[]⟩ 0 0 false false) (by simp [results, Tryd.results56, go_sem, tkV, c0, d1, c2, c3, c4, c5]) rfl ?_
          exact ⟨.tk (congrArg Prod.fst E.out), by rw [E.out]; repeat (first | (with_reducible exact FA) | (with_reducible refine AtR.put ?_ hb0 _ _)), by repeat (first | (with_reducible exact MM) | (with_reducible refine Mod.put ?_ (Nat.le_refl _) _ _))⟩
        · have R' := hide (nx_step R.out (show x0 ≠ [40, 41, 91, 93, 123, 125, 44, 58, 59].getD 5 0 from hx))
          have e1 : (x0 == 125) = false := by simpa using hx
          have e2 : ((125 : Int) == x0) = false := by simp; exact fun e => hx e.symm
          have e3 : ¬ (125 : Int) = x0 := fun e => hx e.symm
          go_wp2
          exact ⟨⟨.mk 6 (by omega) rfl R'.out, trivial⟩, by simp [intOf]⟩
      · rw [show (((6 : Nat)) : Int) = (6 : Int) from rfl]
        have sk := sing6
        by_cases hx : x0 = 44
        · subst hx
          have E := hide (tok_br (s := s) (k := 18) (by rw [hx0]; decide) (by decide))
          have kk := (ST.out.rd.bel.cell (p := ⟨1, 6, none⟩) KH.out.lt).trans KH.out.k6
          clear hx0 hx1 hx2 hx3
          go_wp2
          have FA := (ST.out.inc 1 ((p : Int) + 1) (by omega) (by omega)).atR (by omega)
          have MM := Mod.trans M0.out (Mod.trans M.out (ST.out.mod ((p : Int) + 1)))
          refine bodyPost_ret (v := tkV 18 ⟨#[]⟩ 0 0 false false) (by simp [results, Tryd.results56, go_sem, tkV, c0, d1, c2, c3, c4, c5]) rfl ?_
          exact ⟨.tk (congrArg Prod.fst E.out), by rw [E.out]; repeat (first | (with_reducible exact FA) | (with_reducible refine AtR.put ?_ hb0 _ _)), by repeat (first | (with_reducible exact MM) | (with_reducible refine Mod.put ?_ (Nat.le_refl _) _ _))⟩
        · have R' := hide (nx_step R.out (show x0 ≠ [40, 41, 91, 93, 123, 125, 44, 58, 59].getD 6 0 from hx))
          have e1 : (x0 == 44) = false := by simpa using hx
          have e2 : ((44 : Int) == x0) = false := by simp; exact fun e => hx e.symm
          have e3 : ¬ (44 : Int) = x0 := fun e => hx e.symm
          go_wp2
          exact ⟨⟨.mk 7 (by omega) rfl R'.out, trivial⟩, by simp [intOf]⟩
      · rw [show (((7 : Nat)) : Int) = (7 : Int) from rfl]
        have sk := sing7
        by_cases hx : x0 = 58
        · subst hx
          have E := hide (tok_br (s := s) (k := 16) (by rw [hx0]; decide) (by decide))
          have kk := (ST.out.rd.bel.cell (p := ⟨1, 7, none⟩) KH.out.lt).trans KH.out.k7
          clear hx0 hx1 hx2 hx3
          go_wp2
          have FA := (ST.out.inc 1 ((p : Int) + 1) (by omega) (by omega)).atR (by omega)
          have MM := Mod.trans M0.out (Mod.trans M.out (ST.out.mod ((p : Int) + 1)))
          refine bodyPost_ret (v := tkV 16 ⟨#[]⟩ 0 0 false false) (by simp [results, Tryd.results56, go_sem, tkV, c0, d1, c2, c3, c4, c5]) rfl ?_
          exact ⟨.tk (congrArg Prod.fst E.out), by rw [E.out]; repeat (first | (with_reducible exact FA) | (with_reducible refine AtR.put ?_ hb0 _ _)), by repeat (first | (with_reducible exact MM) | (with_reducible refine Mod.put ?_ (Nat.le_refl _) _ _))⟩
        · have R' := hide (nx_step R.out (show x0 ≠ [40, 41, 91, 93, 123, 125, 44, 58, 59].getD 7 0 from hx))
          have e1 : (x0 == 58) = false := by simpa using hx
          have e2 : ((58 : Int) == x0) = false := by simp; exact fun e => hx e.symm
          have e3 : ¬ (58 : Int) = x0 := fun e => hx e.symm
          go_wp2
          exact ⟨⟨.mk 8 (by omega) rfl R'.out, trivial⟩, by simp [intOf]⟩
      · rw [show (((8 : Nat)) : Int) = (8 : Int) from rfl]
        have sk := sing8
        by_cases hx : x0 = 59
        · subst hx
          have E := hide (tok_br (s := s) (k := 17) (by rw [hx0]; decide) (by decide))
          have kk := (ST.out.rd.bel.cell (p := ⟨1, 8, none⟩) KH.out.lt).trans KH.out.k8
          clear hx0 hx1 hx2 hx3
          go_wp2
          have FA := (ST.out.inc 1 ((p : Int) + 1) (by omega) (by omega)).atR (by omega)
          have MM := Mod.trans M0.out (Mod.trans M.out (ST.out.mod ((p : Int) + 1)))
          refine bodyPost_ret (v := tkV 17 ⟨#[]⟩ 0 0 false false) (by simp [results, Tryd.results56, go_sem, tkV, c0, d1, c2, c3, c4, c5]) rfl ?_
          exact ⟨.tk (congrArg Prod.fst E.out), by rw [E.out]; repeat (first | (with_reducible exact FA) | (with_reducible refine AtR.put ?_ hb0 _ _)), by repeat (first | (with_reducible exact MM) | (with_reducible refine Mod.put ?_ (Nat.le_refl _) _ _))⟩
        · have R' := hide (nx_step R.out (show x0 ≠ [40, 41, 91, 93, 123, 125, 44, 58, 59].getD 8 0 from hx))
          have e1 : (x0 == 59) = false := by simpa using hx
          have e2 : ((59 : Int) == x0) = false := by simp; exact fun e => hx e.symm
          have e3 : ¬ (59 : Int) = x0 := fun e => hx e.symm
          go_wp2
          exact ⟨⟨.mk 9 (by omega) rfl R'.out, trivial⟩, by simp [intOf]⟩
    · obtain rfl : k = 9 := by omega
      have hnb := nx_none R.out
      have T0 : tokn s = nextR s := tokn_next s
      unfold nextR at T0
      rw [hx0, hx1, hx2, hx3, if_neg hnb] at T0
      clear R hlt hk hnb
      obtain ⟨t1, ht1⟩ : ∃ z, s.drop 1 = z := ⟨_, rfl⟩
      have T1 := hide ht1
      have lt1 : t1.length = s.length - 1 := by rw [← ht1, List.length_drop]
      have HY := hide (show nx t1 (Int.toNat 2) = x3 by rw [← ht1]; show nx (s.drop 1) 2 = x3; rw [nx_drop]; exact hx3)
      obtain ⟨yb, hyb⟩ : ∃ y, isBl x0 = y := ⟨_, rfl⟩
      have YB := hide hyb
      rw [hyb] at T0
      cases yb
      rotate_left
      · rw [if_pos rfl] at T0
        have E := hide T0
        clear T0 hx0 hx1 hx2 hx3 hyb ht1
        go_wp2_with (first
          | (go_at_call 61; refine (isBlR_any _ _).mono ?_; rintro e w2 ⟨rfl, rfl⟩; rw [YB.out])
          | (go_at_call 62; refine (blanksR_any T W _ b v l s (ST.out.at (by omega))).mono ?_; rintro e w6 ⟨rfl, A2, M2⟩; have A1 := hide A2; replace M := hide (Mod.trans M.out M2); clear A2 M2 c1 f1; (try clear f0 f2 f3 f4 f5 c0 c2 c3 c4 c5 g1 d1); obtain ⟨f0, g1, f2, f3, f4, f5, c0, d1, c2, c3, c4, c5⟩ := tok0_free (keep Z.out (Nat.ne_of_gt hb0) M.out)))
        have FA := A1.out.r
        have MM := Mod.trans M0.out M.out
        refine bodyPost_ret (v := tkV 13 ⟨#[]⟩ 0 0 false false) (by simp [results, Tryd.results56, go_sem, tkV, c0, d1, c2, c3, c4, c5]) rfl ?_
        exact ⟨.tk (congrArg Prod.fst E.out), by rw [E.out]; repeat (first | (with_reducible exact FA) | (with_reducible refine AtR.put ?_ hb0 _ _)), by repeat (first | (with_reducible exact MM) | (with_reducible refine Mod.put ?_ (Nat.le_refl _) _ _))⟩
      rw [if_neg (by simp)] at T0
      by_cases a34 : x0 = 34 ∨ x0 = 39
      · have Q0 := hide a34
        rw [if_pos ((isQ_iff _).2 a34), ht1] at T0
        clear hyb ht1
        rcases a34 with rfl | rfl
        all_goals
          generalize hq : str _ [] t1 = sr at T0
          obtain ⟨⟨k, tx, nu, de, wh, id⟩, r2⟩ := sr
          have UU := hide hq
          have E := hide T0
          clear T0 hq hx0 hx1 hx2 hx3
          go_wp2_with (first
            | (go_at_call 61; refine (isBlR_any _ _).mono ?_; rintro e w2 ⟨rfl, rfl⟩; rw [YB.out])
            | (go_at_call 63; refine (textR1_any T W _ b v l t1 _ (by first | exact .inl rfl | exact .inr rfl) L9.out (by have := ST.out.inc 1 ((p : Int) + 1) (by omega) (by omega); rw [T1.out] at this; exact this.at (by omega))).mono ?_; rintro e w8 ⟨⟨z8, he, hz8⟩, A2, M2⟩; rw [UU.out] at he hz8 A2; replace he : e = .returned (.agg #[.int .i64 k, .string z8, .int .i64 nu, .int .i64 de, .bool wh, .bool id]) := he; subst he; replace hz8 := hide hz8; have A3 := hide A2; replace M := hide (Mod.trans (Mod.trans M.out (ST.out.mod ((p : Int) + 1))) M2); clear A2 M2 c1 f1; (try clear f0 f2 f3 f4 f5 c0 c2 c3 c4 c5 g1 d1); obtain ⟨f0, g1, f2, f3, f4, f5, c0, d1, c2, c3, c4, c5⟩ := tok0_free (keep Z.out (Nat.ne_of_gt hb0) M.out)))
          have FA := A3.out
          have MM := Mod.trans M0.out M.out
          refine bodyPost_ret (v := tkV k z8 nu de wh id) (by simp [results, Tryd.results56, go_sem, tkV, c0, d1, c2, c3, c4, c5]) rfl ?_
          exact ⟨by rw [E.out]; exact ⟨z8, rfl, hz8.out⟩, by rw [E.out]; repeat (first | (with_reducible exact FA) | (with_reducible refine AtR.put ?_ hb0 _ _)), by repeat (first | (with_reducible exact MM) | (with_reducible refine Mod.put ?_ (Nat.le_refl _) _ _))⟩
      have n34 : (x0 == 34) = false := by simp; omega
      have n39 : (x0 == 39) = false := by simp; omega
      rw [if_neg (fun k => a34 ((isQ_iff _).1 k))] at T0
      by_cases a35 : x0 = 35
      · subst a35
        obtain ⟨yl, hyl⟩ : ∃ y, isLet x1 = y := ⟨_, rfl⟩
        have YL := hide hyl
        obtain ⟨ye, hye⟩ : ∃ y, es2 x1 x2 = y := ⟨_, rfl⟩
        have YE := hide hye
        rw [hyl, hye] at T0
        cases yl
        · cases ye
          · have YN := hide (show nuB 35 x1 x2 = false by simp [nuB, isSg, isDig])
            rw [if_neg (by simp), YN.out, if_neg (by simp), if_neg (by simp), if_neg (by simp), if_neg (by simp)] at T0
            clear hyb hyl hye
            by_cases m1 : x1 = -1
            · subst m1
              have YM := hide (show nmB 35 (-1) x2 = false by simp [nmB, isFst, es2])
              rw [YM.out, if_neg (by simp), ht1] at T0
              clear ht1
              have E := hide T0
              clear T0 hx0 hx1 hx2 hx3
              go_wp2_with (first
                | (go_at_call 61; refine (isBlR_any _ _).mono ?_; rintro e w2 ⟨rfl, rfl⟩; rw [YB.out])
                | (go_at_call 64; refine (isLetR_any _ _).mono ?_; rintro e w2 ⟨rfl, rfl⟩; rw [YL.out])
                | (go_at_call 65; refine (escR_any _ _ _).mono ?_; rintro e w2 ⟨rfl, rfl⟩; rw [YE.out])
                | (go_at_call 68; refine (numR_any _ _ _ _).mono ?_; rintro e w2 ⟨rfl, rfl⟩; rw [YN.out])
                | (go_at_call 66; refine (begR_any _ _ _ _).mono ?_; rintro e w2 ⟨rfl, rfl⟩; (first | (rw [YM.out]) | (rw [YM3.out])))
                | (go_at_call 55; refine (standAt_any T W _ b v l s p _ ST.out (by decide) (by decide)).mono ?_; rintro e w1 ⟨he, B1⟩; (first | (rw [H0.out] at he) | (rw [H1.out] at he) | (rw [H2.out] at he) | (rw [H3.out] at he)); subst he; replace ST := hide (ST.out.below B1); replace M := hide (Mod.trans M.out (Mod.of b B1)); (try clear c1 f1); have c1 := ST.out.c1; have f1 := ST.out.f1; (try clear f0 f2 f3 f4 f5 c0 c2 c3 c4 c5 g1 d1); obtain ⟨f0, g1, f2, f3, f4, f5, c0, d1, c2, c3, c4, c5⟩ := tok0_free (keep Z.out (Nat.ne_of_gt hb0) M.out); clear B1)
                | (go_at_call 71; refine (textR_any _ _ _ (Nums.litq2 (by simp) _ _) (by simp)).mono ?_; rintro e w13 ⟨z, rfl, hz, B3⟩; replace hz := hide hz; have B1 := bto (bplus (Below.refl _ _) _) B3; replace M := hide (Mod.trans (Mod.trans M.out (ST.out.mod ((p : Int) + 1))) (Mod.of b B1)); have S2 := ST.out.inc 1 ((p : Int) + 1) (by omega) (by omega); rw [T1.out] at S2; replace ST := hide (S2.below B1); clear B1 B3 S2 c1 f1; (try clear f0 f2 f3 f4 f5 c0 c2 c3 c4 c5 g1 d1); obtain ⟨f0, g1, f2, f3, f4, f5, c0, d1, c2, c3, c4, c5⟩ := tok0_free (keep Z.out (Nat.ne_of_gt hb0) M.out)))
              have FA := ST.out.atR (by omega)
              have MM := Mod.trans M0.out M.out
              refine bodyPost_ret (v := tkV 9 z 0 0 false false) (by simp [results, Tryd.results56, go_sem, tkV, c0, d1, c2, c3, c4, c5]) rfl ?_
              exact ⟨.tkt (congrArg Prod.fst E.out) hz.out, by rw [E.out]; repeat (first | (with_reducible exact FA) | (with_reducible refine AtR.put ?_ hb0 _ _)), by repeat (first | (with_reducible exact MM) | (with_reducible refine Mod.put ?_ (Nat.le_refl _) _ _))⟩
            · have m2 : (x1 != -1) = true := by simpa using m1
              have YM := hide (show nmB 35 x1 x2 = false by simp [nmB, isFst, es2])
              rw [YM.out, if_neg (by simp), ht1] at T0
              clear ht1
              have E := hide T0
              clear T0 hx0 hx1 hx2 hx3
              go_wp2_with (first
                | (go_at_call 61; refine (isBlR_any _ _).mono ?_; rintro e w2 ⟨rfl, rfl⟩; rw [YB.out])
                | (go_at_call 64; refine (isLetR_any _ _).mono ?_; rintro e w2 ⟨rfl, rfl⟩; rw [YL.out])
                | (go_at_call 65; refine (escR_any _ _ _).mono ?_; rintro e w2 ⟨rfl, rfl⟩; rw [YE.out])
                | (go_at_call 68; refine (numR_any _ _ _ _).mono ?_; rintro e w2 ⟨rfl, rfl⟩; rw [YN.out])
                | (go_at_call 66; refine (begR_any _ _ _ _).mono ?_; rintro e w2 ⟨rfl, rfl⟩; (first | (rw [YM.out]) | (rw [YM3.out])))
                | (go_at_call 55; refine (standAt_any T W _ b v l s p _ ST.out (by decide) (by decide)).mono ?_; rintro e w1 ⟨he, B1⟩; (first | (rw [H0.out] at he) | (rw [H1.out] at he) | (rw [H2.out] at he) | (rw [H3.out] at he)); subst he; replace ST := hide (ST.out.below B1); replace M := hide (Mod.trans M.out (Mod.of b B1)); (try clear c1 f1); have c1 := ST.out.c1; have f1 := ST.out.f1; (try clear f0 f2 f3 f4 f5 c0 c2 c3 c4 c5 g1 d1); obtain ⟨f0, g1, f2, f3, f4, f5, c0, d1, c2, c3, c4, c5⟩ := tok0_free (keep Z.out (Nat.ne_of_gt hb0) M.out); clear B1)
                | (go_at_call 71; refine (textR_any _ _ _ (Nums.litq2 (by simp) _ _) (by simp)).mono ?_; rintro e w13 ⟨z, rfl, hz, B3⟩; replace hz := hide hz; have B1 := bto (bplus (Below.refl _ _) _) B3; replace M := hide (Mod.trans (Mod.trans M.out (ST.out.mod ((p : Int) + 1))) (Mod.of b B1)); have S2 := ST.out.inc 1 ((p : Int) + 1) (by omega) (by omega); rw [T1.out] at S2; replace ST := hide (S2.below B1); clear B1 B3 S2 c1 f1; (try clear f0 f2 f3 f4 f5 c0 c2 c3 c4 c5 g1 d1); obtain ⟨f0, g1, f2, f3, f4, f5, c0, d1, c2, c3, c4, c5⟩ := tok0_free (keep Z.out (Nat.ne_of_gt hb0) M.out)))
              have FA := ST.out.atR (by omega)
              have MM := Mod.trans M0.out M.out
              refine bodyPost_ret (v := tkV 9 z 0 0 false false) (by simp [results, Tryd.results56, go_sem, tkV, c0, d1, c2, c3, c4, c5]) rfl ?_
              exact ⟨.tkt (congrArg Prod.fst E.out) hz.out, by rw [E.out]; repeat (first | (with_reducible exact FA) | (with_reducible refine AtR.put ?_ hb0 _ _)), by repeat (first | (with_reducible exact MM) | (with_reducible refine Mod.put ?_ (Nat.le_refl _) _ _))⟩
          · obtain rfl : x1 = 92 := by unfold es2 at hye; simp at hye; exact hye.1
            rw [if_pos ⟨rfl, by simp⟩] at T0
            clear hyl hye
            obtain ⟨⟨nm, rr⟩, hnm⟩ : ∃ z, nam [] t1 = z := ⟨_, rfl⟩
            obtain ⟨y3, hy3⟩ : ∃ y, nmB 92 x2 x3 = y := ⟨_, rfl⟩
            have NN := hide hnm
            have YM3 := hide hy3
            have E := hide (T0.trans (show hash s = (⟨4, enc nm, 0, 0, false, y3⟩, rr) by unfold hash; rw [hx1, hx2, hx3, ht1, hnm, hy3]))
            clear T0 hx0 hx1 hx2 hx3 ht1 hnm hy3 hyb
            go_wp2_with (first
              | (go_at_call 61; refine (isBlR_any _ _).mono ?_; rintro e w2 ⟨rfl, rfl⟩; rw [YB.out])
              | (go_at_call 64; refine (isLetR_any _ _).mono ?_; rintro e w2 ⟨rfl, rfl⟩; rw [YL.out])
              | (go_at_call 65; refine (escR_any _ _ _).mono ?_; rintro e w2 ⟨rfl, rfl⟩; rw [YE.out])
              | (go_at_call 55; refine (standAt_any T W _ b v l t1 (p + 1) _ (by have := ST.out.inc 1 ((p : Int) + 1) (by omega) (by omega); rw [T1.out] at this; exact this) (by decide) (by decide)).mono ?_; rintro e w1 ⟨he, B1⟩; rw [HY.out] at he; subst he; have ST2 := ST.out.inc 1 ((p : Int) + 1) (by omega) (by omega); rw [T1.out] at ST2; replace M := hide (Mod.trans (Mod.trans M.out (ST.out.mod ((p : Int) + 1))) (Mod.of b B1)); replace ST := hide (ST2.below B1); clear ST2 B1 c1 f1; (try clear f0 f2 f3 f4 f5 c0 c2 c3 c4 c5 g1 d1); obtain ⟨f0, g1, f2, f3, f4, f5, c0, d1, c2, c3, c4, c5⟩ := tok0_free (keep Z.out (Nat.ne_of_gt hb0) M.out))
              | (go_at_call 66; refine (begR_any _ _ _ _).mono ?_; rintro e w2 ⟨rfl, rfl⟩; (first | (rw [YM.out]) | (rw [YM3.out])))
              | (go_at_call 67; refine (nameR_any T W _ b v l t1 L9.out (ST.out.at (by omega))).mono ?_; rintro e w12 ⟨t', rfl, ht', A2, M2⟩; rw [NN.out] at ht' A2; replace ht' := hide ht'; have A1 := hide A2; replace M := hide (Mod.trans M.out M2); clear A2 M2 ; (try clear f0 f2 f3 f4 f5 c0 c2 c3 c4 c5 g1 d1); obtain ⟨f0, g1, f2, f3, f4, f5, c0, d1, c2, c3, c4, c5⟩ := tok0_free (keep Z.out (Nat.ne_of_gt hb0) M.out)))
            have FA := A1.out.r
            have MM := Mod.trans M0.out M.out
            refine bodyPost_ret (v := tkV 4 t' 0 0 false y3) (by simp [results, Tryd.results56, go_sem, tkV, c0, d1, c2, c3, c4, c5]) rfl ?_
            exact ⟨by rw [E.out]; exact ⟨t', rfl, ht'.out⟩, by rw [E.out]; repeat (first | (with_reducible exact FA) | (with_reducible refine AtR.put ?_ hb0 _ _)), by repeat (first | (with_reducible exact MM) | (with_reducible refine Mod.put ?_ (Nat.le_refl _) _ _))⟩
        · have m1 : x1 ≠ -1 := by intro e; rw [e] at hyl; exact absurd hyl (by decide)
          have m2 : (x1 != -1) = true := by simpa using m1
          rw [if_pos ⟨rfl, by simp⟩] at T0
          clear hyl hye
          obtain ⟨⟨nm, rr⟩, hnm⟩ : ∃ z, nam [] t1 = z := ⟨_, rfl⟩
          obtain ⟨y3, hy3⟩ : ∃ y, nmB x1 x2 x3 = y := ⟨_, rfl⟩
          have NN := hide hnm
          have YM3 := hide hy3
          have E := hide (T0.trans (show hash s = (⟨4, enc nm, 0, 0, false, y3⟩, rr) by unfold hash; rw [hx1, hx2, hx3, ht1, hnm, hy3]))
          clear T0 hx0 hx1 hx2 hx3 ht1 hnm hy3 hyb
          go_wp2_with (first
            | (go_at_call 61; refine (isBlR_any _ _).mono ?_; rintro e w2 ⟨rfl, rfl⟩; rw [YB.out])
            | (go_at_call 64; refine (isLetR_any _ _).mono ?_; rintro e w2 ⟨rfl, rfl⟩; rw [YL.out])
            | (go_at_call 65; refine (escR_any _ _ _).mono ?_; rintro e w2 ⟨rfl, rfl⟩; rw [YE.out])
            | (go_at_call 55; refine (standAt_any T W _ b v l t1 (p + 1) _ (by have := ST.out.inc 1 ((p : Int) + 1) (by omega) (by omega); rw [T1.out] at this; exact this) (by decide) (by decide)).mono ?_; rintro e w1 ⟨he, B1⟩; rw [HY.out] at he; subst he; have ST2 := ST.out.inc 1 ((p : Int) + 1) (by omega) (by omega); rw [T1.out] at ST2; replace M := hide (Mod.trans (Mod.trans M.out (ST.out.mod ((p : Int) + 1))) (Mod.of b B1)); replace ST := hide (ST2.below B1); clear ST2 B1 c1 f1; (try clear f0 f2 f3 f4 f5 c0 c2 c3 c4 c5 g1 d1); obtain ⟨f0, g1, f2, f3, f4, f5, c0, d1, c2, c3, c4, c5⟩ := tok0_free (keep Z.out (Nat.ne_of_gt hb0) M.out))
            | (go_at_call 66; refine (begR_any _ _ _ _).mono ?_; rintro e w2 ⟨rfl, rfl⟩; (first | (rw [YM.out]) | (rw [YM3.out])))
            | (go_at_call 67; refine (nameR_any T W _ b v l t1 L9.out (ST.out.at (by omega))).mono ?_; rintro e w12 ⟨t', rfl, ht', A2, M2⟩; rw [NN.out] at ht' A2; replace ht' := hide ht'; have A1 := hide A2; replace M := hide (Mod.trans M.out M2); clear A2 M2 ; (try clear f0 f2 f3 f4 f5 c0 c2 c3 c4 c5 g1 d1); obtain ⟨f0, g1, f2, f3, f4, f5, c0, d1, c2, c3, c4, c5⟩ := tok0_free (keep Z.out (Nat.ne_of_gt hb0) M.out)))
          have FA := A1.out.r
          have MM := Mod.trans M0.out M.out
          refine bodyPost_ret (v := tkV 4 t' 0 0 false y3) (by simp [results, Tryd.results56, go_sem, tkV, c0, d1, c2, c3, c4, c5]) rfl ?_
          exact ⟨by rw [E.out]; exact ⟨t', rfl, ht'.out⟩, by rw [E.out]; repeat (first | (with_reducible exact FA) | (with_reducible refine AtR.put ?_ hb0 _ _)), by repeat (first | (with_reducible exact MM) | (with_reducible refine Mod.put ?_ (Nat.le_refl _) _ _))⟩
      have n35 : (x0 == 35) = false := by simpa using a35
      rw [if_neg (fun k => a35 k.1)] at T0
      obtain ⟨yn, hyn⟩ : ∃ y, nuB x0 x1 x2 = y := ⟨_, rfl⟩
      have YN := hide hyn
      rw [hyn] at T0
      cases yn
      rotate_left
      · rw [if_pos rfl] at T0
        obtain ⟨⟨⟨k, tx, nu, de, wh, id⟩, r2⟩, hu2⟩ : ∃ z, numb s = z := ⟨_, rfl⟩
        rw [hu2] at T0
        have UU := hide hu2
        have E := hide T0
        clear T0 hu2 hx0 hx1 hx2 hx3
        clear hyb hyn ht1
        go_wp2_with (first
          | (go_at_call 61; refine (isBlR_any _ _).mono ?_; rintro e w2 ⟨rfl, rfl⟩; rw [YB.out])
          | (go_at_call 68; refine (numR_any _ _ _ _).mono ?_; rintro e w2 ⟨rfl, rfl⟩; rw [YN.out])
          | (go_at_call 69; refine (figureR_any T W _ b v l s L0.out HN.out (ST.out.at (by omega))).mono ?_; rintro e w8 ⟨⟨z8, he, hz8⟩, A2, M2⟩; rw [UU.out] at he hz8 A2; replace he : e = .returned (.agg #[.int .i64 k, .string z8, .int .i64 nu, .int .i64 de, .bool wh, .bool id]) := he; subst he; replace hz8 := hide hz8; have A3 := hide A2; replace M := hide (Mod.trans M.out M2); clear A2 M2 c1 f1; (try clear f0 f2 f3 f4 f5 c0 c2 c3 c4 c5 g1 d1); obtain ⟨f0, g1, f2, f3, f4, f5, c0, d1, c2, c3, c4, c5⟩ := tok0_free (keep Z.out (Nat.ne_of_gt hb0) M.out)))
        have FA := A3.out.r
        have MM := Mod.trans M0.out M.out
        refine bodyPost_ret (v := tkV k z8 nu de wh id) (by simp [results, Tryd.results56, go_sem, tkV, c0, d1, c2, c3, c4, c5]) rfl ?_
        exact ⟨by rw [E.out]; exact ⟨z8, rfl, hz8.out⟩, by rw [E.out]; repeat (first | (with_reducible exact FA) | (with_reducible refine AtR.put ?_ hb0 _ _)), by repeat (first | (with_reducible exact MM) | (with_reducible refine Mod.put ?_ (Nat.le_refl _) _ _))⟩
      rw [if_neg (by simp)] at T0
      clear hyb hyn
      by_cases a45 : x0 = 45
      · subst a45
        by_cases b45 : x1 = 45
        · subst b45
          by_cases c62 : x2 = 62
          · subst c62
            rw [if_pos ⟨rfl, rfl, rfl⟩] at T0
            have E := hide T0
            have L3 : 2 < s.length := nx_len (s := s) (k := 2) (by rw [hx2]; decide)
            clear T0 hx0 hx1 hx2 hx3 ht1
            go_wp2_with (first
              | (go_at_call 61; refine (isBlR_any _ _).mono ?_; rintro e w2 ⟨rfl, rfl⟩; rw [YB.out])
              | (go_at_call 68; refine (numR_any _ _ _ _).mono ?_; rintro e w2 ⟨rfl, rfl⟩; rw [YN.out]))
            have FA := (ST.out.inc 3 ((p : Int) + 3) (by omega) (by omega)).atR (by omega)
            have MM := Mod.trans M0.out (Mod.trans M.out (ST.out.mod ((p : Int) + 3)))
            refine bodyPost_ret (v := tkV 15 ⟨#[]⟩ 0 0 false false) (by simp [results, Tryd.results56, go_sem, tkV, c0, d1, c2, c3, c4, c5]) rfl ?_
            exact ⟨.tk (congrArg Prod.fst E.out), by rw [E.out]; repeat (first | (with_reducible exact FA) | (with_reducible refine AtR.put ?_ hb0 _ _)), by repeat (first | (with_reducible exact MM) | (with_reducible refine Mod.put ?_ (Nat.le_refl _) _ _))⟩
          · have n62 : (x2 == 62) = false := by simpa using c62
            rw [if_neg (fun k => c62 k.2.2), if_neg (by simp), if_neg (by simp), ht1] at T0
            clear ht1
            obtain ⟨ym, hym⟩ : ∃ y, nmB 45 45 x2 = y := ⟨_, rfl⟩
            have YM := hide hym
            rw [hym] at T0
            cases ym
            · rw [if_neg (by simp)] at T0
              have E := hide T0
              clear T0 hx0 hx1 hx2 hx3
              go_wp2_with (first
                | (go_at_call 61; refine (isBlR_any _ _).mono ?_; rintro e w2 ⟨rfl, rfl⟩; rw [YB.out])
                | (go_at_call 64; refine (isLetR_any _ _).mono ?_; rintro e w2 ⟨rfl, rfl⟩; rw [YL.out])
                | (go_at_call 65; refine (escR_any _ _ _).mono ?_; rintro e w2 ⟨rfl, rfl⟩; rw [YE.out])
                | (go_at_call 68; refine (numR_any _ _ _ _).mono ?_; rintro e w2 ⟨rfl, rfl⟩; rw [YN.out])
                | (go_at_call 66; refine (begR_any _ _ _ _).mono ?_; rintro e w2 ⟨rfl, rfl⟩; (first | (rw [YM.out]) | (rw [YM3.out])))
                | (go_at_call 55; refine (standAt_any T W _ b v l s p _ ST.out (by decide) (by decide)).mono ?_; rintro e w1 ⟨he, B1⟩; (first | (rw [H0.out] at he) | (rw [H1.out] at he) | (rw [H2.out] at he) | (rw [H3.out] at he)); subst he; replace ST := hide (ST.out.below B1); replace M := hide (Mod.trans M.out (Mod.of b B1)); (try clear c1 f1); have c1 := ST.out.c1; have f1 := ST.out.f1; (try clear f0 f2 f3 f4 f5 c0 c2 c3 c4 c5 g1 d1); obtain ⟨f0, g1, f2, f3, f4, f5, c0, d1, c2, c3, c4, c5⟩ := tok0_free (keep Z.out (Nat.ne_of_gt hb0) M.out); clear B1)
                | (go_at_call 71; refine (textR_any _ _ _ (Nums.litq2 (by simp) _ _) (by simp)).mono ?_; rintro e w13 ⟨z, rfl, hz, B3⟩; replace hz := hide hz; have B1 := bto (bplus (Below.refl _ _) _) B3; replace M := hide (Mod.trans (Mod.trans M.out (ST.out.mod ((p : Int) + 1))) (Mod.of b B1)); have S2 := ST.out.inc 1 ((p : Int) + 1) (by omega) (by omega); rw [T1.out] at S2; replace ST := hide (S2.below B1); clear B1 B3 S2 c1 f1; (try clear f0 f2 f3 f4 f5 c0 c2 c3 c4 c5 g1 d1); obtain ⟨f0, g1, f2, f3, f4, f5, c0, d1, c2, c3, c4, c5⟩ := tok0_free (keep Z.out (Nat.ne_of_gt hb0) M.out)))
              have FA := ST.out.atR (by omega)
              have MM := Mod.trans M0.out M.out
              refine bodyPost_ret (v := tkV 9 z 0 0 false false) (by simp [results, Tryd.results56, go_sem, tkV, c0, d1, c2, c3, c4, c5]) rfl ?_
              exact ⟨.tkt (congrArg Prod.fst E.out) hz.out, by rw [E.out]; repeat (first | (with_reducible exact FA) | (with_reducible refine AtR.put ?_ hb0 _ _)), by repeat (first | (with_reducible exact MM) | (with_reducible refine Mod.put ?_ (Nat.le_refl _) _ _))⟩
            · rw [if_pos rfl] at T0
              obtain ⟨⟨⟨k, tx, nu, de, wh, id⟩, r2⟩, hu2⟩ : ∃ z, word s = z := ⟨_, rfl⟩
              rw [hu2] at T0
              have UU := hide hu2
              have E := hide T0
              clear T0 hu2 hx0 hx1 hx2 hx3
              go_wp2_with (first
                | (go_at_call 61; refine (isBlR_any _ _).mono ?_; rintro e w2 ⟨rfl, rfl⟩; rw [YB.out])
                | (go_at_call 64; refine (isLetR_any _ _).mono ?_; rintro e w2 ⟨rfl, rfl⟩; rw [YL.out])
                | (go_at_call 65; refine (escR_any _ _ _).mono ?_; rintro e w2 ⟨rfl, rfl⟩; rw [YE.out])
                | (go_at_call 68; refine (numR_any _ _ _ _).mono ?_; rintro e w2 ⟨rfl, rfl⟩; rw [YN.out])
                | (go_at_call 66; refine (begR_any _ _ _ _).mono ?_; rintro e w2 ⟨rfl, rfl⟩; (first | (rw [YM.out]) | (rw [YM3.out])))
                | (go_at_call 55; refine (standAt_any T W _ b v l s p _ ST.out (by decide) (by decide)).mono ?_; rintro e w1 ⟨he, B1⟩; (first | (rw [H0.out] at he) | (rw [H1.out] at he) | (rw [H2.out] at he) | (rw [H3.out] at he)); subst he; replace ST := hide (ST.out.below B1); replace M := hide (Mod.trans M.out (Mod.of b B1)); (try clear c1 f1); have c1 := ST.out.c1; have f1 := ST.out.f1; (try clear f0 f2 f3 f4 f5 c0 c2 c3 c4 c5 g1 d1); obtain ⟨f0, g1, f2, f3, f4, f5, c0, d1, c2, c3, c4, c5⟩ := tok0_free (keep Z.out (Nat.ne_of_gt hb0) M.out); clear B1)
                | (go_at_call 70; refine (wordR_any T W _ b v l s L0.out (ST.out.at (by omega))).mono ?_; rintro e w8 ⟨⟨z8, he, hz8⟩, A2, M2⟩; rw [UU.out] at he hz8 A2; replace he : e = .returned (.agg #[.int .i64 k, .string z8, .int .i64 nu, .int .i64 de, .bool wh, .bool id]) := he; subst he; replace hz8 := hide hz8; have A3 := hide A2; replace M := hide (Mod.trans M.out M2); clear A2 M2 c1 f1; (try clear f0 f2 f3 f4 f5 c0 c2 c3 c4 c5 g1 d1); obtain ⟨f0, g1, f2, f3, f4, f5, c0, d1, c2, c3, c4, c5⟩ := tok0_free (keep Z.out (Nat.ne_of_gt hb0) M.out)))
              have FA := A3.out
              have MM := Mod.trans M0.out M.out
              refine bodyPost_ret (v := tkV k z8 nu de wh id) (by simp [results, Tryd.results56, go_sem, tkV, c0, d1, c2, c3, c4, c5]) rfl ?_
              exact ⟨by rw [E.out]; exact ⟨z8, rfl, hz8.out⟩, by rw [E.out]; repeat (first | (with_reducible exact FA) | (with_reducible refine AtR.put ?_ hb0 _ _)), by repeat (first | (with_reducible exact MM) | (with_reducible refine Mod.put ?_ (Nat.le_refl _) _ _))⟩
        · have m45 : (x1 == 45) = false := by simpa using b45
          rw [if_neg (fun k => b45 k.2.1), if_neg (by simp), if_neg (by simp), ht1] at T0
          clear ht1
          obtain ⟨ym, hym⟩ : ∃ y, nmB 45 x1 x2 = y := ⟨_, rfl⟩
          have YM := hide hym
          rw [hym] at T0
          cases ym
          · rw [if_neg (by simp)] at T0
            have E := hide T0
            clear T0 hx0 hx1 hx2 hx3
            go_wp2_with (first
              | (go_at_call 61; refine (isBlR_any _ _).mono ?_; rintro e w2 ⟨rfl, rfl⟩; rw [YB.out])
              | (go_at_call 64; refine (isLetR_any _ _).mono ?_; rintro e w2 ⟨rfl, rfl⟩; rw [YL.out])
              | (go_at_call 65; refine (escR_any _ _ _).mono ?_; rintro e w2 ⟨rfl, rfl⟩; rw [YE.out])
              | (go_at_call 68; refine (numR_any _ _ _ _).mono ?_; rintro e w2 ⟨rfl, rfl⟩; rw [YN.out])
              | (go_at_call 66; refine (begR_any _ _ _ _).mono ?_; rintro e w2 ⟨rfl, rfl⟩; (first | (rw [YM.out]) | (rw [YM3.out])))
              | (go_at_call 55; refine (standAt_any T W _ b v l s p _ ST.out (by decide) (by decide)).mono ?_; rintro e w1 ⟨he, B1⟩; (first | (rw [H0.out] at he) | (rw [H1.out] at he) | (rw [H2.out] at he) | (rw [H3.out] at he)); subst he; replace ST := hide (ST.out.below B1); replace M := hide (Mod.trans M.out (Mod.of b B1)); (try clear c1 f1); have c1 := ST.out.c1; have f1 := ST.out.f1; (try clear f0 f2 f3 f4 f5 c0 c2 c3 c4 c5 g1 d1); obtain ⟨f0, g1, f2, f3, f4, f5, c0, d1, c2, c3, c4, c5⟩ := tok0_free (keep Z.out (Nat.ne_of_gt hb0) M.out); clear B1)
              | (go_at_call 71; refine (textR_any _ _ _ (Nums.litq2 (by simp) _ _) (by simp)).mono ?_; rintro e w13 ⟨z, rfl, hz, B3⟩; replace hz := hide hz; have B1 := bto (bplus (Below.refl _ _) _) B3; replace M := hide (Mod.trans (Mod.trans M.out (ST.out.mod ((p : Int) + 1))) (Mod.of b B1)); have S2 := ST.out.inc 1 ((p : Int) + 1) (by omega) (by omega); rw [T1.out] at S2; replace ST := hide (S2.below B1); clear B1 B3 S2 c1 f1; (try clear f0 f2 f3 f4 f5 c0 c2 c3 c4 c5 g1 d1); obtain ⟨f0, g1, f2, f3, f4, f5, c0, d1, c2, c3, c4, c5⟩ := tok0_free (keep Z.out (Nat.ne_of_gt hb0) M.out)))
            have FA := ST.out.atR (by omega)
            have MM := Mod.trans M0.out M.out
            refine bodyPost_ret (v := tkV 9 z 0 0 false false) (by simp [results, Tryd.results56, go_sem, tkV, c0, d1, c2, c3, c4, c5]) rfl ?_
            exact ⟨.tkt (congrArg Prod.fst E.out) hz.out, by rw [E.out]; repeat (first | (with_reducible exact FA) | (with_reducible refine AtR.put ?_ hb0 _ _)), by repeat (first | (with_reducible exact MM) | (with_reducible refine Mod.put ?_ (Nat.le_refl _) _ _))⟩
          · rw [if_pos rfl] at T0
            obtain ⟨⟨⟨k, tx, nu, de, wh, id⟩, r2⟩, hu2⟩ : ∃ z, word s = z := ⟨_, rfl⟩
            rw [hu2] at T0
            have UU := hide hu2
            have E := hide T0
            clear T0 hu2 hx0 hx1 hx2 hx3
            go_wp2_with (first
              | (go_at_call 61; refine (isBlR_any _ _).mono ?_; rintro e w2 ⟨rfl, rfl⟩; rw [YB.out])
              | (go_at_call 64; refine (isLetR_any _ _).mono ?_; rintro e w2 ⟨rfl, rfl⟩; rw [YL.out])
              | (go_at_call 65; refine (escR_any _ _ _).mono ?_; rintro e w2 ⟨rfl, rfl⟩; rw [YE.out])
              | (go_at_call 68; refine (numR_any _ _ _ _).mono ?_; rintro e w2 ⟨rfl, rfl⟩; rw [YN.out])
              | (go_at_call 66; refine (begR_any _ _ _ _).mono ?_; rintro e w2 ⟨rfl, rfl⟩; (first | (rw [YM.out]) | (rw [YM3.out])))
              | (go_at_call 55; refine (standAt_any T W _ b v l s p _ ST.out (by decide) (by decide)).mono ?_; rintro e w1 ⟨he, B1⟩; (first | (rw [H0.out] at he) | (rw [H1.out] at he) | (rw [H2.out] at he) | (rw [H3.out] at he)); subst he; replace ST := hide (ST.out.below B1); replace M := hide (Mod.trans M.out (Mod.of b B1)); (try clear c1 f1); have c1 := ST.out.c1; have f1 := ST.out.f1; (try clear f0 f2 f3 f4 f5 c0 c2 c3 c4 c5 g1 d1); obtain ⟨f0, g1, f2, f3, f4, f5, c0, d1, c2, c3, c4, c5⟩ := tok0_free (keep Z.out (Nat.ne_of_gt hb0) M.out); clear B1)
              | (go_at_call 70; refine (wordR_any T W _ b v l s L0.out (ST.out.at (by omega))).mono ?_; rintro e w8 ⟨⟨z8, he, hz8⟩, A2, M2⟩; rw [UU.out] at he hz8 A2; replace he : e = .returned (.agg #[.int .i64 k, .string z8, .int .i64 nu, .int .i64 de, .bool wh, .bool id]) := he; subst he; replace hz8 := hide hz8; have A3 := hide A2; replace M := hide (Mod.trans M.out M2); clear A2 M2 c1 f1; (try clear f0 f2 f3 f4 f5 c0 c2 c3 c4 c5 g1 d1); obtain ⟨f0, g1, f2, f3, f4, f5, c0, d1, c2, c3, c4, c5⟩ := tok0_free (keep Z.out (Nat.ne_of_gt hb0) M.out)))
            have FA := A3.out
            have MM := Mod.trans M0.out M.out
            refine bodyPost_ret (v := tkV k z8 nu de wh id) (by simp [results, Tryd.results56, go_sem, tkV, c0, d1, c2, c3, c4, c5]) rfl ?_
            exact ⟨by rw [E.out]; exact ⟨z8, rfl, hz8.out⟩, by rw [E.out]; repeat (first | (with_reducible exact FA) | (with_reducible refine AtR.put ?_ hb0 _ _)), by repeat (first | (with_reducible exact MM) | (with_reducible refine Mod.put ?_ (Nat.le_refl _) _ _))⟩
      have n45 : (x0 == 45) = false := by simpa using a45
      rw [if_neg (fun k => a45 k.1)] at T0
      by_cases a60 : x0 = 60
      · subst a60
        by_cases b33 : x1 = 33
        · subst b33
          by_cases c45 : x2 = 45
          · subst c45
            by_cases d45 : x3 = 45
            · subst d45
              rw [if_pos ⟨rfl, rfl, rfl, rfl⟩] at T0
              have E := hide T0
              have L4 : 3 < s.length := nx_len (s := s) (k := 3) (by rw [hx3]; decide)
              clear T0 hx0 hx1 hx2 hx3 ht1
              go_wp2_with (first
                | (go_at_call 61; refine (isBlR_any _ _).mono ?_; rintro e w2 ⟨rfl, rfl⟩; rw [YB.out])
                | (go_at_call 68; refine (numR_any _ _ _ _).mono ?_; rintro e w2 ⟨rfl, rfl⟩; rw [YN.out])
                | (go_at_call 55; refine (standAt_any T W _ b v l s p _ ST.out (by decide) (by decide)).mono ?_; rintro e w1 ⟨he, B1⟩; (first | (rw [H0.out] at he) | (rw [H1.out] at he) | (rw [H2.out] at he) | (rw [H3.out] at he)); subst he; replace ST := hide (ST.out.below B1); replace M := hide (Mod.trans M.out (Mod.of b B1)); (try clear c1 f1); have c1 := ST.out.c1; have f1 := ST.out.f1; (try clear f0 f2 f3 f4 f5 c0 c2 c3 c4 c5 g1 d1); obtain ⟨f0, g1, f2, f3, f4, f5, c0, d1, c2, c3, c4, c5⟩ := tok0_free (keep Z.out (Nat.ne_of_gt hb0) M.out); clear B1))
              have FA := (ST.out.inc 4 ((p : Int) + 4) (by omega) (by omega)).atR (by omega)
              have MM := Mod.trans M0.out (Mod.trans M.out (ST.out.mod ((p : Int) + 4)))
              refine bodyPost_ret (v := tkV 14 ⟨#[]⟩ 0 0 false false) (by simp [results, Tryd.results56, go_sem, tkV, c0, d1, c2, c3, c4, c5]) rfl ?_
              exact ⟨.tk (congrArg Prod.fst E.out), by rw [E.out]; repeat (first | (with_reducible exact FA) | (with_reducible refine AtR.put ?_ hb0 _ _)), by repeat (first | (with_reducible exact MM) | (with_reducible refine Mod.put ?_ (Nat.le_refl _) _ _))⟩
            · have q3 : (x3 == 45) = false := by simpa using d45
              rw [if_neg (fun k => d45 k.2.2.2), if_neg (by simp)] at T0
              have YM := hide (show nmB 60 33 45 = false by simp [nmB, isFst, es2])
              rw [YM.out, if_neg (by simp), ht1] at T0
              clear ht1
              have E := hide T0
              clear T0 hx0 hx1 hx2 hx3
              go_wp2_with (first
                | (go_at_call 61; refine (isBlR_any _ _).mono ?_; rintro e w2 ⟨rfl, rfl⟩; rw [YB.out])
                | (go_at_call 64; refine (isLetR_any _ _).mono ?_; rintro e w2 ⟨rfl, rfl⟩; rw [YL.out])
                | (go_at_call 65; refine (escR_any _ _ _).mono ?_; rintro e w2 ⟨rfl, rfl⟩; rw [YE.out])
                | (go_at_call 68; refine (numR_any _ _ _ _).mono ?_; rintro e w2 ⟨rfl, rfl⟩; rw [YN.out])
                | (go_at_call 66; refine (begR_any _ _ _ _).mono ?_; rintro e w2 ⟨rfl, rfl⟩; (first | (rw [YM.out]) | (rw [YM3.out])))
                | (go_at_call 55; refine (standAt_any T W _ b v l s p _ ST.out (by decide) (by decide)).mono ?_; rintro e w1 ⟨he, B1⟩; (first | (rw [H0.out] at he) | (rw [H1.out] at he) | (rw [H2.out] at he) | (rw [H3.out] at he)); subst he; replace ST := hide (ST.out.below B1); replace M := hide (Mod.trans M.out (Mod.of b B1)); (try clear c1 f1); have c1 := ST.out.c1; have f1 := ST.out.f1; (try clear f0 f2 f3 f4 f5 c0 c2 c3 c4 c5 g1 d1); obtain ⟨f0, g1, f2, f3, f4, f5, c0, d1, c2, c3, c4, c5⟩ := tok0_free (keep Z.out (Nat.ne_of_gt hb0) M.out); clear B1)
                | (go_at_call 71; refine (textR_any _ _ _ (Nums.litq2 (by simp) _ _) (by simp)).mono ?_; rintro e w13 ⟨z, rfl, hz, B3⟩; replace hz := hide hz; have B1 := bto (bplus (Below.refl _ _) _) B3; replace M := hide (Mod.trans (Mod.trans M.out (ST.out.mod ((p : Int) + 1))) (Mod.of b B1)); have S2 := ST.out.inc 1 ((p : Int) + 1) (by omega) (by omega); rw [T1.out] at S2; replace ST := hide (S2.below B1); clear B1 B3 S2 c1 f1; (try clear f0 f2 f3 f4 f5 c0 c2 c3 c4 c5 g1 d1); obtain ⟨f0, g1, f2, f3, f4, f5, c0, d1, c2, c3, c4, c5⟩ := tok0_free (keep Z.out (Nat.ne_of_gt hb0) M.out)))
              have FA := ST.out.atR (by omega)
              have MM := Mod.trans M0.out M.out
              refine bodyPost_ret (v := tkV 9 z 0 0 false false) (by simp [results, Tryd.results56, go_sem, tkV, c0, d1, c2, c3, c4, c5]) rfl ?_
              exact ⟨.tkt (congrArg Prod.fst E.out) hz.out, by rw [E.out]; repeat (first | (with_reducible exact FA) | (with_reducible refine AtR.put ?_ hb0 _ _)), by repeat (first | (with_reducible exact MM) | (with_reducible refine Mod.put ?_ (Nat.le_refl _) _ _))⟩
          · have q2 : (x2 == 45) = false := by simpa using c45
            rw [if_neg (fun k => c45 k.2.2.1), if_neg (by simp)] at T0
            have YM := hide (show nmB 60 33 x2 = false by simp [nmB, isFst, es2])
            rw [YM.out, if_neg (by simp), ht1] at T0
            clear ht1
            have E := hide T0
            clear T0 hx0 hx1 hx2 hx3
            go_wp2_with (first
              | (go_at_call 61; refine (isBlR_any _ _).mono ?_; rintro e w2 ⟨rfl, rfl⟩; rw [YB.out])
              | (go_at_call 64; refine (isLetR_any _ _).mono ?_; rintro e w2 ⟨rfl, rfl⟩; rw [YL.out])
              | (go_at_call 65; refine (escR_any _ _ _).mono ?_; rintro e w2 ⟨rfl, rfl⟩; rw [YE.out])
              | (go_at_call 68; refine (numR_any _ _ _ _).mono ?_; rintro e w2 ⟨rfl, rfl⟩; rw [YN.out])
              | (go_at_call 66; refine (begR_any _ _ _ _).mono ?_; rintro e w2 ⟨rfl, rfl⟩; (first | (rw [YM.out]) | (rw [YM3.out])))
              | (go_at_call 55; refine (standAt_any T W _ b v l s p _ ST.out (by decide) (by decide)).mono ?_; rintro e w1 ⟨he, B1⟩; (first | (rw [H0.out] at he) | (rw [H1.out] at he) | (rw [H2.out] at he) | (rw [H3.out] at he)); subst he; replace ST := hide (ST.out.below B1); replace M := hide (Mod.trans M.out (Mod.of b B1)); (try clear c1 f1); have c1 := ST.out.c1; have f1 := ST.out.f1; (try clear f0 f2 f3 f4 f5 c0 c2 c3 c4 c5 g1 d1); obtain ⟨f0, g1, f2, f3, f4, f5, c0, d1, c2, c3, c4, c5⟩ := tok0_free (keep Z.out (Nat.ne_of_gt hb0) M.out); clear B1)
              | (go_at_call 71; refine (textR_any _ _ _ (Nums.litq2 (by simp) _ _) (by simp)).mono ?_; rintro e w13 ⟨z, rfl, hz, B3⟩; replace hz := hide hz; have B1 := bto (bplus (Below.refl _ _) _) B3; replace M := hide (Mod.trans (Mod.trans M.out (ST.out.mod ((p : Int) + 1))) (Mod.of b B1)); have S2 := ST.out.inc 1 ((p : Int) + 1) (by omega) (by omega); rw [T1.out] at S2; replace ST := hide (S2.below B1); clear B1 B3 S2 c1 f1; (try clear f0 f2 f3 f4 f5 c0 c2 c3 c4 c5 g1 d1); obtain ⟨f0, g1, f2, f3, f4, f5, c0, d1, c2, c3, c4, c5⟩ := tok0_free (keep Z.out (Nat.ne_of_gt hb0) M.out)))
            have FA := ST.out.atR (by omega)
            have MM := Mod.trans M0.out M.out
            refine bodyPost_ret (v := tkV 9 z 0 0 false false) (by simp [results, Tryd.results56, go_sem, tkV, c0, d1, c2, c3, c4, c5]) rfl ?_
            exact ⟨.tkt (congrArg Prod.fst E.out) hz.out, by rw [E.out]; repeat (first | (with_reducible exact FA) | (with_reducible refine AtR.put ?_ hb0 _ _)), by repeat (first | (with_reducible exact MM) | (with_reducible refine Mod.put ?_ (Nat.le_refl _) _ _))⟩
        · have q1 : (x1 == 33) = false := by simpa using b33
          rw [if_neg (fun k => b33 k.2.1), if_neg (by simp)] at T0
          have YM := hide (show nmB 60 x1 x2 = false by simp [nmB, isFst, es2])
          rw [YM.out, if_neg (by simp), ht1] at T0
          clear ht1
          have E := hide T0
          clear T0 hx0 hx1 hx2 hx3
          go_wp2_with (first
            | (go_at_call 61; refine (isBlR_any _ _).mono ?_; rintro e w2 ⟨rfl, rfl⟩; rw [YB.out])
            | (go_at_call 64; refine (isLetR_any _ _).mono ?_; rintro e w2 ⟨rfl, rfl⟩; rw [YL.out])
            | (go_at_call 65; refine (escR_any _ _ _).mono ?_; rintro e w2 ⟨rfl, rfl⟩; rw [YE.out])
            | (go_at_call 68; refine (numR_any _ _ _ _).mono ?_; rintro e w2 ⟨rfl, rfl⟩; rw [YN.out])
            | (go_at_call 66; refine (begR_any _ _ _ _).mono ?_; rintro e w2 ⟨rfl, rfl⟩; (first | (rw [YM.out]) | (rw [YM3.out])))
            | (go_at_call 55; refine (standAt_any T W _ b v l s p _ ST.out (by decide) (by decide)).mono ?_; rintro e w1 ⟨he, B1⟩; (first | (rw [H0.out] at he) | (rw [H1.out] at he) | (rw [H2.out] at he) | (rw [H3.out] at he)); subst he; replace ST := hide (ST.out.below B1); replace M := hide (Mod.trans M.out (Mod.of b B1)); (try clear c1 f1); have c1 := ST.out.c1; have f1 := ST.out.f1; (try clear f0 f2 f3 f4 f5 c0 c2 c3 c4 c5 g1 d1); obtain ⟨f0, g1, f2, f3, f4, f5, c0, d1, c2, c3, c4, c5⟩ := tok0_free (keep Z.out (Nat.ne_of_gt hb0) M.out); clear B1)
            | (go_at_call 71; refine (textR_any _ _ _ (Nums.litq2 (by simp) _ _) (by simp)).mono ?_; rintro e w13 ⟨z, rfl, hz, B3⟩; replace hz := hide hz; have B1 := bto (bplus (Below.refl _ _) _) B3; replace M := hide (Mod.trans (Mod.trans M.out (ST.out.mod ((p : Int) + 1))) (Mod.of b B1)); have S2 := ST.out.inc 1 ((p : Int) + 1) (by omega) (by omega); rw [T1.out] at S2; replace ST := hide (S2.below B1); clear B1 B3 S2 c1 f1; (try clear f0 f2 f3 f4 f5 c0 c2 c3 c4 c5 g1 d1); obtain ⟨f0, g1, f2, f3, f4, f5, c0, d1, c2, c3, c4, c5⟩ := tok0_free (keep Z.out (Nat.ne_of_gt hb0) M.out)))
          have FA := ST.out.atR (by omega)
          have MM := Mod.trans M0.out M.out
          refine bodyPost_ret (v := tkV 9 z 0 0 false false) (by simp [results, Tryd.results56, go_sem, tkV, c0, d1, c2, c3, c4, c5]) rfl ?_
          exact ⟨.tkt (congrArg Prod.fst E.out) hz.out, by rw [E.out]; repeat (first | (with_reducible exact FA) | (with_reducible refine AtR.put ?_ hb0 _ _)), by repeat (first | (with_reducible exact MM) | (with_reducible refine Mod.put ?_ (Nat.le_refl _) _ _))⟩
      have n60 : (x0 == 60) = false := by simpa using a60
      rw [if_neg (fun k => a60 k.1)] at T0
      by_cases a64 : x0 = 64
      · subst a64
        obtain ⟨y3, hy3⟩ : ∃ y, nmB x1 x2 x3 = y := ⟨_, rfl⟩
        have YM3 := hide hy3
        rw [hy3] at T0
        cases y3
        · rw [if_neg (by simp)] at T0
          clear hy3
          have YM := hide (show nmB 64 x1 x2 = false by simp [nmB, isFst, es2])
          rw [YM.out, if_neg (by simp), ht1] at T0
          clear ht1
          have E := hide T0
          clear T0 hx0 hx1 hx2 hx3
          go_wp2_with (first
            | (go_at_call 61; refine (isBlR_any _ _).mono ?_; rintro e w2 ⟨rfl, rfl⟩; rw [YB.out])
            | (go_at_call 64; refine (isLetR_any _ _).mono ?_; rintro e w2 ⟨rfl, rfl⟩; rw [YL.out])
            | (go_at_call 65; refine (escR_any _ _ _).mono ?_; rintro e w2 ⟨rfl, rfl⟩; rw [YE.out])
            | (go_at_call 68; refine (numR_any _ _ _ _).mono ?_; rintro e w2 ⟨rfl, rfl⟩; rw [YN.out])
            | (go_at_call 66; refine (begR_any _ _ _ _).mono ?_; rintro e w2 ⟨rfl, rfl⟩; (first | (rw [YM.out]) | (rw [YM3.out])))
            | (go_at_call 55; refine (standAt_any T W _ b v l s p _ ST.out (by decide) (by decide)).mono ?_; rintro e w1 ⟨he, B1⟩; (first | (rw [H0.out] at he) | (rw [H1.out] at he) | (rw [H2.out] at he) | (rw [H3.out] at he)); subst he; replace ST := hide (ST.out.below B1); replace M := hide (Mod.trans M.out (Mod.of b B1)); (try clear c1 f1); have c1 := ST.out.c1; have f1 := ST.out.f1; (try clear f0 f2 f3 f4 f5 c0 c2 c3 c4 c5 g1 d1); obtain ⟨f0, g1, f2, f3, f4, f5, c0, d1, c2, c3, c4, c5⟩ := tok0_free (keep Z.out (Nat.ne_of_gt hb0) M.out); clear B1)
            | (go_at_call 71; refine (textR_any _ _ _ (Nums.litq2 (by simp) _ _) (by simp)).mono ?_; rintro e w13 ⟨z, rfl, hz, B3⟩; replace hz := hide hz; have B1 := bto (bplus (Below.refl _ _) _) B3; replace M := hide (Mod.trans (Mod.trans M.out (ST.out.mod ((p : Int) + 1))) (Mod.of b B1)); have S2 := ST.out.inc 1 ((p : Int) + 1) (by omega) (by omega); rw [T1.out] at S2; replace ST := hide (S2.below B1); clear B1 B3 S2 c1 f1; (try clear f0 f2 f3 f4 f5 c0 c2 c3 c4 c5 g1 d1); obtain ⟨f0, g1, f2, f3, f4, f5, c0, d1, c2, c3, c4, c5⟩ := tok0_free (keep Z.out (Nat.ne_of_gt hb0) M.out)))
          have FA := ST.out.atR (by omega)
          have MM := Mod.trans M0.out M.out
          refine bodyPost_ret (v := tkV 9 z 0 0 false false) (by simp [results, Tryd.results56, go_sem, tkV, c0, d1, c2, c3, c4, c5]) rfl ?_
          exact ⟨.tkt (congrArg Prod.fst E.out) hz.out, by rw [E.out]; repeat (first | (with_reducible exact FA) | (with_reducible refine AtR.put ?_ hb0 _ _)), by repeat (first | (with_reducible exact MM) | (with_reducible refine Mod.put ?_ (Nat.le_refl _) _ _))⟩
        · rw [if_pos ⟨rfl, rfl⟩, ht1] at T0
          obtain ⟨⟨nm, rr⟩, hnm⟩ : ∃ z, nam [] t1 = z := ⟨_, rfl⟩
          rw [hnm] at T0
          have NN := hide hnm
          have E := hide T0
          clear T0 hx0 hx1 hx2 hx3 ht1 hnm hy3
          go_wp2_with (first
            | (go_at_call 61; refine (isBlR_any _ _).mono ?_; rintro e w2 ⟨rfl, rfl⟩; rw [YB.out])
            | (go_at_call 68; refine (numR_any _ _ _ _).mono ?_; rintro e w2 ⟨rfl, rfl⟩; rw [YN.out])
            | (go_at_call 55; refine (standAt_any T W _ b v l s p _ ST.out (by decide) (by decide)).mono ?_; rintro e w1 ⟨he, B1⟩; (first | (rw [H0.out] at he) | (rw [H1.out] at he) | (rw [H2.out] at he) | (rw [H3.out] at he)); subst he; replace ST := hide (ST.out.below B1); replace M := hide (Mod.trans M.out (Mod.of b B1)); (try clear c1 f1); have c1 := ST.out.c1; have f1 := ST.out.f1; (try clear f0 f2 f3 f4 f5 c0 c2 c3 c4 c5 g1 d1); obtain ⟨f0, g1, f2, f3, f4, f5, c0, d1, c2, c3, c4, c5⟩ := tok0_free (keep Z.out (Nat.ne_of_gt hb0) M.out); clear B1)
            | (go_at_call 66; refine (begR_any _ _ _ _).mono ?_; rintro e w2 ⟨rfl, rfl⟩; (first | (rw [YM.out]) | (rw [YM3.out])))
            | (go_at_call 67; refine (nameR_any T W _ b v l t1 L9.out (by have := ST.out.inc 1 ((p : Int) + 1) (by omega) (by omega); rw [T1.out] at this; exact this.at (by omega))).mono ?_; rintro e w12 ⟨t', rfl, ht', A2, M2⟩; rw [NN.out] at ht' A2; replace ht' := hide ht'; have A1 := hide A2; replace M := hide (Mod.trans (Mod.trans M.out (ST.out.mod ((p : Int) + 1))) M2); clear A2 M2 c1 f1; (try clear f0 f2 f3 f4 f5 c0 c2 c3 c4 c5 g1 d1); obtain ⟨f0, g1, f2, f3, f4, f5, c0, d1, c2, c3, c4, c5⟩ := tok0_free (keep Z.out (Nat.ne_of_gt hb0) M.out)))
          have FA := A1.out.r
          have MM := Mod.trans M0.out M.out
          refine bodyPost_ret (v := tkV 3 t' 0 0 false false) (by simp [results, Tryd.results56, go_sem, tkV, c0, d1, c2, c3, c4, c5]) rfl ?_
          exact ⟨.tkt (congrArg Prod.fst E.out) ht'.out, by rw [E.out]; repeat (first | (with_reducible exact FA) | (with_reducible refine AtR.put ?_ hb0 _ _)), by repeat (first | (with_reducible exact MM) | (with_reducible refine Mod.put ?_ (Nat.le_refl _) _ _))⟩
      have n64 : (x0 == 64) = false := by simpa using a64
      rw [if_neg (fun k => a64 k.1), ht1] at T0
      clear ht1
      obtain ⟨ym, hym⟩ : ∃ y, nmB x0 x1 x2 = y := ⟨_, rfl⟩
      have YM := hide hym
      rw [hym] at T0
      cases ym
      · rw [if_neg (by simp)] at T0
        have E := hide T0
        clear T0 hx0 hx1 hx2 hx3
        go_wp2_with (first
          | (go_at_call 61; refine (isBlR_any _ _).mono ?_; rintro e w2 ⟨rfl, rfl⟩; rw [YB.out])
          | (go_at_call 64; refine (isLetR_any _ _).mono ?_; rintro e w2 ⟨rfl, rfl⟩; rw [YL.out])
          | (go_at_call 65; refine (escR_any _ _ _).mono ?_; rintro e w2 ⟨rfl, rfl⟩; rw [YE.out])
          | (go_at_call 68; refine (numR_any _ _ _ _).mono ?_; rintro e w2 ⟨rfl, rfl⟩; rw [YN.out])
          | (go_at_call 66; refine (begR_any _ _ _ _).mono ?_; rintro e w2 ⟨rfl, rfl⟩; (first | (rw [YM.out]) | (rw [YM3.out])))
          | (go_at_call 55; refine (standAt_any T W _ b v l s p _ ST.out (by decide) (by decide)).mono ?_; rintro e w1 ⟨he, B1⟩; (first | (rw [H0.out] at he) | (rw [H1.out] at he) | (rw [H2.out] at he) | (rw [H3.out] at he)); subst he; replace ST := hide (ST.out.below B1); replace M := hide (Mod.trans M.out (Mod.of b B1)); (try clear c1 f1); have c1 := ST.out.c1; have f1 := ST.out.f1; (try clear f0 f2 f3 f4 f5 c0 c2 c3 c4 c5 g1 d1); obtain ⟨f0, g1, f2, f3, f4, f5, c0, d1, c2, c3, c4, c5⟩ := tok0_free (keep Z.out (Nat.ne_of_gt hb0) M.out); clear B1)
          | (go_at_call 71; refine (textR_any _ _ _ (Nums.litq2 (by simp) _ _) (by simp)).mono ?_; rintro e w13 ⟨z, rfl, hz, B3⟩; replace hz := hide hz; have B1 := bto (bplus (Below.refl _ _) _) B3; replace M := hide (Mod.trans (Mod.trans M.out (ST.out.mod ((p : Int) + 1))) (Mod.of b B1)); have S2 := ST.out.inc 1 ((p : Int) + 1) (by omega) (by omega); rw [T1.out] at S2; replace ST := hide (S2.below B1); clear B1 B3 S2 c1 f1; (try clear f0 f2 f3 f4 f5 c0 c2 c3 c4 c5 g1 d1); obtain ⟨f0, g1, f2, f3, f4, f5, c0, d1, c2, c3, c4, c5⟩ := tok0_free (keep Z.out (Nat.ne_of_gt hb0) M.out)))
        have FA := ST.out.atR (by omega)
        have MM := Mod.trans M0.out M.out
        refine bodyPost_ret (v := tkV 9 z 0 0 false false) (by simp [results, Tryd.results56, go_sem, tkV, c0, d1, c2, c3, c4, c5]) rfl ?_
        exact ⟨.tkt (congrArg Prod.fst E.out) hz.out, by rw [E.out]; repeat (first | (with_reducible exact FA) | (with_reducible refine AtR.put ?_ hb0 _ _)), by repeat (first | (with_reducible exact MM) | (with_reducible refine Mod.put ?_ (Nat.le_refl _) _ _))⟩
      · rw [if_pos rfl] at T0
        obtain ⟨⟨⟨k, tx, nu, de, wh, id⟩, r2⟩, hu2⟩ : ∃ z, word s = z := ⟨_, rfl⟩
        rw [hu2] at T0
        have UU := hide hu2
        have E := hide T0
        clear T0 hu2 hx0 hx1 hx2 hx3
        go_wp2_with (first
          | (go_at_call 61; refine (isBlR_any _ _).mono ?_; rintro e w2 ⟨rfl, rfl⟩; rw [YB.out])
          | (go_at_call 64; refine (isLetR_any _ _).mono ?_; rintro e w2 ⟨rfl, rfl⟩; rw [YL.out])
          | (go_at_call 65; refine (escR_any _ _ _).mono ?_; rintro e w2 ⟨rfl, rfl⟩; rw [YE.out])
          | (go_at_call 68; refine (numR_any _ _ _ _).mono ?_; rintro e w2 ⟨rfl, rfl⟩; rw [YN.out])
          | (go_at_call 66; refine (begR_any _ _ _ _).mono ?_; rintro e w2 ⟨rfl, rfl⟩; (first | (rw [YM.out]) | (rw [YM3.out])))
          | (go_at_call 55; refine (standAt_any T W _ b v l s p _ ST.out (by decide) (by decide)).mono ?_; rintro e w1 ⟨he, B1⟩; (first | (rw [H0.out] at he) | (rw [H1.out] at he) | (rw [H2.out] at he) | (rw [H3.out] at he)); subst he; replace ST := hide (ST.out.below B1); replace M := hide (Mod.trans M.out (Mod.of b B1)); (try clear c1 f1); have c1 := ST.out.c1; have f1 := ST.out.f1; (try clear f0 f2 f3 f4 f5 c0 c2 c3 c4 c5 g1 d1); obtain ⟨f0, g1, f2, f3, f4, f5, c0, d1, c2, c3, c4, c5⟩ := tok0_free (keep Z.out (Nat.ne_of_gt hb0) M.out); clear B1)
          | (go_at_call 70; refine (wordR_any T W _ b v l s L0.out (ST.out.at (by omega))).mono ?_; rintro e w8 ⟨⟨z8, he, hz8⟩, A2, M2⟩; rw [UU.out] at he hz8 A2; replace he : e = .returned (.agg #[.int .i64 k, .string z8, .int .i64 nu, .int .i64 de, .bool wh, .bool id]) := he; subst he; replace hz8 := hide hz8; have A3 := hide A2; replace M := hide (Mod.trans M.out M2); clear A2 M2 c1 f1; (try clear f0 f2 f3 f4 f5 c0 c2 c3 c4 c5 g1 d1); obtain ⟨f0, g1, f2, f3, f4, f5, c0, d1, c2, c3, c4, c5⟩ := tok0_free (keep Z.out (Nat.ne_of_gt hb0) M.out)))
        have FA := A3.out
        have MM := Mod.trans M0.out M.out
        refine bodyPost_ret (v := tkV k z8 nu de wh id) (by simp [results, Tryd.results56, go_sem, tkV, c0, d1, c2, c3, c4, c5]) rfl ?_
        exact ⟨by rw [E.out]; exact ⟨z8, rfl, hz8.out⟩, by rw [E.out]; repeat (first | (with_reducible exact FA) | (with_reducible refine AtR.put ?_ hb0 _ _)), by repeat (first | (with_reducible exact MM) | (with_reducible refine Mod.put ?_ (Nat.le_refl _) _ _))⟩
end Go.Proofs.YtlkocepoohhglaaDoor
