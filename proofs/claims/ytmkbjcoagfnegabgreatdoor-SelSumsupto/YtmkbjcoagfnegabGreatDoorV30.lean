/-
  The reference's next token.
  The characters of a stylesheet, by the reference; the law of both.
  All tokens of some characters, of bytes, by the reference; the laws.
  All component values of bytes: by the reference.
-/
import Derived.Test.YtmkbjcoagfnegabGreatDoorV28
import Derived.Test.YtmkbjcoagfnegabGreatDoorV29
import Derived.Test.YtmkbjcoagfnegabGreatDoorV26
import Derived.Test.YtmkbjcoagfnegabGreatDoorV17
import Derived.Test.YtmkbjcoagfnegabGreatDoorV19
import Derived.Test.YtmkbjcoagfnegabGreatDoorV11
set_option linter.unusedVariables false
set_option linter.unusedSimpArgs false
namespace Go.Proofs.YtmkbjcoagfnegabGreatDoor
open Go.RowKit

/-- The reference's table of kinds, laid. -/
structure Kinds (w : World) : Prop where
  lt : 0 < w.heap.size
  k0 : w.cell? ⟨0, 0, none⟩ = some (.int .i64 21)
  k1 : w.cell? ⟨0, 1, none⟩ = some (.int .i64 22)
  k2 : w.cell? ⟨0, 2, none⟩ = some (.int .i64 19)
  k3 : w.cell? ⟨0, 3, none⟩ = some (.int .i64 20)
  k4 : w.cell? ⟨0, 4, none⟩ = some (.int .i64 23)
  k5 : w.cell? ⟨0, 5, none⟩ = some (.int .i64 24)
  k6 : w.cell? ⟨0, 6, none⟩ = some (.int .i64 18)
  k7 : w.cell? ⟨0, 7, none⟩ = some (.int .i64 16)
  k8 : w.cell? ⟨0, 8, none⟩ = some (.int .i64 17)
theorem sing0 : wrap32 (((⟨#[40, 41, 91, 93, 123, 125, 44, 58, 59]⟩ : ByteArray)[0]).toNat : Int) = 40 := by kernel_rfl
theorem sing1 : wrap32 (((⟨#[40, 41, 91, 93, 123, 125, 44, 58, 59]⟩ : ByteArray)[1]).toNat : Int) = 41 := by kernel_rfl
theorem sing2 : wrap32 (((⟨#[40, 41, 91, 93, 123, 125, 44, 58, 59]⟩ : ByteArray)[2]).toNat : Int) = 91 := by kernel_rfl
theorem sing3 : wrap32 (((⟨#[40, 41, 91, 93, 123, 125, 44, 58, 59]⟩ : ByteArray)[3]).toNat : Int) = 93 := by kernel_rfl
theorem sing4 : wrap32 (((⟨#[40, 41, 91, 93, 123, 125, 44, 58, 59]⟩ : ByteArray)[4]).toNat : Int) = 123 := by kernel_rfl
theorem sing5 : wrap32 (((⟨#[40, 41, 91, 93, 123, 125, 44, 58, 59]⟩ : ByteArray)[5]).toNat : Int) = 125 := by kernel_rfl
theorem sing6 : wrap32 (((⟨#[40, 41, 91, 93, 123, 125, 44, 58, 59]⟩ : ByteArray)[6]).toNat : Int) = 44 := by kernel_rfl
theorem sing7 : wrap32 (((⟨#[40, 41, 91, 93, 123, 125, 44, 58, 59]⟩ : ByteArray)[7]).toNat : Int) = 58 := by kernel_rfl
theorem sing8 : wrap32 (((⟨#[40, 41, 91, 93, 123, 125, 44, 58, 59]⟩ : ByteArray)[8]).toNat : Int) = 59 := by kernel_rfl
theorem Nums.litq2 {w : World} {n : Nat} (h : w.heap.size = n) (x : Int) (t : TypeId) : Nums .i32 (w.alloc (.cells #[.int .i32 x] t)) (.slice (some ⟨n, 0, none⟩) 1 1) [x] := by
  subst h; exact Nums.lit w t [x] 1 rfl (by omega) (by omega)
theorem tok_br {s : List Int} {k : Int} (h : brk (nx s 0) = k) (hk : k ≠ 9) : tokn s = (tk k, s.drop 1) := by
  rw [tokn_next]; unfold nextR; rw [h, if_pos hk]
def RelNx (x : Int) (i : Value) : Prop := ∃ k : Nat, k ≤ 9 ∧ i = .int .i64 k ∧ Hid (∀ j, j < k → x ≠ [40, 41, 91, 93, 123, 125, 44, 58, 59].getD j 0)
theorem RelNx.mk {x : Int} (k : Nat) {i : Value} (h1 : k ≤ 9) (h2 : i = .int .i64 k) (h3 : ∀ j, j < k → x ≠ [40, 41, 91, 93, 123, 125, 44, 58, 59].getD j 0) : RelNx x i := ⟨k, h1, h2, h3⟩
theorem nx_step {x : Int} {k : Nat} (h : ∀ j, j < k → x ≠ [40, 41, 91, 93, 123, 125, 44, 58, 59].getD j 0) (hk : x ≠ [40, 41, 91, 93, 123, 125, 44, 58, 59].getD k 0) : ∀ j, j < k + 1 → x ≠ [40, 41, 91, 93, 123, 125, 44, 58, 59].getD j 0 := fun j hj => by
  by_cases e : j < k
  · exact h j e
  · obtain rfl : j = k := by omega
    exact hk
theorem nx_none {x : Int} (h : ∀ j, j < 9 → x ≠ [40, 41, 91, 93, 123, 125, 44, 58, 59].getD j 0) : ¬ brk x ≠ 9 := by
  have a0 := h 0 (by decide); have a1 := h 1 (by decide); have a2 := h 2 (by decide); have a3 := h 3 (by decide); have a4 := h 4 (by decide); have a5 := h 5 (by decide); have a6 := h 6 (by decide); have a7 := h 7 (by decide); have a8 := h 8 (by decide)
  simp at a0 a1 a2 a3 a4 a5 a6 a7 a8
  rw [brk_iff]; omega
set_option maxRecDepth 100000 in
set_option maxHeartbeats 8000000 in
theorem nextR_any (T : TypeId) (W w : World) (b : Nat) (v : Value) (l s : List Int) (hL : l.length ≤ 250000000) (hK : Kinds W) (h0 : nx s 0 ≠ -1) (h : At T W w b v l s) :
    Calls Tryz.prog 49 #[.pointer (some ⟨b, 0, none⟩)] w fun e w' => Tells e (tokn s).1 ∧ AtR T W w' b v l (tokn s).2 ∧ w.grownBy w' (some b) := by
  have hb0 := h.lt
  have nb1 : ¬ w.heap.size = b := by omega
  have nb2 : ¬ b = w.heap.size := by omega
  have hbw : b < (w.alloc tok0).heap.size := by simp; omega
  have A1 := hide (h.below (bplus (Below.refl _ _) tok0))
  have M0 := hide (Mod.of b (bplus (Below.refl w.heap.size w) tok0))
  have Z := hide (tok0_alloc w)
  have L0 := hide hL
  have L9 := hide (show l.length ≤ 35184372088832 by omega)
  have HN := hide h0
  have L1 := nx_pos h0
  have hWb : 0 < b := by obtain ⟨_, k1, _⟩ := h.ex; have := k1.ge; have := hK.lt; omega
  have KH := hide hK
  clear h hL h0 hK
  obtain ⟨w0, hw0⟩ : ∃ w0, w.alloc tok0 = w0 := ⟨_, rfl⟩
  rw [hw0] at hbw A1 M0 Z
  have hw0' : w.alloc (.cells #[.int .i64 0, .string ⟨#[]⟩, .int .i64 0, .int .i64 0, .bool false, .bool false] 62) = w0 := hw0
  have HZ := hide hw0'
  clear hw0
  have M := hide (Mod.refl w0 b)
  obtain ⟨p, ST, hpl, hlb⟩ := A1.out.stand
  have hp9 : p ≤ 140737488355328 := by omega
  replace ST := hide ST
  clear A1
  obtain ⟨x0, hx0⟩ : ∃ x, nx s 0 = x := ⟨_, rfl⟩
  have H0 := hide (show nx s (Int.toNat 0) = x0 from hx0)
  obtain ⟨x1, hx1⟩ : ∃ x, nx s 1 = x := ⟨_, rfl⟩
  have H1 := hide (show nx s (Int.toNat 1) = x1 from hx1)
  obtain ⟨x2, hx2⟩ : ∃ x, nx s 2 = x := ⟨_, rfl⟩
  have H2 := hide (show nx s (Int.toNat 2) = x2 from hx2)
  obtain ⟨x3, hx3⟩ : ∃ x, nx s 3 = x := ⟨_, rfl⟩
  have H3 := hide (show nx s (Int.toNat 3) = x3 from hx3)
  go_enter Tryz.func49, Tryz.ntmps49
  go_wp2_with (first
    | (go_at_call 48; refine (standAt_any T W _ b v l s p _ ST.out (by decide) (by decide)).mono ?_; rintro e w1 ⟨he, B1⟩; (first | (rw [H0.out] at he) | (rw [H1.out] at he) | (rw [H2.out] at he) | (rw [H3.out] at he)); subst he; replace ST := hide (ST.out.below B1); replace M := hide (Mod.trans M.out (Mod.of b B1)); (try clear c1 f1); have c1 := ST.out.c1; have f1 := ST.out.f1; (try clear f0 f2 f3 f4 f5 c0 c2 c3 c4 c5 g1 d1); obtain ⟨f0, g1, f2, f3, f4, f5, c0, d1, c2, c3, c4, c5⟩ := tok0_free (keep Z.out (Nat.ne_of_gt hb0) M.out); clear B1))
  clear hw0'
  go_loopw [14] (fun i wr => RelNx x0 i ∧ wr = w1) (fun i _ => 9 - (intOf i).toNat)
  case atStart => exact ⟨.mk 0 (by omega) rfl (fun j hj => absurd hj (by omega)), rfl⟩
  case round =>
    obtain ⟨⟨k, hk, rfl, R⟩, rfl⟩ := hrel
    by_cases hlt : k < 9
    · rcases (show k = 0 ∨ k = 1 ∨ k = 2 ∨ k = 3 ∨ k = 4 ∨ k = 5 ∨ k = 6 ∨ k = 7 ∨ k = 8 by omega) with rfl | rfl | rfl | rfl | rfl | rfl | rfl | rfl | rfl
      · rw [show (((0 : Nat)) : Int) = (0 : Int) from rfl]
        have sk := sing0
        by_cases hx : x0 = 40
        · subst hx
          have E := hide (tok_br (s := s) (k := 21) (by rw [hx0]; decide) (by decide))
          have kk := (ST.out.rd.bel.cell (p := ⟨0, 0, none⟩) KH.out.lt).trans KH.out.k0
          clear hx0 hx1 hx2 hx3
          go_wp2
          have FA := (ST.out.inc 1 ((p : Int) + 1) (by omega) (by omega)).atR (by omega)
          have MM := Mod.trans M0.out (Mod.trans M.out (ST.out.mod ((p : Int) + 1)))
          refine bodyPost_ret (v := tkV 21 ⟨#[]⟩ 0 0 false false) (by simp [results, Tryz.results49, go_sem, tkV, c0, d1, c2, c3, c4, c5]) rfl ?_
          exact ⟨.tk (congrArg Prod.fst E.out), by rw [E.out]; repeat (first | (with_reducible exact FA) | (with_reducible refine AtR.put ?_ hb0 _ _)), by repeat (first | (with_reducible exact MM) | (with_reducible refine Mod.put ?_ (Nat.le_refl _) _ _))⟩
        · have R' := hide (nx_step R.out (show x0 ≠ [40, 41, 91, 93, 123, 125, 44, 58, 59].getD 0 0 from hx))
          have e1 : (x0 == 40) = false := by simpa using hx
          have e2 : ((40 : Int) == x0) = false := by simp; exact fun e => hx e.symm
          have e3 : ¬ (40 : Int) = x0 := fun e => hx e.symm
          go_wp2
          exact ⟨⟨.mk 1 (by omega) rfl R'.out, trivial⟩, by simp [intOf]⟩
      · rw [show (((1 : Nat)) : Int) = (1 : Int) from rfl]
        have sk := sing1
        by_cases hx : x0 = 41
        · subst hx
          have E := hide (tok_br (s := s) (k := 22) (by rw [hx0]; decide) (by decide))
          have kk := (ST.out.rd.bel.cell (p := ⟨0, 1, none⟩) KH.out.lt).trans KH.out.k1
          clear hx0 hx1 hx2 hx3
          go_wp2
          have FA := (ST.out.inc 1 ((p : Int) + 1) (by omega) (by omega)).atR (by omega)
          have MM := Mod.trans M0.out (Mod.trans M.out (ST.out.mod ((p : Int) + 1)))
          refine bodyPost_ret (v := tkV 22 ⟨#[]⟩ 0 0 false false) (by simp [results, Tryz.results49, go_sem, tkV, c0, d1, c2, c3, c4, c5]) rfl ?_
          exact ⟨.tk (congrArg Prod.fst E.out), by rw [E.out]; repeat (first | (with_reducible exact FA) | (with_reducible refine AtR.put ?_ hb0 _ _)), by repeat (first | (with_reducible exact MM) | (with_reducible refine Mod.put ?_ (Nat.le_refl _) _ _))⟩
        · have R' := hide (nx_step R.out (show x0 ≠ [40, 41, 91, 93, 123, 125, 44, 58, 59].getD 1 0 from hx))
          have e1 : (x0 == 41) = false := by simpa using hx
          have e2 : ((41 : Int) == x0) = false := by simp; exact fun e => hx e.symm
          have e3 : ¬ (41 : Int) = x0 := fun e => hx e.symm
          go_wp2
          exact ⟨⟨.mk 2 (by omega) rfl R'.out, trivial⟩, by simp [intOf]⟩
      · rw [show (((2 : Nat)) : Int) = (2 : Int) from rfl]
        have sk := sing2
        by_cases hx : x0 = 91
        · subst hx
          have E := hide (tok_br (s := s) (k := 19) (by rw [hx0]; decide) (by decide))
          have kk := (ST.out.rd.bel.cell (p := ⟨0, 2, none⟩) KH.out.lt).trans KH.out.k2
          clear hx0 hx1 hx2 hx3
          go_wp2
          have FA := (ST.out.inc 1 ((p : Int) + 1) (by omega) (by omega)).atR (by omega)
          have MM := Mod.trans M0.out (Mod.trans M.out (ST.out.mod ((p : Int) + 1)))
          refine bodyPost_ret (v := tkV 19 ⟨#[]⟩ 0 0 false false) (by simp [results, Tryz.results49, go_sem, tkV, c0, d1, c2, c3, c4, c5]) rfl ?_
          exact ⟨.tk (congrArg Prod.fst E.out), by rw [E.out]; repeat (first | (with_reducible exact FA) | (with_reducible refine AtR.put ?_ hb0 _ _)), by repeat (first | (with_reducible exact MM) | (with_reducible refine Mod.put ?_ (Nat.le_refl _) _ _))⟩
        · have R' := hide (nx_step R.out (show x0 ≠ [40, 41, 91, 93, 123, 125, 44, 58, 59].getD 2 0 from hx))
          have e1 : (x0 == 91) = false := by simpa using hx
          have e2 : ((91 : Int) == x0) = false := by simp; exact fun e => hx e.symm
          have e3 : ¬ (91 : Int) = x0 := fun e => hx e.symm
          go_wp2
          exact ⟨⟨.mk 3 (by omega) rfl R'.out, trivial⟩, by simp [intOf]⟩
      · rw [show (((3 : Nat)) : Int) = (3 : Int) from rfl]
        have sk := sing3
        by_cases hx : x0 = 93
        · subst hx
          have E := hide (tok_br (s := s) (k := 20) (by rw [hx0]; decide) (by decide))
          have kk := (ST.out.rd.bel.cell (p := ⟨0, 3, none⟩) KH.out.lt).trans KH.out.k3
          clear hx0 hx1 hx2 hx3
          go_wp2
          have FA := (ST.out.inc 1 ((p : Int) + 1) (by omega) (by omega)).atR (by omega)
          have MM := Mod.trans M0.out (Mod.trans M.out (ST.out.mod ((p : Int) + 1)))
          refine bodyPost_ret (v := tkV 20 ⟨#[]⟩ 0 0 false false) (by simp [results, Tryz.results49, go_sem, tkV, c0, d1, c2, c3, c4, c5]) rfl ?_
          exact ⟨.tk (congrArg Prod.fst E.out), by rw [E.out]; repeat (first | (with_reducible exact FA) | (with_reducible refine AtR.put ?_ hb0 _ _)), by repeat (first | (with_reducible exact MM) | (with_reducible refine Mod.put ?_ (Nat.le_refl _) _ _))⟩
        · have R' := hide (nx_step R.out (show x0 ≠ [40, 41, 91, 93, 123, 125, 44, 58, 59].getD 3 0 from hx))
          have e1 : (x0 == 93) = false := by simpa using hx
          have e2 : ((93 : Int) == x0) = false := by simp; exact fun e => hx e.symm
          have e3 : ¬ (93 : Int) = x0 := fun e => hx e.symm
          go_wp2
          exact ⟨⟨.mk 4 (by omega) rfl R'.out, trivial⟩, by simp [intOf]⟩
      · rw [show (((4 : Nat)) : Int) = (4 : Int) from rfl]
        have sk := sing4
        by_cases hx : x0 = 123
        · subst hx
          have E := hide (tok_br (s := s) (k := 23) (by rw [hx0]; decide) (by decide))
          have kk := (ST.out.rd.bel.cell (p := ⟨0, 4, none⟩) KH.out.lt).trans KH.out.k4
          clear hx0 hx1 hx2 hx3
          go_wp2
          have FA := (ST.out.inc 1 ((p : Int) + 1) (by omega) (by omega)).atR (by omega)
          have MM := Mod.trans M0.out (Mod.trans M.out (ST.out.mod ((p : Int) + 1)))
          refine bodyPost_ret (v := tkV 23 ⟨#[]⟩ 0 0 false false) (by simp [results, Tryz.results49, go_sem, tkV, c0, d1, c2, c3, c4, c5]) rfl ?_
          exact ⟨.tk (congrArg Prod.fst E.out), by rw [E.out]; repeat (first | (with_reducible exact FA) | (with_reducible refine AtR.put ?_ hb0 _ _)), by repeat (first | (with_reducible exact MM) | (with_reducible refine Mod.put ?_ (Nat.le_refl _) _ _))⟩
        · have R' := hide (nx_step R.out (show x0 ≠ [40, 41, 91, 93, 123, 125, 44, 58, 59].getD 4 0 from hx))
          have e1 : (x0 == 123) = false := by simpa using hx
          have e2 : ((123 : Int) == x0) = false := by simp; exact fun e => hx e.symm
          have e3 : ¬ (123 : Int) = x0 := fun e => hx e.symm
          go_wp2
          exact ⟨⟨.mk 5 (by omega) rfl R'.out, trivial⟩, by simp [intOf]⟩
      · rw [show (((5 : Nat)) : Int) = (5 : Int) from rfl]
        have sk := sing5
        by_cases hx : x0 = 125
        · subst hx
          have E := hide (tok_br (s := s) (k := 24) (by rw [hx0]; decide) (by decide))
          have kk := (ST.out.rd.bel.cell (p := ⟨0, 5, none⟩) KH.out.lt).trans KH.out.k5
          clear hx0 hx1 hx2 hx3
          go_wp2
          have FA := (ST.out.inc 1 ((p : Int) + 1) (by omega) (by omega)).atR (by omega)
          have MM := Mod.trans M0.out (Mod.trans M.out (ST.out.mod ((p : Int) + 1)))
          refine bodyPost_ret (v := tkV 24 ⟨#[]⟩ 0 0 false false) (by simp [results, Tryz.results49, go_sem, tkV, c0, d1, c2, c3, c4, c5]) rfl ?_
          exact ⟨.tk (congrArg Prod.fst E.out), by rw [E.out]; repeat (first | (with_reducible exact FA) | (with_reducible refine AtR.put ?_ hb0 _ _)), by repeat (first | (with_reducible exact MM) | (with_reducible refine Mod.put ?_ (Nat.le_refl _) _ _))⟩
        · have R' := hide (nx_step R.out (show x0 ≠ [40, 41, 91, 93, 123, 125, 44, 58, 59].getD 5 0 from hx))
          have e1 : (x0 == 125) = false := by simpa using hx
          have e2 : ((125 : Int) == x0) = false := by simp; exact fun e => hx e.symm
          have e3 : ¬ (125 : Int) = x0 := fun e => hx e.symm
          go_wp2
          exact ⟨⟨.mk 6 (by omega) rfl R'.out, trivial⟩, by simp [intOf]⟩
      · rw [show (((6 : Nat)) : Int) = (6 : Int) from rfl]
        have sk := sing6
        by_cases hx : x0 = 44
        · subst hx
          have E := hide (tok_br (s := s) (k := 18) (by rw [hx0]; decide) (by decide))
          have kk := (ST.out.rd.bel.cell (p := ⟨0, 6, none⟩) KH.out.lt).trans KH.out.k6
          clear hx0 hx1 hx2 hx3
          go_wp2
          have FA := (ST.out.inc 1 ((p : Int) + 1) (by omega) (by omega)).atR (by omega)
          have MM := Mod.trans M0.out (Mod.trans M.out (ST.out.mod ((p : Int) + 1)))
          refine bodyPost_ret (v := tkV 18 ⟨#[]⟩ 0 0 false false) (by simp [results, Tryz.results49, go_sem, tkV, c0, d1, c2, c3, c4, c5]) rfl ?_
          exact ⟨.tk (congrArg Prod.fst E.out), by rw [E.out]; repeat (first | (with_reducible exact FA) | (with_reducible refine AtR.put ?_ hb0 _ _)), by repeat (first | (with_reducible exact MM) | (with_reducible refine Mod.put ?_ (Nat.le_refl _) _ _))⟩
        · have R' := hide (nx_step R.out (show x0 ≠ [40, 41, 91, 93, 123, 125, 44, 58, 59].getD 6 0 from hx))
          have e1 : (x0 == 44) = false := by simpa using hx
          have e2 : ((44 : Int) == x0) = false := by simp; exact fun e => hx e.symm
          have e3 : ¬ (44 : Int) = x0 := fun e => hx e.symm
          go_wp2
          exact ⟨⟨.mk 7 (by omega) rfl R'.out, trivial⟩, by simp [intOf]⟩
      · rw [show (((7 : Nat)) : Int) = (7 : Int) from rfl]
        have sk := sing7
        by_cases hx : x0 = 58
        · subst hx
          have E := hide (tok_br (s := s) (k := 16) (by rw [hx0]; decide) (by decide))
          have kk := (ST.out.rd.bel.cell (p := ⟨0, 7, none⟩) KH.out.lt).trans KH.out.k7
          clear hx0 hx1 hx2 hx3
          go_wp2
          have FA := (ST.out.inc 1 ((p : Int) + 1) (by omega) (by omega)).atR (by omega)
          have MM := Mod.trans M0.out (Mod.trans M.out (ST.out.mod ((p : Int) + 1)))
          refine bodyPost_ret (v := tkV 16 ⟨#[]⟩ 0 0 false false) (by simp [results, Tryz.results49, go_sem, tkV, c0, d1, c2, c3, c4, c5]) rfl ?_
          exact ⟨.tk (congrArg Prod.fst E.out), by rw [E.out]; repeat (first | (with_reducible exact FA) | (with_reducible refine AtR.put ?_ hb0 _ _)), by repeat (first | (with_reducible exact MM) | (with_reducible refine Mod.put ?_ (Nat.le_refl _) _ _))⟩
        · have R' := hide (nx_step R.out (show x0 ≠ [40, 41, 91, 93, 123, 125, 44, 58, 59].getD 7 0 from hx))
          have e1 : (x0 == 58) = false := by simpa using hx
          have e2 : ((58 : Int) == x0) = false := by simp; exact fun e => hx e.symm
          have e3 : ¬ (58 : Int) = x0 := fun e => hx e.symm
          go_wp2
          exact ⟨⟨.mk 8 (by omega) rfl R'.out, trivial⟩, by simp [intOf]⟩
      · rw [show (((8 : Nat)) : Int) = (8 : Int) from rfl]
        have sk := sing8
        by_cases hx : x0 = 59
        · subst hx
          have E := hide (tok_br (s := s) (k := 17) (by rw [hx0]; decide) (by decide))
          have kk := (ST.out.rd.bel.cell (p := ⟨0, 8, none⟩) KH.out.lt).trans KH.out.k8
          clear hx0 hx1 hx2 hx3
          go_wp2
          have FA := (ST.out.inc 1 ((p : Int) + 1) (by omega) (by omega)).atR (by omega)
          have MM := Mod.trans M0.out (Mod.trans M.out (ST.out.mod ((p : Int) + 1)))
          refine bodyPost_ret (v := tkV 17 ⟨#[]⟩ 0 0 false false) (by simp [results, Tryz.results49, go_sem, tkV, c0, d1, c2, c3, c4, c5]) rfl ?_
          exact ⟨.tk (congrArg Prod.fst E.out), by rw [E.out]; repeat (first | (with_reducible exact FA) | (with_reducible refine AtR.put ?_ hb0 _ _)), by repeat (first | (with_reducible exact MM) | (with_reducible refine Mod.put ?_ (Nat.le_refl _) _ _))⟩
        · have R' := hide (nx_step R.out (show x0 ≠ [40, 41, 91, 93, 123, 125, 44, 58, 59].getD 8 0 from hx))
          have e1 : (x0 == 59) = false := by simpa using hx
          have e2 : ((59 : Int) == x0) = false := by simp; exact fun e => hx e.symm
          have e3 : ¬ (59 : Int) = x0 := fun e => hx e.symm
          go_wp2
          exact ⟨⟨.mk 9 (by omega) rfl R'.out, trivial⟩, by simp [intOf]⟩
    · obtain rfl : k = 9 := by omega
      have hnb := nx_none R.out
      have T0 : tokn s = nextR s := tokn_next s
      unfold nextR at T0
      rw [hx0, hx1, hx2, hx3, if_neg hnb] at T0
      clear R hlt hk hnb
      obtain ⟨t1, ht1⟩ : ∃ z, s.drop 1 = z := ⟨_, rfl⟩
      have T1 := hide ht1
      have lt1 : t1.length = s.length - 1 := by rw [← ht1, List.length_drop]
      have HY := hide (show nx t1 (Int.toNat 2) = x3 by rw [← ht1]; show nx (s.drop 1) 2 = x3; rw [nx_drop]; exact hx3)
      obtain ⟨yb, hyb⟩ : ∃ y, isBl x0 = y := ⟨_, rfl⟩
      have YB := hide hyb
      rw [hyb] at T0
      cases yb
      rotate_left
      · rw [if_pos rfl] at T0
        have E := hide T0
        clear T0 hx0 hx1 hx2 hx3 hyb ht1
        go_wp2_with (first
          | (go_at_call 58; refine (isBlR_any _ _).mono ?_; rintro e w2 ⟨rfl, rfl⟩; rw [YB.out])
          | (go_at_call 59; refine (blanksR_any T W _ b v l s (ST.out.at (by omega))).mono ?_; rintro e w6 ⟨rfl, A2, M2⟩; have A1 := hide A2; replace M := hide (Mod.trans M.out M2); clear A2 M2 c1 f1; (try clear f0 f2 f3 f4 f5 c0 c2 c3 c4 c5 g1 d1); obtain ⟨f0, g1, f2, f3, f4, f5, c0, d1, c2, c3, c4, c5⟩ := tok0_free (keep Z.out (Nat.ne_of_gt hb0) M.out)))
        have FA := A1.out.r
        have MM := Mod.trans M0.out M.out
        refine bodyPost_ret (v := tkV 13 ⟨#[]⟩ 0 0 false false) (by simp [results, Tryz.results49, go_sem, tkV, c0, d1, c2, c3, c4, c5]) rfl ?_
        exact ⟨.tk (congrArg Prod.fst E.out), by rw [E.out]; repeat (first | (with_reducible exact FA) | (with_reducible refine AtR.put ?_ hb0 _ _)), by repeat (first | (with_reducible exact MM) | (with_reducible refine Mod.put ?_ (Nat.le_refl _) _ _))⟩
      rw [if_neg (by simp)] at T0
      by_cases a34 : x0 = 34 ∨ x0 = 39
      · have Q0 := hide a34
        rw [if_pos ((isQ_iff _).2 a34), ht1] at T0
        clear hyb ht1
        rcases a34 with rfl | rfl
        all_goals
          generalize hq : str _ [] t1 = sr at T0
          obtain ⟨⟨k, tx, nu, de, wh, id⟩, r2⟩ := sr
          have UU := hide hq
          have E := hide T0
          clear T0 hq hx0 hx1 hx2 hx3
          go_wp2_with (first
            | (go_at_call 58; refine (isBlR_any _ _).mono ?_; rintro e w2 ⟨rfl, rfl⟩; rw [YB.out])
            | (go_at_call 60; refine (textR1_any T W _ b v l t1 _ (by first | exact .inl rfl | exact .inr rfl) L9.out (by have := ST.out.inc 1 ((p : Int) + 1) (by omega) (by omega); rw [T1.out] at this; exact this.at (by omega))).mono ?_; rintro e w8 ⟨⟨z8, he, hz8⟩, A2, M2⟩; rw [UU.out] at he hz8 A2; replace he : e = .returned (.agg #[.int .i64 k, .string z8, .int .i64 nu, .int .i64 de, .bool wh, .bool id]) := he; subst he; replace hz8 := hide hz8; have A3 := hide A2; replace M := hide (Mod.trans (Mod.trans M.out (ST.out.mod ((p : Int) + 1))) M2); clear A2 M2 c1 f1; (try clear f0 f2 f3 f4 f5 c0 c2 c3 c4 c5 g1 d1); obtain ⟨f0, g1, f2, f3, f4, f5, c0, d1, c2, c3, c4, c5⟩ := tok0_free (keep Z.out (Nat.ne_of_gt hb0) M.out)))
          have FA := A3.out
          have MM := Mod.trans M0.out M.out
          refine bodyPost_ret (v := tkV k z8 nu de wh id) (by simp [results, Tryz.results49, go_sem, tkV, c0, d1, c2, c3, c4, c5]) rfl ?_
          exact ⟨by rw [E.out]; exact ⟨z8, rfl, hz8.out⟩, by rw [E.out]; repeat (first | (with_reducible exact FA) | (with_reducible refine AtR.put ?_ hb0 _ _)), by repeat (first | (with_reducible exact MM) | (with_reducible refine Mod.put ?_ (Nat.le_refl _) _ _))⟩
      have n34 : (x0 == 34) = false := by simp; omega
      have n39 : (x0 == 39) = false := by simp; omega
      rw [if_neg (fun k => a34 ((isQ_iff _).1 k))] at T0
      by_cases a35 : x0 = 35
      · subst a35
        obtain ⟨yl, hyl⟩ : ∃ y, isLet x1 = y := ⟨_, rfl⟩
        have YL := hide hyl
        obtain ⟨ye, hye⟩ : ∃ y, es2 x1 x2 = y := ⟨_, rfl⟩
        have YE := hide hye
        rw [hyl, hye] at T0
        cases yl
        · cases ye
          · have YN := hide (show nuB 35 x1 x2 = false by simp [nuB, isSg, isDig])
            rw [if_neg (by simp), YN.out, if_neg (by simp), if_neg (by simp), if_neg (by simp), if_neg (by simp)] at T0
            clear hyb hyl hye
            by_cases m1 : x1 = -1
            · subst m1
              have YM := hide (show nmB 35 (-1) x2 = false by simp [nmB, isFst, es2])
              rw [YM.out, if_neg (by simp), ht1] at T0
              clear ht1
              have E := hide T0
              clear T0 hx0 hx1 hx2 hx3
              go_wp2_with (first
                | (go_at_call 58; refine (isBlR_any _ _).mono ?_; rintro e w2 ⟨rfl, rfl⟩; rw [YB.out])
                | (go_at_call 61; refine (isLetR_any _ _).mono ?_; rintro e w2 ⟨rfl, rfl⟩; rw [YL.out])
                | (go_at_call 62; refine (escR_any _ _ _).mono ?_; rintro e w2 ⟨rfl, rfl⟩; rw [YE.out])
                | (go_at_call 65; refine (numR_any _ _ _ _).mono ?_; rintro e w2 ⟨rfl, rfl⟩; rw [YN.out])
                | (go_at_call 63; refine (begR_any _ _ _ _).mono ?_; rintro e w2 ⟨rfl, rfl⟩; (first | (rw [YM.out]) | (rw [YM3.out])))
                | (go_at_call 48; refine (standAt_any T W _ b v l s p _ ST.out (by decide) (by decide)).mono ?_; rintro e w1 ⟨he, B1⟩; (first | (rw [H0.out] at he) | (rw [H1.out] at he) | (rw [H2.out] at he) | (rw [H3.out] at he)); subst he; replace ST := hide (ST.out.below B1); replace M := hide (Mod.trans M.out (Mod.of b B1)); (try clear c1 f1); have c1 := ST.out.c1; have f1 := ST.out.f1; (try clear f0 f2 f3 f4 f5 c0 c2 c3 c4 c5 g1 d1); obtain ⟨f0, g1, f2, f3, f4, f5, c0, d1, c2, c3, c4, c5⟩ := tok0_free (keep Z.out (Nat.ne_of_gt hb0) M.out); clear B1)
                | (go_at_call 68; refine (textR_any _ _ _ (Nums.litq2 (by simp) _ _) (by simp)).mono ?_; rintro e w13 ⟨z, rfl, hz, B3⟩; replace hz := hide hz; have B1 := bto (bplus (Below.refl _ _) _) B3; replace M := hide (Mod.trans (Mod.trans M.out (ST.out.mod ((p : Int) + 1))) (Mod.of b B1)); have S2 := ST.out.inc 1 ((p : Int) + 1) (by omega) (by omega); rw [T1.out] at S2; replace ST := hide (S2.below B1); clear B1 B3 S2 c1 f1; (try clear f0 f2 f3 f4 f5 c0 c2 c3 c4 c5 g1 d1); obtain ⟨f0, g1, f2, f3, f4, f5, c0, d1, c2, c3, c4, c5⟩ := tok0_free (keep Z.out (Nat.ne_of_gt hb0) M.out)))
              have FA := ST.out.atR (by omega)
              have MM := Mod.trans M0.out M.out
              refine bodyPost_ret (v := tkV 9 z 0 0 false false) (by simp [results, Tryz.results49, go_sem, tkV, c0, d1, c2, c3, c4, c5]) rfl ?_
              exact ⟨.tkt (congrArg Prod.fst E.out) hz.out, by rw [E.out]; repeat (first | (with_reducible exact FA) | (with_reducible refine AtR.put ?_ hb0 _ _)), by repeat (first | (with_reducible exact MM) | (with_reducible refine Mod.put ?_ (Nat.le_refl _) _ _))⟩
            · have m2 : (x1 != -1) = true := by simpa using m1
              have YM := hide (show nmB 35 x1 x2 = false by simp [nmB, isFst, es2])
              rw [YM.out, if_neg (by simp), ht1] at T0
              clear ht1
              have E := hide T0
              clear T0 hx0 hx1 hx2 hx3
              go_wp2_with (first
                | (go_at_call 58; refine (isBlR_any _ _).mono ?_; rintro e w2 ⟨rfl, rfl⟩; rw [YB.out])
                | (go_at_call 61; refine (isLetR_any _ _).mono ?_; rintro e w2 ⟨rfl, rfl⟩; rw [YL.out])
                | (go_at_call 62; refine (escR_any _ _ _).mono ?_; rintro e w2 ⟨rfl, rfl⟩; rw [YE.out])
                | (go_at_call 65; refine (numR_any _ _ _ _).mono ?_; rintro e w2 ⟨rfl, rfl⟩; rw [YN.out])
                | (go_at_call 63; refine (begR_any _ _ _ _).mono ?_; rintro e w2 ⟨rfl, rfl⟩; (first | (rw [YM.out]) | (rw [YM3.out])))
                | (go_at_call 48; refine (standAt_any T W _ b v l s p _ ST.out (by decide) (by decide)).mono ?_; rintro e w1 ⟨he, B1⟩; (first | (rw [H0.out] at he) | (rw [H1.out] at he) | (rw [H2.out] at he) | (rw [H3.out] at he)); subst he; replace ST := hide (ST.out.below B1); replace M := hide (Mod.trans M.out (Mod.of b B1)); (try clear c1 f1); have c1 := ST.out.c1; have f1 := ST.out.f1; (try clear f0 f2 f3 f4 f5 c0 c2 c3 c4 c5 g1 d1); obtain ⟨f0, g1, f2, f3, f4, f5, c0, d1, c2, c3, c4, c5⟩ := tok0_free (keep Z.out (Nat.ne_of_gt hb0) M.out); clear B1)
                | (go_at_call 68; refine (textR_any _ _ _ (Nums.litq2 (by simp) _ _) (by simp)).mono ?_; rintro e w13 ⟨z, rfl, hz, B3⟩; replace hz := hide hz; have B1 := bto (bplus (Below.refl _ _) _) B3; replace M := hide (Mod.trans (Mod.trans M.out (ST.out.mod ((p : Int) + 1))) (Mod.of b B1)); have S2 := ST.out.inc 1 ((p : Int) + 1) (by omega) (by omega); rw [T1.out] at S2; replace ST := hide (S2.below B1); clear B1 B3 S2 c1 f1; (try clear f0 f2 f3 f4 f5 c0 c2 c3 c4 c5 g1 d1); obtain ⟨f0, g1, f2, f3, f4, f5, c0, d1, c2, c3, c4, c5⟩ := tok0_free (keep Z.out (Nat.ne_of_gt hb0) M.out)))
              have FA := ST.out.atR (by omega)
              have MM := Mod.trans M0.out M.out
              refine bodyPost_ret (v := tkV 9 z 0 0 false false) (by simp [results, Tryz.results49, go_sem, tkV, c0, d1, c2, c3, c4, c5]) rfl ?_
              exact ⟨.tkt (congrArg Prod.fst E.out) hz.out, by rw [E.out]; repeat (first | (with_reducible exact FA) | (with_reducible refine AtR.put ?_ hb0 _ _)), by repeat (first | (with_reducible exact MM) | (with_reducible refine Mod.put ?_ (Nat.le_refl _) _ _))⟩
          · obtain rfl : x1 = 92 := by unfold es2 at hye; simp at hye; exact hye.1
            rw [if_pos ⟨rfl, by simp⟩] at T0
            clear hyl hye
            obtain ⟨⟨nm, rr⟩, hnm⟩ : ∃ z, nam [] t1 = z := ⟨_, rfl⟩
            obtain ⟨y3, hy3⟩ : ∃ y, nmB 92 x2 x3 = y := ⟨_, rfl⟩
            have NN := hide hnm
            have YM3 := hide hy3
            have E := hide (T0.trans (show hash s = (⟨4, enc nm, 0, 0, false, y3⟩, rr) by unfold hash; rw [hx1, hx2, hx3, ht1, hnm, hy3]))
            clear T0 hx0 hx1 hx2 hx3 ht1 hnm hy3 hyb
            go_wp2_with (first
              | (go_at_call 58; refine (isBlR_any _ _).mono ?_; rintro e w2 ⟨rfl, rfl⟩; rw [YB.out])
              | (go_at_call 61; refine (isLetR_any _ _).mono ?_; rintro e w2 ⟨rfl, rfl⟩; rw [YL.out])
              | (go_at_call 62; refine (escR_any _ _ _).mono ?_; rintro e w2 ⟨rfl, rfl⟩; rw [YE.out])
              | (go_at_call 48; refine (standAt_any T W _ b v l t1 (p + 1) _ (by have := ST.out.inc 1 ((p : Int) + 1) (by omega) (by omega); rw [T1.out] at this; exact this) (by decide) (by decide)).mono ?_; rintro e w1 ⟨he, B1⟩; rw [HY.out] at he; subst he; have ST2 := ST.out.inc 1 ((p : Int) + 1) (by omega) (by omega); rw [T1.out] at ST2; replace M := hide (Mod.trans (Mod.trans M.out (ST.out.mod ((p : Int) + 1))) (Mod.of b B1)); replace ST := hide (ST2.below B1); clear ST2 B1 c1 f1; (try clear f0 f2 f3 f4 f5 c0 c2 c3 c4 c5 g1 d1); obtain ⟨f0, g1, f2, f3, f4, f5, c0, d1, c2, c3, c4, c5⟩ := tok0_free (keep Z.out (Nat.ne_of_gt hb0) M.out))
              | (go_at_call 63; refine (begR_any _ _ _ _).mono ?_; rintro e w2 ⟨rfl, rfl⟩; (first | (rw [YM.out]) | (rw [YM3.out])))
              | (go_at_call 64; refine (nameR_any T W _ b v l t1 L9.out (ST.out.at (by omega))).mono ?_; rintro e w12 ⟨t', rfl, ht', A2, M2⟩; rw [NN.out] at ht' A2; replace ht' := hide ht'; have A1 := hide A2; replace M := hide (Mod.trans M.out M2); clear A2 M2 ; (try clear f0 f2 f3 f4 f5 c0 c2 c3 c4 c5 g1 d1); obtain ⟨f0, g1, f2, f3, f4, f5, c0, d1, c2, c3, c4, c5⟩ := tok0_free (keep Z.out (Nat.ne_of_gt hb0) M.out)))
            have FA := A1.out.r
            have MM := Mod.trans M0.out M.out
            refine bodyPost_ret (v := tkV 4 t' 0 0 false y3) (by simp [results, Tryz.results49, go_sem, tkV, c0, d1, c2, c3, c4, c5]) rfl ?_
            exact ⟨by rw [E.out]; exact ⟨t', rfl, ht'.out⟩, by rw [E.out]; repeat (first | (with_reducible exact FA) | (with_reducible refine AtR.put ?_ hb0 _ _)), by repeat (first | (with_reducible exact MM) | (with_reducible refine Mod.put ?_ (Nat.le_refl _) _ _))⟩
        · have m1 : x1 ≠ -1 := by intro e; rw [e] at hyl; exact absurd hyl (by decide)
          have m2 : (x1 != -1) = true := by simpa using m1
          rw [if_pos ⟨rfl, by simp⟩] at T0
          clear hyl hye
          obtain ⟨⟨nm, rr⟩, hnm⟩ : ∃ z, nam [] t1 = z := ⟨_, rfl⟩
          obtain ⟨y3, hy3⟩ : ∃ y, nmB x1 x2 x3 = y := ⟨_, rfl⟩
          have NN := hide hnm
          have YM3 := hide hy3
          have E := hide (T0.trans (show hash s = (⟨4, enc nm, 0, 0, false, y3⟩, rr) by unfold hash; rw [hx1, hx2, hx3, ht1, hnm, hy3]))
          clear T0 hx0 hx1 hx2 hx3 ht1 hnm hy3 hyb
          go_wp2_with (first
            | (go_at_call 58; refine (isBlR_any _ _).mono ?_; rintro e w2 ⟨rfl, rfl⟩; rw [YB.out])
            | (go_at_call 61; refine (isLetR_any _ _).mono ?_; rintro e w2 ⟨rfl, rfl⟩; rw [YL.out])
            | (go_at_call 62; refine (escR_any _ _ _).mono ?_; rintro e w2 ⟨rfl, rfl⟩; rw [YE.out])
            | (go_at_call 48; refine (standAt_any T W _ b v l t1 (p + 1) _ (by have := ST.out.inc 1 ((p : Int) + 1) (by omega) (by omega); rw [T1.out] at this; exact this) (by decide) (by decide)).mono ?_; rintro e w1 ⟨he, B1⟩; rw [HY.out] at he; subst he; have ST2 := ST.out.inc 1 ((p : Int) + 1) (by omega) (by omega); rw [T1.out] at ST2; replace M := hide (Mod.trans (Mod.trans M.out (ST.out.mod ((p : Int) + 1))) (Mod.of b B1)); replace ST := hide (ST2.below B1); clear ST2 B1 c1 f1; (try clear f0 f2 f3 f4 f5 c0 c2 c3 c4 c5 g1 d1); obtain ⟨f0, g1, f2, f3, f4, f5, c0, d1, c2, c3, c4, c5⟩ := tok0_free (keep Z.out (Nat.ne_of_gt hb0) M.out))
            | (go_at_call 63; refine (begR_any _ _ _ _).mono ?_; rintro e w2 ⟨rfl, rfl⟩; (first | (rw [YM.out]) | (rw [YM3.out])))
            | (go_at_call 64; refine (nameR_any T W _ b v l t1 L9.out (ST.out.at (by omega))).mono ?_; rintro e w12 ⟨t', rfl, ht', A2, M2⟩; rw [NN.out] at ht' A2; replace ht' := hide ht'; have A1 := hide A2; replace M := hide (Mod.trans M.out M2); clear A2 M2 ; (try clear f0 f2 f3 f4 f5 c0 c2 c3 c4 c5 g1 d1); obtain ⟨f0, g1, f2, f3, f4, f5, c0, d1, c2, c3, c4, c5⟩ := tok0_free (keep Z.out (Nat.ne_of_gt hb0) M.out)))
          have FA := A1.out.r
          have MM := Mod.trans M0.out M.out
          refine bodyPost_ret (v := tkV 4 t' 0 0 false y3) (by simp [results, Tryz.results49, go_sem, tkV, c0, d1, c2, c3, c4, c5]) rfl ?_
          exact ⟨by rw [E.out]; exact ⟨t', rfl, ht'.out⟩, by rw [E.out]; repeat (first | (with_reducible exact FA) | (with_reducible refine AtR.put ?_ hb0 _ _)), by repeat (first | (with_reducible exact MM) | (with_reducible refine Mod.put ?_ (Nat.le_refl _) _ _))⟩
      have n35 : (x0 == 35) = false := by simpa using a35
      rw [if_neg (fun k => a35 k.1)] at T0
      obtain ⟨yn, hyn⟩ : ∃ y, nuB x0 x1 x2 = y := ⟨_, rfl⟩
      have YN := hide hyn
      rw [hyn] at T0
      cases yn
      rotate_left
      · rw [if_pos rfl] at T0
        obtain ⟨⟨⟨k, tx, nu, de, wh, id⟩, r2⟩, hu2⟩ : ∃ z, numb s = z := ⟨_, rfl⟩
        rw [hu2] at T0
        have UU := hide hu2
        have E := hide T0
        clear T0 hu2 hx0 hx1 hx2 hx3
        clear hyb hyn ht1
        go_wp2_with (first
          | (go_at_call 58; refine (isBlR_any _ _).mono ?_; rintro e w2 ⟨rfl, rfl⟩; rw [YB.out])
          | (go_at_call 65; refine (numR_any _ _ _ _).mono ?_; rintro e w2 ⟨rfl, rfl⟩; rw [YN.out])
          | (go_at_call 66; refine (figureR_any T W _ b v l s L0.out HN.out (ST.out.at (by omega))).mono ?_; rintro e w8 ⟨⟨z8, he, hz8⟩, A2, M2⟩; rw [UU.out] at he hz8 A2; replace he : e = .returned (.agg #[.int .i64 k, .string z8, .int .i64 nu, .int .i64 de, .bool wh, .bool id]) := he; subst he; replace hz8 := hide hz8; have A3 := hide A2; replace M := hide (Mod.trans M.out M2); clear A2 M2 c1 f1; (try clear f0 f2 f3 f4 f5 c0 c2 c3 c4 c5 g1 d1); obtain ⟨f0, g1, f2, f3, f4, f5, c0, d1, c2, c3, c4, c5⟩ := tok0_free (keep Z.out (Nat.ne_of_gt hb0) M.out)))
        have FA := A3.out.r
        have MM := Mod.trans M0.out M.out
        refine bodyPost_ret (v := tkV k z8 nu de wh id) (by simp [results, Tryz.results49, go_sem, tkV, c0, d1, c2, c3, c4, c5]) rfl ?_
        exact ⟨by rw [E.out]; exact ⟨z8, rfl, hz8.out⟩, by rw [E.out]; repeat (first | (with_reducible exact FA) | (with_reducible refine AtR.put ?_ hb0 _ _)), by repeat (first | (with_reducible exact MM) | (with_reducible refine Mod.put ?_ (Nat.le_refl _) _ _))⟩
      rw [if_neg (by simp)] at T0
      clear hyb hyn
      by_cases a45 : x0 = 45
      · subst a45
        by_cases b45 : x1 = 45
        · subst b45
          by_cases c62 : x2 = 62
          · subst c62
            rw [if_pos ⟨rfl, rfl, rfl⟩] at T0
            have E := hide T0
            have L3 : 2 < s.length := nx_len (s := s) (k := 2) (by rw [hx2]; decide)
            clear T0 hx0 hx1 hx2 hx3 ht1
            go_wp2_with (first
              | (go_at_call 58; refine (isBlR_any _ _).mono ?_; rintro e w2 ⟨rfl, rfl⟩; rw [YB.out])
              | (go_at_call 65; refine (numR_any _ _ _ _).mono ?_; rintro e w2 ⟨rfl, rfl⟩; rw [YN.out]))
            have FA := (ST.out.inc 3 ((p : Int) + 3) (by omega) (by omega)).atR (by omega)
            have MM := Mod.trans M0.out (Mod.trans M.out (ST.out.mod ((p : Int) + 3)))
            refine bodyPost_ret (v := tkV 15 ⟨#[]⟩ 0 0 false false) (by simp [results, Tryz.results49, go_sem, tkV, c0, d1, c2, c3, c4, c5]) rfl ?_
            exact ⟨.tk (congrArg Prod.fst E.out), by rw [E.out]; repeat (first | (with_reducible exact FA) | (with_reducible refine AtR.put ?_ hb0 _ _)), by repeat (first | (with_reducible exact MM) | (with_reducible refine Mod.put ?_ (Nat.le_refl _) _ _))⟩
          · have n62 : (x2 == 62) = false := by simpa using c62
            rw [if_neg (fun k => c62 k.2.2), if_neg (by simp), if_neg (by simp), ht1] at T0
            clear ht1
            obtain ⟨ym, hym⟩ : ∃ y, nmB 45 45 x2 = y := ⟨_, rfl⟩
            have YM := hide hym
            rw [hym] at T0
            cases ym
            · rw [if_neg (by simp)] at T0
              have E := hide T0
              clear T0 hx0 hx1 hx2 hx3
              go_wp2_with (first
                | (go_at_call 58; refine (isBlR_any _ _).mono ?_; rintro e w2 ⟨rfl, rfl⟩; rw [YB.out])
                | (go_at_call 61; refine (isLetR_any _ _).mono ?_; rintro e w2 ⟨rfl, rfl⟩; rw [YL.out])
                | (go_at_call 62; refine (escR_any _ _ _).mono ?_; rintro e w2 ⟨rfl, rfl⟩; rw [YE.out])
                | (go_at_call 65; refine (numR_any _ _ _ _).mono ?_; rintro e w2 ⟨rfl, rfl⟩; rw [YN.out])
                | (go_at_call 63; refine (begR_any _ _ _ _).mono ?_; rintro e w2 ⟨rfl, rfl⟩; (first | (rw [YM.out]) | (rw [YM3.out])))
                | (go_at_call 48; refine (standAt_any T W _ b v l s p _ ST.out (by decide) (by decide)).mono ?_; rintro e w1 ⟨he, B1⟩; (first | (rw [H0.out] at he) | (rw [H1.out] at he) | (rw [H2.out] at he) | (rw [H3.out] at he)); subst he; replace ST := hide (ST.out.below B1); replace M := hide (Mod.trans M.out (Mod.of b B1)); (try clear c1 f1); have c1 := ST.out.c1; have f1 := ST.out.f1; (try clear f0 f2 f3 f4 f5 c0 c2 c3 c4 c5 g1 d1); obtain ⟨f0, g1, f2, f3, f4, f5, c0, d1, c2, c3, c4, c5⟩ := tok0_free (keep Z.out (Nat.ne_of_gt hb0) M.out); clear B1)
                | (go_at_call 68; refine (textR_any _ _ _ (Nums.litq2 (by simp) _ _) (by simp)).mono ?_; rintro e w13 ⟨z, rfl, hz, B3⟩; replace hz := hide hz; have B1 := bto (bplus (Below.refl _ _) _) B3; replace M := hide (Mod.trans (Mod.trans M.out (ST.out.mod ((p : Int) + 1))) (Mod.of b B1)); have S2 := ST.out.inc 1 ((p : Int) + 1) (by omega) (by omega); rw [T1.out] at S2; replace ST := hide (S2.below B1); clear B1 B3 S2 c1 f1; (try clear f0 f2 f3 f4 f5 c0 c2 c3 c4 c5 g1 d1); obtain ⟨f0, g1, f2, f3, f4, f5, c0, d1, c2, c3, c4, c5⟩ := tok0_free (keep Z.out (Nat.ne_of_gt hb0) M.out)))
              have FA := ST.out.atR (by omega)
              have MM := Mod.trans M0.out M.out
              refine bodyPost_ret (v := tkV 9 z 0 0 false false) (by simp [results, Tryz.results49, go_sem, tkV, c0, d1, c2, c3, c4, c5]) rfl ?_
              exact ⟨.tkt (congrArg Prod.fst E.out) hz.out, by rw [E.out]; repeat (first | (with_reducible exact FA) | (with_reducible refine AtR.put ?_ hb0 _ _)), by repeat (first | (with_reducible exact MM) | (with_reducible refine Mod.put ?_ (Nat.le_refl _) _ _))⟩
            · rw [if_pos rfl] at T0
              obtain ⟨⟨⟨k, tx, nu, de, wh, id⟩, r2⟩, hu2⟩ : ∃ z, word s = z := ⟨_, rfl⟩
              rw [hu2] at T0
              have UU := hide hu2
              have E := hide T0
              clear T0 hu2 hx0 hx1 hx2 hx3
              go_wp2_with (first
                | (go_at_call 58; refine (isBlR_any _ _).mono ?_; rintro e w2 ⟨rfl, rfl⟩; rw [YB.out])
                | (go_at_call 61; refine (isLetR_any _ _).mono ?_; rintro e w2 ⟨rfl, rfl⟩; rw [YL.out])
                | (go_at_call 62; refine (escR_any _ _ _).mono ?_; rintro e w2 ⟨rfl, rfl⟩; rw [YE.out])
                | (go_at_call 65; refine (numR_any _ _ _ _).mono ?_; rintro e w2 ⟨rfl, rfl⟩; rw [YN.out])
                | (go_at_call 63; refine (begR_any _ _ _ _).mono ?_; rintro e w2 ⟨rfl, rfl⟩; (first | (rw [YM.out]) | (rw [YM3.out])))
                | (go_at_call 48; refine (standAt_any T W _ b v l s p _ ST.out (by decide) (by decide)).mono ?_; rintro e w1 ⟨he, B1⟩; (first | (rw [H0.out] at he) | (rw [H1.out] at he) | (rw [H2.out] at he) | (rw [H3.out] at he)); subst he; replace ST := hide (ST.out.below B1); replace M := hide (Mod.trans M.out (Mod.of b B1)); (try clear c1 f1); have c1 := ST.out.c1; have f1 := ST.out.f1; (try clear f0 f2 f3 f4 f5 c0 c2 c3 c4 c5 g1 d1); obtain ⟨f0, g1, f2, f3, f4, f5, c0, d1, c2, c3, c4, c5⟩ := tok0_free (keep Z.out (Nat.ne_of_gt hb0) M.out); clear B1)
                | (go_at_call 67; refine (wordR_any T W _ b v l s L0.out (ST.out.at (by omega))).mono ?_; rintro e w8 ⟨⟨z8, he, hz8⟩, A2, M2⟩; rw [UU.out] at he hz8 A2; replace he : e = .returned (.agg #[.int .i64 k, .string z8, .int .i64 nu, .int .i64 de, .bool wh, .bool id]) := he; subst he; replace hz8 := hide hz8; have A3 := hide A2; replace M := hide (Mod.trans M.out M2); clear A2 M2 c1 f1; (try clear f0 f2 f3 f4 f5 c0 c2 c3 c4 c5 g1 d1); obtain ⟨f0, g1, f2, f3, f4, f5, c0, d1, c2, c3, c4, c5⟩ := tok0_free (keep Z.out (Nat.ne_of_gt hb0) M.out)))
              have FA := A3.out
              have MM := Mod.trans M0.out M.out
              refine bodyPost_ret (v := tkV k z8 nu de wh id) (by simp [results, Tryz.results49, go_sem, tkV, c0, d1, c2, c3, c4, c5]) rfl ?_
              exact ⟨by rw [E.out]; exact ⟨z8, rfl, hz8.out⟩, by rw [E.out]; repeat (first | (with_reducible exact FA) | (with_reducible refine AtR.put ?_ hb0 _ _)), by repeat (first | (with_reducible exact MM) | (with_reducible refine Mod.put ?_ (Nat.le_refl _) _ _))⟩
        · have m45 : (x1 == 45) = false := by simpa using b45
          rw [if_neg (fun k => b45 k.2.1), if_neg (by simp), if_neg (by simp), ht1] at T0
          clear ht1
          obtain ⟨ym, hym⟩ : ∃ y, nmB 45 x1 x2 = y := ⟨_, rfl⟩
          have YM := hide hym
          rw [hym] at T0
          cases ym
          · rw [if_neg (by simp)] at T0
            have E := hide T0
            clear T0 hx0 hx1 hx2 hx3
            go_wp2_with (first
              | (go_at_call 58; refine (isBlR_any _ _).mono ?_; rintro e w2 ⟨rfl, rfl⟩; rw [YB.out])
              | (go_at_call 61; refine (isLetR_any _ _).mono ?_; rintro e w2 ⟨rfl, rfl⟩; rw [YL.out])
              | (go_at_call 62; refine (escR_any _ _ _).mono ?_; rintro e w2 ⟨rfl, rfl⟩; rw [YE.out])
              | (go_at_call 65; refine (numR_any _ _ _ _).mono ?_; rintro e w2 ⟨rfl, rfl⟩; rw [YN.out])
              | (go_at_call 63; refine (begR_any _ _ _ _).mono ?_; rintro e w2 ⟨rfl, rfl⟩; (first | (rw [YM.out]) | (rw [YM3.out])))
              | (go_at_call 48; refine (standAt_any T W _ b v l s p _ ST.out (by decide) (by decide)).mono ?_; rintro e w1 ⟨he, B1⟩; (first | (rw [H0.out] at he) | (rw [H1.out] at he) | (rw [H2.out] at he) | (rw [H3.out] at he)); subst he; replace ST := hide (ST.out.below B1); replace M := hide (Mod.trans M.out (Mod.of b B1)); (try clear c1 f1); have c1 := ST.out.c1; have f1 := ST.out.f1; (try clear f0 f2 f3 f4 f5 c0 c2 c3 c4 c5 g1 d1); obtain ⟨f0, g1, f2, f3, f4, f5, c0, d1, c2, c3, c4, c5⟩ := tok0_free (keep Z.out (Nat.ne_of_gt hb0) M.out); clear B1)
              | (go_at_call 68; refine (textR_any _ _ _ (Nums.litq2 (by simp) _ _) (by simp)).mono ?_; rintro e w13 ⟨z, rfl, hz, B3⟩; replace hz := hide hz; have B1 := bto (bplus (Below.refl _ _) _) B3; replace M := hide (Mod.trans (Mod.trans M.out (ST.out.mod ((p : Int) + 1))) (Mod.of b B1)); have S2 := ST.out.inc 1 ((p : Int) + 1) (by omega) (by omega); rw [T1.out] at S2; replace ST := hide (S2.below B1); clear B1 B3 S2 c1 f1; (try clear f0 f2 f3 f4 f5 c0 c2 c3 c4 c5 g1 d1); obtain ⟨f0, g1, f2, f3, f4, f5, c0, d1, c2, c3, c4, c5⟩ := tok0_free (keep Z.out (Nat.ne_of_gt hb0) M.out)))
            have FA := ST.out.atR (by omega)
            have MM := Mod.trans M0.out M.out
            refine bodyPost_ret (v := tkV 9 z 0 0 false false) (by simp [results, Tryz.results49, go_sem, tkV, c0, d1, c2, c3, c4, c5]) rfl ?_
            exact ⟨.tkt (congrArg Prod.fst E.out) hz.out, by rw [E.out]; repeat (first | (with_reducible exact FA) | (with_reducible refine AtR.put ?_ hb0 _ _)), by repeat (first | (with_reducible exact MM) | (with_reducible refine Mod.put ?_ (Nat.le_refl _) _ _))⟩
          · rw [if_pos rfl] at T0
            obtain ⟨⟨⟨k, tx, nu, de, wh, id⟩, r2⟩, hu2⟩ : ∃ z, word s = z := ⟨_, rfl⟩
            rw [hu2] at T0
            have UU := hide hu2
            have E := hide T0
            clear T0 hu2 hx0 hx1 hx2 hx3
            go_wp2_with (first
              | (go_at_call 58; refine (isBlR_any _ _).mono ?_; rintro e w2 ⟨rfl, rfl⟩; rw [YB.out])
              | (go_at_call 61; refine (isLetR_any _ _).mono ?_; rintro e w2 ⟨rfl, rfl⟩; rw [YL.out])
              | (go_at_call 62; refine (escR_any _ _ _).mono ?_; rintro e w2 ⟨rfl, rfl⟩; rw [YE.out])
              | (go_at_call 65; refine (numR_any _ _ _ _).mono ?_; rintro e w2 ⟨rfl, rfl⟩; rw [YN.out])
              | (go_at_call 63; refine (begR_any _ _ _ _).mono ?_; rintro e w2 ⟨rfl, rfl⟩; (first | (rw [YM.out]) | (rw [YM3.out])))
              | (go_at_call 48; refine (standAt_any T W _ b v l s p _ ST.out (by decide) (by decide)).mono ?_; rintro e w1 ⟨he, B1⟩; (first | (rw [H0.out] at he) | (rw [H1.out] at he) | (rw [H2.out] at he) | (rw [H3.out] at he)); subst he; replace ST := hide (ST.out.below B1); replace M := hide (Mod.trans M.out (Mod.of b B1)); (try clear c1 f1); have c1 := ST.out.c1; have f1 := ST.out.f1; (try clear f0 f2 f3 f4 f5 c0 c2 c3 c4 c5 g1 d1); obtain ⟨f0, g1, f2, f3, f4, f5, c0, d1, c2, c3, c4, c5⟩ := tok0_free (keep Z.out (Nat.ne_of_gt hb0) M.out); clear B1)
              | (go_at_call 67; refine (wordR_any T W _ b v l s L0.out (ST.out.at (by omega))).mono ?_; rintro e w8 ⟨⟨z8, he, hz8⟩, A2, M2⟩; rw [UU.out] at he hz8 A2; replace he : e = .returned (.agg #[.int .i64 k, .string z8, .int .i64 nu, .int .i64 de, .bool wh, .bool id]) := he; subst he; replace hz8 := hide hz8; have A3 := hide A2; replace M := hide (Mod.trans M.out M2); clear A2 M2 c1 f1; (try clear f0 f2 f3 f4 f5 c0 c2 c3 c4 c5 g1 d1); obtain ⟨f0, g1, f2, f3, f4, f5, c0, d1, c2, c3, c4, c5⟩ := tok0_free (keep Z.out (Nat.ne_of_gt hb0) M.out)))
            have FA := A3.out
            have MM := Mod.trans M0.out M.out
            refine bodyPost_ret (v := tkV k z8 nu de wh id) (by simp [results, Tryz.results49, go_sem, tkV, c0, d1, c2, c3, c4, c5]) rfl ?_
            exact ⟨by rw [E.out]; exact ⟨z8, rfl, hz8.out⟩, by rw [E.out]; repeat (first | (with_reducible exact FA) | (with_reducible refine AtR.put ?_ hb0 _ _)), by repeat (first | (with_reducible exact MM) | (with_reducible refine Mod.put ?_ (Nat.le_refl _) _ _))⟩
      have n45 : (x0 == 45) = false := by simpa using a45
      rw [if_neg (fun k => a45 k.1)] at T0
      by_cases a60 : x0 = 60
      · subst a60
        by_cases b33 : x1 = 33
        · subst b33
          by_cases c45 : x2 = 45
          · subst c45
            by_cases d45 : x3 = 45
            · subst d45
              rw [if_pos ⟨rfl, rfl, rfl, rfl⟩] at T0
              have E := hide T0
              have L4 : 3 < s.length := nx_len (s := s) (k := 3) (by rw [hx3]; decide)
              clear T0 hx0 hx1 hx2 hx3 ht1
              go_wp2_with (first
                | (go_at_call 58; refine (isBlR_any _ _).mono ?_; rintro e w2 ⟨rfl, rfl⟩; rw [YB.out])
                | (go_at_call 65; refine (numR_any _ _ _ _).mono ?_; rintro e w2 ⟨rfl, rfl⟩; rw [YN.out])
                | (go_at_call 48; refine (standAt_any T W _ b v l s p _ ST.out (by decide) (by decide)).mono ?_; rintro e w1 ⟨he, B1⟩; (first | (rw [H0.out] at he) | (rw [H1.out] at he) | (rw [H2.out] at he) | (rw [H3.out] at he)); subst he; replace ST := hide (ST.out.below B1); replace M := hide (Mod.trans M.out (Mod.of b B1)); (try clear c1 f1); have c1 := ST.out.c1; have f1 := ST.out.f1; (try clear f0 f2 f3 f4 f5 c0 c2 c3 c4 c5 g1 d1); obtain ⟨f0, g1, f2, f3, f4, f5, c0, d1, c2, c3, c4, c5⟩ := tok0_free (keep Z.out (Nat.ne_of_gt hb0) M.out); clear B1))
              have FA := (ST.out.inc 4 ((p : Int) + 4) (by omega) (by omega)).atR (by omega)
              have MM := Mod.trans M0.out (Mod.trans M.out (ST.out.mod ((p : Int) + 4)))
              refine bodyPost_ret (v := tkV 14 ⟨#[]⟩ 0 0 false false) (by simp [results, Tryz.results49, go_sem, tkV, c0, d1, c2, c3, c4, c5]) rfl ?_
              exact ⟨.tk (congrArg Prod.fst E.out), by rw [E.out]; repeat (first | (with_reducible exact FA) | (with_reducible refine AtR.put ?_ hb0 _ _)), by repeat (first | (with_reducible exact MM) | (with_reducible refine Mod.put ?_ (Nat.le_refl _) _ _))⟩
            · have q3 : (x3 == 45) = false := by simpa using d45
              rw [if_neg (fun k => d45 k.2.2.2), if_neg (by simp)] at T0
              have YM := hide (show nmB 60 33 45 = false by simp [nmB, isFst, es2])
              rw [YM.out, if_neg (by simp), ht1] at T0
              clear ht1
              have E := hide T0
              clear T0 hx0 hx1 hx2 hx3
              go_wp2_with (first
                | (go_at_call 58; refine (isBlR_any _ _).mono ?_; rintro e w2 ⟨rfl, rfl⟩; rw [YB.out])
                | (go_at_call 61; refine (isLetR_any _ _).mono ?_; rintro e w2 ⟨rfl, rfl⟩; rw [YL.out])
                | (go_at_call 62; refine (escR_any _ _ _).mono ?_; rintro e w2 ⟨rfl, rfl⟩; rw [YE.out])
                | (go_at_call 65; refine (numR_any _ _ _ _).mono ?_; rintro e w2 ⟨rfl, rfl⟩; rw [YN.out])
                | (go_at_call 63; refine (begR_any _ _ _ _).mono ?_; rintro e w2 ⟨rfl, rfl⟩; (first | (rw [YM.out]) | (rw [YM3.out])))
                | (go_at_call 48; refine (standAt_any T W _ b v l s p _ ST.out (by decide) (by decide)).mono ?_; rintro e w1 ⟨he, B1⟩; (first | (rw [H0.out] at he) | (rw [H1.out] at he) | (rw [H2.out] at he) | (rw [H3.out] at he)); subst he; replace ST := hide (ST.out.below B1); replace M := hide (Mod.trans M.out (Mod.of b B1)); (try clear c1 f1); have c1 := ST.out.c1; have f1 := ST.out.f1; (try clear f0 f2 f3 f4 f5 c0 c2 c3 c4 c5 g1 d1); obtain ⟨f0, g1, f2, f3, f4, f5, c0, d1, c2, c3, c4, c5⟩ := tok0_free (keep Z.out (Nat.ne_of_gt hb0) M.out); clear B1)
                | (go_at_call 68; refine (textR_any _ _ _ (Nums.litq2 (by simp) _ _) (by simp)).mono ?_; rintro e w13 ⟨z, rfl, hz, B3⟩; replace hz := hide hz; have B1 := bto (bplus (Below.refl _ _) _) B3; replace M := hide (Mod.trans (Mod.trans M.out (ST.out.mod ((p : Int) + 1))) (Mod.of b B1)); have S2 := ST.out.inc 1 ((p : Int) + 1) (by omega) (by omega); rw [T1.out] at S2; replace ST := hide (S2.below B1); clear B1 B3 S2 c1 f1; (try clear f0 f2 f3 f4 f5 c0 c2 c3 c4 c5 g1 d1); obtain ⟨f0, g1, f2, f3, f4, f5, c0, d1, c2, c3, c4, c5⟩ := tok0_free (keep Z.out (Nat.ne_of_gt hb0) M.out)))
              have FA := ST.out.atR (by omega)
              have MM := Mod.trans M0.out M.out
              refine bodyPost_ret (v := tkV 9 z 0 0 false false) (by simp [results, Tryz.results49, go_sem, tkV, c0, d1, c2, c3, c4, c5]) rfl ?_
              exact ⟨.tkt (congrArg Prod.fst E.out) hz.out, by rw [E.out]; repeat (first | (with_reducible exact FA) | (with_reducible refine AtR.put ?_ hb0 _ _)), by repeat (first | (with_reducible exact MM) | (with_reducible refine Mod.put ?_ (Nat.le_refl _) _ _))⟩
          · have q2 : (x2 == 45) = false := by simpa using c45
            rw [if_neg (fun k => c45 k.2.2.1), if_neg (by simp)] at T0
            have YM := hide (show nmB 60 33 x2 = false by simp [nmB, isFst, es2])
            rw [YM.out, if_neg (by simp), ht1] at T0
            clear ht1
            have E := hide T0
            clear T0 hx0 hx1 hx2 hx3
            go_wp2_with (first
              | (go_at_call 58; refine (isBlR_any _ _).mono ?_; rintro e w2 ⟨rfl, rfl⟩; rw [YB.out])
              | (go_at_call 61; refine (isLetR_any _ _).mono ?_; rintro e w2 ⟨rfl, rfl⟩; rw [YL.out])
              | (go_at_call 62; refine (escR_any _ _ _).mono ?_; rintro e w2 ⟨rfl, rfl⟩; rw [YE.out])
              | (go_at_call 65; refine (numR_any _ _ _ _).mono ?_; rintro e w2 ⟨rfl, rfl⟩; rw [YN.out])
              | (go_at_call 63; refine (begR_any _ _ _ _).mono ?_; rintro e w2 ⟨rfl, rfl⟩; (first | (rw [YM.out]) | (rw [YM3.out])))
              | (go_at_call 48; refine (standAt_any T W _ b v l s p _ ST.out (by decide) (by decide)).mono ?_; rintro e w1 ⟨he, B1⟩; (first | (rw [H0.out] at he) | (rw [H1.out] at he) | (rw [H2.out] at he) | (rw [H3.out] at he)); subst he; replace ST := hide (ST.out.below B1); replace M := hide (Mod.trans M.out (Mod.of b B1)); (try clear c1 f1); have c1 := ST.out.c1; have f1 := ST.out.f1; (try clear f0 f2 f3 f4 f5 c0 c2 c3 c4 c5 g1 d1); obtain ⟨f0, g1, f2, f3, f4, f5, c0, d1, c2, c3, c4, c5⟩ := tok0_free (keep Z.out (Nat.ne_of_gt hb0) M.out); clear B1)
              | (go_at_call 68; refine (textR_any _ _ _ (Nums.litq2 (by simp) _ _) (by simp)).mono ?_; rintro e w13 ⟨z, rfl, hz, B3⟩; replace hz := hide hz; have B1 := bto (bplus (Below.refl _ _) _) B3; replace M := hide (Mod.trans (Mod.trans M.out (ST.out.mod ((p : Int) + 1))) (Mod.of b B1)); have S2 := ST.out.inc 1 ((p : Int) + 1) (by omega) (by omega); rw [T1.out] at S2; replace ST := hide (S2.below B1); clear B1 B3 S2 c1 f1; (try clear f0 f2 f3 f4 f5 c0 c2 c3 c4 c5 g1 d1); obtain ⟨f0, g1, f2, f3, f4, f5, c0, d1, c2, c3, c4, c5⟩ := tok0_free (keep Z.out (Nat.ne_of_gt hb0) M.out)))
            have FA := ST.out.atR (by omega)
            have MM := Mod.trans M0.out M.out
            refine bodyPost_ret (v := tkV 9 z 0 0 false false) (by simp [results, Tryz.results49, go_sem, tkV, c0, d1, c2, c3, c4, c5]) rfl ?_
            exact ⟨.tkt (congrArg Prod.fst E.out) hz.out, by rw [E.out]; repeat (first | (with_reducible exact FA) | (with_reducible refine AtR.put ?_ hb0 _ _)), by repeat (first | (with_reducible exact MM) | (with_reducible refine Mod.put ?_ (Nat.le_refl _) _ _))⟩
        · have q1 : (x1 == 33) = false := by simpa using b33
          rw [if_neg (fun k => b33 k.2.1), if_neg (by simp)] at T0
          have YM := hide (show nmB 60 x1 x2 = false by simp [nmB, isFst, es2])
          rw [YM.out, if_neg (by simp), ht1] at T0
          clear ht1
          have E := hide T0
          clear T0 hx0 hx1 hx2 hx3
          go_wp2_with (first
            | (go_at_call 58; refine (isBlR_any _ _).mono ?_; rintro e w2 ⟨rfl, rfl⟩; rw [YB.out])
            | (go_at_call 61; refine (isLetR_any _ _).mono ?_; rintro e w2 ⟨rfl, rfl⟩; rw [YL.out])
            | (go_at_call 62; refine (escR_any _ _ _).mono ?_; rintro e w2 ⟨rfl, rfl⟩; rw [YE.out])
            | (go_at_call 65; refine (numR_any _ _ _ _).mono ?_; rintro e w2 ⟨rfl, rfl⟩; rw [YN.out])
            | (go_at_call 63; refine (begR_any _ _ _ _).mono ?_; rintro e w2 ⟨rfl, rfl⟩; (first | (rw [YM.out]) | (rw [YM3.out])))
            | (go_at_call 48; refine (standAt_any T W _ b v l s p _ ST.out (by decide) (by decide)).mono ?_; rintro e w1 ⟨he, B1⟩; (first | (rw [H0.out] at he) | (rw [H1.out] at he) | (rw [H2.out] at he) | (rw [H3.out] at he)); subst he; replace ST := hide (ST.out.below B1); replace M := hide (Mod.trans M.out (Mod.of b B1)); (try clear c1 f1); have c1 := ST.out.c1; have f1 := ST.out.f1; (try clear f0 f2 f3 f4 f5 c0 c2 c3 c4 c5 g1 d1); obtain ⟨f0, g1, f2, f3, f4, f5, c0, d1, c2, c3, c4, c5⟩ := tok0_free (keep Z.out (Nat.ne_of_gt hb0) M.out); clear B1)
            | (go_at_call 68; refine (textR_any _ _ _ (Nums.litq2 (by simp) _ _) (by simp)).mono ?_; rintro e w13 ⟨z, rfl, hz, B3⟩; replace hz := hide hz; have B1 := bto (bplus (Below.refl _ _) _) B3; replace M := hide (Mod.trans (Mod.trans M.out (ST.out.mod ((p : Int) + 1))) (Mod.of b B1)); have S2 := ST.out.inc 1 ((p : Int) + 1) (by omega) (by omega); rw [T1.out] at S2; replace ST := hide (S2.below B1); clear B1 B3 S2 c1 f1; (try clear f0 f2 f3 f4 f5 c0 c2 c3 c4 c5 g1 d1); obtain ⟨f0, g1, f2, f3, f4, f5, c0, d1, c2, c3, c4, c5⟩ := tok0_free (keep Z.out (Nat.ne_of_gt hb0) M.out)))
          have FA := ST.out.atR (by omega)
          have MM := Mod.trans M0.out M.out
          refine bodyPost_ret (v := tkV 9 z 0 0 false false) (by simp [results, Tryz.results49, go_sem, tkV, c0, d1, c2, c3, c4, c5]) rfl ?_
          exact ⟨.tkt (congrArg Prod.fst E.out) hz.out, by rw [E.out]; repeat (first | (with_reducible exact FA) | (with_reducible refine AtR.put ?_ hb0 _ _)), by repeat (first | (with_reducible exact MM) | (with_reducible refine Mod.put ?_ (Nat.le_refl _) _ _))⟩
      have n60 : (x0 == 60) = false := by simpa using a60
      rw [if_neg (fun k => a60 k.1)] at T0
      by_cases a64 : x0 = 64
      · subst a64
        obtain ⟨y3, hy3⟩ : ∃ y, nmB x1 x2 x3 = y := ⟨_, rfl⟩
        have YM3 := hide hy3
        rw [hy3] at T0
        cases y3
        · rw [if_neg (by simp)] at T0
          clear hy3
          have YM := hide (show nmB 64 x1 x2 = false by simp [nmB, isFst, es2])
          rw [YM.out, if_neg (by simp), ht1] at T0
          clear ht1
          have E := hide T0
          clear T0 hx0 hx1 hx2 hx3
          go_wp2_with (first
            | (go_at_call 58; refine (isBlR_any _ _).mono ?_; rintro e w2 ⟨rfl, rfl⟩; rw [YB.out])
            | (go_at_call 61; refine (isLetR_any _ _).mono ?_; rintro e w2 ⟨rfl, rfl⟩; rw [YL.out])
            | (go_at_call 62; refine (escR_any _ _ _).mono ?_; rintro e w2 ⟨rfl, rfl⟩; rw [YE.out])
            | (go_at_call 65; refine (numR_any _ _ _ _).mono ?_; rintro e w2 ⟨rfl, rfl⟩; rw [YN.out])
            | (go_at_call 63; refine (begR_any _ _ _ _).mono ?_; rintro e w2 ⟨rfl, rfl⟩; (first | (rw [YM.out]) | (rw [YM3.out])))
            | (go_at_call 48; refine (standAt_any T W _ b v l s p _ ST.out (by decide) (by decide)).mono ?_; rintro e w1 ⟨he, B1⟩; (first | (rw [H0.out] at he) | (rw [H1.out] at he) | (rw [H2.out] at he) | (rw [H3.out] at he)); subst he; replace ST := hide (ST.out.below B1); replace M := hide (Mod.trans M.out (Mod.of b B1)); (try clear c1 f1); have c1 := ST.out.c1; have f1 := ST.out.f1; (try clear f0 f2 f3 f4 f5 c0 c2 c3 c4 c5 g1 d1); obtain ⟨f0, g1, f2, f3, f4, f5, c0, d1, c2, c3, c4, c5⟩ := tok0_free (keep Z.out (Nat.ne_of_gt hb0) M.out); clear B1)
            | (go_at_call 68; refine (textR_any _ _ _ (Nums.litq2 (by simp) _ _) (by simp)).mono ?_; rintro e w13 ⟨z, rfl, hz, B3⟩; replace hz := hide hz; have B1 := bto (bplus (Below.refl _ _) _) B3; replace M := hide (Mod.trans (Mod.trans M.out (ST.out.mod ((p : Int) + 1))) (Mod.of b B1)); have S2 := ST.out.inc 1 ((p : Int) + 1) (by omega) (by omega); rw [T1.out] at S2; replace ST := hide (S2.below B1); clear B1 B3 S2 c1 f1; (try clear f0 f2 f3 f4 f5 c0 c2 c3 c4 c5 g1 d1); obtain ⟨f0, g1, f2, f3, f4, f5, c0, d1, c2, c3, c4, c5⟩ := tok0_free (keep Z.out (Nat.ne_of_gt hb0) M.out)))
          have FA := ST.out.atR (by omega)
          have MM := Mod.trans M0.out M.out
          refine bodyPost_ret (v := tkV 9 z 0 0 false false) (by simp [results, Tryz.results49, go_sem, tkV, c0, d1, c2, c3, c4, c5]) rfl ?_
          exact ⟨.tkt (congrArg Prod.fst E.out) hz.out, by rw [E.out]; repeat (first | (with_reducible exact FA) | (with_reducible refine AtR.put ?_ hb0 _ _)), by repeat (first | (with_reducible exact MM) | (with_reducible refine Mod.put ?_ (Nat.le_refl _) _ _))⟩
        · rw [if_pos ⟨rfl, rfl⟩, ht1] at T0
          obtain ⟨⟨nm, rr⟩, hnm⟩ : ∃ z, nam [] t1 = z := ⟨_, rfl⟩
          rw [hnm] at T0
          have NN := hide hnm
          have E := hide T0
          clear T0 hx0 hx1 hx2 hx3 ht1 hnm hy3
          go_wp2_with (first
            | (go_at_call 58; refine (isBlR_any _ _).mono ?_; rintro e w2 ⟨rfl, rfl⟩; rw [YB.out])
            | (go_at_call 65; refine (numR_any _ _ _ _).mono ?_; rintro e w2 ⟨rfl, rfl⟩; rw [YN.out])
            | (go_at_call 48; refine (standAt_any T W _ b v l s p _ ST.out (by decide) (by decide)).mono ?_; rintro e w1 ⟨he, B1⟩; (first | (rw [H0.out] at he) | (rw [H1.out] at he) | (rw [H2.out] at he) | (rw [H3.out] at he)); subst he; replace ST := hide (ST.out.below B1); replace M := hide (Mod.trans M.out (Mod.of b B1)); (try clear c1 f1); have c1 := ST.out.c1; have f1 := ST.out.f1; (try clear f0 f2 f3 f4 f5 c0 c2 c3 c4 c5 g1 d1); obtain ⟨f0, g1, f2, f3, f4, f5, c0, d1, c2, c3, c4, c5⟩ := tok0_free (keep Z.out (Nat.ne_of_gt hb0) M.out); clear B1)
            | (go_at_call 63; refine (begR_any _ _ _ _).mono ?_; rintro e w2 ⟨rfl, rfl⟩; (first | (rw [YM.out]) | (rw [YM3.out])))
            | (go_at_call 64; refine (nameR_any T W _ b v l t1 L9.out (by have := ST.out.inc 1 ((p : Int) + 1) (by omega) (by omega); rw [T1.out] at this; exact this.at (by omega))).mono ?_; rintro e w12 ⟨t', rfl, ht', A2, M2⟩; rw [NN.out] at ht' A2; replace ht' := hide ht'; have A1 := hide A2; replace M := hide (Mod.trans (Mod.trans M.out (ST.out.mod ((p : Int) + 1))) M2); clear A2 M2 c1 f1; (try clear f0 f2 f3 f4 f5 c0 c2 c3 c4 c5 g1 d1); obtain ⟨f0, g1, f2, f3, f4, f5, c0, d1, c2, c3, c4, c5⟩ := tok0_free (keep Z.out (Nat.ne_of_gt hb0) M.out)))
          have FA := A1.out.r
          have MM := Mod.trans M0.out M.out
          refine bodyPost_ret (v := tkV 3 t' 0 0 false false) (by simp [results, Tryz.results49, go_sem, tkV, c0, d1, c2, c3, c4, c5]) rfl ?_
          exact ⟨.tkt (congrArg Prod.fst E.out) ht'.out, by rw [E.out]; repeat (first | (with_reducible exact FA) | (with_reducible refine AtR.put ?_ hb0 _ _)), by repeat (first | (with_reducible exact MM) | (with_reducible refine Mod.put ?_ (Nat.le_refl _) _ _))⟩
      have n64 : (x0 == 64) = false := by simpa using a64
      rw [if_neg (fun k => a64 k.1), ht1] at T0
      clear ht1
      obtain ⟨ym, hym⟩ : ∃ y, nmB x0 x1 x2 = y := ⟨_, rfl⟩
      have YM := hide hym
      rw [hym] at T0
      cases ym
      · rw [if_neg (by simp)] at T0
        have E := hide T0
        clear T0 hx0 hx1 hx2 hx3
        go_wp2_with (first
          | (go_at_call 58; refine (isBlR_any _ _).mono ?_; rintro e w2 ⟨rfl, rfl⟩; rw [YB.out])
          | (go_at_call 61; refine (isLetR_any _ _).mono ?_; rintro e w2 ⟨rfl, rfl⟩; rw [YL.out])
          | (go_at_call 62; refine (escR_any _ _ _).mono ?_; rintro e w2 ⟨rfl, rfl⟩; rw [YE.out])
          | (go_at_call 65; refine (numR_any _ _ _ _).mono ?_; rintro e w2 ⟨rfl, rfl⟩; rw [YN.out])
          | (go_at_call 63; refine (begR_any _ _ _ _).mono ?_; rintro e w2 ⟨rfl, rfl⟩; (first | (rw [YM.out]) | (rw [YM3.out])))
          | (go_at_call 48; refine (standAt_any T W _ b v l s p _ ST.out (by decide) (by decide)).mono ?_; rintro e w1 ⟨he, B1⟩; (first | (rw [H0.out] at he) | (rw [H1.out] at he) | (rw [H2.out] at he) | (rw [H3.out] at he)); subst he; replace ST := hide (ST.out.below B1); replace M := hide (Mod.trans M.out (Mod.of b B1)); (try clear c1 f1); have c1 := ST.out.c1; have f1 := ST.out.f1; (try clear f0 f2 f3 f4 f5 c0 c2 c3 c4 c5 g1 d1); obtain ⟨f0, g1, f2, f3, f4, f5, c0, d1, c2, c3, c4, c5⟩ := tok0_free (keep Z.out (Nat.ne_of_gt hb0) M.out); clear B1)
          | (go_at_call 68; refine (textR_any _ _ _ (Nums.litq2 (by simp) _ _) (by simp)).mono ?_; rintro e w13 ⟨z, rfl, hz, B3⟩; replace hz := hide hz; have B1 := bto (bplus (Below.refl _ _) _) B3; replace M := hide (Mod.trans (Mod.trans M.out (ST.out.mod ((p : Int) + 1))) (Mod.of b B1)); have S2 := ST.out.inc 1 ((p : Int) + 1) (by omega) (by omega); rw [T1.out] at S2; replace ST := hide (S2.below B1); clear B1 B3 S2 c1 f1; (try clear f0 f2 f3 f4 f5 c0 c2 c3 c4 c5 g1 d1); obtain ⟨f0, g1, f2, f3, f4, f5, c0, d1, c2, c3, c4, c5⟩ := tok0_free (keep Z.out (Nat.ne_of_gt hb0) M.out)))
        have FA := ST.out.atR (by omega)
        have MM := Mod.trans M0.out M.out
        refine bodyPost_ret (v := tkV 9 z 0 0 false false) (by simp [results, Tryz.results49, go_sem, tkV, c0, d1, c2, c3, c4, c5]) rfl ?_
        exact ⟨.tkt (congrArg Prod.fst E.out) hz.out, by rw [E.out]; repeat (first | (with_reducible exact FA) | (with_reducible refine AtR.put ?_ hb0 _ _)), by repeat (first | (with_reducible exact MM) | (with_reducible refine Mod.put ?_ (Nat.le_refl _) _ _))⟩
      · rw [if_pos rfl] at T0
        obtain ⟨⟨⟨k, tx, nu, de, wh, id⟩, r2⟩, hu2⟩ : ∃ z, word s = z := ⟨_, rfl⟩
        rw [hu2] at T0
        have UU := hide hu2
        have E := hide T0
        clear T0 hu2 hx0 hx1 hx2 hx3
        go_wp2_with (first
          | (go_at_call 58; refine (isBlR_any _ _).mono ?_; rintro e w2 ⟨rfl, rfl⟩; rw [YB.out])
          | (go_at_call 61; refine (isLetR_any _ _).mono ?_; rintro e w2 ⟨rfl, rfl⟩; rw [YL.out])
          | (go_at_call 62; refine (escR_any _ _ _).mono ?_; rintro e w2 ⟨rfl, rfl⟩; rw [YE.out])
          | (go_at_call 65; refine (numR_any _ _ _ _).mono ?_; rintro e w2 ⟨rfl, rfl⟩; rw [YN.out])
          | (go_at_call 63; refine (begR_any _ _ _ _).mono ?_; rintro e w2 ⟨rfl, rfl⟩; (first | (rw [YM.out]) | (rw [YM3.out])))
          | (go_at_call 48; refine (standAt_any T W _ b v l s p _ ST.out (by decide) (by decide)).mono ?_; rintro e w1 ⟨he, B1⟩; (first | (rw [H0.out] at he) | (rw [H1.out] at he) | (rw [H2.out] at he) | (rw [H3.out] at he)); subst he; replace ST := hide (ST.out.below B1); replace M := hide (Mod.trans M.out (Mod.of b B1)); (try clear c1 f1); have c1 := ST.out.c1; have f1 := ST.out.f1; (try clear f0 f2 f3 f4 f5 c0 c2 c3 c4 c5 g1 d1); obtain ⟨f0, g1, f2, f3, f4, f5, c0, d1, c2, c3, c4, c5⟩ := tok0_free (keep Z.out (Nat.ne_of_gt hb0) M.out); clear B1)
          | (go_at_call 67; refine (wordR_any T W _ b v l s L0.out (ST.out.at (by omega))).mono ?_; rintro e w8 ⟨⟨z8, he, hz8⟩, A2, M2⟩; rw [UU.out] at he hz8 A2; replace he : e = .returned (.agg #[.int .i64 k, .string z8, .int .i64 nu, .int .i64 de, .bool wh, .bool id]) := he; subst he; replace hz8 := hide hz8; have A3 := hide A2; replace M := hide (Mod.trans M.out M2); clear A2 M2 c1 f1; (try clear f0 f2 f3 f4 f5 c0 c2 c3 c4 c5 g1 d1); obtain ⟨f0, g1, f2, f3, f4, f5, c0, d1, c2, c3, c4, c5⟩ := tok0_free (keep Z.out (Nat.ne_of_gt hb0) M.out)))
        have FA := A3.out
        have MM := Mod.trans M0.out M.out
        refine bodyPost_ret (v := tkV k z8 nu de wh id) (by simp [results, Tryz.results49, go_sem, tkV, c0, d1, c2, c3, c4, c5]) rfl ?_
        exact ⟨by rw [E.out]; exact ⟨z8, rfl, hz8.out⟩, by rw [E.out]; repeat (first | (with_reducible exact FA) | (with_reducible refine AtR.put ?_ hb0 _ _)), by repeat (first | (with_reducible exact MM) | (with_reducible refine Mod.put ?_ (Nat.le_refl _) _ _))⟩
end Go.Proofs.YtmkbjcoagfnegabGreatDoor
set_option linter.unusedVariables false
set_option linter.unusedSimpArgs false
namespace Go.Proofs.YtmkbjcoagfnegabGreatDoor
open Go.RowKit

def RelLi2 (W : World) (n : Nat) (ls : List Int) (l la i : Value) (wr : World) : Prop :=
  ∃ (k : Nat) (xs : List Int), k ≤ n ∧ i = .int .i64 k ∧ la = .int .i32 (pv ls k) ∧ xs.length ≤ k ∧ Own W .i32 21 wr l xs ∧ Hid (lin 0 ls = xs ++ lin (pv ls k) (ls.drop k))
theorem RelLi2.mk {W : World} {n : Nat} {ls : List Int} {l la i : Value} {wr : World} (k : Nat) (xs : List Int) (h1 : k ≤ n) (h2 : i = .int .i64 k) (h2' : la = .int .i32 (pv ls k)) (h3 : xs.length ≤ k) (h4 : Own W .i32 21 wr l xs) (h5 : lin 0 ls = xs ++ lin (pv ls k) (ls.drop k)) : RelLi2 W n ls l la i wr :=
  ⟨k, xs, h1, h2, h2', h3, h4, h5⟩
theorem pv_succ (ls : List Int) (k : Nat) : pv ls (k + 1) = gt ls k := rfl

set_option maxRecDepth 100000 in
set_option maxHeartbeats 4000000 in
theorem decR_short (bs ds : List Int) (a : Option Addr) (n c : Nat) (w : World) (hn9 : n ≤ 4611686018427387904) (hc9 : True) (hs : n < 3)
    (BC : By ds) (NC : Hid (Nums .u8 w (.slice a n c) ds)) (LR : (raw ds).length ≤ 1099511627776) (LD : ds.length ≤ 1099511627776) (D : Hid (dcd bs = lin 0 (raw ds))) :
    Calls Tryz.prog 40 #[.slice a n c] w fun e w' => ∃ u, e = .returned u ∧ Nums .i32 w' u (dcd bs) ∧ Below w.heap.size w w' := by
  obtain ⟨i0, hi, hz0, hz1, hz2⟩ := info_parts info32
  go_enter Tryz.func40, Tryz.ntmps40
  go_wp2_with (go_at_call 50; refine (rawR_any ds _ _ BC NC.out (by omega)).mono ?_; rintro e w1 ⟨u1, rfl, N1, B1⟩; obtain ⟨a1, n1, c1, rfl, hn1, hn19, _, hc1⟩ := N1.form; replace N1 := hide N1; replace B1 := hide B1; have HN1 := hide hn1; have HC1 := hide hc1; have hnb : n1 ≤ 1099511627776 := (by omega); clear hn1 hc1)
  go_loopw [3, 4, 34] (fun l la i wr => RelLi2 w1 n1 (raw ds) l la i wr) (fun _ _ i _ => n1 - (intOf i).toNat)
  case atStart => exact .mk 0 [] (by omega) rfl rfl (by simp) (Own.nil _ _ _) rfl
  case round =>
    obtain ⟨k, xs, hk, rfl, rfl, hxs, HO, R⟩ := hrel
    replace HO := hide HO
    by_cases hlt : k < n1
    · obtain ⟨b1, o1, rfl, hbw1, hcl1, hc91, hcc1⟩ := HC1.out (by omega)
      have cx : wr.cell? ⟨b1, o1 + k, none⟩ = some (.int .i32 (gt (raw ds) k)) := (HO.out.2.cell (p := ⟨b1, o1 + k, none⟩) hbw1).trans (hcc1 k hlt)
      have R1 := hide (lin_in R.out (by rw [← HN1.out]; exact hlt))
      have R2 := hide (lin_out R.out (by rw [← HN1.out]; exact hlt))
      have PS := hide (pv_succ (raw ds) k)
      clear hcc1 R
      generalize gt (raw ds) k = x at *
      generalize pv (raw ds) k = p at *
      rcases tr_cases x p with ⟨rfl, rfl⟩ | ⟨hno, q⟩
      · have R := hide (R2.out ⟨rfl, rfl⟩)
        clear R1 R2
        go_wp2
        go_roundw
        case rel => exact .mk (k + 1) xs (by omega) (by go_num) (by rw [PS.out]) (by omega) HO.out R.out
        case measure => simp [intOf]; omega
      · have R := hide (R1.out hno)
        clear R1 R2 hno
        rcases q with ⟨rfl, hp, e⟩ | ⟨rfl, e⟩ | ⟨rfl, e⟩ | ⟨rfl, e⟩ | ⟨x1, x2, x3, x4, e⟩
        · rw [e] at R
          have hp' : (p != 13) = true := by simp [hp]
          clear hp
          clear e
          go_wp2_with (at_builtin; refine wpList_append_own _ rfl _ _ 93 rfl w1.heap.size 21 i0 (.int .i32 0) 1 4 Tryz.underlying93 hi hz0 hz1 hz2 rfl (by decide) _ _ _ rfl (HO.out.1.alloc _) ⟨_, 0, none⟩ 1 1 [.int .i32 10] rfl rfl (news1 _ _ _) (by intro u hu; simp at hu; subst hu; rfl) (by unfold maxLen; omega) (by omega) (by have := HO.out.2.size; simp; omega) ?_; intro v' w2 hown' hgrow _; replace HO := hide (HO.out.grow (ys := [10]) hown' hgrow); clear hown' hgrow)
          go_roundw
          case rel => exact .mk (k + 1) (xs ++ [10]) (by omega) (by go_num) (by rw [PS.out]) (by rw [List.length_append, List.length_singleton]; omega) HO.out R.out
          case measure => simp [intOf]; omega
        · rw [e] at R
          clear e
          go_wp2_with (at_builtin; refine wpList_append_own _ rfl _ _ 93 rfl w1.heap.size 21 i0 (.int .i32 0) 1 4 Tryz.underlying93 hi hz0 hz1 hz2 rfl (by decide) _ _ _ rfl (HO.out.1.alloc _) ⟨_, 0, none⟩ 1 1 [.int .i32 10] rfl rfl (news1 _ _ _) (by intro u hu; simp at hu; subst hu; rfl) (by unfold maxLen; omega) (by omega) (by have := HO.out.2.size; simp; omega) ?_; intro v' w2 hown' hgrow _; replace HO := hide (HO.out.grow (ys := [10]) hown' hgrow); clear hown' hgrow)
          go_roundw
          case rel => exact .mk (k + 1) (xs ++ [10]) (by omega) (by go_num) (by rw [PS.out]) (by rw [List.length_append, List.length_singleton]; omega) HO.out R.out
          case measure => simp [intOf]; omega
        · rw [e] at R
          clear e
          go_wp2_with (at_builtin; refine wpList_append_own _ rfl _ _ 93 rfl w1.heap.size 21 i0 (.int .i32 0) 1 4 Tryz.underlying93 hi hz0 hz1 hz2 rfl (by decide) _ _ _ rfl (HO.out.1.alloc _) ⟨_, 0, none⟩ 1 1 [.int .i32 10] rfl rfl (news1 _ _ _) (by intro u hu; simp at hu; subst hu; rfl) (by unfold maxLen; omega) (by omega) (by have := HO.out.2.size; simp; omega) ?_; intro v' w2 hown' hgrow _; replace HO := hide (HO.out.grow (ys := [10]) hown' hgrow); clear hown' hgrow)
          go_roundw
          case rel => exact .mk (k + 1) (xs ++ [10]) (by omega) (by go_num) (by rw [PS.out]) (by rw [List.length_append, List.length_singleton]; omega) HO.out R.out
          case measure => simp [intOf]; omega
        · rw [e] at R
          clear e
          go_wp2_with (at_builtin; refine wpList_append_own _ rfl _ _ 93 rfl w1.heap.size 21 i0 (.int .i32 0) 1 4 Tryz.underlying93 hi hz0 hz1 hz2 rfl (by decide) _ _ _ rfl (HO.out.1.alloc _) ⟨_, 0, none⟩ 1 1 [.int .i32 65533] rfl rfl (news1 _ _ _) (by intro u hu; simp at hu; subst hu; rfl) (by unfold maxLen; omega) (by omega) (by have := HO.out.2.size; simp; omega) ?_; intro v' w2 hown' hgrow _; replace HO := hide (HO.out.grow (ys := [65533]) hown' hgrow); clear hown' hgrow)
          go_roundw
          case rel => exact .mk (k + 1) (xs ++ [65533]) (by omega) (by go_num) (by rw [PS.out]) (by rw [List.length_append, List.length_singleton]; omega) HO.out R.out
          case measure => simp [intOf]; omega
        · rw [e] at R
          have y1 : (x == 10) = false := by simp [x1]
          have y5 : (x != 10) = true := by simp [x1]
          have y2 : (x == 13) = false := by simp [x2]
          have y3 : (x == 12) = false := by simp [x3]
          have y4 : (x == 0) = false := by simp [x4]
          clear x1 x2 x3 x4
          clear e
          go_wp2_with (at_builtin; refine wpList_append_own _ rfl _ _ 93 rfl w1.heap.size 21 i0 (.int .i32 0) 1 4 Tryz.underlying93 hi hz0 hz1 hz2 rfl (by decide) _ _ _ rfl (HO.out.1.alloc _) ⟨_, 0, none⟩ 1 1 [.int .i32 x] rfl rfl (news1 _ _ _) (by intro u hu; simp at hu; subst hu; rfl) (by unfold maxLen; omega) (by omega) (by have := HO.out.2.size; simp; omega) ?_; intro v' w2 hown' hgrow _; replace HO := hide (HO.out.grow (ys := [x]) hown' hgrow); clear hown' hgrow)
          go_roundw
          case rel => exact .mk (k + 1) (xs ++ [x]) (by omega) (by go_num) (by rw [PS.out]) (by rw [List.length_append, List.length_singleton]; omega) HO.out R.out
          case measure => simp [intOf]; omega
    · have R' := hide (lin_end R.out (by rw [← HN1.out]; omega))
      have N := hide (HO.out.nums (by omega))
      go_wp2
      go_ret
      exact ⟨_, rfl, by rw [D.out, R'.out]; exact N.out, bto B1.out HO.out.2⟩
set_option maxRecDepth 100000 in
set_option maxHeartbeats 4000000 in
theorem decR_no0 (bs ds : List Int) (b o n c : Nat) (w : World) (hn9 : n ≤ 4611686018427387904) (hc9 : c ≤ 9223372036854775807) (hs : 3 ≤ n) (y0 : Int) (c0 : w.cell? ⟨b, o, none⟩ = some (.int .u8 y0)) (g0 : (y0 == 239) = false)
    (BC : By ds) (NC : Hid (Nums .u8 w (.slice (some ⟨b, o, none⟩) n c) ds)) (LR : (raw ds).length ≤ 1099511627776) (LD : ds.length ≤ 1099511627776) (D : Hid (dcd bs = lin 0 (raw ds))) :
    Calls Tryz.prog 40 #[.slice (some ⟨b, o, none⟩) n c] w fun e w' => ∃ u, e = .returned u ∧ Nums .i32 w' u (dcd bs) ∧ Below w.heap.size w w' := by
  obtain ⟨i0, hi, hz0, hz1, hz2⟩ := info_parts info32
  go_enter Tryz.func40, Tryz.ntmps40
  go_wp2_with (go_at_call 50; refine (rawR_any ds _ _ BC NC.out (by omega)).mono ?_; rintro e w1 ⟨u1, rfl, N1, B1⟩; obtain ⟨a1, n1, c1, rfl, hn1, hn19, _, hc1⟩ := N1.form; replace N1 := hide N1; replace B1 := hide B1; have HN1 := hide hn1; have HC1 := hide hc1; have hnb : n1 ≤ 1099511627776 := (by omega); clear hn1 hc1)
  go_loopw [3, 4, 34] (fun l la i wr => RelLi2 w1 n1 (raw ds) l la i wr) (fun _ _ i _ => n1 - (intOf i).toNat)
  case atStart => exact .mk 0 [] (by omega) rfl rfl (by simp) (Own.nil _ _ _) rfl
  case round =>
    obtain ⟨k, xs, hk, rfl, rfl, hxs, HO, R⟩ := hrel
    replace HO := hide HO
    by_cases hlt : k < n1
    · obtain ⟨b1, o1, rfl, hbw1, hcl1, hc91, hcc1⟩ := HC1.out (by omega)
      have cx : wr.cell? ⟨b1, o1 + k, none⟩ = some (.int .i32 (gt (raw ds) k)) := (HO.out.2.cell (p := ⟨b1, o1 + k, none⟩) hbw1).trans (hcc1 k hlt)
      have R1 := hide (lin_in R.out (by rw [← HN1.out]; exact hlt))
      have R2 := hide (lin_out R.out (by rw [← HN1.out]; exact hlt))
      have PS := hide (pv_succ (raw ds) k)
      clear hcc1 R
      generalize gt (raw ds) k = x at *
      generalize pv (raw ds) k = p at *
      rcases tr_cases x p with ⟨rfl, rfl⟩ | ⟨hno, q⟩
      · have R := hide (R2.out ⟨rfl, rfl⟩)
        clear R1 R2
        go_wp2
        go_roundw
        case rel => exact .mk (k + 1) xs (by omega) (by go_num) (by rw [PS.out]) (by omega) HO.out R.out
        case measure => simp [intOf]; omega
      · have R := hide (R1.out hno)
        clear R1 R2 hno
        rcases q with ⟨rfl, hp, e⟩ | ⟨rfl, e⟩ | ⟨rfl, e⟩ | ⟨rfl, e⟩ | ⟨x1, x2, x3, x4, e⟩
        · rw [e] at R
          have hp' : (p != 13) = true := by simp [hp]
          clear hp
          clear e
          go_wp2_with (at_builtin; refine wpList_append_own _ rfl _ _ 93 rfl w1.heap.size 21 i0 (.int .i32 0) 1 4 Tryz.underlying93 hi hz0 hz1 hz2 rfl (by decide) _ _ _ rfl (HO.out.1.alloc _) ⟨_, 0, none⟩ 1 1 [.int .i32 10] rfl rfl (news1 _ _ _) (by intro u hu; simp at hu; subst hu; rfl) (by unfold maxLen; omega) (by omega) (by have := HO.out.2.size; simp; omega) ?_; intro v' w2 hown' hgrow _; replace HO := hide (HO.out.grow (ys := [10]) hown' hgrow); clear hown' hgrow)
          go_roundw
          case rel => exact .mk (k + 1) (xs ++ [10]) (by omega) (by go_num) (by rw [PS.out]) (by rw [List.length_append, List.length_singleton]; omega) HO.out R.out
          case measure => simp [intOf]; omega
        · rw [e] at R
          clear e
          go_wp2_with (at_builtin; refine wpList_append_own _ rfl _ _ 93 rfl w1.heap.size 21 i0 (.int .i32 0) 1 4 Tryz.underlying93 hi hz0 hz1 hz2 rfl (by decide) _ _ _ rfl (HO.out.1.alloc _) ⟨_, 0, none⟩ 1 1 [.int .i32 10] rfl rfl (news1 _ _ _) (by intro u hu; simp at hu; subst hu; rfl) (by unfold maxLen; omega) (by omega) (by have := HO.out.2.size; simp; omega) ?_; intro v' w2 hown' hgrow _; replace HO := hide (HO.out.grow (ys := [10]) hown' hgrow); clear hown' hgrow)
          go_roundw
          case rel => exact .mk (k + 1) (xs ++ [10]) (by omega) (by go_num) (by rw [PS.out]) (by rw [List.length_append, List.length_singleton]; omega) HO.out R.out
          case measure => simp [intOf]; omega
        · rw [e] at R
          clear e
          go_wp2_with (at_builtin; refine wpList_append_own _ rfl _ _ 93 rfl w1.heap.size 21 i0 (.int .i32 0) 1 4 Tryz.underlying93 hi hz0 hz1 hz2 rfl (by decide) _ _ _ rfl (HO.out.1.alloc _) ⟨_, 0, none⟩ 1 1 [.int .i32 10] rfl rfl (news1 _ _ _) (by intro u hu; simp at hu; subst hu; rfl) (by unfold maxLen; omega) (by omega) (by have := HO.out.2.size; simp; omega) ?_; intro v' w2 hown' hgrow _; replace HO := hide (HO.out.grow (ys := [10]) hown' hgrow); clear hown' hgrow)
          go_roundw
          case rel => exact .mk (k + 1) (xs ++ [10]) (by omega) (by go_num) (by rw [PS.out]) (by rw [List.length_append, List.length_singleton]; omega) HO.out R.out
          case measure => simp [intOf]; omega
        · rw [e] at R
          clear e
          go_wp2_with (at_builtin; refine wpList_append_own _ rfl _ _ 93 rfl w1.heap.size 21 i0 (.int .i32 0) 1 4 Tryz.underlying93 hi hz0 hz1 hz2 rfl (by decide) _ _ _ rfl (HO.out.1.alloc _) ⟨_, 0, none⟩ 1 1 [.int .i32 65533] rfl rfl (news1 _ _ _) (by intro u hu; simp at hu; subst hu; rfl) (by unfold maxLen; omega) (by omega) (by have := HO.out.2.size; simp; omega) ?_; intro v' w2 hown' hgrow _; replace HO := hide (HO.out.grow (ys := [65533]) hown' hgrow); clear hown' hgrow)
          go_roundw
          case rel => exact .mk (k + 1) (xs ++ [65533]) (by omega) (by go_num) (by rw [PS.out]) (by rw [List.length_append, List.length_singleton]; omega) HO.out R.out
          case measure => simp [intOf]; omega
        · rw [e] at R
          have y1 : (x == 10) = false := by simp [x1]
          have y5 : (x != 10) = true := by simp [x1]
          have y2 : (x == 13) = false := by simp [x2]
          have y3 : (x == 12) = false := by simp [x3]
          have y4 : (x == 0) = false := by simp [x4]
          clear x1 x2 x3 x4
          clear e
          go_wp2_with (at_builtin; refine wpList_append_own _ rfl _ _ 93 rfl w1.heap.size 21 i0 (.int .i32 0) 1 4 Tryz.underlying93 hi hz0 hz1 hz2 rfl (by decide) _ _ _ rfl (HO.out.1.alloc _) ⟨_, 0, none⟩ 1 1 [.int .i32 x] rfl rfl (news1 _ _ _) (by intro u hu; simp at hu; subst hu; rfl) (by unfold maxLen; omega) (by omega) (by have := HO.out.2.size; simp; omega) ?_; intro v' w2 hown' hgrow _; replace HO := hide (HO.out.grow (ys := [x]) hown' hgrow); clear hown' hgrow)
          go_roundw
          case rel => exact .mk (k + 1) (xs ++ [x]) (by omega) (by go_num) (by rw [PS.out]) (by rw [List.length_append, List.length_singleton]; omega) HO.out R.out
          case measure => simp [intOf]; omega
    · have R' := hide (lin_end R.out (by rw [← HN1.out]; omega))
      have N := hide (HO.out.nums (by omega))
      go_wp2
      go_ret
      exact ⟨_, rfl, by rw [D.out, R'.out]; exact N.out, bto B1.out HO.out.2⟩
set_option maxRecDepth 100000 in
set_option maxHeartbeats 4000000 in
theorem decR_no1 (bs ds : List Int) (b o n c : Nat) (w : World) (hn9 : n ≤ 4611686018427387904) (hc9 : c ≤ 9223372036854775807) (hs : 3 ≤ n) (y1 : Int) (c0 : w.cell? ⟨b, o, none⟩ = some (.int .u8 239)) (c1 : w.cell? ⟨b, o + 1, none⟩ = some (.int .u8 y1)) (g1 : (y1 == 187) = false)
    (BC : By ds) (NC : Hid (Nums .u8 w (.slice (some ⟨b, o, none⟩) n c) ds)) (LR : (raw ds).length ≤ 1099511627776) (LD : ds.length ≤ 1099511627776) (D : Hid (dcd bs = lin 0 (raw ds))) :
    Calls Tryz.prog 40 #[.slice (some ⟨b, o, none⟩) n c] w fun e w' => ∃ u, e = .returned u ∧ Nums .i32 w' u (dcd bs) ∧ Below w.heap.size w w' := by
  obtain ⟨i0, hi, hz0, hz1, hz2⟩ := info_parts info32
  go_enter Tryz.func40, Tryz.ntmps40
  go_wp2_with (go_at_call 50; refine (rawR_any ds _ _ BC NC.out (by omega)).mono ?_; rintro e w1 ⟨u1, rfl, N1, B1⟩; obtain ⟨a1, n1, c1, rfl, hn1, hn19, _, hc1⟩ := N1.form; replace N1 := hide N1; replace B1 := hide B1; have HN1 := hide hn1; have HC1 := hide hc1; have hnb : n1 ≤ 1099511627776 := (by omega); clear hn1 hc1)
  go_loopw [3, 4, 34] (fun l la i wr => RelLi2 w1 n1 (raw ds) l la i wr) (fun _ _ i _ => n1 - (intOf i).toNat)
  case atStart => exact .mk 0 [] (by omega) rfl rfl (by simp) (Own.nil _ _ _) rfl
  case round =>
    obtain ⟨k, xs, hk, rfl, rfl, hxs, HO, R⟩ := hrel
    replace HO := hide HO
    by_cases hlt : k < n1
    · obtain ⟨b1, o1, rfl, hbw1, hcl1, hc91, hcc1⟩ := HC1.out (by omega)
      have cx : wr.cell? ⟨b1, o1 + k, none⟩ = some (.int .i32 (gt (raw ds) k)) := (HO.out.2.cell (p := ⟨b1, o1 + k, none⟩) hbw1).trans (hcc1 k hlt)
      have R1 := hide (lin_in R.out (by rw [← HN1.out]; exact hlt))
      have R2 := hide (lin_out R.out (by rw [← HN1.out]; exact hlt))
      have PS := hide (pv_succ (raw ds) k)
      clear hcc1 R
      generalize gt (raw ds) k = x at *
      generalize pv (raw ds) k = p at *
      rcases tr_cases x p with ⟨rfl, rfl⟩ | ⟨hno, q⟩
      · have R := hide (R2.out ⟨rfl, rfl⟩)
        clear R1 R2
        go_wp2
        go_roundw
        case rel => exact .mk (k + 1) xs (by omega) (by go_num) (by rw [PS.out]) (by omega) HO.out R.out
        case measure => simp [intOf]; omega
      · have R := hide (R1.out hno)
        clear R1 R2 hno
        rcases q with ⟨rfl, hp, e⟩ | ⟨rfl, e⟩ | ⟨rfl, e⟩ | ⟨rfl, e⟩ | ⟨x1, x2, x3, x4, e⟩
        · rw [e] at R
          have hp' : (p != 13) = true := by simp [hp]
          clear hp
          clear e
          go_wp2_with (at_builtin; refine wpList_append_own _ rfl _ _ 93 rfl w1.heap.size 21 i0 (.int .i32 0) 1 4 Tryz.underlying93 hi hz0 hz1 hz2 rfl (by decide) _ _ _ rfl (HO.out.1.alloc _) ⟨_, 0, none⟩ 1 1 [.int .i32 10] rfl rfl (news1 _ _ _) (by intro u hu; simp at hu; subst hu; rfl) (by unfold maxLen; omega) (by omega) (by have := HO.out.2.size; simp; omega) ?_; intro v' w2 hown' hgrow _; replace HO := hide (HO.out.grow (ys := [10]) hown' hgrow); clear hown' hgrow)
          go_roundw
          case rel => exact .mk (k + 1) (xs ++ [10]) (by omega) (by go_num) (by rw [PS.out]) (by rw [List.length_append, List.length_singleton]; omega) HO.out R.out
          case measure => simp [intOf]; omega
        · rw [e] at R
          clear e
          go_wp2_with (at_builtin; refine wpList_append_own _ rfl _ _ 93 rfl w1.heap.size 21 i0 (.int .i32 0) 1 4 Tryz.underlying93 hi hz0 hz1 hz2 rfl (by decide) _ _ _ rfl (HO.out.1.alloc _) ⟨_, 0, none⟩ 1 1 [.int .i32 10] rfl rfl (news1 _ _ _) (by intro u hu; simp at hu; subst hu; rfl) (by unfold maxLen; omega) (by omega) (by have := HO.out.2.size; simp; omega) ?_; intro v' w2 hown' hgrow _; replace HO := hide (HO.out.grow (ys := [10]) hown' hgrow); clear hown' hgrow)
          go_roundw
          case rel => exact .mk (k + 1) (xs ++ [10]) (by omega) (by go_num) (by rw [PS.out]) (by rw [List.length_append, List.length_singleton]; omega) HO.out R.out
          case measure => simp [intOf]; omega
        · rw [e] at R
          clear e
          go_wp2_with (at_builtin; refine wpList_append_own _ rfl _ _ 93 rfl w1.heap.size 21 i0 (.int .i32 0) 1 4 Tryz.underlying93 hi hz0 hz1 hz2 rfl (by decide) _ _ _ rfl (HO.out.1.alloc _) ⟨_, 0, none⟩ 1 1 [.int .i32 10] rfl rfl (news1 _ _ _) (by intro u hu; simp at hu; subst hu; rfl) (by unfold maxLen; omega) (by omega) (by have := HO.out.2.size; simp; omega) ?_; intro v' w2 hown' hgrow _; replace HO := hide (HO.out.grow (ys := [10]) hown' hgrow); clear hown' hgrow)
          go_roundw
          case rel => exact .mk (k + 1) (xs ++ [10]) (by omega) (by go_num) (by rw [PS.out]) (by rw [List.length_append, List.length_singleton]; omega) HO.out R.out
          case measure => simp [intOf]; omega
        · rw [e] at R
          clear e
          go_wp2_with (at_builtin; refine wpList_append_own _ rfl _ _ 93 rfl w1.heap.size 21 i0 (.int .i32 0) 1 4 Tryz.underlying93 hi hz0 hz1 hz2 rfl (by decide) _ _ _ rfl (HO.out.1.alloc _) ⟨_, 0, none⟩ 1 1 [.int .i32 65533] rfl rfl (news1 _ _ _) (by intro u hu; simp at hu; subst hu; rfl) (by unfold maxLen; omega) (by omega) (by have := HO.out.2.size; simp; omega) ?_; intro v' w2 hown' hgrow _; replace HO := hide (HO.out.grow (ys := [65533]) hown' hgrow); clear hown' hgrow)
          go_roundw
          case rel => exact .mk (k + 1) (xs ++ [65533]) (by omega) (by go_num) (by rw [PS.out]) (by rw [List.length_append, List.length_singleton]; omega) HO.out R.out
          case measure => simp [intOf]; omega
        · rw [e] at R
          have y1 : (x == 10) = false := by simp [x1]
          have y5 : (x != 10) = true := by simp [x1]
          have y2 : (x == 13) = false := by simp [x2]
          have y3 : (x == 12) = false := by simp [x3]
          have y4 : (x == 0) = false := by simp [x4]
          clear x1 x2 x3 x4
          clear e
          go_wp2_with (at_builtin; refine wpList_append_own _ rfl _ _ 93 rfl w1.heap.size 21 i0 (.int .i32 0) 1 4 Tryz.underlying93 hi hz0 hz1 hz2 rfl (by decide) _ _ _ rfl (HO.out.1.alloc _) ⟨_, 0, none⟩ 1 1 [.int .i32 x] rfl rfl (news1 _ _ _) (by intro u hu; simp at hu; subst hu; rfl) (by unfold maxLen; omega) (by omega) (by have := HO.out.2.size; simp; omega) ?_; intro v' w2 hown' hgrow _; replace HO := hide (HO.out.grow (ys := [x]) hown' hgrow); clear hown' hgrow)
          go_roundw
          case rel => exact .mk (k + 1) (xs ++ [x]) (by omega) (by go_num) (by rw [PS.out]) (by rw [List.length_append, List.length_singleton]; omega) HO.out R.out
          case measure => simp [intOf]; omega
    · have R' := hide (lin_end R.out (by rw [← HN1.out]; omega))
      have N := hide (HO.out.nums (by omega))
      go_wp2
      go_ret
      exact ⟨_, rfl, by rw [D.out, R'.out]; exact N.out, bto B1.out HO.out.2⟩
set_option maxRecDepth 100000 in
set_option maxHeartbeats 4000000 in
theorem decR_no2 (bs ds : List Int) (b o n c : Nat) (w : World) (hn9 : n ≤ 4611686018427387904) (hc9 : c ≤ 9223372036854775807) (hs : 3 ≤ n) (y2 : Int) (c0 : w.cell? ⟨b, o, none⟩ = some (.int .u8 239)) (c1 : w.cell? ⟨b, o + 1, none⟩ = some (.int .u8 187)) (c2 : w.cell? ⟨b, o + 2, none⟩ = some (.int .u8 y2)) (g2 : (y2 == 191) = false)
    (BC : By ds) (NC : Hid (Nums .u8 w (.slice (some ⟨b, o, none⟩) n c) ds)) (LR : (raw ds).length ≤ 1099511627776) (LD : ds.length ≤ 1099511627776) (D : Hid (dcd bs = lin 0 (raw ds))) :
    Calls Tryz.prog 40 #[.slice (some ⟨b, o, none⟩) n c] w fun e w' => ∃ u, e = .returned u ∧ Nums .i32 w' u (dcd bs) ∧ Below w.heap.size w w' := by
  obtain ⟨i0, hi, hz0, hz1, hz2⟩ := info_parts info32
  go_enter Tryz.func40, Tryz.ntmps40
  go_wp2_with (go_at_call 50; refine (rawR_any ds _ _ BC NC.out (by omega)).mono ?_; rintro e w1 ⟨u1, rfl, N1, B1⟩; obtain ⟨a1, n1, c1, rfl, hn1, hn19, _, hc1⟩ := N1.form; replace N1 := hide N1; replace B1 := hide B1; have HN1 := hide hn1; have HC1 := hide hc1; have hnb : n1 ≤ 1099511627776 := (by omega); clear hn1 hc1)
  go_loopw [3, 4, 34] (fun l la i wr => RelLi2 w1 n1 (raw ds) l la i wr) (fun _ _ i _ => n1 - (intOf i).toNat)
  case atStart => exact .mk 0 [] (by omega) rfl rfl (by simp) (Own.nil _ _ _) rfl
  case round =>
    obtain ⟨k, xs, hk, rfl, rfl, hxs, HO, R⟩ := hrel
    replace HO := hide HO
    by_cases hlt : k < n1
    · obtain ⟨b1, o1, rfl, hbw1, hcl1, hc91, hcc1⟩ := HC1.out (by omega)
      have cx : wr.cell? ⟨b1, o1 + k, none⟩ = some (.int .i32 (gt (raw ds) k)) := (HO.out.2.cell (p := ⟨b1, o1 + k, none⟩) hbw1).trans (hcc1 k hlt)
      have R1 := hide (lin_in R.out (by rw [← HN1.out]; exact hlt))
      have R2 := hide (lin_out R.out (by rw [← HN1.out]; exact hlt))
      have PS := hide (pv_succ (raw ds) k)
      clear hcc1 R
      generalize gt (raw ds) k = x at *
      generalize pv (raw ds) k = p at *
      rcases tr_cases x p with ⟨rfl, rfl⟩ | ⟨hno, q⟩
      · have R := hide (R2.out ⟨rfl, rfl⟩)
        clear R1 R2
        go_wp2
        go_roundw
        case rel => exact .mk (k + 1) xs (by omega) (by go_num) (by rw [PS.out]) (by omega) HO.out R.out
        case measure => simp [intOf]; omega
      · have R := hide (R1.out hno)
        clear R1 R2 hno
        rcases q with ⟨rfl, hp, e⟩ | ⟨rfl, e⟩ | ⟨rfl, e⟩ | ⟨rfl, e⟩ | ⟨x1, x2, x3, x4, e⟩
        · rw [e] at R
          have hp' : (p != 13) = true := by simp [hp]
          clear hp
          clear e
          go_wp2_with (at_builtin; refine wpList_append_own _ rfl _ _ 93 rfl w1.heap.size 21 i0 (.int .i32 0) 1 4 Tryz.underlying93 hi hz0 hz1 hz2 rfl (by decide) _ _ _ rfl (HO.out.1.alloc _) ⟨_, 0, none⟩ 1 1 [.int .i32 10] rfl rfl (news1 _ _ _) (by intro u hu; simp at hu; subst hu; rfl) (by unfold maxLen; omega) (by omega) (by have := HO.out.2.size; simp; omega) ?_; intro v' w2 hown' hgrow _; replace HO := hide (HO.out.grow (ys := [10]) hown' hgrow); clear hown' hgrow)
          go_roundw
          case rel => exact .mk (k + 1) (xs ++ [10]) (by omega) (by go_num) (by rw [PS.out]) (by rw [List.length_append, List.length_singleton]; omega) HO.out R.out
          case measure => simp [intOf]; omega
        · rw [e] at R
          clear e
          go_wp2_with (at_builtin; refine wpList_append_own _ rfl _ _ 93 rfl w1.heap.size 21 i0 (.int .i32 0) 1 4 Tryz.underlying93 hi hz0 hz1 hz2 rfl (by decide) _ _ _ rfl (HO.out.1.alloc _) ⟨_, 0, none⟩ 1 1 [.int .i32 10] rfl rfl (news1 _ _ _) (by intro u hu; simp at hu; subst hu; rfl) (by unfold maxLen; omega) (by omega) (by have := HO.out.2.size; simp; omega) ?_; intro v' w2 hown' hgrow _; replace HO := hide (HO.out.grow (ys := [10]) hown' hgrow); clear hown' hgrow)
          go_roundw
          case rel => exact .mk (k + 1) (xs ++ [10]) (by omega) (by go_num) (by rw [PS.out]) (by rw [List.length_append, List.length_singleton]; omega) HO.out R.out
          case measure => simp [intOf]; omega
        · rw [e] at R
          clear e
          go_wp2_with (at_builtin; refine wpList_append_own _ rfl _ _ 93 rfl w1.heap.size 21 i0 (.int .i32 0) 1 4 Tryz.underlying93 hi hz0 hz1 hz2 rfl (by decide) _ _ _ rfl (HO.out.1.alloc _) ⟨_, 0, none⟩ 1 1 [.int .i32 10] rfl rfl (news1 _ _ _) (by intro u hu; simp at hu; subst hu; rfl) (by unfold maxLen; omega) (by omega) (by have := HO.out.2.size; simp; omega) ?_; intro v' w2 hown' hgrow _; replace HO := hide (HO.out.grow (ys := [10]) hown' hgrow); clear hown' hgrow)
          go_roundw
          case rel => exact .mk (k + 1) (xs ++ [10]) (by omega) (by go_num) (by rw [PS.out]) (by rw [List.length_append, List.length_singleton]; omega) HO.out R.out
          case measure => simp [intOf]; omega
        · rw [e] at R
          clear e
          go_wp2_with (at_builtin; refine wpList_append_own _ rfl _ _ 93 rfl w1.heap.size 21 i0 (.int .i32 0) 1 4 Tryz.underlying93 hi hz0 hz1 hz2 rfl (by decide) _ _ _ rfl (HO.out.1.alloc _) ⟨_, 0, none⟩ 1 1 [.int .i32 65533] rfl rfl (news1 _ _ _) (by intro u hu; simp at hu; subst hu; rfl) (by unfold maxLen; omega) (by omega) (by have := HO.out.2.size; simp; omega) ?_; intro v' w2 hown' hgrow _; replace HO := hide (HO.out.grow (ys := [65533]) hown' hgrow); clear hown' hgrow)
          go_roundw
          case rel => exact .mk (k + 1) (xs ++ [65533]) (by omega) (by go_num) (by rw [PS.out]) (by rw [List.length_append, List.length_singleton]; omega) HO.out R.out
          case measure => simp [intOf]; omega
        · rw [e] at R
          have y1 : (x == 10) = false := by simp [x1]
          have y5 : (x != 10) = true := by simp [x1]
          have y2 : (x == 13) = false := by simp [x2]
          have y3 : (x == 12) = false := by simp [x3]
          have y4 : (x == 0) = false := by simp [x4]
          clear x1 x2 x3 x4
          clear e
          go_wp2_with (at_builtin; refine wpList_append_own _ rfl _ _ 93 rfl w1.heap.size 21 i0 (.int .i32 0) 1 4 Tryz.underlying93 hi hz0 hz1 hz2 rfl (by decide) _ _ _ rfl (HO.out.1.alloc _) ⟨_, 0, none⟩ 1 1 [.int .i32 x] rfl rfl (news1 _ _ _) (by intro u hu; simp at hu; subst hu; rfl) (by unfold maxLen; omega) (by omega) (by have := HO.out.2.size; simp; omega) ?_; intro v' w2 hown' hgrow _; replace HO := hide (HO.out.grow (ys := [x]) hown' hgrow); clear hown' hgrow)
          go_roundw
          case rel => exact .mk (k + 1) (xs ++ [x]) (by omega) (by go_num) (by rw [PS.out]) (by rw [List.length_append, List.length_singleton]; omega) HO.out R.out
          case measure => simp [intOf]; omega
    · have R' := hide (lin_end R.out (by rw [← HN1.out]; omega))
      have N := hide (HO.out.nums (by omega))
      go_wp2
      go_ret
      exact ⟨_, rfl, by rw [D.out, R'.out]; exact N.out, bto B1.out HO.out.2⟩
set_option maxRecDepth 100000 in
set_option maxHeartbeats 4000000 in
theorem decR_yes3 (bs ds : List Int) (b o : Nat) (w : World) (hn9 : True) (hc9 : True) (c0 : w.cell? ⟨b, o, none⟩ = some (.int .u8 239)) (c1 : w.cell? ⟨b, o + 1, none⟩ = some (.int .u8 187)) (c2 : w.cell? ⟨b, o + 2, none⟩ = some (.int .u8 191))
    (BC : By ds) (NC : Hid (Nums .u8 w (.slice (some ⟨b, o, none⟩) 0 0) ds)) (LR : (raw ds).length ≤ 1099511627776) (LD : ds.length ≤ 1099511627776) (D : Hid (dcd bs = lin 0 (raw ds))) :
    Calls Tryz.prog 40 #[.slice (some ⟨b, o, none⟩) 3 3] w fun e w' => ∃ u, e = .returned u ∧ Nums .i32 w' u (dcd bs) ∧ Below w.heap.size w w' := by
  obtain ⟨i0, hi, hz0, hz1, hz2⟩ := info_parts info32
  go_enter Tryz.func40, Tryz.ntmps40
  go_wp2_with (go_at_call 50; refine (rawR_any ds _ _ BC NC.out (by omega)).mono ?_; rintro e w1 ⟨u1, rfl, N1, B1⟩; obtain ⟨a1, n1, c1, rfl, hn1, hn19, _, hc1⟩ := N1.form; replace N1 := hide N1; replace B1 := hide B1; have HN1 := hide hn1; have HC1 := hide hc1; have hnb : n1 ≤ 1099511627776 := (by omega); clear hn1 hc1)
  go_loopw [3, 4, 34] (fun l la i wr => RelLi2 w1 n1 (raw ds) l la i wr) (fun _ _ i _ => n1 - (intOf i).toNat)
  case atStart => exact .mk 0 [] (by omega) rfl rfl (by simp) (Own.nil _ _ _) rfl
  case round =>
    obtain ⟨k, xs, hk, rfl, rfl, hxs, HO, R⟩ := hrel
    replace HO := hide HO
    by_cases hlt : k < n1
    · obtain ⟨b1, o1, rfl, hbw1, hcl1, hc91, hcc1⟩ := HC1.out (by omega)
      have cx : wr.cell? ⟨b1, o1 + k, none⟩ = some (.int .i32 (gt (raw ds) k)) := (HO.out.2.cell (p := ⟨b1, o1 + k, none⟩) hbw1).trans (hcc1 k hlt)
      have R1 := hide (lin_in R.out (by rw [← HN1.out]; exact hlt))
      have R2 := hide (lin_out R.out (by rw [← HN1.out]; exact hlt))
      have PS := hide (pv_succ (raw ds) k)
      clear hcc1 R
      generalize gt (raw ds) k = x at *
      generalize pv (raw ds) k = p at *
      rcases tr_cases x p with ⟨rfl, rfl⟩ | ⟨hno, q⟩
      · have R := hide (R2.out ⟨rfl, rfl⟩)
        clear R1 R2
        go_wp2
        go_roundw
        case rel => exact .mk (k + 1) xs (by omega) (by go_num) (by rw [PS.out]) (by omega) HO.out R.out
        case measure => simp [intOf]; omega
      · have R := hide (R1.out hno)
        clear R1 R2 hno
        rcases q with ⟨rfl, hp, e⟩ | ⟨rfl, e⟩ | ⟨rfl, e⟩ | ⟨rfl, e⟩ | ⟨x1, x2, x3, x4, e⟩
        · rw [e] at R
          have hp' : (p != 13) = true := by simp [hp]
          clear hp
          clear e
          go_wp2_with (at_builtin; refine wpList_append_own _ rfl _ _ 93 rfl w1.heap.size 21 i0 (.int .i32 0) 1 4 Tryz.underlying93 hi hz0 hz1 hz2 rfl (by decide) _ _ _ rfl (HO.out.1.alloc _) ⟨_, 0, none⟩ 1 1 [.int .i32 10] rfl rfl (news1 _ _ _) (by intro u hu; simp at hu; subst hu; rfl) (by unfold maxLen; omega) (by omega) (by have := HO.out.2.size; simp; omega) ?_; intro v' w2 hown' hgrow _; replace HO := hide (HO.out.grow (ys := [10]) hown' hgrow); clear hown' hgrow)
          go_roundw
          case rel => exact .mk (k + 1) (xs ++ [10]) (by omega) (by go_num) (by rw [PS.out]) (by rw [List.length_append, List.length_singleton]; omega) HO.out R.out
          case measure => simp [intOf]; omega
        · rw [e] at R
          clear e
          go_wp2_with (at_builtin; refine wpList_append_own _ rfl _ _ 93 rfl w1.heap.size 21 i0 (.int .i32 0) 1 4 Tryz.underlying93 hi hz0 hz1 hz2 rfl (by decide) _ _ _ rfl (HO.out.1.alloc _) ⟨_, 0, none⟩ 1 1 [.int .i32 10] rfl rfl (news1 _ _ _) (by intro u hu; simp at hu; subst hu; rfl) (by unfold maxLen; omega) (by omega) (by have := HO.out.2.size; simp; omega) ?_; intro v' w2 hown' hgrow _; replace HO := hide (HO.out.grow (ys := [10]) hown' hgrow); clear hown' hgrow)
          go_roundw
          case rel => exact .mk (k + 1) (xs ++ [10]) (by omega) (by go_num) (by rw [PS.out]) (by rw [List.length_append, List.length_singleton]; omega) HO.out R.out
          case measure => simp [intOf]; omega
        · rw [e] at R
          clear e
          go_wp2_with (at_builtin; refine wpList_append_own _ rfl _ _ 93 rfl w1.heap.size 21 i0 (.int .i32 0) 1 4 Tryz.underlying93 hi hz0 hz1 hz2 rfl (by decide) _ _ _ rfl (HO.out.1.alloc _) ⟨_, 0, none⟩ 1 1 [.int .i32 10] rfl rfl (news1 _ _ _) (by intro u hu; simp at hu; subst hu; rfl) (by unfold maxLen; omega) (by omega) (by have := HO.out.2.size; simp; omega) ?_; intro v' w2 hown' hgrow _; replace HO := hide (HO.out.grow (ys := [10]) hown' hgrow); clear hown' hgrow)
          go_roundw
          case rel => exact .mk (k + 1) (xs ++ [10]) (by omega) (by go_num) (by rw [PS.out]) (by rw [List.length_append, List.length_singleton]; omega) HO.out R.out
          case measure => simp [intOf]; omega
        · rw [e] at R
          clear e
          go_wp2_with (at_builtin; refine wpList_append_own _ rfl _ _ 93 rfl w1.heap.size 21 i0 (.int .i32 0) 1 4 Tryz.underlying93 hi hz0 hz1 hz2 rfl (by decide) _ _ _ rfl (HO.out.1.alloc _) ⟨_, 0, none⟩ 1 1 [.int .i32 65533] rfl rfl (news1 _ _ _) (by intro u hu; simp at hu; subst hu; rfl) (by unfold maxLen; omega) (by omega) (by have := HO.out.2.size; simp; omega) ?_; intro v' w2 hown' hgrow _; replace HO := hide (HO.out.grow (ys := [65533]) hown' hgrow); clear hown' hgrow)
          go_roundw
          case rel => exact .mk (k + 1) (xs ++ [65533]) (by omega) (by go_num) (by rw [PS.out]) (by rw [List.length_append, List.length_singleton]; omega) HO.out R.out
          case measure => simp [intOf]; omega
        · rw [e] at R
          have y1 : (x == 10) = false := by simp [x1]
          have y5 : (x != 10) = true := by simp [x1]
          have y2 : (x == 13) = false := by simp [x2]
          have y3 : (x == 12) = false := by simp [x3]
          have y4 : (x == 0) = false := by simp [x4]
          clear x1 x2 x3 x4
          clear e
          go_wp2_with (at_builtin; refine wpList_append_own _ rfl _ _ 93 rfl w1.heap.size 21 i0 (.int .i32 0) 1 4 Tryz.underlying93 hi hz0 hz1 hz2 rfl (by decide) _ _ _ rfl (HO.out.1.alloc _) ⟨_, 0, none⟩ 1 1 [.int .i32 x] rfl rfl (news1 _ _ _) (by intro u hu; simp at hu; subst hu; rfl) (by unfold maxLen; omega) (by omega) (by have := HO.out.2.size; simp; omega) ?_; intro v' w2 hown' hgrow _; replace HO := hide (HO.out.grow (ys := [x]) hown' hgrow); clear hown' hgrow)
          go_roundw
          case rel => exact .mk (k + 1) (xs ++ [x]) (by omega) (by go_num) (by rw [PS.out]) (by rw [List.length_append, List.length_singleton]; omega) HO.out R.out
          case measure => simp [intOf]; omega
    · have R' := hide (lin_end R.out (by rw [← HN1.out]; omega))
      have N := hide (HO.out.nums (by omega))
      go_wp2
      go_ret
      exact ⟨_, rfl, by rw [D.out, R'.out]; exact N.out, bto B1.out HO.out.2⟩
set_option maxRecDepth 100000 in
set_option maxHeartbeats 4000000 in
theorem decR_yes (bs ds : List Int) (b o n c : Nat) (w : World) (hn9 : n ≤ 4611686018427387904) (hc9 : c ≤ 9223372036854775807) (hs : 3 ≤ n) (hnc : n ≤ c) (hc3 : ¬ c = 3) (c0 : w.cell? ⟨b, o, none⟩ = some (.int .u8 239)) (c1 : w.cell? ⟨b, o + 1, none⟩ = some (.int .u8 187)) (c2 : w.cell? ⟨b, o + 2, none⟩ = some (.int .u8 191))
    (BC : By ds) (NC : Hid (Nums .u8 w (.slice (some ⟨b, o + 3, none⟩) (n - 3) (c - 3)) ds)) (LR : (raw ds).length ≤ 1099511627776) (LD : ds.length ≤ 1099511627776) (D : Hid (dcd bs = lin 0 (raw ds))) :
    Calls Tryz.prog 40 #[.slice (some ⟨b, o, none⟩) n c] w fun e w' => ∃ u, e = .returned u ∧ Nums .i32 w' u (dcd bs) ∧ Below w.heap.size w w' := by
  obtain ⟨i0, hi, hz0, hz1, hz2⟩ := info_parts info32
  go_enter Tryz.func40, Tryz.ntmps40
  go_wp2_with (go_at_call 50; refine (rawR_any ds _ _ BC NC.out (by omega)).mono ?_; rintro e w1 ⟨u1, rfl, N1, B1⟩; obtain ⟨a1, n1, c1, rfl, hn1, hn19, _, hc1⟩ := N1.form; replace N1 := hide N1; replace B1 := hide B1; have HN1 := hide hn1; have HC1 := hide hc1; have hnb : n1 ≤ 1099511627776 := (by omega); clear hn1 hc1)
  go_loopw [3, 4, 34] (fun l la i wr => RelLi2 w1 n1 (raw ds) l la i wr) (fun _ _ i _ => n1 - (intOf i).toNat)
  case atStart => exact .mk 0 [] (by omega) rfl rfl (by simp) (Own.nil _ _ _) rfl
  case round =>
    obtain ⟨k, xs, hk, rfl, rfl, hxs, HO, R⟩ := hrel
    replace HO := hide HO
    by_cases hlt : k < n1
    · obtain ⟨b1, o1, rfl, hbw1, hcl1, hc91, hcc1⟩ := HC1.out (by omega)
      have cx : wr.cell? ⟨b1, o1 + k, none⟩ = some (.int .i32 (gt (raw ds) k)) := (HO.out.2.cell (p := ⟨b1, o1 + k, none⟩) hbw1).trans (hcc1 k hlt)
      have R1 := hide (lin_in R.out (by rw [← HN1.out]; exact hlt))
      have R2 := hide (lin_out R.out (by rw [← HN1.out]; exact hlt))
      have PS := hide (pv_succ (raw ds) k)
      clear hcc1 R
      generalize gt (raw ds) k = x at *
      generalize pv (raw ds) k = p at *
      rcases tr_cases x p with ⟨rfl, rfl⟩ | ⟨hno, q⟩
      · have R := hide (R2.out ⟨rfl, rfl⟩)
        clear R1 R2
        go_wp2
        go_roundw
        case rel => exact .mk (k + 1) xs (by omega) (by go_num) (by rw [PS.out]) (by omega) HO.out R.out
        case measure => simp [intOf]; omega
      · have R := hide (R1.out hno)
        clear R1 R2 hno
        rcases q with ⟨rfl, hp, e⟩ | ⟨rfl, e⟩ | ⟨rfl, e⟩ | ⟨rfl, e⟩ | ⟨x1, x2, x3, x4, e⟩
        · rw [e] at R
          have hp' : (p != 13) = true := by simp [hp]
          clear hp
          clear e
          go_wp2_with (at_builtin; refine wpList_append_own _ rfl _ _ 93 rfl w1.heap.size 21 i0 (.int .i32 0) 1 4 Tryz.underlying93 hi hz0 hz1 hz2 rfl (by decide) _ _ _ rfl (HO.out.1.alloc _) ⟨_, 0, none⟩ 1 1 [.int .i32 10] rfl rfl (news1 _ _ _) (by intro u hu; simp at hu; subst hu; rfl) (by unfold maxLen; omega) (by omega) (by have := HO.out.2.size; simp; omega) ?_; intro v' w2 hown' hgrow _; replace HO := hide (HO.out.grow (ys := [10]) hown' hgrow); clear hown' hgrow)
          go_roundw
          case rel => exact .mk (k + 1) (xs ++ [10]) (by omega) (by go_num) (by rw [PS.out]) (by rw [List.length_append, List.length_singleton]; omega) HO.out R.out
          case measure => simp [intOf]; omega
        · rw [e] at R
          clear e
          go_wp2_with (at_builtin; refine wpList_append_own _ rfl _ _ 93 rfl w1.heap.size 21 i0 (.int .i32 0) 1 4 Tryz.underlying93 hi hz0 hz1 hz2 rfl (by decide) _ _ _ rfl (HO.out.1.alloc _) ⟨_, 0, none⟩ 1 1 [.int .i32 10] rfl rfl (news1 _ _ _) (by intro u hu; simp at hu; subst hu; rfl) (by unfold maxLen; omega) (by omega) (by have := HO.out.2.size; simp; omega) ?_; intro v' w2 hown' hgrow _; replace HO := hide (HO.out.grow (ys := [10]) hown' hgrow); clear hown' hgrow)
          go_roundw
          case rel => exact .mk (k + 1) (xs ++ [10]) (by omega) (by go_num) (by rw [PS.out]) (by rw [List.length_append, List.length_singleton]; omega) HO.out R.out
          case measure => simp [intOf]; omega
        · rw [e] at R
          clear e
          go_wp2_with (at_builtin; refine wpList_append_own _ rfl _ _ 93 rfl w1.heap.size 21 i0 (.int .i32 0) 1 4 Tryz.underlying93 hi hz0 hz1 hz2 rfl (by decide) _ _ _ rfl (HO.out.1.alloc _) ⟨_, 0, none⟩ 1 1 [.int .i32 10] rfl rfl (news1 _ _ _) (by intro u hu; simp at hu; subst hu; rfl) (by unfold maxLen; omega) (by omega) (by have := HO.out.2.size; simp; omega) ?_; intro v' w2 hown' hgrow _; replace HO := hide (HO.out.grow (ys := [10]) hown' hgrow); clear hown' hgrow)
          go_roundw
          case rel => exact .mk (k + 1) (xs ++ [10]) (by omega) (by go_num) (by rw [PS.out]) (by rw [List.length_append, List.length_singleton]; omega) HO.out R.out
          case measure => simp [intOf]; omega
        · rw [e] at R
          clear e
          go_wp2_with (at_builtin; refine wpList_append_own _ rfl _ _ 93 rfl w1.heap.size 21 i0 (.int .i32 0) 1 4 Tryz.underlying93 hi hz0 hz1 hz2 rfl (by decide) _ _ _ rfl (HO.out.1.alloc _) ⟨_, 0, none⟩ 1 1 [.int .i32 65533] rfl rfl (news1 _ _ _) (by intro u hu; simp at hu; subst hu; rfl) (by unfold maxLen; omega) (by omega) (by have := HO.out.2.size; simp; omega) ?_; intro v' w2 hown' hgrow _; replace HO := hide (HO.out.grow (ys := [65533]) hown' hgrow); clear hown' hgrow)
          go_roundw
          case rel => exact .mk (k + 1) (xs ++ [65533]) (by omega) (by go_num) (by rw [PS.out]) (by rw [List.length_append, List.length_singleton]; omega) HO.out R.out
          case measure => simp [intOf]; omega
        · rw [e] at R
          have y1 : (x == 10) = false := by simp [x1]
          have y5 : (x != 10) = true := by simp [x1]
          have y2 : (x == 13) = false := by simp [x2]
          have y3 : (x == 12) = false := by simp [x3]
          have y4 : (x == 0) = false := by simp [x4]
          clear x1 x2 x3 x4
          clear e
          go_wp2_with (at_builtin; refine wpList_append_own _ rfl _ _ 93 rfl w1.heap.size 21 i0 (.int .i32 0) 1 4 Tryz.underlying93 hi hz0 hz1 hz2 rfl (by decide) _ _ _ rfl (HO.out.1.alloc _) ⟨_, 0, none⟩ 1 1 [.int .i32 x] rfl rfl (news1 _ _ _) (by intro u hu; simp at hu; subst hu; rfl) (by unfold maxLen; omega) (by omega) (by have := HO.out.2.size; simp; omega) ?_; intro v' w2 hown' hgrow _; replace HO := hide (HO.out.grow (ys := [x]) hown' hgrow); clear hown' hgrow)
          go_roundw
          case rel => exact .mk (k + 1) (xs ++ [x]) (by omega) (by go_num) (by rw [PS.out]) (by rw [List.length_append, List.length_singleton]; omega) HO.out R.out
          case measure => simp [intOf]; omega
    · have R' := hide (lin_end R.out (by rw [← HN1.out]; omega))
      have N := hide (HO.out.nums (by omega))
      go_wp2
      go_ret
      exact ⟨_, rfl, by rw [D.out, R'.out]; exact N.out, bto B1.out HO.out.2⟩
theorem dcdR_any (bs : List Int) (v : Value) (w : World) (hb : By bs) (hv : Nums .u8 w v bs) (hl9 : bs.length ≤ 1099511627776) :
    Calls Tryz.prog 40 #[v] w fun e w' => ∃ u, e = .returned u ∧ Nums .i32 w' u (dcd bs) ∧ Below w.heap.size w w' := by
  obtain ⟨a, n, c, rfl, hn, hn9, _, hc⟩ := hv.form
  have LC := cutm_len bs
  have LR := (raw_le (cut bs)).1
  have BC := hb.cut
  have D : dcd bs = lin 0 (raw (cut bs)) := rfl
  rcases mark_cases bs with ⟨h, e⟩ | ⟨h, h0, e⟩ | ⟨h, h0, h1, e⟩ | ⟨h, h0, h1, h2, e⟩ | ⟨h, h0, h1, h2, e⟩
  · have e1 : cut bs = bs := by unfold cut; rw [e]; rfl
    rw [e1] at LC LR BC D
    exact decR_short bs bs a n c w hn9 trivial (by omega) BC hv (by omega) (by omega) D
  all_goals
    obtain ⟨b, o, rfl, hbw, hl, hc9, hcc⟩ := hc (by omega)
    have c0 : w.cell? ⟨b, o, none⟩ = some (.int .u8 (gt bs 0)) := hcc 0 (by omega)
    have c1 : w.cell? ⟨b, o + 1, none⟩ = some (.int .u8 (gt bs 1)) := hcc 1 (by omega)
    have c2 : w.cell? ⟨b, o + 2, none⟩ = some (.int .u8 (gt bs 2)) := hcc 2 (by omega)
  · have e1 : cut bs = bs := by unfold cut; rw [e]; rfl
    rw [e1] at LC LR BC D
    exact decR_no0 bs bs b o n c w hn9 hc9 (by omega) _ c0 (by simp [h0]) BC hv (by omega) (by omega) D
  · have e1 : cut bs = bs := by unfold cut; rw [e]; rfl
    rw [e1] at LC LR BC D
    rw [h0] at c0
    exact decR_no1 bs bs b o n c w hn9 hc9 (by omega) _ c0 c1 (by simp [h1]) BC hv (by omega) (by omega) D
  · have e1 : cut bs = bs := by unfold cut; rw [e]; rfl
    rw [e1] at LC LR BC D
    rw [h0] at c0
    rw [h1] at c1
    exact decR_no2 bs bs b o n c w hn9 hc9 (by omega) _ c0 c1 c2 (by simp [h2]) BC hv (by omega) (by omega) D
  · have e1 : cut bs = bs.drop 3 := by unfold cut; rw [e]; rfl
    rw [e1] at LC LR BC D
    rw [h0] at c0
    rw [h1] at c1
    rw [h2] at c2
    by_cases hc3 : c = 3
    · obtain ⟨e2, e3⟩ := hv.none3 (by omega) hc3
      subst hc3
      subst e2
      exact decR_yes3 bs (bs.drop 3) b o w trivial trivial c0 c1 c2 BC (.inl ⟨_, _, rfl, e3⟩) (by omega) (by omega) D
    · exact decR_yes bs (bs.drop 3) b o n c w hn9 hc9 (by omega) hl hc3 c0 c1 c2 BC (hv.three (by omega) hc3) (by omega) (by omega) D
theorem dec_three : dcd [97, 13, 10] = [97, 10] := by
  have e1 : cut [97, 13, 10] = [97, 13, 10] := by decide
  have e2 : raw [97, 13, 10] = [97, 13, 10] := by
    rw [raw_cut (by simp)]
    show (97 : Int) :: raw [13, 10] = _
    rw [raw_cut (by simp)]
    show (97 : Int) :: 13 :: raw [10] = _
    rw [raw_cut (by simp)]
    show (97 : Int) :: 13 :: 10 :: raw [] = _
    rw [raw_nil]
  unfold dcd
  rw [e1, e2]
  decide
theorem By.three : By [97, 13, 10] := by intro x hx; simp at hx; omega
end Go.Proofs.YtmkbjcoagfnegabGreatDoor
set_option linter.unusedVariables false
set_option linter.unusedSimpArgs false
namespace Go.Proofs.YtmkbjcoagfnegabGreatDoor
open Go.RowKit

theorem AtR.growT {T : TypeId} {W w wr w1 : World} {b : Nat} {u v : Value} {l s : List Int} {o : Obj} {ts : List Tk} (h : AtR T W wr b u l s) (hb : b < w.heap.size) (ho : OwnT b w wr v ts) (hg : (wr.alloc o).grownBy w1 v.ownBlock) : AtR T W w1 b u l s := by
  obtain ⟨p, h1, h2, h3⟩ := h.ex
  have B := bplus (Below.refl wr.heap.size wr) o
  have hbe := h1.ge
  refine ⟨p, ⟨(bto h1.bel B).grown hg (Nat.le_trans h1.bel.size B.size) (fun k hk => by have := (ho.1.lt k hk).1; omega), h1.ge, ?_, h1.nums, h1.len, h1.le⟩, h2, h3⟩
  exact (hg.block b (Nat.lt_of_lt_of_le h1.lt B.size) (fun e => by have := (ho.1.lt b e.symm).1; omega)).trans ((B.block b h1.lt).trans h1.blk)
def RelTr (T : TypeId) (W w0 : World) (b : Nat) (v : Value) (l s : List Int) (g : Nat) (tv : Value) (wr : World) : Prop :=
  ∃ ts t, AtR T W wr b v l t ∧ t.length ≤ g ∧ ts.length + t.length ≤ s.length ∧ OwnT b w0 wr tv ts ∧ Hid (toks s = ts ++ toks t)
theorem RelTr.mk {T : TypeId} {W w0 : World} {b : Nat} {v : Value} {l s : List Int} {g : Nat} {tv : Value} {wr : World} (ts : List Tk) (t : List Int) (h1 : AtR T W wr b v l t) (h2 : t.length ≤ g) (h3 : ts.length + t.length ≤ s.length) (h4 : OwnT b w0 wr tv ts) (h5 : toks s = ts ++ toks t) : RelTr T W w0 b v l s g tv wr := ⟨ts, t, h1, h2, h3, h4, h5⟩
set_option maxRecDepth 100000 in
set_option maxHeartbeats 2000000 in
theorem toksR_any (l : List Int) (v : Value) (w : World) (hK : Kinds w) (hv : Nums .i32 w v l) (hL : l.length ≤ 250000000) :
    Calls Tryz.prog 39 #[v] w fun e w' => ∃ u, e = .returned u ∧ Toks w' u (toks (chs l)) ∧ Below w.heap.size w w' := by
  obtain ⟨i0, hi, hz0, hz1, hz2⟩ := info_parts infoT
  obtain ⟨a, n, c, rfl⟩ := hv.shape
  have A1 := hide (At.start w (.slice a n c) l 103 hv (by omega)).r
  have hcl : (chs l).length = l.length := chs_len l
  clear hv
  obtain ⟨s, hs⟩ : ∃ s, chs l = s := ⟨_, rfl⟩
  rw [hs] at A1 hcl ⊢
  clear hs
  have hsl : s.length ≤ 250000000 := by omega
  have L0 := hide hL
  have KH := hide hK
  clear hL hcl hK
  obtain ⟨w0, hw0⟩ : ∃ x, w.alloc (.cells #[.slice a n c, .int .i64 0] 103) = x := ⟨_, rfl⟩
  have hbw : w.heap.size < w0.heap.size := by rw [← hw0]; simp
  rw [hw0] at A1
  have W0 := hide hw0
  clear hw0
  go_enter Tryz.func39, Tryz.ntmps39
  go_wp2_with fail
  rw [W0.out]
  go_loopg [3] s.length (fun g tv wr => RelTr 103 w w0 w.heap.size (.slice a n c) l s g tv wr)
  case atStart => exact .mk [] s A1.out (Nat.le_refl _) (by simp) (OwnT.nil _ _) rfl
  case round =>
    clear A1
    obtain ⟨ts, t, A1, hg, hx, OW, R⟩ := hrel
    replace A1 := hide A1
    replace OW := hide OW
    obtain ⟨q, hq⟩ : ∃ q, rmk t = q := ⟨_, rfl⟩
    have RQ := hide hq
    have lq := rmk_le t
    rw [hq] at lq
    obtain ⟨x, hx0⟩ : ∃ x, nx q 0 = x := ⟨_, rfl⟩
    have H0 := hide (show nx q (Int.toNat 0) = x from hx0)
    by_cases hm : x = -1
    · subst hm
      have E := R.out
      rw [toks_end (s := t) (by rw [hq]; exact hx0), List.append_nil] at E
      replace E := hide E
      clear hx0 hq
      go_wp2_with (first
        | (go_at_call 47; refine (remarksR_any 103 w _ w.heap.size _ l t A1.out).mono ?_; rintro e w4 ⟨rfl, A2, M2⟩; rw [RQ.out] at A2; replace A1 := hide A2; replace OW := hide (OW.out.mod hbw M2); clear A2 M2)
        | (go_at_call 48; refine (atR_any 103 w _ w.heap.size _ l q _ A1.out (by decide) (by decide)).mono ?_; rintro e w1 ⟨he, B1⟩; rw [H0.out] at he; subst he; replace A1 := hide (A1.out.below B1); replace OW := hide (OW.out.mod hbw (Mod.of _ B1)); clear B1))
      go_ret
      obtain ⟨p, hp, _⟩ := A1.out.ex
      exact ⟨_, rfl, by rw [E.out]; exact OW.out.toks (by omega), hp.bel⟩
    · have em : (x == -1) = false := by simpa using hm
      have hne : nx q 0 ≠ -1 := by rw [hx0]; exact hm
      have HN := hide hne
      have E := R.out
      rw [toks_go (s := t) (by rw [hq]; exact hne), hq] at E
      have l1 := tokn_lt hne
      clear hx0 hne hq
      obtain ⟨⟨⟨k, tx, nu, de, wh, id⟩, r⟩, ht⟩ : ∃ z, tokn q = z := ⟨_, rfl⟩
      have TT := hide ht
      rw [ht] at E l1
      clear ht
      simp only at E l1
      rw [show ts ++ (⟨k, tx, nu, de, wh, id⟩ : Tk) :: toks r = (ts ++ [⟨k, tx, nu, de, wh, id⟩]) ++ toks r by simp] at E
      replace E := hide E
      go_wp2_with (first
        | (go_at_call 47; refine (remarksR_any 103 w _ w.heap.size _ l t A1.out).mono ?_; rintro e w4 ⟨rfl, A2, M2⟩; rw [RQ.out] at A2; replace A1 := hide A2; replace OW := hide (OW.out.mod hbw M2); clear A2 M2)
        | (go_at_call 48; refine (atR_any 103 w _ w.heap.size _ l q _ A1.out (by decide) (by decide)).mono ?_; rintro e w1 ⟨he, B1⟩; rw [H0.out] at he; subst he; replace A1 := hide (A1.out.below B1); replace OW := hide (OW.out.mod hbw (Mod.of _ B1)); clear B1)
        | (go_at_call 49; refine (nextR_any 103 w _ w.heap.size _ l q L0.out KH.out HN.out (A1.out.in HN.out)).mono ?_; rintro e w3 ⟨he, A2, M2⟩; replace he := he.cells; rw [TT.out] at he A2; subst he; replace A1 := hide A2; replace OW := hide (OW.out.mod hbw M2); clear A2 M2)
        | (at_builtin; refine wpList_append_own _ rfl _ _ 70 rfl w0.heap.size 62 i0 _ 6 48 Tryz.underlying70 hi hz0 hz1 hz2 rfl (by decide) _ _ _ rfl (OW.out.1.alloc _) ⟨_, 0, none⟩ 1 1 (tkC ⟨k, tx, nu, de, wh, id⟩) rfl rfl (news6 _ _ _ _ _ _ _ _) (one6 _) (by unfold maxLen; omega) (by omega) (by have := OW.out.2.size; simp; omega) ?_; intro v' w5 hown' hgrow _; replace A1 := hide (A1.out.growT hbw OW.out hgrow); replace OW := hide (OW.out.grow hown' hgrow); clear hown' hgrow))
      go_roundg (gk - 1)
      case measure => omega
      case rel => exact .mk _ r A1.out (by omega) (by rw [List.length_append, List.length_singleton]; omega) OW.out E.out
theorem Kinds.below {w w' : World} (h : Kinds w) (hw : Below w.heap.size w w') : Kinds w' :=
  ⟨Nat.lt_of_lt_of_le h.lt hw.size, (hw.cell (p := ⟨0, 0, none⟩) h.lt).trans h.k0, (hw.cell (p := ⟨0, 1, none⟩) h.lt).trans h.k1, (hw.cell (p := ⟨0, 2, none⟩) h.lt).trans h.k2, (hw.cell (p := ⟨0, 3, none⟩) h.lt).trans h.k3, (hw.cell (p := ⟨0, 4, none⟩) h.lt).trans h.k4, (hw.cell (p := ⟨0, 5, none⟩) h.lt).trans h.k5, (hw.cell (p := ⟨0, 6, none⟩) h.lt).trans h.k6, (hw.cell (p := ⟨0, 7, none⟩) h.lt).trans h.k7, (hw.cell (p := ⟨0, 8, none⟩) h.lt).trans h.k8⟩
set_option maxRecDepth 100000 in
set_option maxHeartbeats 1000000 in
theorem tbytesR_any (bs : List Int) (v : Value) (w : World) (hK : Kinds w) (hb : By bs) (hv : Nums .u8 w v bs) (hl : bs.length ≤ 250000000) :
    Calls Tryz.prog 23 #[v] w fun e w' => ∃ u, e = .returned u ∧ Toks w' u (toks (chs (dcd bs))) ∧ Below w.heap.size w w' := by
  have hd := dcd_len bs
  have L := hide (show (dcd bs).length ≤ 250000000 by omega)
  have HV := hide hv
  have HB := hide hb
  have KH := hide hK
  have H9 := hide (show bs.length ≤ 1099511627776 by omega)
  clear hv hb hl hd hK
  go_enter Tryz.func23, Tryz.ntmps23
  go_wp2_with (first
    | (go_at_call 40; refine (dcdR_any bs v _ HB.out HV.out H9.out).mono ?_; rintro e w1 ⟨u, rfl, N, B1⟩; replace N := hide N; replace KH := hide (KH.out.below B1); replace B1 := hide B1)
    | (go_at_call 39; refine (toksR_any (dcd bs) _ _ KH.out N.out L.out).mono ?_; rintro e w2 ⟨u2, rfl, N2, B2⟩; replace N2 := hide N2; replace B1 := hide (bto B1.out B2); clear B2))
  go_ret
  exact ⟨_, rfl, N2.out, B1.out⟩
end Go.Proofs.YtmkbjcoagfnegabGreatDoor
set_option linter.unusedVariables false
set_option linter.unusedSimpArgs false
namespace Go.Proofs.YtmkbjcoagfnegabGreatDoor
open Go.RowKit

theorem valuesF_any (l : List TS) (v : Value) (w : World) (hv : Toks4 w v l) (hL : l.length ≤ 250000000) :
    Calls Tryz.prog 22 #[v] w fun e w' => ∃ u, e = .returned u ∧ VM w' u (valsF l) ∧ Below w.heap.size w w' := valuesF_of shut5_any l v w hv hL
/-- A token that is read, as a raw one. -/
def tsK (τ : Tk) : TS := ⟨τ.kind, tb τ.text, τ.num, τ.den, τ.whole, τ.id⟩
theorem Toks.four {w : World} {v : Value} {ts : List Tk} (h : Toks w v ts) : Toks4 w v (ts.map tsK) := by
  rcases h with ⟨a, c, rfl, rfl⟩ | ⟨b, o, n, c, rfl, rfl, h0, hb, hn, hl, hc, hr⟩
  · exact .inl ⟨a, c, rfl, rfl⟩
  · refine .inr ⟨b, o, ts.length, c, rfl, by simp, h0, hb, hn, by omega, hc, fun i t ht => ?_⟩
    rw [List.getElem?_map, Option.map_eq_some_iff] at ht
    obtain ⟨τ, h1, rfl⟩ := ht
    have C := hr i τ h1
    exact ⟨C 0 (by omega), C 1 (by omega), C 2 (by omega), C 3 (by omega), C 4 (by omega), C 5 (by omega)⟩
/-- The component values of some bytes. -/
def ofV (bs : List Int) : List VT := valsF ((toks (chs (dcd bs))).map tsK)
theorem toks_le : ∀ (n : Nat) (s : List Int), s.length ≤ n → (toks s).length ≤ s.length := by
  intro n
  induction n with
  | zero =>
    intro s h
    have : s = [] := List.eq_nil_of_length_eq_zero (by omega)
    subst this
    rw [toks_end (by rw [rmk_end (by simp [nx])]; rfl)]; simp
  | succ n ih =>
    intro s h
    by_cases hx : nx (rmk s) 0 = -1
    · rw [toks_end hx]; simp
    · have h1 := tokn_lt hx
      have h2 := rmk_le s
      rw [toks_go hx, List.length_cons]
      have := ih (tokn (rmk s)).2 (by omega)
      omega
set_option maxRecDepth 100000 in
set_option maxHeartbeats 1000000 in
theorem of9_any (s : ByteArray) (w : World) (hK : Kinds w) (hl : s.size ≤ 250000000) :
    Calls Tryz.prog 13 #[.string s] w fun e w' => ∃ u, e = .returned u ∧ VM w' u (ofV (bl s)) ∧ Below w.heap.size w w' := by
  have hlen : (bl s).length = s.size := bl_len s
  have hd := dcd_len (bl s)
  have L := hide (show ((toks (chs (dcd (bl s)))).map tsK).length ≤ 250000000 by rw [List.length_map]; have := toks_le _ (chs (dcd (bl s))) (Nat.le_refl _); rw [chs_len] at this; omega)
  obtain ⟨v, w1, hr, N, B⟩ := conv_any s w (by omega)
  have C := hide (tbytesR_any (bl s) v w1 (hK.below B) (bl_by s) N (by omega))
  have B1 := hide B
  clear hK N B hd hlen
  go_enter Tryz.func13, Tryz.ntmps13
  go_wp2_with (first
    | (go_at_call 23; refine C.out.mono ?_; rintro e w2 ⟨u2, rfl, N2, B2⟩; replace N2 := hide N2.four; replace B1 := hide (bto B1.out B2); clear B2)
    | (go_at_call 22; refine (valuesF_any _ _ _ N2.out L.out).mono ?_; rintro e w3 ⟨u3, rfl, V, B3⟩; replace V := hide V; replace B1 := hide (bto B1.out B3); clear B3))
  go_ret
  exact ⟨_, rfl, V.out, B1.out⟩
end Go.Proofs.YtmkbjcoagfnegabGreatDoor
