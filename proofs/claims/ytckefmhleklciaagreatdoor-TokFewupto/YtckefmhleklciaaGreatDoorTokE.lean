/-
  The program's reader: what comes next, what is taken.
-/
import Derived.Test.YtckefmhleklciaaGreatDoorTokC
import Derived.Deep.RegionHeld3
set_option linter.unusedVariables false
set_option linter.unusedSimpArgs false
namespace Go.Proofs.YtckefmhleklciaaGreatDoor
open Go.RowKit

/-- All but block b is as it was. -/
theorem Mod.of {w w' : World} (b : Nat) (h : Below w.heap.size w w') : w.grownBy w' (some b) := ⟨h.os, h.tape, h.output, h.size, fun k hk _ => h.block k hk⟩
theorem Mod.trans {w w1 w2 : World} {b : Nat} (h : w.grownBy w1 (some b)) (k : w1.grownBy w2 (some b)) : w.grownBy w2 (some b) :=
  ⟨k.os.trans h.os, k.tape.trans h.tape, k.output.trans h.output, Nat.le_trans h.size k.size, fun i hi hb => (k.block i (Nat.lt_of_lt_of_le hi h.size) hb).trans (h.block i hi hb)⟩
theorem Mod.below {W w w' : World} {b : Nat} (h : w.grownBy w' (some b)) (hb : W.heap.size ≤ b) (hw : Below W.heap.size W w) : Below W.heap.size W w' :=
  hw.trans ⟨h.os, h.tape, h.output, h.size, fun k hk => h.block k (Nat.lt_of_lt_of_le hk hw.size) (by intro e; cases e; omega)⟩
theorem Mod.refl (w : World) (b : Nat) : w.grownBy w (some b) := Mod.of b (Below.refl _ _)
set_option maxHeartbeats 1000000 in
theorem ahead_any (T : TypeId) (W w : World) (b : Nat) (v : Value) (l : List Int) (p : Nat) (h : Rd T W w b v l p) (hp : p ≤ l.length) :
    Calls Tryz.prog 23 #[.pointer (some ⟨b, 0, none⟩)] w fun e w' => ∃ u, e = .returned u ∧ Look 9 w' u ((chs l).drop p) ∧ Below w.heap.size w w' := by
  have c0 := h.c0
  have c1 := h.c1
  have NS := hide h.ns
  have hl := h.len
  obtain ⟨a, n, c, rfl⟩ := h.ns.shape
  clear h
  go_enter Tryz.func23, Tryz.ntmps23
  go_wp2
  go_region_with (go_at_call 50; refine (lookFrom_any l _ p _ (NS.out.below (by repeat (first | (with_reducible exact Below.refl _ _) | (with_reducible refine Below.drew ?_)))) hp hl).mono ?_; rintro e w1 ⟨u, rfl, HL, B1⟩; replace HL := hide HL; replace B1 := hide B1)
  all_goals go_wp2
  all_goals go_ret
  all_goals exact ⟨_, rfl, HL.out, bto (by repeat (first | (with_reducible exact Below.refl _ _) | (with_reducible refine Below.drew ?_))) B1.out⟩
theorem next_any (T : TypeId) (W w : World) (b : Nat) (v : Value) (l : List Int) (p : Nat) (h : Rd T W w b v l p) (hp : p ≤ l.length) :
    Calls Tryz.prog 15 #[.pointer (some ⟨b, 0, none⟩)] w fun e w' => e = .returned (.int .i32 (nx ((chs l).drop p) 0)) ∧ Below w.heap.size w w' := by
  have C := hide (ahead_any T W w b v l p h hp)
  have H0 := hide (show nx ((chs l).drop p) (Int.toNat 0) = nx ((chs l).drop p) 0 from rfl)
  clear h
  go_enter Tryz.func15, Tryz.ntmps15
  go_wp2_with (first
    | (go_at_call 23; refine C.out.mono ?_; rintro e w1 ⟨u, rfl, HL, B1⟩; obtain ⟨g, lb, rfl, eg, hg⟩ := HL; replace hg := hide hg; replace B1 := hide B1)
    | (go_at_fn g; refine (hg.out _ _ (by decide) (by decide) (Below.refl _ _)).mono ?_; rintro e w2 ⟨he, B2⟩; rw [H0.out] at he; subst he; replace B1 := hide (bto B1.out B2); clear B2))
  go_ret
  exact ⟨rfl, B1.out⟩
theorem heap_set {w : World} {b : Nat} {cs : Array Value} {T : TypeId} {q : Nat × Nat} (h : w.heap[b]? = some (.cells cs T q)) (i : Nat) (u : Value) : (w.setCell ⟨b, i, none⟩ u).heap[b]? = some (.cells (cs.setIfInBounds i u) T q) := by
  simp [World.setCell, Array.getElem?_modify, h]
theorem Rd.set {T : TypeId} {W w : World} {b : Nat} {v : Value} {l : List Int} {p : Nat} (h : Rd T W w b v l p) (q : Nat) (hq : q ≤ l.length + 4) : Rd T W (w.setCell ⟨b, 1, none⟩ (.int .i64 q)) b v l q ∧ w.grownBy (w.setCell ⟨b, 1, none⟩ (.int .i64 q)) (some b) :=
  ⟨⟨h.bel.setCell (p := ⟨b, 1, none⟩) h.ge _, h.ge, (heap_set h.blk 1 _).trans rfl, h.nums, h.len, hq⟩,
   rfl, rfl, rfl, by simp, fun k _ hk => Below.heap_setCell _ _ _ _ (by intro e; exact hk (by rw [e]))⟩
theorem Rd.drew {T : TypeId} {W w w' : World} {b : Nat} {v : Value} {l : List Int} {p : Nat} (h : Rd T W w' b v l p ∧ w.grownBy w' (some b)) : Rd T W w'.drew b v l p ∧ w.grownBy w'.drew (some b) :=
  ⟨⟨h.1.bel.drew, h.1.ge, h.1.blk, h.1.nums, h.1.len, h.1.le⟩, h.2.os, h.2.tape, h.2.output, h.2.size, h.2.block⟩
set_option maxHeartbeats 1000000 in
theorem skip_any (T : TypeId) (W w : World) (b : Nat) (v : Value) (l : List Int) (p : Nat) (k : Int) (h : Rd T W w b v l p) (k0 : 0 ≤ k) (k1 : k ≤ 9) :
    Calls Tryz.prog 24 #[.pointer (some ⟨b, 0, none⟩), .int .i64 k] w fun e w' => e = .returned (.tuple #[]) ∧ Rd T W w' b v l (min (p + k.toNat) l.length) ∧ w.grownBy w' (some b) := by
  have c0 := h.c0
  have c1 := h.c1
  have f1 : w.frozen? ⟨b, 1, none⟩ = false := by simp [World.frozen?, h.blk]
  have H := hide h
  have hl := h.len
  have hpl := h.le
  obtain ⟨j, rfl⟩ := Int.eq_ofNat_of_zero_le k0
  obtain ⟨a, n, c, rfl, hn, _⟩ : ∃ a n c, v = .slice a n c ∧ n = l.length ∧ True := by
    rcases h.ns with ⟨a, c, rfl, rfl⟩ | ⟨b', o, n, c, rfl, hn, _⟩
    · exact ⟨_, _, _, rfl, rfl, trivial⟩
    · exact ⟨_, _, _, rfl, hn, trivial⟩
  have HN := hide hn
  have hnl : n ≤ 140737488355328 := by omega
  have hpn : p ≤ n + 4 := by omega
  clear h hn hl hpl
  by_cases hle : p + j ≤ n
  · have q1 : (p : Int) + j ≤ n := by omega
    have E := hide (show min (p + (Int.toNat (j : Int))) l.length = p + j by rw [← HN.out]; simp; omega)
    have S := hide (H.out.set (p + j) (by rw [← HN.out]; omega))
    rw [show ((p + j : Nat) : Int) = (p : Int) + j by omega] at S
    go_enter Tryz.func24, Tryz.ntmps24
    go_wp2
    go_region
    all_goals (try go_wp2)
    all_goals go_end0
    all_goals exact ⟨rfl, by rw [E.out]; exact Rd.drew S.out⟩
  · have q1 : ¬ (p : Int) + j ≤ n := by omega
    have q2 : (n : Int) < (p : Int) + j := by omega
    have E := hide (show min (p + (Int.toNat (j : Int))) l.length = n by rw [← HN.out]; simp; omega)
    have S := hide (H.out.set n (by rw [← HN.out]; omega))
    go_enter Tryz.func24, Tryz.ntmps24
    go_wp2
    go_region
    all_goals (try go_wp2)
    all_goals go_end0
    all_goals exact ⟨rfl, by rw [E.out]; exact Rd.drew S.out⟩
theorem drop_min (l : List Int) (p k : Nat) : (chs l).drop (min (p + k) l.length) = ((chs l).drop p).drop k := by
  rw [List.drop_drop]
  by_cases h : p + k ≤ l.length
  · rw [Nat.min_eq_left h]
  · rw [Nat.min_eq_right (by omega), List.drop_of_length_le (by rw [chs_len]; omega), List.drop_of_length_le (by rw [chs_len]; omega)]
/-- Where the reader stands. -/
structure At (T : TypeId) (W w : World) (b : Nat) (v : Value) (l : List Int) (s : List Int) : Prop where
  ex : ∃ p, Rd T W w b v l p ∧ p ≤ l.length ∧ s = (chs l).drop p
theorem At.below {T : TypeId} {W w w' : World} {b : Nat} {v : Value} {l s : List Int} (h : At T W w b v l s) (hw : Below w.heap.size w w') : At T W w' b v l s := by
  obtain ⟨p, h1, h2, h3⟩ := h.ex
  exact ⟨p, h1.below hw, h2, h3⟩
theorem At.lt {T : TypeId} {W w : World} {b : Nat} {v : Value} {l s : List Int} (h : At T W w b v l s) : b < w.heap.size := by
  obtain ⟨p, h1, _⟩ := h.ex; exact h1.lt
theorem At.len {T : TypeId} {W w : World} {b : Nat} {v : Value} {l s : List Int} (h : At T W w b v l s) : s.length ≤ l.length ∧ l.length ≤ 140737488355328 := by
  obtain ⟨p, h1, _, rfl⟩ := h.ex
  exact ⟨by rw [List.length_drop, chs_len]; omega, h1.len⟩
theorem At.chr {T : TypeId} {W w : World} {b : Nat} {v : Value} {l s : List Int} (h : At T W w b v l s) : ∀ x ∈ s, isC x = true := by
  obtain ⟨p, _, _, rfl⟩ := h.ex
  intro x hx
  obtain ⟨y, _, rfl⟩ := List.mem_map.1 (List.mem_of_mem_drop hx)
  exact isC_chr y
theorem aheadA (T : TypeId) (W w : World) (b : Nat) (v : Value) (l s : List Int) (h : At T W w b v l s) :
    Calls Tryz.prog 23 #[.pointer (some ⟨b, 0, none⟩)] w fun e w' => ∃ u, e = .returned u ∧ Look 9 w' u s ∧ Below w.heap.size w w' := by
  obtain ⟨p, h1, h2, rfl⟩ := h.ex
  exact ahead_any T W w b v l p h1 h2
theorem nextA (T : TypeId) (W w : World) (b : Nat) (v : Value) (l s : List Int) (h : At T W w b v l s) :
    Calls Tryz.prog 15 #[.pointer (some ⟨b, 0, none⟩)] w fun e w' => e = .returned (.int .i32 (nx s 0)) ∧ Below w.heap.size w w' := by
  obtain ⟨p, h1, h2, rfl⟩ := h.ex
  exact next_any T W w b v l p h1 h2
theorem skipA (T : TypeId) (W w : World) (b : Nat) (v : Value) (l s : List Int) (k : Int) (h : At T W w b v l s) (k0 : 0 ≤ k) (k1 : k ≤ 9) :
    Calls Tryz.prog 24 #[.pointer (some ⟨b, 0, none⟩), .int .i64 k] w fun e w' => e = .returned (.tuple #[]) ∧ At T W w' b v l (s.drop k.toNat) ∧ w.grownBy w' (some b) := by
  obtain ⟨p, h1, h2, rfl⟩ := h.ex
  exact (skip_any T W w b v l p k h1 k0 k1).mono fun e w' ⟨e1, e2, e3⟩ => ⟨e1, ⟨_, e2, Nat.min_le_right _ _, (drop_min l p k.toNat).symm⟩, e3⟩
theorem takeA (T : TypeId) (W w : World) (b : Nat) (v : Value) (l s : List Int) (h : At T W w b v l s) :
    Calls Tryz.prog 51 #[.pointer (some ⟨b, 0, none⟩)] w fun e w' => e = .returned (.int .i32 (nx s 0)) ∧ At T W w' b v l (s.drop 1) ∧ w.grownBy w' (some b) := by
  have H := hide h
  have M := hide (Mod.refl w b)
  clear h
  go_enter Tryz.func51, Tryz.ntmps51
  go_wp2_with (first
    | (go_at_call 15; refine (nextA T W _ b v l s H.out).mono ?_; rintro e w1 ⟨rfl, B1⟩; replace H := hide (H.out.below B1); replace M := hide (Mod.trans M.out (Mod.of b B1)); clear B1)
    | (go_at_call 24; refine (skipA T W _ b v l s 1 H.out (by decide) (by decide)).mono ?_; rintro e w2 ⟨rfl, A2, M2⟩; replace H := hide A2; replace M := hide (Mod.trans M.out M2); clear A2 M2))
  go_ret
  exact ⟨rfl, H.out, M.out⟩
end Go.Proofs.YtckefmhleklciaaGreatDoor
