/-
  The law of whole bytes.
  Whether two rows of numbers are alike: characters, bytes.
  The characters of some bytes, by the program and by the reference.
  The characters of some bytes, by the reference; the law of both.
-/
import Derived.Test.YtmkbjcoagfnegaaGreatDoorZ02
import Derived.Deep.RegionHeld3
import Derived.OwnWalk
set_option linter.unusedVariables false
set_option linter.unusedSimpArgs false
namespace Go.Proofs.YtmkbjcoagfnegaaGreatDoor
open Go.RowKit

/-- A slice laid by the call itself. -/
theorem Nums.lit {k : IntKind} (w : World) (t : TypeId) (bs : List Int) (n : Nat) (hn : n = bs.length) (h0 : 0 < n) (hl : n ≤ 1000) :
    Nums k (w.alloc (.cells (bs.map (Value.int k)).toArray t)) (.slice (some ⟨w.heap.size, 0, none⟩) n n) bs :=
  .inr ⟨w.heap.size, 0, n, n, rfl, hn, h0, by simp, Nat.le_refl _, by omega, by omega, fun i hi => by
    rw [cell_of_row _ w.heap.size (0 + i) _ t (0, 0) (heap_alloc_new w _)]
    simp [gt, List.getD_eq_getElem?_getD, List.getElem?_eq_getElem (show i < bs.length by omega)]⟩
theorem By.two : By [195, 164] := by intro x hx; simp at hx; omega
end Go.Proofs.YtmkbjcoagfnegaaGreatDoor
set_option linter.unusedVariables false
set_option linter.unusedSimpArgs false
namespace Go.Proofs.YtmkbjcoagfnegaaGreatDoor
open Go.RowKit

theorem below_drewN {B : Nat} {a w : World} (h : Below B a w) (n : Nat) : Below B a (w.drewN n) := ⟨h.os, h.tape, h.output, h.size, h.block⟩
def RelEq (n : Nat) (xs bs : List Int) (i : Value) : Prop := ∃ k : Nat, k ≤ n ∧ i = .int .i64 k ∧ Hid (∀ j, j < k → gt xs j = gt bs j)
theorem RelEq.mk {n : Nat} {xs bs : List Int} (k : Nat) {i : Value} (h1 : k ≤ n) (h2 : i = .int .i64 k) (h3 : ∀ j, j < k → gt xs j = gt bs j) : RelEq n xs bs i := ⟨k, h1, h2, h3⟩
end Go.Proofs.YtmkbjcoagfnegaaGreatDoor
set_option linter.unusedVariables false
set_option linter.unusedSimpArgs false
namespace Go.Proofs.YtmkbjcoagfnegaaGreatDoor
open Go.RowKit

theorem info32 : (Tryz.prog.info? 21).map (fun i => (i.zero, i.size, i.bytes)) = some (some (.int .i32 0), 1, 4) := by kernel_rfl
/-- What the call owns, as numbers. -/
def Own (W : World) (k : IntKind) (e : TypeId) (wr : World) (v : Value) (xs : List Int) : Prop := wr.ownsRow W.heap.size e 1 v xs.length (xs.map (Value.int k)) ∧ Below W.heap.size W wr
theorem Own.nums {W wr : World} {k : IntKind} {e : TypeId} {v : Value} {xs : List Int} (h : Own W k e wr v xs) (hl : xs.length ≤ 4611686018427387904) : Nums k wr v xs := by
  rcases h.1.2 with ⟨rfl, h0⟩ | ⟨g, cap, cur, rfl, hb, hg, hn, hm, hs, ht⟩
  · exact .inl ⟨_, _, rfl, List.eq_nil_of_length_eq_zero h0⟩
  · by_cases h0 : xs.length = 0
    · obtain rfl : xs = [] := List.eq_nil_of_length_eq_zero h0
      exact .inl ⟨_, _, rfl, rfl⟩
    · refine .inr ⟨g, 0, xs.length, cap, rfl, rfl, by omega, (Array.getElem?_eq_some_iff.1 hg).1, hn, hl, by unfold maxLen at hm; exact hm, fun i hi => ?_⟩
      rw [Nat.zero_add, h.1.cellAt i (by omega)]
      simp [gt, List.getD_eq_getElem?_getD, List.getElem?_eq_getElem hi]
theorem Own.nil (W : World) (k : IntKind) (e : TypeId) : Own W k e W (.slice none 0 0) [] := ⟨World.ownsRow_nil _ _ _ _, Below.refl _ _⟩
theorem Own.made {W w1 : World} {k : IntKind} {e : TypeId} {v : Value} (h : w1.ownsRow W.heap.size e 1 v 0 []) (hg : W.grownBy w1 none) : Own W k e w1 v [] :=
  ⟨h, (Below.refl _ _).grown hg (Nat.le_refl _) (fun _ h => by cases h)⟩
theorem Own.grow {W wr w1 : World} {k : IntKind} {e : TypeId} {v v' : Value} {xs ys : List Int} {o : Obj} (h : Own W k e wr v xs)
    (h1 : w1.ownsRow W.heap.size e 1 v' (xs.length + ys.length) (xs.map (Value.int k) ++ ys.map (Value.int k))) (hg : (wr.alloc o).grownBy w1 v.ownBlock) : Own W k e w1 v' (xs ++ ys) := by
  refine ⟨by rw [List.length_append, List.map_append]; exact h1, ?_⟩
  exact (h.2.alloc h.2.size o).grown hg (by have := h.2.size; simp; omega) (fun k hk => (h.1.lt k hk).1)
/-- The state of a loop that reads characters. -/
def RelRaw (W : World) (n : Nat) (bs : List Int) (l a : Value) (wr : World) : Prop :=
  ∃ (i : Nat) (xs : List Int), i ≤ n ∧ a = .int .i64 i ∧ xs.length ≤ i ∧ Own W .i32 21 wr l xs ∧ Hid (raw bs = xs ++ raw (bs.drop i))
theorem RelRaw.mk {W : World} {n : Nat} {bs : List Int} {l a : Value} {wr : World} (i : Nat) (xs : List Int) (h1 : i ≤ n) (h2 : a = .int .i64 i) (h3 : xs.length ≤ i) (h4 : Own W .i32 21 wr l xs) (h5 : raw bs = xs ++ raw (bs.drop i)) : RelRaw W n bs l a wr :=
  ⟨i, xs, h1, h2, h3, h4, h5⟩
theorem raw_go {bs : List Int} {i : Nat} {xs : List Int} (h : raw bs = xs ++ raw (bs.drop i)) (hi : i < bs.length) : raw bs = (xs ++ [(stp (bs.drop i)).1]) ++ raw (bs.drop (i + (stp (bs.drop i)).2.1)) := by
  have hne : bs.drop i ≠ [] := by intro e; have := congrArg List.length e; simp at this; omega
  rw [h, raw_cut hne, List.drop_drop]; simp
theorem raw_end {bs : List Int} {i : Nat} {xs : List Int} (h : raw bs = xs ++ raw (bs.drop i)) (hi : bs.length ≤ i) : raw bs = xs := by
  rw [h, List.drop_of_length_le hi, raw_nil, List.append_nil]
theorem news1 (w : World) (u : Value) (t : TypeId) : ∀ j x, [u][j]? = some x → (w.alloc (.cells #[u] t)).cell? ((⟨w.heap.size, 0, none⟩ : Addr).add j) = some x := fun j x hx => by
  match j, hx with
  | 0, hx => simp at hx; subst hx; simp [Addr.add]
end Go.Proofs.YtmkbjcoagfnegaaGreatDoor
set_option linter.unusedVariables false
set_option linter.unusedSimpArgs false
namespace Go.Proofs.YtmkbjcoagfnegaaGreatDoor
open Go.RowKit

set_option maxRecDepth 100000 in
set_option maxHeartbeats 1000000 in
theorem rawR_any (bs : List Int) (v : Value) (w : World) (hb : By bs) (hv : Nums .u8 w v bs) (hl9 : bs.length ≤ 1099511627776) :
    Calls Tryz.prog 55 #[v] w fun e w' => ∃ u, e = .returned u ∧ Nums .i32 w' u (raw bs) ∧ Below w.heap.size w w' := by
  obtain ⟨i0, hi, hz0, hz1, hz2⟩ := info_parts info32
  rcases hv with ⟨a, c, rfl, rfl⟩ | ⟨b, o, n, c, rfl, hn, h0, hbw, hl, hn9, hc9, hc⟩
  · go_enter Tryz.func55, Tryz.ntmps55
    go_wp2
    refine wp_loop_rounds 1 ?_
    rw [rounds_succ]
    go_wp2
    go_ret
    exact ⟨_, rfl, by rw [raw_nil]; exact .inl ⟨_, _, rfl, rfl⟩, Below.refl _ _⟩
  · have HN : Hid (n = bs.length) := hn
    have HC := hide hc
    have hnb : n ≤ 1099511627776 := by omega
    clear hc hn hl9
    go_enter Tryz.func55, Tryz.ntmps55
    go_wp2
    go_loopw [3, 4] (fun l a wr => RelRaw w n bs l a wr) (fun _ a _ => n - (intOf a).toNat)
    case atStart => exact .mk 0 [] (by omega) rfl (by simp) (Own.nil _ _ _) rfl
    case round =>
      obtain ⟨i, xs, hin, rfl, hxs, HO, R⟩ := hrel
      replace HO := hide HO
      by_cases hlt : i < n
      · obtain ⟨s1, s2, s3⟩ := stp_drop (bs := bs) (i := i) (by rw [← HN.out]; exact hlt)
        rw [← HN.out] at s3
        have R' : Hid _ := raw_go R.out (by rw [← HN.out]; exact hlt)
        have FH := hide (one_any bs n b o c i wr HN.out hb hl hn9 hc9 hlt (fun j hj => (HO.out.2.cell (p := ⟨b, o + j, none⟩) hbw).trans (HC.out j hj)))
        generalize hr : stp (bs.drop i) = r at *
        obtain ⟨x, g, t⟩ := r
        replace FH := FH.out; dsimp only at s1 s2 s3 R'
        clear hr
        go_wp2_with (first
          | (go_at_call 83; refine FH.mono ?_; rintro e w' ⟨rfl, rfl⟩; clear FH)
          | (at_builtin; refine wpList_append_own _ rfl _ _ 82 rfl w.heap.size 21 i0 (.int .i32 0) 1 4 Tryz.underlying82 hi hz0 hz1 hz2 rfl (by decide) _ _ _ rfl (HO.out.1.alloc _) ⟨_, 0, none⟩ 1 1 [.int .i32 x] rfl rfl (news1 _ _ _) (by intro u hu; simp at hu; subst hu; rfl) (by unfold maxLen; omega) (by omega) (by have := HO.out.2.size; simp; omega) ?_; intro v' w1 hown' hgrow _; replace HO := hide (HO.out.grow (ys := [x]) hown' hgrow); clear hown' hgrow))
        go_roundw
        case rel => exact .mk (i + g) (xs ++ [x]) (by omega) (by go_num) (by simp; omega) HO.out R'.out
        case measure => simp [intOf]; omega
      · have R' : Hid _ := raw_end R.out (by rw [← HN.out]; omega)
        have N := hide (HO.out.nums (by omega))
        go_wp2
        go_ret
        exact ⟨_, rfl, by rw [R'.out]; exact N.out, HO.out.2⟩
theorem By.four : By [65, 195, 164, 195] := by intro x hx; simp at hx; omega
end Go.Proofs.YtmkbjcoagfnegaaGreatDoor

