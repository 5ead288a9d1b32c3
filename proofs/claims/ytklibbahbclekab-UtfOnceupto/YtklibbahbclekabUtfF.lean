/-
  Whether two rows of numbers are alike: characters, bytes.
-/
import Derived.Test.YtklibbahbclekabUtfE
set_option linter.unusedVariables false
set_option linter.unusedSimpArgs false
namespace Go.Proofs.Ytklibbahbclekab
open Go.RowKit

def eqB (a b : List Int) : Bool := decide (a = b)
theorem eq_of {xs bs : List Int} (hl : xs.length = bs.length) (h : ∀ j, j < xs.length → gt xs j = gt bs j) : eqB xs bs = true := by
  unfold eqB; simp
  refine List.ext_getElem hl fun i h1 h2 => ?_
  have := h i h1
  rwa [gt_eq h1, gt_eq h2] at this
theorem eqB_iff {a b : List Int} : eqB a b = true ↔ a = b := by unfold eqB; simp
theorem below_drewN {B : Nat} {a w : World} (h : Below B a w) (n : Nat) : Below B a (w.drewN n) := ⟨h.os, h.tape, h.output, h.size, h.block⟩
def RelEq (n : Nat) (xs bs : List Int) (i : Value) : Prop := ∃ k : Nat, k ≤ n ∧ i = .int .i64 k ∧ Hid (∀ j, j < k → gt xs j = gt bs j)
theorem RelEq.mk {n : Nat} {xs bs : List Int} (k : Nat) {i : Value} (h1 : k ≤ n) (h2 : i = .int .i64 k) (h3 : ∀ j, j < k → gt xs j = gt bs j) : RelEq n xs bs i := ⟨k, h1, h2, h3⟩
set_option maxHeartbeats 1000000 in
theorem same_any (xs bs : List Int) (v u : Value) (w : World) (ha : Nums .i32 w v xs) (hb : Nums .i32 w u bs) :
    Calls Try.prog 6 #[v, u] w fun e w' => e = .returned (.bool (eqB xs bs)) ∧ Below w.heap.size w w' := by
  rcases ha with ⟨a, c, rfl, rfl⟩ | ⟨b, o, n, c, rfl, hn, h0, hbw, hl, hn9, hc9, hc⟩
  · rcases hb with ⟨a', c', rfl, rfl⟩ | ⟨b', o', n', c', rfl, hn', h0', hbw', hl', hn9', hc9', hc'⟩
    · go_enter Try.func6, Try.ntmps6
      go_wp2
      refine wp_loop_rounds 1 ?_
      rw [rounds_succ]
      go_wp2
      go_ret
      exact ⟨rfl, Below.refl _ _⟩
    · have hne : eqB [] bs = false := by
        unfold eqB; simp; intro e; subst e; simp at hn'; omega
      have HE : Hid _ := hne
      have hz : (0 : Int) < (n' : Int) := by omega
      clear hc' hn' hne
      go_enter Try.func6, Try.ntmps6
      go_wp2
      go_ret
      exact ⟨ret_bool HE.out.symm, Below.refl _ _⟩
  · rcases hb with ⟨a', c', rfl, rfl⟩ | ⟨b', o', n', c', rfl, hn', h0', hbw', hl', hn9', hc9', hc'⟩
    · have hne : eqB xs [] = false := by
        unfold eqB; simp; intro e; subst e; simp at hn; omega
      have HE : Hid _ := hne
      have hz : (0 : Int) < (n : Int) := by omega
      clear hc hn hne
      go_enter Try.func6, Try.ntmps6
      go_wp2
      go_ret
      exact ⟨ret_bool HE.out.symm, Below.refl _ _⟩
    · by_cases hnn : n = n'
      · subst hnn
        have HN : Hid (n = xs.length) := hn
        have HN' : Hid (n = bs.length) := hn'
        have HC := hide hc
        have HC' := hide hc'
        clear hc hc' hn hn'
        go_enter Try.func6, Try.ntmps6
        go_wp2
        go_loopw [13] (fun i wr => RelEq n xs bs i ∧ ∃ q, wr = w.drewN q) (fun i _ => n - (intOf i).toNat)
        case atStart => exact ⟨.mk 0 (by omega) rfl (fun j hj => by omega), 0, rfl⟩
        case round =>
          obtain ⟨⟨k, hk, rfl, R⟩, q, rfl⟩ := hrel
          by_cases hlt : k < n
          · have c1 := HC.out k hlt
            have c2 := HC'.out k hlt
            by_cases he : gt xs k = gt bs k
            · have R' : Hid (∀ j, j < k + 1 → gt xs j = gt bs j) := fun j hj => by
                by_cases h : j < k
                · exact R.out j h
                · have : j = k := by omega
                  subst this; exact he
              rw [he] at c1
              clear he
              generalize gt bs k = x at c1 c2
              have hx : (x != x) = false := by simp
              go_wp2
              go_quiet (fail)
              go_wp2
              exact ⟨⟨.mk (k + 1) (by omega) (by go_num) R'.out, q + nq, rfl⟩, by simp [intOf]; omega⟩
            · have HE : Hid (eqB xs bs = false) := by
                unfold eqB; simp; intro e; subst e; exact he rfl
              generalize gt bs k = x at c2 he
              generalize gt xs k = y at c1 he
              have hx : (y != x) = true := by simp [he]
              clear he
              go_wp2
              go_quiet (fail)
              go_wp2
              go_ret
              exact ⟨ret_bool HE.out.symm, below_drewN (below_drewN (Below.refl _ _) _) _⟩
          · have HE : Hid (eqB xs bs = true) := eq_of (HN.out.symm.trans HN'.out) (fun j hj => R.out j (by have := HN.out; omega))
            go_wp2
            go_ret
            exact ⟨ret_bool HE.out.symm, below_drewN (Below.refl _ _) _⟩
      · have HE : Hid (eqB xs bs = false) := by
          unfold eqB; simp; intro e; subst e; omega
        have hz : ¬ ((n : Int) = (n' : Int)) := by omega
        clear hc hc' hn hn'
        go_enter Try.func6, Try.ntmps6
        go_wp2
        go_ret
        exact ⟨ret_bool HE.out.symm, Below.refl _ _⟩
end Go.Proofs.Ytklibbahbclekab
