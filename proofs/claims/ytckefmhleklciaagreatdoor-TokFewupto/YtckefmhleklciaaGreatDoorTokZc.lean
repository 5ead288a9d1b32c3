/-
  The same tokens are the same.
-/
import Derived.Test.YtckefmhleklciaaGreatDoorTokZb
import Derived.Outline
set_option linter.unusedVariables false
set_option linter.unusedSimpArgs false
namespace Go.Proofs.YtckefmhleklciaaGreatDoor
open Go.RowKit

def RelSm (n : Nat) (i : Value) : Prop := ∃ k : Nat, k ≤ n ∧ i = .int .i64 k
theorem RelSm.mk {n : Nat} (k : Nat) {i : Value} (h1 : k ≤ n) (h2 : i = .int .i64 k) : RelSm n i := ⟨k, h1, h2⟩
structure Six (w : World) (b o : Nat) (k : Int) (t : ByteArray) (n d : Int) (wh i : Bool) : Prop where
  c0 : w.cell? ⟨b, o, none⟩ = some (.int .i64 k)
  c1 : w.cell? ⟨b, o + 1, none⟩ = some (.string t)
  c2 : w.cell? ⟨b, o + 2, none⟩ = some (.int .i64 n)
  c3 : w.cell? ⟨b, o + 3, none⟩ = some (.int .i64 d)
  c4 : w.cell? ⟨b, o + 4, none⟩ = some (.bool wh)
  c5 : w.cell? ⟨b, o + 5, none⟩ = some (.bool i)
theorem Six.of {w : World} {b o : Nat} {τ : Tk} (h : ∀ j, j < 6 → w.cell? ⟨b, o + j, none⟩ = (tkC τ)[j]?) : Six w b o τ.kind (tb τ.text) τ.num τ.den τ.whole τ.id :=
  ⟨h 0 (by decide), h 1 (by decide), h 2 (by decide), h 3 (by decide), h 4 (by decide), h 5 (by decide)⟩
set_option maxRecDepth 100000 in
set_option maxHeartbeats 1000000 in
theorem sameT_any (ts : List Tk) (v u : Value) (w : World) (ha : Toks w v ts) (hb : Toks w u ts) :
    Calls Tryz.prog 8 #[v, u] w fun e w' => e = .returned (.bool true) ∧ Below w.heap.size w w' := by
  rcases ha with ⟨a, c, rfl, rfl⟩ | ⟨b, o, n, c, rfl, hn, h0, hbw, hl, hn9, hc9, hc⟩
  · rcases hb with ⟨a', c', rfl, _⟩ | ⟨b', o', n', c', rfl, hn', h0', hbw', hl', hn9', hc9', hc'⟩
    · go_enter Tryz.func8, Tryz.ntmps8
      go_wp2
      refine wp_loop_rounds 1 ?_
      rw [rounds_succ]
      go_wp2
      go_ret
      exact ⟨rfl, Below.refl _ _⟩
    · simp at hn'; omega
  · rcases hb with ⟨a', c', rfl, rfl⟩ | ⟨b', o', n', c', rfl, hn', h0', hbw', hl', hn9', hc9', hc'⟩
    · simp at hn; omega
    · obtain rfl : n = n' := hn.trans hn'.symm
      have HN := hide hn
      have HC := hide hc
      have HC' := hide hc'
      clear hc hc' hn hn'
      go_enter Tryz.func8, Tryz.ntmps8
      go_wp2
      go_loopw [13] (fun i wr => RelSm n i ∧ ∃ q, wr = w.drewN q) (fun i _ => n - (intOf i).toNat)
      case atStart => exact ⟨.mk 0 (by omega) rfl, 0, rfl⟩
      case round =>
        obtain ⟨⟨k, hk, rfl⟩, q, rfl⟩ := hrel
        by_cases hlt : k < n
        · obtain ⟨τ, hτ⟩ : ∃ τ, ts[k]? = some τ := ⟨_, List.getElem?_eq_getElem (by rw [← HN.out]; exact hlt)⟩
          obtain ⟨p0, p1, p2, p3, p4, p5⟩ := Six.of (HC.out k τ hτ)
          obtain ⟨r0, r1, r2, r3, r4, r5⟩ := Six.of (HC'.out k τ hτ)
          clear hτ
          obtain ⟨kk, tx, nu, de, wh, id⟩ := τ
          simp only at p0 p1 p2 p3 p4 p5 r0 r1 r2 r3 r4 r5
          generalize tb tx = tt at p1 r1
          go_wp2
          go_quiet (fail)
          go_wp2
          exact ⟨⟨.mk (k + 1) (by omega) (by go_num), q + nq, rfl⟩, by simp [intOf]; omega⟩
        · go_wp2
          go_ret
          exact ⟨rfl, below_drewN (Below.refl _ _) _⟩
end Go.Proofs.YtckefmhleklciaaGreatDoor
