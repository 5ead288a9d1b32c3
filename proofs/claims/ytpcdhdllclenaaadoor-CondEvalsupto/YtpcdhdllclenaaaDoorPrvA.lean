/-
  Component values over raw tokens: plain, and in memory.
-/
import Derived.Test.YtpcdhdllclenaaaDoorTsA
import Derived.Laws.AppendOwn
set_option linter.unusedVariables false
set_option linter.unusedSimpArgs false
namespace Go.Proofs.YtpcdhdllclenaaaDoor
open Go.RowKit

/-- The kind that closes; 0 of what opens nothing. -/
def cKn (k : Int) : Int := if k = 2 ∨ k = 21 then 22 else if k = 19 then 20 else if k = 23 then 24 else 0
def zT (k : Int) : TS := ⟨k, ⟨#[]⟩, 0, 0, false, false⟩
def clT (c : Int) : List TS := if c = 0 then [] else [zT c]
/-- A component value. -/
inductive VT where
  | mk (t : TS) (kids : List VT)
def VT.t : VT → TS | .mk t _ => t
def VT.ks : VT → List VT | .mk _ ks => ks
mutual
/-- The tokens of a value. -/
def flV : VT → List TS
  | .mk t ks => t :: (flL ks ++ clT (cKn t.k))
def flL : List VT → List TS
  | [] => []
  | v :: vs => flV v ++ flL vs
end
theorem flL_cons (v : VT) (vs : List VT) : flL (v :: vs) = v.t :: (flL v.ks ++ (clT (cKn v.t.k) ++ flL vs)) := by
  cases v with | mk t ks => rw [flL, flV]; simp [VT.t, VT.ks]
theorem flL_nil : flL [] = [] := by rw [flL]
theorem flL_app (a b : List VT) : flL (a ++ b) = flL a ++ flL b := by
  induction a with
  | nil => rw [flL_nil]; rfl
  | cons v r ih => rw [List.cons_append, flL_cons, flL_cons, ih]; simp
mutual
/-- How many they are. -/
def szV : VT → Nat
  | .mk t ks => szL ks + 1
def szL : List VT → Nat
  | [] => 0
  | v :: vs => szV v + szL vs
end
theorem szL_cons (v : VT) (vs : List VT) : szL (v :: vs) = szL v.ks + 1 + szL vs := by
  cases v with | mk t ks => rw [szL, szV]; rfl
theorem szL_nil : szL [] = 0 := by rw [szL]
mutual
/-- May they be, at most so deep? -/
def myV : VT → Nat → Bool
  | .mk t ks, left => (decide (1 ≤ t.k) && decide (t.k ≤ 24)) && (if cKn t.k = 0 then ks.isEmpty else (decide (0 < left) && myL ks (left - 1)))
def myL : List VT → Nat → Bool
  | [], _ => true
  | v :: vs, left => myV v left && myL vs left
end
theorem myL_nil (n : Nat) : myL [] n = true := by rw [myL]
theorem myL_cons (v : VT) (vs : List VT) (n : Nat) : myL (v :: vs) n = (((decide (1 ≤ v.t.k) && decide (v.t.k ≤ 24)) && (if cKn v.t.k = 0 then v.ks.isEmpty else (decide (0 < n) && myL v.ks (n - 1)))) && myL vs n) := by
  cases v with | mk t ks => rw [myL, myV]; rfl
theorem fl_len (l : List VT) : (flL l).length ≤ 2 * szL l := by
  generalize hn : szL l = n
  induction n using Nat.strongRecOn generalizing l with
  | ind n ih =>
    cases l with
    | nil => rw [flL_nil]; simp
    | cons v r =>
      rw [szL_cons] at hn
      rw [flL_cons]
      have h1 := ih (szL v.ks) (by omega) v.ks rfl
      have h2 := ih (szL r) (by omega) r rfl
      have h3 : (clT (cKn v.t.k)).length ≤ 1 := by unfold clT; split <;> simp
      simp only [List.length_cons, List.length_append]
      omega
/-- A slice of values in memory. -/
inductive VM (w : World) : Value → List VT → Prop
  | nil (a : Option Addr) (c : Nat) : VM w (.slice a 0 c) []
  | row (b o c : Nat) (l : List VT) (u : Nat → Value) (h0 : 0 < l.length) (hb : b < w.heap.size) (hc : l.length ≤ c) (hn : l.length ≤ 1000000000) (hm : c ≤ 9223372036854775807)
      (ht : ∀ i v, l[i]? = some v → Six4 w b (o + i * 7) v.t) (hu : ∀ i v, l[i]? = some v → w.cell? ⟨b, o + i * 7 + 6, none⟩ = some (u i))
      (hk : ∀ i v, l[i]? = some v → VM w (u i) v.ks) : VM w (.slice (some ⟨b, o, none⟩) l.length c) l
theorem VM.low {w w' : World} {v : Value} {l : List VT} (h : VM w v l) (hw : Below w.heap.size w w') : VM w' v l := by
  induction h with
  | nil a c => exact .nil a c
  | row b o c l u h0 hb hc hn hm ht hu _ ih => exact .row b o c l u h0 (Nat.lt_of_lt_of_le hb hw.size) hc hn hm (fun i v hi => (ht i v hi).below hw hb) (fun i v hi => (hw.cell (p := ⟨b, o + i * 7 + 6, none⟩) hb).trans (hu i v hi)) ih
theorem VM.shape {w : World} {v : Value} {l : List VT} (h : VM w v l) : ∃ a c, v = .slice a l.length c ∧ l.length ≤ 1000000000 := by
  cases h with
  | nil a c => exact ⟨a, c, rfl, by simp⟩
  | row b o c l u h0 hb hc hn hm ht hu hk => exact ⟨_, _, rfl, hn⟩
/-- The first value of a slice, and the rest. -/
theorem VM.head {w : World} {v : Value} {x : VT} {l : List VT} (h : VM w v (x :: l)) : ∃ b o c u, v = .slice (some ⟨b, o, none⟩) (l.length + 1) c ∧ b < w.heap.size ∧ l.length + 1 ≤ c ∧ c ≤ 9223372036854775807 ∧ l.length + 1 ≤ 1000000000 ∧ Six4 w b o x.t ∧ w.cell? ⟨b, o + 6, none⟩ = some u ∧ VM w u x.ks ∧ VM w (.slice (some ⟨b, o + 7, none⟩) l.length (c - 1)) l := by
  cases h with
  | row b o c l' u h0 hb hc hn hm ht hu hk =>
    have t0 := ht 0 x rfl
    have u0 := hu 0 x rfl
    rw [Nat.zero_mul, Nat.add_zero] at t0 u0
    refine ⟨b, o, c, u 0, rfl, hb, hc, hm, hn, t0, u0, hk 0 x rfl, ?_⟩
    by_cases hl : l = []
    · subst hl; exact .nil _ _
    · have hl' : 0 < l.length := List.length_pos_iff.2 hl
      simp only [List.length_cons] at hc hn
      refine .row b (o + 7) (c - 1) l (fun i => u (i + 1)) hl' hb (by omega) (by omega) (by omega) (fun i v hi => ?_) (fun i v hi => ?_) (fun i v hi => hk (i + 1) v hi)
      · have := ht (i + 1) v hi; rwa [show o + (i + 1) * 7 = o + 7 + i * 7 by omega] at this
      · have := hu (i + 1) v hi; rwa [show o + (i + 1) * 7 + 6 = o + 7 + i * 7 + 6 by omega] at this
/-- One value of a slice. -/
theorem VM.at {w : World} {v : Value} {l : List VT} (h : VM w v l) {i : Nat} {x : VT} (hi : l[i]? = some x) : ∃ b o c u, v = .slice (some ⟨b, o, none⟩) l.length c ∧ b < w.heap.size ∧ Six4 w b (o + i * 7) x.t ∧ w.cell? ⟨b, o + i * 7 + 6, none⟩ = some u ∧ VM w u x.ks := by
  cases h with
  | nil a c => simp at hi
  | row b o c l u h0 hb hc hn hm ht hu hk => exact ⟨b, o, c, u i, rfl, hb, ht i x hi, hu i x hi, hk i x hi⟩
/-! ### Rows that a call owns -/
theorem ownsRow_blk {w : World} {base : Nat} {e : TypeId} {sz : Nat} {v : Value} {n : Nat} {xs : List Value} (h : w.ownsRow base e sz v n xs) (hn : 0 < n) : ∃ g cap cur, v = .slice (some ⟨g, 0, none⟩) n cap ∧ base ≤ g ∧ w.heap[g]? = some (.cells cur e (0, 0)) ∧ n ≤ cap ∧ cap ≤ maxLen ∧ cur.size = cap * sz ∧ cur.toList.take (n * sz) = xs := by
  rcases h.2 with ⟨_, h0⟩ | h1
  · omega
  · exact h1
/-- A shorter one. -/
theorem ownsRow_cut {w : World} {base : Nat} {e : TypeId} {sz g cap n : Nat} {xs ys : List Value} (h : w.ownsRow base e sz (.slice (some ⟨g, 0, none⟩) (n + 1) cap) (n + 1) (xs ++ ys)) (hx : xs.length = n * sz) : w.ownsRow base e sz (.slice (some ⟨g, 0, none⟩) n cap) n xs := by
  refine ⟨hx, ?_⟩
  rcases h.2 with ⟨h1, _⟩ | ⟨g', cap', cur, hv, hb, hg, hn, hm, hs, ht⟩
  · cases h1
  · cases hv
    refine .inr ⟨g, cap, cur, rfl, hb, hg, by omega, hm, hs, ?_⟩
    have := congrArg (List.take (n * sz)) ht
    rw [List.take_take, Nat.min_eq_left (Nat.mul_le_mul_right _ (by omega)), ← hx, List.take_left'] at this
    rwa [hx] at this
    rfl
theorem setCell_blk {w : World} {g j : Nat} {cur : Array Value} {e : TypeId} {q : Nat × Nat} (hg : w.heap[g]? = some (.cells cur e q)) (u : Value) : (w.setCell ⟨g, j, none⟩ u).heap[g]? = some (.cells (cur.set! j u) e q) := by
  obtain ⟨hlt, he⟩ := Array.getElem?_eq_some_iff.1 hg
  simp [World.setCell, hlt, Array.getElem_modify, he]
/-- One cell is put. -/
theorem ownsRow_set {w : World} {base : Nat} {e : TypeId} {sz g cap n : Nat} {xs : List Value} (h : w.ownsRow base e sz (.slice (some ⟨g, 0, none⟩) n cap) n xs) (j : Nat) (u : Value) : (w.setCell ⟨g, j, none⟩ u).ownsRow base e sz (.slice (some ⟨g, 0, none⟩) n cap) n (xs.set j u) := by
  refine ⟨by rw [List.length_set]; exact h.1, ?_⟩
  rcases h.2 with ⟨h1, _⟩ | ⟨g', cap', cur, hv, hb, hg, hn, hm, hs, ht⟩
  · cases h1
  · cases hv
    refine .inr ⟨g, cap, _, rfl, hb, setCell_blk hg u, hn, hm, by simp [hs], ?_⟩
    rw [← ht]
    simp [Array.set!_eq_setIfInBounds, List.take_set]
end Go.Proofs.YtpcdhdllclenaaaDoor
