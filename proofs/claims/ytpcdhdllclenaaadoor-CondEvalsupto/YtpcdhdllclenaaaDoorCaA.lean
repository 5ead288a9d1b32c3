/-
  Expressions: plain, and in memory.
-/
import Derived.Test.YtpcdhdllclenaaaDoorPrvA
import Derived.Test.YtpcdhdllclenaaaDoorPlnA
set_option linter.unusedVariables false
set_option linter.unusedSimpArgs false
namespace Go.Proofs.YtpcdhdllclenaaaDoor
open Go.RowKit

/-- An expression. -/
inductive Ex where
  | mk (k n d u : Int) (kids : List Ex)
def Ex.k : Ex → Int | .mk k _ _ _ _ => k
def Ex.n : Ex → Int | .mk _ n _ _ _ => n
def Ex.d : Ex → Int | .mk _ _ d _ _ => d
def Ex.u : Ex → Int | .mk _ _ _ u _ => u
def Ex.ks : Ex → List Ex | .mk _ _ _ _ ks => ks
def i64 (n : Int) : Prop := -9223372036854775808 ≤ n ∧ n ≤ 9223372036854775807
/-- Its numbers are of 64 bits. -/
def Ex.Ok (e : Ex) : Prop := i64 e.k ∧ i64 e.n ∧ i64 e.d ∧ i64 e.u
mutual
/-- How many they are. -/
def szE : Ex → Nat
  | .mk _ _ _ _ ks => szEs ks + 1
def szEs : List Ex → Nat
  | [] => 0
  | e :: es => szE e + szEs es
end
theorem szEs_nil : szEs [] = 0 := by rw [szEs]
theorem szEs_cons (e : Ex) (es : List Ex) : szEs (e :: es) = szEs e.ks + 1 + szEs es := by
  cases e with | mk k n d u ks => rw [szEs, szE]; rfl
theorem szE_ks (e : Ex) : szE e = szEs e.ks + 1 := by cases e with | mk k n d u ks => rw [szE]; rfl
theorem szEs_at {l : List Ex} {k : Nat} {x : Ex} (h : l[k]? = some x) : szE x ≤ szEs l := by
  induction l generalizing k with
  | nil => simp at h
  | cons y r ih =>
    rw [szEs_cons]
    cases k with
    | zero => cases h; rw [szE_ks]; omega
    | succ k => have := ih (k := k) h; omega
/-- May so many kids be of an expression of this kind? -/
def cntM (k : Int) (n : Nat) : Bool :=
  if k = 2 ∨ k = 4 ∨ k = 6 ∨ k = 7 then decide (1 ≤ n) else if k = 3 ∨ k = 5 then decide (n = 1) else if k = 8 then decide (n = 3) else false
mutual
/-- May it be, at most so deep? -/
def exM : Ex → Nat → Bool
  | .mk k n d u ks, left => decide (0 < left) && (if k = 1 then mayB n d && (decide (0 ≤ u) && decide (u ≤ 7)) && ks.isEmpty else ((n == 0 && d == 0) && (u == 0) && cntM k ks.length) && exMs ks (left - 1))
def exMs : List Ex → Nat → Bool
  | [], _ => true
  | e :: es, left => exM e left && exMs es left
end
theorem exMs_nil (n : Nat) : exMs [] n = true := by rw [exMs]
theorem exMs_cons (e : Ex) (es : List Ex) (n : Nat) : exMs (e :: es) n = (exM e n && exMs es n) := by rw [exMs]
theorem exM_eq (e : Ex) (left : Nat) : exM e left = (decide (0 < left) && (if e.k = 1 then mayB e.n e.d && (decide (0 ≤ e.u) && decide (e.u ≤ 7)) && e.ks.isEmpty else ((e.n == 0 && e.d == 0) && (e.u == 0) && cntM e.k e.ks.length) && exMs e.ks (left - 1))) := by
  cases e with | mk k n d u ks => rw [exM]; rfl
/-- The five cells of an expression, but its kids. -/
def Fiv (w : World) (b o : Nat) (x : Ex) : Prop := w.cell? ⟨b, o, none⟩ = some (.int .i64 x.k) ∧ w.cell? ⟨b, o + 1, none⟩ = some (.int .i64 x.n) ∧ w.cell? ⟨b, o + 2, none⟩ = some (.int .i64 x.d) ∧ w.cell? ⟨b, o + 3, none⟩ = some (.int .i64 x.u)
theorem Fiv.below {w w' : World} {b o : Nat} {x : Ex} {m : Nat} (h : Fiv w b o x) (hw : Below m w w') (hb : b < m) : Fiv w' b o x :=
  ⟨(hw.cell (p := ⟨b, o, none⟩) hb).trans h.1, (hw.cell (p := ⟨b, o + 1, none⟩) hb).trans h.2.1, (hw.cell (p := ⟨b, o + 2, none⟩) hb).trans h.2.2.1, (hw.cell (p := ⟨b, o + 3, none⟩) hb).trans h.2.2.2⟩
/-- A slice of expressions in memory. -/
inductive EM (w : World) : Value → List Ex → Prop
  | nil (a : Option Addr) (c : Nat) : EM w (.slice a 0 c) []
  | row (b o c : Nat) (l : List Ex) (u : Nat → Value) (h0 : 0 < l.length) (hb : b < w.heap.size) (hc : l.length ≤ c) (hn : l.length ≤ 1000000000) (hm : c ≤ 9223372036854775807)
      (hx : ∀ (i : Nat) (v : Ex), l[i]? = some v → v.Ok) (ht : ∀ i v, l[i]? = some v → Fiv w b (o + i * 5) v) (hu : ∀ i v, l[i]? = some v → w.cell? ⟨b, o + i * 5 + 4, none⟩ = some (u i))
      (hk : ∀ i v, l[i]? = some v → EM w (u i) v.ks) : EM w (.slice (some ⟨b, o, none⟩) l.length c) l
theorem EM.low {w w' : World} {v : Value} {l : List Ex} (h : EM w v l) (hw : Below w.heap.size w w') : EM w' v l := by
  induction h with
  | nil a c => exact .nil a c
  | row b o c l u h0 hb hc hn hm hx ht hu _ ih => exact .row b o c l u h0 (Nat.lt_of_lt_of_le hb hw.size) hc hn hm hx (fun i v hi => (ht i v hi).below hw hb) (fun i v hi => (hw.cell (p := ⟨b, o + i * 5 + 4, none⟩) hb).trans (hu i v hi)) ih
theorem EM.shape {w : World} {v : Value} {l : List Ex} (h : EM w v l) : ∃ a c, v = .slice a l.length c ∧ l.length ≤ 1000000000 := by
  cases h with
  | nil a c => exact ⟨a, c, rfl, by simp⟩
  | row b o c l u h0 hb hc hn hm hx ht hu hk => exact ⟨_, _, rfl, hn⟩
/-- One expression of a slice. -/
theorem EM.at {w : World} {v : Value} {l : List Ex} (h : EM w v l) {i : Nat} {x : Ex} (hi : l[i]? = some x) : ∃ b o c u, v = .slice (some ⟨b, o, none⟩) l.length c ∧ b < w.heap.size ∧ l.length ≤ c ∧ c ≤ 9223372036854775807 ∧ x.Ok ∧ Fiv w b (o + i * 5) x ∧ w.cell? ⟨b, o + i * 5 + 4, none⟩ = some u ∧ EM w u x.ks := by
  cases h with
  | nil a c => simp at hi
  | row b o c l u h0 hb hc hn hm hx ht hu hk => exact ⟨b, o, c, u i, rfl, hb, hc, hm, hx i x hi, ht i x hi, hu i x hi, hk i x hi⟩
/-- The value that is an expression. -/
def exV (x : Ex) (u : Value) : Value := .agg #[.int .i64 x.k, .int .i64 x.n, .int .i64 x.d, .int .i64 x.u, u]
end Go.Proofs.YtpcdhdllclenaaaDoor
