/-
  Conditions: plain, and in memory.
-/
import Derived.Test.YtpcdhdllclenaaaDoorCaA
set_option linter.unusedVariables false
set_option linter.unusedSimpArgs false
namespace Go.Proofs.YtpcdhdllclenaaaDoor.cd
open Go.RowKit

/-- A leaf. -/
structure Lf where
  k : Int
  t : Int
  nm : ByteArray
  op : Int
  e : Ex
  wd : ByteArray
  vl : ByteArray
  an : Bool
def Lf.Ok (x : Lf) : Prop := i64 x.k ∧ i64 x.t ∧ i64 x.op ∧ x.e.Ok
/-- A condition. -/
inductive Cn where
  | mk (k : Int) (lf : Lf) (kids : List Cn)
def Cn.k : Cn → Int | .mk k _ _ => k
def Cn.lf : Cn → Lf | .mk _ lf _ => lf
def Cn.ks : Cn → List Cn | .mk _ _ ks => ks
def Cn.Ok (x : Cn) : Prop := i64 x.k ∧ x.lf.Ok
mutual
/-- How many they are. -/
def szC : Cn → Nat
  | .mk _ _ ks => szCs ks + 1
def szCs : List Cn → Nat
  | [] => 0
  | e :: es => szC e + szCs es
end
theorem szCs_nil : szCs [] = 0 := by rw [szCs]
theorem szC_ks (e : Cn) : szC e = szCs e.ks + 1 := by cases e with | mk k lf ks => rw [szC]; rfl
theorem szCs_cons (e : Cn) (es : List Cn) : szCs (e :: es) = szCs e.ks + 1 + szCs es := by rw [szCs, szC_ks]
theorem szCs_at {l : List Cn} {k : Nat} {x : Cn} (h : l[k]? = some x) : szC x ≤ szCs l := by
  induction l generalizing k with
  | nil => simp at h
  | cons y r ih =>
    rw [szCs_cons]
    cases k with
    | zero => cases h; rw [szC_ks]; omega
    | succ k => have := ih (k := k) h; omega
/-- Is it no text? -/
def no (s : ByteArray) : Bool := s.toList.isEmpty
/-- Is it no expression? -/
def noE (e : Ex) : Bool := e.k == 0 && (e.n == 0 && e.d == 0) && e.u == 0 && e.ks.isEmpty
/-- May a leaf be? -/
def lfM (x : Lf) : Bool :=
  if x.k = 0 then x.t == 0 && no x.nm && x.op == 0 && noE x.e && no x.wd && no x.vl && !x.an
  else if x.k = 1 then (decide (0 ≤ x.t) && decide (x.t ≤ 2)) && no x.nm && x.op == 0 && noE x.e && no x.wd && no x.vl && !x.an
  else if x.k = 2 ∨ x.k = 3 then x.t == 0 && !no x.nm && x.op == 0 && noE x.e && no x.wd && no x.vl && !x.an
  else if x.k = 4 then x.t == 0 && !no x.nm && (decide (1 ≤ x.op) && decide (x.op ≤ 5)) && exM x.e 340 && no x.wd && no x.vl && !x.an
  else if x.k = 5 then x.t == 0 && !no x.nm && x.op == 0 && noE x.e && no x.vl && !x.an
  else if x.k = 6 then x.t == 0 && !no x.nm && x.op == 0 && noE x.e && no x.wd && !(x.an && !no x.vl)
  else false
/-- May so many kids be of a condition of this kind? -/
def cntC (k : Int) (n : Nat) : Bool := if k = 1 ∨ k = 2 then decide (1 ≤ n) else if k = 3 then decide (n = 1) else if k = 4 then decide (n = 0) else false
mutual
/-- May it be, at most so deep? -/
def cnM : Cn → Nat → Bool
  | .mk k lf ks, left => decide (0 < left) && (cntC k ks.length && lfM lf && (k == 4 || lf.k == 0) && cnMs ks (left - 1))
def cnMs : List Cn → Nat → Bool
  | [], _ => true
  | e :: es, left => cnM e left && cnMs es left
end
theorem cnMs_nil (n : Nat) : cnMs [] n = true := by rw [cnMs]
theorem cnMs_cons (e : Cn) (es : List Cn) (n : Nat) : cnMs (e :: es) n = (cnM e n && cnMs es n) := by rw [cnMs]
theorem cnM_eq (e : Cn) (left : Nat) : cnM e left = (decide (0 < left) && (cntC e.k e.ks.length && lfM e.lf && (e.k == 4 || e.lf.k == 0) && cnMs e.ks (left - 1))) := by
  cases e with | mk k lf ks => rw [cnM]; rfl
/-- The fourteen cells of a condition. -/
def Fou (w : World) (b o : Nat) (x : Cn) (u z : Value) : Prop :=
  w.cell? ⟨b, o, none⟩ = some (.int .i64 x.k) ∧ w.cell? ⟨b, o + 1, none⟩ = some u ∧ w.cell? ⟨b, o + 2, none⟩ = some (.int .i64 x.lf.k) ∧ w.cell? ⟨b, o + 3, none⟩ = some (.int .i64 x.lf.t) ∧
  w.cell? ⟨b, o + 4, none⟩ = some (.string x.lf.nm) ∧ w.cell? ⟨b, o + 5, none⟩ = some (.int .i64 x.lf.op) ∧ w.cell? ⟨b, o + 6, none⟩ = some (.int .i64 x.lf.e.k) ∧ w.cell? ⟨b, o + 7, none⟩ = some (.int .i64 x.lf.e.n) ∧
  w.cell? ⟨b, o + 8, none⟩ = some (.int .i64 x.lf.e.d) ∧ w.cell? ⟨b, o + 9, none⟩ = some (.int .i64 x.lf.e.u) ∧ w.cell? ⟨b, o + 10, none⟩ = some z ∧ w.cell? ⟨b, o + 11, none⟩ = some (.string x.lf.wd) ∧
  w.cell? ⟨b, o + 12, none⟩ = some (.string x.lf.vl) ∧ w.cell? ⟨b, o + 13, none⟩ = some (.bool x.lf.an)
theorem Fou.below {w w' : World} {b o : Nat} {x : Cn} {u z : Value} {m : Nat} (h : Fou w b o x u z) (hw : Below m w w') (hb : b < m) : Fou w' b o x u z := by
  obtain ⟨h0, h1, h2, h3, h4, h5, h6, h7, h8, h9, ha, hc, hd, he⟩ := h
  exact ⟨(hw.cell (p := ⟨b, o, none⟩) hb).trans h0, (hw.cell (p := ⟨b, o + 1, none⟩) hb).trans h1, (hw.cell (p := ⟨b, o + 2, none⟩) hb).trans h2, (hw.cell (p := ⟨b, o + 3, none⟩) hb).trans h3, (hw.cell (p := ⟨b, o + 4, none⟩) hb).trans h4, (hw.cell (p := ⟨b, o + 5, none⟩) hb).trans h5, (hw.cell (p := ⟨b, o + 6, none⟩) hb).trans h6, (hw.cell (p := ⟨b, o + 7, none⟩) hb).trans h7, (hw.cell (p := ⟨b, o + 8, none⟩) hb).trans h8, (hw.cell (p := ⟨b, o + 9, none⟩) hb).trans h9, (hw.cell (p := ⟨b, o + 10, none⟩) hb).trans ha, (hw.cell (p := ⟨b, o + 11, none⟩) hb).trans hc, (hw.cell (p := ⟨b, o + 12, none⟩) hb).trans hd, (hw.cell (p := ⟨b, o + 13, none⟩) hb).trans he⟩
/-- A slice of conditions in memory. -/
inductive CM (w : World) : Value → List Cn → Prop
  | nil (a : Option Addr) (c : Nat) : CM w (.slice a 0 c) []
  | row (b o c : Nat) (l : List Cn) (u z : Nat → Value) (h0 : 0 < l.length) (hb : b < w.heap.size) (hc : l.length ≤ c) (hn : l.length ≤ 1000000000) (hm : c ≤ 9223372036854775807)
      (hx : ∀ (i : Nat) (v : Cn), l[i]? = some v → v.Ok) (ht : ∀ i v, l[i]? = some v → Fou w b (o + i * 14) v (u i) (z i)) (he : ∀ i v, l[i]? = some v → EM w (z i) v.lf.e.ks)
      (hk : ∀ i v, l[i]? = some v → CM w (u i) v.ks) : CM w (.slice (some ⟨b, o, none⟩) l.length c) l
theorem CM.low {w w' : World} {v : Value} {l : List Cn} (h : CM w v l) (hw : Below w.heap.size w w') : CM w' v l := by
  induction h with
  | nil a c => exact .nil a c
  | row b o c l u z h0 hb hc hn hm hx ht he _ ih => exact .row b o c l u z h0 (Nat.lt_of_lt_of_le hb hw.size) hc hn hm hx (fun i v hi => (ht i v hi).below hw hb) (fun i v hi => (he i v hi).low hw) ih
theorem CM.shape {w : World} {v : Value} {l : List Cn} (h : CM w v l) : ∃ a c, v = .slice a l.length c ∧ l.length ≤ 1000000000 := by
  cases h with
  | nil a c => exact ⟨a, c, rfl, by simp⟩
  | row b o c l u z h0 hb hc hn hm hx ht he hk => exact ⟨_, _, rfl, hn⟩
/-- One condition of a slice. -/
theorem CM.at {w : World} {v : Value} {l : List Cn} (h : CM w v l) {i : Nat} {x : Cn} (hi : l[i]? = some x) : ∃ b o c u z, v = .slice (some ⟨b, o, none⟩) l.length c ∧ b < w.heap.size ∧ l.length ≤ c ∧ c ≤ 9223372036854775807 ∧ x.Ok ∧ Fou w b (o + i * 14) x u z ∧ EM w z x.lf.e.ks ∧ CM w u x.ks := by
  cases h with
  | nil a c => simp at hi
  | row b o c l u z h0 hb hc hn hm hx ht he hk => exact ⟨b, o, c, u i, z i, rfl, hb, hc, hm, hx i x hi, ht i x hi, he i x hi, hk i x hi⟩
/-- The value that is a leaf. -/
def lfV (x : Lf) (z : Value) : Value := .agg #[.int .i64 x.k, .int .i64 x.t, .string x.nm, .int .i64 x.op, .int .i64 x.e.k, .int .i64 x.e.n, .int .i64 x.e.d, .int .i64 x.e.u, z, .string x.wd, .string x.vl, .bool x.an]
/-- The value that is a condition. -/
def cnV (x : Cn) (u z : Value) : Value := .agg #[.int .i64 x.k, u, .int .i64 x.lf.k, .int .i64 x.lf.t, .string x.lf.nm, .int .i64 x.lf.op, .int .i64 x.lf.e.k, .int .i64 x.lf.e.n, .int .i64 x.lf.e.d, .int .i64 x.lf.e.u, z, .string x.lf.wd, .string x.lf.vl, .bool x.lf.an]
end Go.Proofs.YtpcdhdllclenaaaDoor.cd
