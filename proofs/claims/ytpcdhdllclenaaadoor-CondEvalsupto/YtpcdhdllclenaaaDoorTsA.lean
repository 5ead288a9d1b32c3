/-
  Tokens, plain and in memory.
-/
import Derived.Test.YtpcdhdllclenaaaDoorUtfF
set_option linter.unusedVariables false
set_option linter.unusedSimpArgs false
namespace Go.Proofs.YtpcdhdllclenaaaDoor
open Go.RowKit

structure TS where
  k : Int
  s : ByteArray
  n : Int
  d : Int
  i : Bool
  h : Bool
structure TS.Ok (t : TS) : Prop where
  k1 : -9223372036854775808 ≤ t.k
  k2 : t.k ≤ 9223372036854775807
  hs : t.s.size ≤ 1099511627776
  n1 : -9223372036854775808 ≤ t.n
  n2 : t.n ≤ 9223372036854775807
  d1 : -9223372036854775808 ≤ t.d
  d2 : t.d ≤ 9223372036854775807
structure Six4 (w : World) (b o : Nat) (t : TS) : Prop where
  c0 : w.cell? ⟨b, o, none⟩ = some (.int .i64 t.k)
  c1 : w.cell? ⟨b, o + 1, none⟩ = some (.string t.s)
  c2 : w.cell? ⟨b, o + 2, none⟩ = some (.int .i64 t.n)
  c3 : w.cell? ⟨b, o + 3, none⟩ = some (.int .i64 t.d)
  c4 : w.cell? ⟨b, o + 4, none⟩ = some (.bool t.i)
  c5 : w.cell? ⟨b, o + 5, none⟩ = some (.bool t.h)
theorem Six4.below {w w' : World} {b o : Nat} {t : TS} (h : Six4 w b o t) {B : Nat} (hb : Below B w w') (hB : b < B) : Six4 w' b o t := by
  obtain ⟨c0, c1, c2, c3, c4, c5⟩ := h
  exact ⟨(hb.cell (p := ⟨b, o, none⟩) hB).trans c0, (hb.cell (p := ⟨b, o + 1, none⟩) hB).trans c1, (hb.cell (p := ⟨b, o + 2, none⟩) hB).trans c2, (hb.cell (p := ⟨b, o + 3, none⟩) hB).trans c3, (hb.cell (p := ⟨b, o + 4, none⟩) hB).trans c4, (hb.cell (p := ⟨b, o + 5, none⟩) hB).trans c5⟩
/-- A slice of tokens in memory. -/
def Toks4 (w : World) (v : Value) (ts : List TS) : Prop :=
  (∃ a c, v = .slice a 0 c ∧ ts = []) ∨
  ∃ b o n c, v = .slice (some ⟨b, o, none⟩) n c ∧ n = ts.length ∧ 0 < n ∧ b < w.heap.size ∧ n ≤ c ∧ n ≤ 1000000000000 ∧ c ≤ 9223372036854775807 ∧ ∀ i t, ts[i]? = some t → Six4 w b (o + i * 6) t
end Go.Proofs.YtpcdhdllclenaaaDoor
