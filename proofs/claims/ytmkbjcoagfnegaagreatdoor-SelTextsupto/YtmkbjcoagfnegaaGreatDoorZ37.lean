/-
  A number, and what it is of, by the program.
  A hash; a string's escape, by the program.
  A string, by the program.
  What ends a url; a bad url; whether a quote comes, by the program.
-/
import Derived.Test.YtmkbjcoagfnegaaGreatDoorZ36
import Derived.Test.YtmkbjcoagfnegaaGreatDoorZ08
import Derived.Outline
set_option linter.unusedVariables false
set_option linter.unusedSimpArgs false
namespace Go.Proofs.YtmkbjcoagfnegaaGreatDoor
open Go.RowKit

/-- A token that is being made. -/
def tokO (k : Int) (t : ByteArray) (n d : Int) (wh i : Bool) : Obj := .cells #[.int .i64 k, .string t, .int .i64 n, .int .i64 d, .bool wh, .bool i] 73
structure Made6 (w : World) (r : Nat) (k : Int) (t : ByteArray) (n d : Int) (wh i : Bool) : Prop where
  f0 : w.frozen? ⟨r, 0, none⟩ = false
  f1 : w.frozen? ⟨r, 1, none⟩ = false
  c0 : w.cell? ⟨r, 0, none⟩ = some (.int .i64 k)
  c1 : w.cell? ⟨r, 1, none⟩ = some (.string t)
  c2 : w.cell? ⟨r, 2, none⟩ = some (.int .i64 n)
  c3 : w.cell? ⟨r, 3, none⟩ = some (.int .i64 d)
  c4 : w.cell? ⟨r, 4, none⟩ = some (.bool wh)
  c5 : w.cell? ⟨r, 5, none⟩ = some (.bool i)
theorem tokO_made {w : World} {r : Nat} {k : Int} {t : ByteArray} {n d : Int} {wh i : Bool} (h : w.heap[r]? = some (tokO k t n d wh i)) : Made6 w r k t n d wh i := by
  constructor <;> simp [World.frozen?, World.cell?, h, tokO]
theorem nmT_len (s : List Int) : (nmT s).length ≤ s.length := by unfold nmT; rw [List.length_take]; omega
theorem numText {t : ByteArray} {s : List Int} {k : Nat} (h : bl t = enc (nmT s)) (hs : s.length ≤ k) (hk : k ≤ 250000000) : t.size ≤ 1000000000 := by
  have h1 := bl_len t
  have h2 := (enc_len (nmT s)).2
  have h3 := nmT_len s
  rw [h] at h1
  omega
end Go.Proofs.YtmkbjcoagfnegaaGreatDoor
set_option linter.unusedVariables false
set_option linter.unusedSimpArgs false
namespace Go.Proofs.YtmkbjcoagfnegaaGreatDoor
open Go.RowKit

/-- A string's escape: what it stands for, and what stands behind it. -/
def esX (s : List Int) : List Int × List Int :=
  if nx s 1 = -1 then ([], s.drop 1) else if nx s 1 = 10 then ([], s.drop 2) else ([(tesc (s.drop 1)).1], (tesc (s.drop 1)).2)
end Go.Proofs.YtmkbjcoagfnegaaGreatDoor
set_option linter.unusedVariables false
set_option linter.unusedSimpArgs false
namespace Go.Proofs.YtmkbjcoagfnegaaGreatDoor
open Go.RowKit

theorem str_end {q : Int} {acc s : List Int} (h : nx s 0 = -1 ∨ nx s 0 = q) : str q acc s = (tkt 5 acc, s.drop 1) := by rw [str, dif_pos h]
theorem str_bad {q : Int} {acc s : List Int} (h : ¬ (nx s 0 = -1 ∨ nx s 0 = q)) (h1 : nx s 0 = 10) : str q acc s = (tk 6, s) := by rw [str, dif_neg h, dif_pos h1]
theorem str_esc {q : Int} {acc s : List Int} (h : ¬ (nx s 0 = -1 ∨ nx s 0 = q)) (h1 : nx s 0 = 92) : str q acc s = str q (acc ++ (esX s).1) (esX s).2 := by
  rw [str, dif_neg h, dif_neg (by omega), dif_pos h1]
  unfold esX
  split
  · simp
  · split
    · simp
    · rfl
theorem str_go {q : Int} {acc s : List Int} (h : ¬ (nx s 0 = -1 ∨ nx s 0 = q)) (h1 : nx s 0 ≠ 10) (h2 : nx s 0 ≠ 92) : str q acc s = str q (acc ++ [nx s 0]) (s.drop 1) := by
  rw [str, dif_neg h, dif_neg h1, dif_neg h2]
/-- The state of the loop that takes a string, a url. -/
def RelTx (f : List Int → List Int → Tk × List Int) (T : TypeId) (W w0 : World) (b : Nat) (v : Value) (l s : List Int) (N g : Nat) (nv : Value) (wr : World) : Prop :=
  ∃ xs t, At T W wr b v l t ∧ t.length ≤ g ∧ xs.length + t.length ≤ N ∧ OwnM b w0 .i32 21 wr nv xs ∧ Hid (f [] s = f xs t)
theorem RelTx.mk {f : List Int → List Int → Tk × List Int} {T : TypeId} {W w0 : World} {b : Nat} {v : Value} {l s : List Int} {N g : Nat} {nv : Value} {wr : World} (xs t : List Int) (h1 : At T W wr b v l t) (h2 : t.length ≤ g) (h3 : xs.length + t.length ≤ N) (h4 : OwnM b w0 .i32 21 wr nv xs) (h5 : f [] s = f xs t) : RelTx f T W w0 b v l s N g nv wr := ⟨xs, t, h1, h2, h3, h4, h5⟩
end Go.Proofs.YtmkbjcoagfnegaaGreatDoor
set_option linter.unusedVariables false
set_option linter.unusedSimpArgs false
namespace Go.Proofs.YtmkbjcoagfnegaaGreatDoor
open Go.RowKit

theorem bad_end {s : List Int} (h : nx s 0 = -1 ∨ nx s 0 = 41) : bad s = s.drop 1 := by rw [bad, dif_pos h]
theorem bad_esc {s : List Int} (h : ¬ (nx s 0 = -1 ∨ nx s 0 = 41)) (g : es2 (nx s 0) (nx s 1) = true) : bad s = bad (tesc (s.drop 1)).2 := by rw [bad, dif_neg h, if_pos g]
theorem bad_go {s : List Int} (h : ¬ (nx s 0 = -1 ∨ nx s 0 = 41)) (g : es2 (nx s 0) (nx s 1) = false) : bad s = bad (s.drop 1) := by rw [bad, dif_neg h, if_neg (by simp [g])]
end Go.Proofs.YtmkbjcoagfnegaaGreatDoor

