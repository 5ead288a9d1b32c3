/-
  A fraction put together; what stands behind an e, by the program.
-/
import Derived.Test.YticboondiojofaaDoorDecC
set_option linter.unusedVariables false
set_option linter.unusedSimpArgs false
namespace Go.Proofs.YticboondiojofaaDoor
open Go.RowKit

/-- A fraction as a value. -/
def ratV (n d : Int) : Value := .agg #[.int .i64 n, .int .i64 d]
theorem natOf_snoc (l : List Int) (c : Int) : natOf (l ++ [c]) = natOf l * 10 + (c - 48).toNat := by simp [natOf, List.foldl_append]
theorem natOf_app (l : List Int) (r : List Int) : natOf l ≤ natOf (l ++ r) := by
  induction r generalizing l with
  | nil => simp
  | cons c r ih =>
    have := ih (l ++ [c])
    rw [natOf_snoc] at this
    simp only [List.append_assoc, List.singleton_append] at this
    omega
theorem natOf_take (l : List Int) (k : Nat) : natOf (l.take k) ≤ natOf l := by
  have := natOf_app (l.take k) (l.drop k)
  rwa [List.take_append_drop] at this
/-- All of these are digits. -/
def Digs (l : List Int) : Prop := ∀ x ∈ l, isDig x = true
theorem tkd_digs (l : List Int) : Digs (tkd l) := fun x hx => by
  have h := List.all_takeWhile (p := isDig) (l := l)
  exact List.all_eq_true.1 h x hx
theorem Digs.nx {l : List Int} (h : Digs l) {k : Nat} (hk : k < l.length) : isDig (nx l k) = true := by
  simp only [Proofs.YticboondiojofaaDoor.nx, List.getD_eq_getElem?_getD, List.getElem?_eq_getElem hk]
  exact h _ (List.getElem_mem hk)
theorem natOf_step {l : List Int} {k : Nat} (h : Digs l) (hk : k < l.length) : natOf (l.take (k + 1)) = natOf (l.take k) * 10 + (nx l k - 48).toNat ∧ 48 ≤ nx l k ∧ nx l k ≤ 57 := by
  have hd := h.nx hk
  rw [nx_take (isDig_ne1 hd), natOf_snoc]
  simp [isDig] at hd
  exact ⟨rfl, hd.1, hd.2⟩
/-- As great as it is, or both very great, or both very small. -/
def Near (e E : Int) : Prop := e = E ∨ (1099511627776 ≤ e ∧ e ≤ 18014398509481984 ∧ 1099511627776 ≤ E) ∨ (e ≤ -1099511627776 ∧ -18014398509481984 ≤ e ∧ E ≤ -1099511627776)
theorem Near.neg {e E : Int} (h : Near e E) : Near (-e) (-E) := by unfold Near at *; omega
theorem Near.bd {e E : Int} (h : Near e E) (hE : -1099511627776 ≤ E ∧ E ≤ 1099511627776 ∨ True) : e = E ∨ (-18014398509481984 ≤ e ∧ e ≤ 18014398509481984) := by unfold Near at h; omega
/-- The state of the loop over an exponent's digits. -/
def RelEx (ds : List Int) (e i : Value) : Prop := ∃ k m : Nat, k ≤ ds.length ∧ i = .int .i64 k ∧ e = .int .i64 m ∧ m ≤ 11258999068426249 ∧ Hid (m = natOf (ds.take k))
theorem RelEx.mk {ds : List Int} {e i : Value} (k m : Nat) (h1 : k ≤ ds.length) (h2 : i = .int .i64 k) (h3 : e = .int .i64 m) (h4 : m ≤ 11258999068426249) (h5 : m = natOf (ds.take k)) : RelEx ds e i := ⟨k, m, h1, h2, h3, h4, h5⟩
/-- What is told of an exponent. -/
def ExR (s : List Int) (e : Int) (ok : Bool) : Prop := match expo s with | none => e = 0 ∧ ok = false | some E => ok = true ∧ Near e E ∧ -18014398509481984 ≤ e ∧ e ≤ 18014398509481984
theorem expo_no {s : List Int} (h1 : nx s 0 ≠ 101) (h2 : nx s 0 ≠ 69) : expo s = none := by unfold expo; rw [if_pos ⟨h1, h2⟩]
theorem expo_no2 {s : List Int} (h1 : nx s 0 = 101 ∨ nx s 0 = 69) (h2 : tkd (sgn (s.drop 1)).2 = [] ∨ dgs (sgn (s.drop 1)).2 ≠ []) : expo s = none := by
  unfold expo; rw [if_neg (by omega), if_pos h2]
theorem expo_yes {s : List Int} (h1 : nx s 0 = 101 ∨ nx s 0 = 69) (h2 : tkd (sgn (s.drop 1)).2 ≠ []) (h3 : dgs (sgn (s.drop 1)).2 = []) :
    expo s = some (if (sgn (s.drop 1)).1 then -(natOf (tkd (sgn (s.drop 1)).2) : Int) else natOf (tkd (sgn (s.drop 1)).2)) := by
  unfold expo; rw [if_neg (by omega), if_neg (by rintro (h | h); exact h2 h; exact h h3)]
theorem sgn_len (s : List Int) : (sgn s).2.length ≤ s.length := by unfold sgn; split <;> simp
theorem tkd_len (s : List Int) : (tkd s).length ≤ s.length := (List.takeWhile_sublist _).length_le
theorem ext_size (s : ByteArray) (a : Nat) : (s.extract a s.size).size = s.size - a := by rw [← bl_len, bl_drop, List.length_drop, bl_len]
theorem near_of {m N : Nat} (h : m = N ∨ (1125899906842624 ≤ m ∧ m ≤ N)) (hm : m ≤ 11258999068426249) : Near (m : Int) (N : Int) ∧ -18014398509481984 ≤ (m : Int) ∧ (m : Int) ≤ 18014398509481984 := by
  unfold Near; omega
theorem exR_yes {s : List Int} {m : Nat} (h1 : nx s 0 = 101 ∨ nx s 0 = 69) (h2 : tkd (sgn (s.drop 1)).2 ≠ []) (h3 : dgs (sgn (s.drop 1)).2 = [])
    (h : m = natOf (tkd (sgn (s.drop 1)).2) ∨ (1125899906842624 ≤ m ∧ m ≤ natOf (tkd (sgn (s.drop 1)).2))) (hm : m ≤ 11258999068426249) :
    ((sgn (s.drop 1)).1 = true → ExR s (-(m : Int)) true) ∧ ((sgn (s.drop 1)).1 = false → ExR s (m : Int) true) := by
  obtain ⟨a, b, c⟩ := near_of h hm
  refine ⟨fun hb => ?_, fun hb => ?_⟩
  · unfold ExR; rw [expo_yes h1 h2 h3, hb]
    exact ⟨rfl, a.neg, by omega, by omega⟩
  · unfold ExR; rw [expo_yes h1 h2 h3, hb]
    exact ⟨rfl, a, by omega, by omega⟩
def PostEx (s : ByteArray) (w : World) (e : Ending) (w' : World) : Prop := ∃ (x : Int) (ok : Bool), e = .returned (.tuple #[.int .i64 x, .bool ok]) ∧ ExR (bl s) x ok ∧ ∃ q, w' = w.drewN q
theorem PostEx.mk {s : ByteArray} {w w' : World} {e : Ending} (x : Int) (ok : Bool) (h1 : e = .returned (.tuple #[.int .i64 x, .bool ok])) (h2 : ExR (bl s) x ok) (q : Nat) (h3 : w' = w.drewN q) : PostEx s w e w' := ⟨x, ok, h1, h2, q, h3⟩
end Go.Proofs.YticboondiojofaaDoor
