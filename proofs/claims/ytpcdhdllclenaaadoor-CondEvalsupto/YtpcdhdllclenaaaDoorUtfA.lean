/-
  Contracts: what stands at the front of some bytes, by the program and by the reference; whole bytes.
-/
import Derived.Test.YtpcdhdllclenaaaDoorUtfP
import Derived.WalkKit
import Derived.WalkSpells
import Derived.WalkLawsBesides
import Derived.Deep.QuietTactic
import Derived.BigQuiet
set_option linter.unusedVariables false
namespace Go.Proofs.YtpcdhdllclenaaaDoor
open Go.RowKit

def gt (bs : List Int) (i : Nat) : Int := bs.getD i 0
theorem gt_eq {bs : List Int} {i : Nat} (h : i < bs.length) : gt bs i = bs[i] := by simp [gt, List.getD_eq_getElem?_getD, List.getElem?_eq_getElem h]
theorem drop_gt {bs : List Int} {i : Nat} (h : i < bs.length) : bs.drop i = gt bs i :: bs.drop (i + 1) := by rw [gt_eq h]; exact List.drop_eq_getElem_cons h
theorem By.gt {bs : List Int} (h : By bs) {i : Nat} (hi : i < bs.length) : 0 ≤ gt bs i ∧ gt bs i ≤ 255 := h.at hi
theorem stp_gt {bs : List Int} (h : 0 < bs.length) : stp bs = if szOf (gt bs 0) = 0 then (65533, 1, false) else fol (szOf (gt bs 0) - 1) (ldOf (gt bs 0)) (loOf (gt bs 0)) (hiOf (gt bs 0)) 1 (bs.drop 1) := by
  cases bs with
  | nil => simp at h
  | cons a r => rfl
def bd (k : Nat) : Int := 128 * 64 ^ k
theorem bd_succ (k : Nat) : bd (k + 1) = 64 * bd k := by unfold bd; rw [Int.pow_succ]; omega
theorem bd_le {k : Nat} (h : k ≤ 2) : bd k ≤ 524288 := by
  obtain rfl | rfl | rfl : k = 0 ∨ k = 1 ∨ k = 2 := by omega
  all_goals decide

theorem tup3 {a a' : Int} {b b' : Int} {c c' : Bool} (h1 : a = a') (h2 : b = b') (h3 : c = c') : Ending.returned (.tuple #[.int .i32 a, .int .i64 b, .bool c]) = .returned (.tuple #[.int .i32 a', .int .i64 b', .bool c']) := by rw [h1, h2, h3]
theorem tup3' {a a' : Int} {b b' : Int} {c c' : Int} (h1 : a = a') (h2 : b = b') (h3 : c = c') : Ending.returned (.tuple #[.int .i64 a, .int .u8 b, .int .u8 c]) = .returned (.tuple #[.int .i64 a', .int .u8 b', .int .u8 c']) := by rw [h1, h2, h3]
theorem ret_int {k : IntKind} {a b : Int} (h : a = b) : Ending.returned (.int k a) = .returned (.int k b) := by rw [h]

theorem firsts (a : Int) (h0 : 0 ≤ a) (h1 : a ≤ 255) : (a ≤ 127) ∨ (128 ≤ a ∧ a ≤ 193) ∨ (194 ≤ a ∧ a ≤ 223) ∨ a = 224 ∨ (225 ≤ a ∧ a ≤ 236) ∨ a = 237 ∨ (238 ≤ a ∧ a ≤ 239) ∨ a = 240 ∨ (241 ≤ a ∧ a ≤ 243) ∨ a = 244 ∨ (245 ≤ a ∧ a ≤ 255) := by omega
/-- The reference's: how many MORE come. -/
def ndOf (a : Int) : Nat := szOf a - 1
theorem sz_cases (a : Int) (h0 : 0 ≤ a) (h1 : a ≤ 255) : (a ≤ 127 ∧ szOf a = 1 ∧ ldOf a = a) ∨ (194 ≤ a ∧ a ≤ 223 ∧ szOf a = 2 ∧ ldOf a = a % 32) ∨ (224 ≤ a ∧ a ≤ 239 ∧ szOf a = 3 ∧ ldOf a = a % 16) ∨ (240 ≤ a ∧ a ≤ 244 ∧ szOf a = 4 ∧ ldOf a = a % 8) ∨ (128 ≤ a ∧ szOf a = 0) := by
  unfold szOf ldOf
  rcases firsts a h0 h1 with h | ⟨h, g⟩ | ⟨h, g⟩ | rfl | ⟨h, g⟩ | rfl | ⟨h, g⟩ | rfl | ⟨h, g⟩ | rfl | ⟨h, g⟩
  all_goals (try simp)
  all_goals (repeat (first | rw [if_pos (by omega)] | rw [if_neg (by omega)]))
  all_goals omega
end Go.Proofs.YtpcdhdllclenaaaDoor
