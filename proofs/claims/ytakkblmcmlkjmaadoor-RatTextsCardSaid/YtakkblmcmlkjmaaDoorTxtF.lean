/-
  Texts as fractions, by the reference: small parts.
-/
import Derived.Test.YtakkblmcmlkjmaaDoorTxtE
set_option linter.unusedVariables false
set_option linter.unusedSimpArgs false
namespace Go.Proofs.YtakkblmcmlkjmaaDoor
open Go.RowKit Go.Shelf

theorem overB_any (w : World) : Calls Tryd.prog 13 #[] w fun e w' => e = .returned (.agg #[.int .i64 0, .int .i64 0]) ∧ Below w.heap.size w w' := by
  have B0 := hide (bplus (Below.refl w.heap.size w) (.cells #[.int .i64 0, .int .i64 0] 23))
  go_enter Tryd.func13, Tryd.ntmps13
  go_wp2
  refine bodyPost_ret (v := .agg #[.int .i64 0, .int .i64 0]) (by simp [results, Tryd.results13, go_sem]) rfl ?_
  exact ⟨rfl, by repeat (first | (with_reducible exact B0.out) | (with_reducible refine Below.setCell ?_ (by simp) _) | (with_reducible refine bplus ?_ _))⟩
def rpC (X1 X2 : Option Nat) (parts ng : Bool) : Option (Int × Int) := match X1, X2 with
  | some n, some d => if (parts = true ∧ d < 2) ∨ (ng = true ∧ n = 0) then none else if isV (sgd ng n) d = true then some (sgd ng n, (d : Int)) else none
  | _, _ => none
theorem rp_eq (l : List UInt8) : rp l = rpC (cnt (Lib.cut (bdy l) [47]).1) (cnt (if (Lib.cut (bdy l) [47]).2.2 = true then (Lib.cut (bdy l) [47]).2.1 else [49])) (Lib.cut (bdy l) [47]).2.2 (ngt l) := by
  unfold rp rpC lowT
  rfl
theorem wrapI {x : Int} (h0 : -9223372036854775808 ≤ x) (h1 : x < 9223372036854775808) : IntKind.i64.wrap x = x := by
  unfold IntKind.wrap
  simp [IntKind.bits, IntKind.signed]
  omega
def RelSl (K : Nat) (tb : ByteArray) (w1 : World) (i t l p : Value) (wr : World) : Prop := ∃ k : Nat, i = .int .i64 k ∧ k ≤ K ∧ wr = w1 ∧ t = .string tb ∧ l = .string ⟨#[49]⟩ ∧ p = .bool false
theorem RelSl.mk {K : Nat} {tb : ByteArray} {w1 : World} {i t l p : Value} {wr : World} (k : Nat) (h1 : i = .int .i64 k) (h2 : k ≤ K) (h3 : wr = w1) (h4 : t = .string tb) (h5 : l = .string ⟨#[49]⟩) (h6 : p = .bool false) : RelSl K tb w1 i t l p wr := ⟨k, h1, h2, h3, h4, h5, h6⟩
theorem byte_list (t : ByteArray) (k : Nat) (h : k < t.size) : t.data.toList[k]? = some t[k] := by
  rw [Array.getElem?_toList, Array.getElem?_eq_getElem h]; rfl
theorem byte_no' {t : ByteArray} (h : (47 : UInt8) ∉ t.data.toList) {k : Nat} (hk : k < t.size) : (((t[k]'hk).toNat : Int) == 47) = false := by
  rw [beq_eq_false_iff_ne]
  intro g
  refine h ?_
  have e : t[k] = 47 := UInt8.toNat_inj.1 (by show t[k].toNat = 47; omega)
  rw [← e]
  exact List.mem_of_getElem? (byte_list t k hk)
theorem byte_no {t : ByteArray} {a b : List UInt8} (h : t.data.toList = a ++ 47 :: b) (ha : (47 : UInt8) ∉ a) {k : Nat} (hk : k < a.length) (hk2 : k < t.size) : (((t[k]'hk2).toNat : Int) == 47) = false := by
  rw [beq_eq_false_iff_ne]
  intro g
  refine ha ?_
  have e : t[k] = 47 := UInt8.toNat_inj.1 (by show t[k].toNat = 47; omega)
  have := byte_list t k hk2
  rw [h, List.getElem?_append_left hk, e] at this
  exact List.mem_of_getElem? this
theorem byte_at {t : ByteArray} {a b : List UInt8} (h : t.data.toList = a ++ 47 :: b) (hk2 : a.length < t.size) : (((t[a.length]'hk2).toNat : Int) == 47) = true := by
  have := byte_list t a.length hk2
  rw [h, List.getElem?_append_right (Nat.le_refl _)] at this
  simp at this
  rw [← this]; rfl
end Go.Proofs.YtakkblmcmlkjmaaDoor
