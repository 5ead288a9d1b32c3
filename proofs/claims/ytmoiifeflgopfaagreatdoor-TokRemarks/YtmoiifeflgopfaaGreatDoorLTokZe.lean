/-
  Tokens of two texts with a semicolon between: the law.
-/
import Derived.Test.YtmoiifeflgopfaaGreatDoorMr
import Derived.Test.YtmoiifeflgopfaaGreatDoorMe
import Derived.Test.YtmoiifeflgopfaaGreatDoorMc
import Derived.Outline
set_option linter.unusedVariables false
set_option linter.unusedSimpArgs false
namespace Go.Proofs.YtmoiifeflgopfaaGreatDoor
open Go.RowKit

theorem chs_dcd {bs : List Int} (h : By bs) : chs (dcd bs) = dcd bs := by
  unfold chs
  conv => rhs; rw [← List.map_id (dcd bs)]
  refine List.map_congr_left fun x hx => ?_
  have := (dec_good bs h x hx).1
  unfold chr
  rw [if_pos this]; rfl
/-- The front of a slice of tokens. -/
theorem Toks.pre {w : World} {b o n c : Nat} {xs ys : List Tk} (h : Toks w (.slice (some ⟨b, o, none⟩) n c) (xs ++ ys)) : Toks w (.slice (some ⟨b, o, none⟩) xs.length c) xs := by
  by_cases h0 : xs.length = 0
  · obtain rfl : xs = [] := List.eq_nil_of_length_eq_zero h0
    exact .inl ⟨_, _, rfl, rfl⟩
  · rcases h with ⟨a, c', e, h⟩ | ⟨b', o', n', c', e, h2, h3, h4, h5, h6, h7, h8⟩
    · rw [List.append_eq_nil_iff] at h; rw [h.1] at h0; simp at h0
    · simp at e
      obtain ⟨⟨rfl, rfl⟩, rfl, rfl⟩ := e
      rw [List.length_append] at h2
      exact .inr ⟨b, o, xs.length, c, rfl, rfl, by omega, h4, by omega, by omega, h7, fun i τ hi => h8 i τ (by rw [List.getElem?_append_left (List.getElem?_eq_some_iff.1 hi).1]; exact hi)⟩
/-- The rest of a slice of tokens. -/
theorem Toks.suf {w : World} {b o n c : Nat} {xs ys : List Tk} (h : Toks w (.slice (some ⟨b, o, none⟩) n c) (xs ++ ys)) (m : Nat) (hm : m = xs.length) : Toks w (.slice (some ⟨b, o + m * 6, none⟩) ys.length (c - m)) ys := by
  subst hm
  by_cases h0 : ys.length = 0
  · obtain rfl : ys = [] := List.eq_nil_of_length_eq_zero h0
    exact .inl ⟨_, _, rfl, rfl⟩
  · rcases h with ⟨a, c', e, h⟩ | ⟨b', o', n', c', e, h2, h3, h4, h5, h6, h7, h8⟩
    · rw [List.append_eq_nil_iff] at h; rw [h.2] at h0; simp at h0
    · simp at e
      obtain ⟨⟨rfl, rfl⟩, rfl, rfl⟩ := e
      rw [List.length_append] at h2
      refine .inr ⟨b, o + xs.length * 6, ys.length, c - xs.length, rfl, rfl, by omega, h4, by omega, by omega, by omega, fun i τ hi j hj => ?_⟩
      have := h8 (xs.length + i) τ (by rw [List.getElem?_append_right (by omega)]; rw [Nat.add_sub_cancel_left]; exact hi) j hj
      rw [← this]
      congr 2
      omega
theorem Toks.form {w : World} {v : Value} {ts : List Tk} (h : Toks w v ts) : ∃ a n c, v = .slice a n c ∧ n = ts.length ∧ (0 < n → ∃ b o, a = some ⟨b, o, none⟩ ∧ n ≤ c ∧ n ≤ 1000000000 ∧ c ≤ 9223372036854775807 ∧ b < w.heap.size) := by
  rcases h with ⟨a, c, rfl, rfl⟩ | ⟨b, o, n, c, rfl, h2, h3, h4, h5, h6, h7, h8⟩
  · exact ⟨a, 0, c, rfl, rfl, fun h => absurd h (by decide)⟩
  · exact ⟨_, n, c, rfl, h2, fun _ => ⟨b, o, rfl, h5, h6, h7, h4⟩⟩
theorem Toks.six {w : World} {b o n c : Nat} {ts : List Tk} (h : Toks w (.slice (some ⟨b, o, none⟩) n c) ts) (i : Nat) (τ : Tk) (hi : ts[i]? = some τ) : Six w b (o + i * 6) τ.kind (tb τ.text) τ.num τ.den τ.whole τ.id := by
  rcases h with ⟨a, c', e, h⟩ | ⟨b', o', n', c', e, h2, h3, h4, h5, h6, h7, h8⟩
  · rw [h] at hi; cases hi
  · simp at e
    obtain ⟨⟨rfl, rfl⟩, rfl, rfl⟩ := e
    exact Six.of (h8 i τ hi)
theorem tail_len {w : World} {a : Option Addr} {n1 n2 c : Nat} {Y : List Tk} (h : n2 = Y.length) (k : Toks w (.slice a Y.length c) Y) : Toks w (.slice a (n1 + (n2 + 1) - (n1 + 1)) c) Y := by
  rw [show n1 + (n2 + 1) - (n1 + 1) = Y.length by omega]; exact k
theorem tail_end (b o n1 n2 c : Nat) (Y : List Tk) (h : n2 = Y.length) (hc : n1 + (n2 + 1) ≤ c) : c = n1 + 1 → ∀ w : World, Toks w (.slice (some ⟨b, o, none⟩) (n1 + (n2 + 1) - (n1 + 1)) 0) Y := fun e w => by
  obtain rfl : Y = [] := List.eq_nil_of_length_eq_zero (by omega)
  rw [show n1 + (n2 + 1) - (n1 + 1) = 0 by omega]
  exact .inl ⟨_, _, rfl, rfl⟩
/-- A byte that holds nothing open. -/
def OkA (a : List Int) (i : Nat) : Prop := gt a i ≠ 34 ∧ gt a i ≠ 39 ∧ gt a i ≠ 92 ∧ gt a i ≠ 40 ∧ ¬ (gt a i = 47 ∧ i + 1 < a.length ∧ gt a (i + 1) = 42) ∧ gt a i < 128
theorem gt_get {a : List Int} {i : Nat} (h : i < a.length) : gt a i = a[i] := by simp [gt, List.getD_eq_getElem?_getD, h]
theorem nx_gt {a : List Int} {i : Nat} (h : i < a.length) : nx a i = gt a i := by simp [gt, nx, List.getD_eq_getElem?_getD, h]
theorem OkA.asc {a : List Int} (hb : By a) (h : ∀ i, i < a.length → OkA a i) : Asc a := fun c hc => by
  obtain ⟨i, hi, rfl⟩ := List.getElem_of_mem hc
  have := h i hi
  have h2 := hb _ hc
  rw [← gt_get hi] at h2 ⊢
  exact ⟨h2.1, this.2.2.2.2.2⟩
theorem OkA.cln {a : List Int} (hb : By a) (h : ∀ i, i < a.length → OkA a i) : Cln a := fun c hc => by
  obtain ⟨i, hi, rfl⟩ := List.getElem_of_mem hc
  have := h i hi
  have h2 := hb _ hc
  rw [← gt_get hi] at h2 ⊢
  exact ⟨this.1, this.2.1, this.2.2.1, this.2.2.2.1, by omega⟩
theorem OkA.nor {a : List Int} (h : ∀ i, i < a.length → OkA a i) : NoR a := fun k ⟨h1, h2⟩ => by
  have k1 := nx_len (s := a) (k := k) (by omega)
  have k2 := nx_len (s := a) (k := k + 1) (by omega)
  rw [nx_gt k1] at h1
  rw [nx_gt k2] at h2
  exact (h k k1).2.2.2.2.1 ⟨h1, k2, h2⟩
def RelPa (n : Nat) (a : List Int) (i : Value) : Prop := ∃ k : Nat, k ≤ n ∧ i = .int .i64 k ∧ Hid (∀ j, j < k → OkA a j)
theorem RelPa.mk {n : Nat} {a : List Int} (k : Nat) {i : Value} (h1 : k ≤ n) (h2 : i = .int .i64 k) (h3 : ∀ j, j < k → OkA a j) : RelPa n a i := ⟨k, h1, h2, h3⟩
theorem OkA.step {a : List Int} {k : Nat} (h : ∀ j, j < k → OkA a j) (hk : OkA a k) : ∀ j, j < k + 1 → OkA a j := fun j hj => by
  by_cases e : j < k
  · exact h j e
  · obtain rfl : j = k := by omega
    exact hk
end Go.Proofs.YtmoiifeflgopfaaGreatDoor
