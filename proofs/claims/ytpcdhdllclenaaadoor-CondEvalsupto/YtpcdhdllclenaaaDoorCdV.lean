/-
  Kleene's theorem: what is known does not turn.
-/
import Derived.Test.YtpcdhdllclenaaaDoorCdU
import Derived.Test.YtpcdhdllclenaaaDoorUtfG
set_option linter.unusedVariables false
set_option linter.unusedSimpArgs false
namespace Go.Proofs.YtpcdhdllclenaaaDoor.cd
open Go.RowKit

/-- Unknown, or the same. -/
def ki (a b : Int) : Prop := a = 1 ∨ a = b
theorem ki_tr {a b : Int} (h : ki a b) : ki (tr a) (tr b) := by
  rcases h with rfl | rfl
  · exact .inl rfl
  · exact .inr rfl
theorem ki_i2 {a b c d : Int} (h : ki a c) (k : ki b d) (a0 : 0 ≤ a) (a2 : a ≤ 2) (b0 : 0 ≤ b) (b2 : b ≤ 2) (c0 : 0 ≤ c) (c2 : c ≤ 2) (d0 : 0 ≤ d) (d2 : d ≤ 2) : ki (i2 a b) (i2 c d) := by
  unfold ki at *
  unfold i2
  split <;> split <;> omega
theorem ki_a2 {a b c d : Int} (h : ki a c) (k : ki b d) (a0 : 0 ≤ a) (a2' : a ≤ 2) (b0 : 0 ≤ b) (b2 : b ≤ 2) (c0 : 0 ≤ c) (c2 : c ≤ 2) (d0 : 0 ≤ d) (d2 : d ≤ 2) : ki (a2 a b) (a2 c d) := by
  unfold ki at *
  unfold a2
  split <;> split <;> omega
theorem i2_bd {a b : Int} (a0 : 0 ≤ a) (a2 : a ≤ 2) (b0 : 0 ≤ b) (b2 : b ≤ 2) : 0 ≤ i2 a b ∧ i2 a b ≤ 2 := by unfold i2; split <;> omega
theorem a2_bd {a b : Int} (a0 : 0 ≤ a) (a2' : a ≤ 2) (b0 : 0 ≤ b) (b2 : b ≤ 2) : 0 ≤ a2 a b ∧ a2 a b ≤ 2 := by unfold a2; split <;> omega
theorem ki_an {f g : Cn → Int} : ∀ (l : List Cn) (m n : Int), (∀ x ∈ l, ki (f x) (g x)) → ki m n → 0 ≤ m → m ≤ 2 → 0 ≤ n → n ≤ 2 → ki (anN m (l.map f)) (anN n (l.map g))
  | [], m, n, _, h, _, _, _, _ => h
  | x :: r, m, n, hl, h, m0, m2, n0, n2 => by
    have t1 := tr_bd (f x)
    have t2 := tr_bd (g x)
    have b1 := i2_bd m0 m2 t1.1 t1.2
    have b2 := i2_bd n0 n2 t2.1 t2.2
    exact ki_an r _ _ (fun y hy => hl y (List.mem_cons_of_mem _ hy)) (ki_i2 h (ki_tr (hl x List.mem_cons_self)) m0 m2 t1.1 t1.2 n0 n2 t2.1 t2.2) b1.1 b1.2 b2.1 b2.2
theorem ki_or {f g : Cn → Int} : ∀ (l : List Cn) (m n : Int), (∀ x ∈ l, ki (f x) (g x)) → ki m n → 0 ≤ m → m ≤ 2 → 0 ≤ n → n ≤ 2 → ki (orN m (l.map f)) (orN n (l.map g))
  | [], m, n, _, h, _, _, _, _ => h
  | x :: r, m, n, hl, h, m0, m2, n0, n2 => by
    have t1 := tr_bd (f x)
    have t2 := tr_bd (g x)
    have b1 := a2_bd m0 m2 t1.1 t1.2
    have b2 := a2_bd n0 n2 t2.1 t2.2
    exact ki_or r _ _ (fun y hy => hl y (List.mem_cons_of_mem _ hy)) (ki_a2 h (ki_tr (hl x List.mem_cons_self)) m0 m2 t1.1 t1.2 n0 n2 t2.1 t2.2) b1.1 b1.2 b2.1 b2.2
/-- What is known of a condition does not turn where what is unknown of its leaves is made known. -/
theorem ki_ev {f g : ByteArray → Int} (h : ∀ s, ki (f s) (g s)) (N : Nat) : ∀ x : Cn, szC x ≤ N → ki (evC f x) (evC g x) := by
  induction N with
  | zero => intro x hx; rw [szC_ks] at hx; omega
  | succ N ih =>
    intro x hx
    rw [szC_ks] at hx
    have hl : ∀ y ∈ x.ks, ki (evC f y) (evC g y) := fun y hy => by
      obtain ⟨i, hi, rfl⟩ := List.mem_iff_getElem.1 hy
      exact ih _ (by have := szCs_at (List.getElem?_eq_getElem hi); omega)
    rw [evC_eq, evC_eq]
    split
    · unfold lfT
      split
      · exact .inl rfl
      split
      · exact .inr rfl
      · exact h _
    split
    · exact ki_an _ _ _ hl (.inr rfl) (by decide) (by decide) (by decide) (by decide)
    split
    · exact ki_or _ _ _ hl (.inr rfl) (by decide) (by decide) (by decide) (by decide)
    · have hh : ki ((x.ks.map (evC f)).headD 0) ((x.ks.map (evC g)).headD 0) := by
        cases hk : x.ks with
        | nil => exact .inr rfl
        | cons y r => rw [hk] at hl; exact hl y List.mem_cons_self
      rcases ki_tr hh with e | e
      · rw [e]; exact .inl rfl
      · rw [e]; exact .inr rfl
/-- Truths that are made known. -/
def Filled (ts fs : List Int) : Prop := fs.length = ts.length ∧ ∀ (i : Nat) (t : Int), ts[i]? = some t → (t = 0 ∨ t = 2) → fs[i]? = some t
theorem Filled.nil : Filled [] [] := ⟨rfl, fun i t h => by simp at h⟩
theorem Filled.snoc {ts fs : List Int} (h : Filled ts fs) (t t' : Int) (ht : (t = 0 ∨ t = 2) → t' = t) : Filled (ts ++ [t]) (fs ++ [t']) := by
  refine ⟨by rw [List.length_append, List.length_append, h.1]; rfl, fun i s hi hs => ?_⟩
  by_cases hlt : i < ts.length
  · rw [List.getElem?_append_left hlt] at hi
    rw [List.getElem?_append_left (by rw [h.1]; exact hlt)]
    exact h.2 i s hi hs
  · rw [List.getElem?_append_right (by omega)] at hi
    rw [List.getElem?_append_right (by rw [h.1]; omega), h.1]
    have h0 : i - ts.length = 0 := by have := (List.getElem?_eq_some_iff.1 hi).1; simp at this; omega
    rw [h0] at hi ⊢
    simp at hi ⊢
    subst hi
    exact ht hs
theorem filled_ki : ∀ (ns : List ByteArray) (ts fs : List Int) (s : ByteArray), Filled ts fs → ki (tr (byF ns ts s)) (tr (byF ns fs s))
  | [], ts, fs, s, h => by
    have : byF [] ts s = 0 := by cases ts <;> rfl
    have h2 : byF [] fs s = 0 := by cases fs <;> rfl
    rw [this, h2]; exact .inr rfl
  | n :: ns, [], fs, s, h => by
    have hf : fs = [] := List.eq_nil_of_length_eq_zero h.1
    subst hf
    exact .inr rfl
  | n :: ns, t :: ts, fs, s, h => by
    cases fs with
    | nil => have := h.1; simp at this
    | cons f fs =>
      by_cases e : n = s
      · rw [show byF (n :: ns) (t :: ts) s = t from if_pos e, show byF (n :: ns) (f :: fs) s = f from if_pos e]
        by_cases ht : t = 0 ∨ t = 2
        · have := h.2 0 t rfl ht
          simp at this
          rw [this]; exact .inr rfl
        · refine .inl ?_
          unfold tr
          split <;> omega
      · rw [show byF (n :: ns) (t :: ts) s = byF ns ts s from if_neg e, show byF (n :: ns) (f :: fs) s = byF ns fs s from if_neg e]
        exact filled_ki ns ts fs s ⟨by have := h.1; simpa using this, fun i u hi hu => by have := h.2 (i + 1) u (by simpa using hi) hu; simpa using this⟩
/-- What Eval tells of a condition does not turn. -/
theorem kleene (x : Cn) (ns : List ByteArray) (ts fs : List Int) (h : Filled ts fs) : evP (fun s => tr (byF ns ts s)) x = 1 ∨ evP (fun s => tr (byF ns ts s)) x = evP (fun s => tr (byF ns fs s)) x := by
  unfold evP
  split
  · exact ki_ev (fun s => filled_ki ns ts fs s h) (szC x) x (Nat.le_refl _)
  · exact .inl rfl
end Go.Proofs.YtpcdhdllclenaaaDoor.cd
