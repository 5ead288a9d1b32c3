/-
  Plain: there and back; how many come out; what goes on behind whole bytes.
-/
import Derived.Test.YtfadjpebniebaaaGreatDoorUtfI
set_option linter.unusedVariables false
set_option linter.unusedSimpArgs false
namespace Go.Proofs.YtfadjpebniebaaaGreatDoor
open Go.RowKit

theorem enc_cons (x : Int) (l : List Int) : enc (x :: l) = enc1 (chr x) ++ enc l := by simp [enc]
theorem enc1_ne (x : Int) (r : List Int) : enc1 x ++ r ≠ [] := by
  intro e
  have h1 := congrArg List.length e
  have := (enc1_len x).1
  simp at h1; simp [h1.1] at this
theorem raw_enc1 (x : Int) (r : List Int) (h : isC x = true) : raw (enc1 x ++ r) = x :: raw r := by
  rw [raw_cut (enc1_ne x r), stp_enc x r h]; simp
theorem whole_enc1 (x : Int) (r : List Int) (h : isC x = true) : whole (enc1 x ++ r) = whole r := by
  rw [whole_cut (enc1_ne x r), stp_enc x r h]; simp
theorem raw_enc (l : List Int) : raw (enc l) = l.map chr := by
  induction l with
  | nil => exact raw_nil
  | cons x l ih => rw [enc_cons, raw_enc1 _ _ (isC_chr x), ih]; rfl
theorem whole_enc (l : List Int) : whole (enc l) = true := by
  induction l with
  | nil => exact whole_nil
  | cons x l ih => rw [enc_cons, whole_enc1 _ _ (isC_chr x), ih]
theorem by_enc1 (x : Int) (h : isC x = true) : By (enc1 x) := by
  rw [isC_iff] at h
  intro y hy
  rcases (show x ≤ 127 ∨ (127 < x ∧ x ≤ 2047) ∨ (2047 < x ∧ x ≤ 65535) ∨ 65535 < x by omega) with g | ⟨g, g'⟩ | ⟨g, g'⟩ | g
  · rw [enc1_1 g] at hy; simp at hy; omega
  · rw [enc1_2 g g'] at hy; simp at hy; omega
  · rw [enc1_3 g g'] at hy; simp at hy; omega
  · rw [enc1_4 g] at hy; simp at hy; omega
theorem by_enc (l : List Int) : By (enc l) := by
  intro y hy
  simp only [enc, List.mem_flatMap] at hy
  obtain ⟨x, _, hx⟩ := hy
  exact by_enc1 _ (isC_chr x) y hx
def allB (l : List Int) : Bool := l.all isC
theorem allB_snoc (l : List Int) (x : Int) : allB (l ++ [x]) = (allB l && isC x) := by simp [allB]
theorem map_chr (l : List Int) : (l.map chr = l) ↔ allB l = true := by
  induction l with
  | nil => simp [allB]
  | cons x l ih =>
    simp only [List.map_cons, List.cons.injEq, allB, List.all_cons, Bool.and_eq_true] at ih ⊢
    rw [ih]
    constructor
    · rintro ⟨h, k⟩
      exact ⟨h ▸ isC_chr x, k⟩
    · rintro ⟨h, k⟩
      exact ⟨chr_yes h, k⟩
theorem back_chars (l : List Int) : eqB (raw (enc l)) l = allB l := by
  rw [raw_enc]
  have := map_chr l
  by_cases h : allB l = true
  · rw [h]; unfold eqB; simp [this.2 h]
  · have h' : allB l = false := by simpa using h
    rw [h']; unfold eqB; simp [this, h']
theorem enc_raw (n : Nat) : ∀ bs : List Int, bs.length ≤ n → By bs → whole bs = true → enc (raw bs) = bs := by
  induction n with
  | zero => intro bs h _ _; obtain rfl : bs = [] := List.eq_nil_of_length_eq_zero (by omega); rw [raw_nil]; rfl
  | succ n ih =>
    intro bs h hb hw
    by_cases hne : bs = []
    · subst hne; rw [raw_nil]; rfl
    · rw [whole_cut hne] at hw
      simp only [Bool.and_eq_true] at hw
      obtain ⟨h1, h2⟩ := stp_back bs hb hne hw.1
      have hs := stp_len bs hne
      rw [raw_cut hne, enc_cons, chr_yes h1, ih _ (by rw [List.length_drop]; omega) (hb.drop _) hw.2]
      exact h2.symm
theorem back_bytes (bs : List Int) (hb : By bs) : eqB (enc (raw bs)) bs = whole bs := by
  by_cases h : whole bs = true
  · rw [h]; unfold eqB; simp [enc_raw bs.length bs (Nat.le_refl _) hb h]
  · have h' : whole bs = false := by simpa using h
    rw [h']; unfold eqB; simp
    intro e
    have := whole_enc (raw bs)
    rw [e] at this
    exact h this
theorem raw_len (n : Nat) : ∀ bs : List Int, bs.length ≤ n → (raw bs).length ≤ bs.length ∧ bs.length ≤ 4 * (raw bs).length := by
  induction n with
  | zero => intro bs h; obtain rfl : bs = [] := List.eq_nil_of_length_eq_zero (by omega); rw [raw_nil]; simp
  | succ n ih =>
    intro bs h
    by_cases hne : bs = []
    · subst hne; rw [raw_nil]; simp
    · have hs := stp_len bs hne
      have := ih (bs.drop (stp bs).2.1) (by rw [List.length_drop]; omega)
      rw [raw_cut hne, List.length_cons]
      rw [List.length_drop] at this
      omega
theorem raw_le (bs : List Int) : (raw bs).length ≤ bs.length ∧ bs.length ≤ 4 * (raw bs).length := raw_len bs.length bs (Nat.le_refl _)
theorem raw_append (n : Nat) (b : List Int) : ∀ a : List Int, a.length ≤ n → By a → whole a = true → raw (a ++ b) = raw a ++ raw b := by
  induction n with
  | zero => intro a h _ _; obtain rfl : a = [] := List.eq_nil_of_length_eq_zero (by omega); rw [raw_nil]; rfl
  | succ n ih =>
    intro a h hb hw
    by_cases hne : a = []
    · subst hne; rw [raw_nil]; rfl
    · rw [whole_cut hne] at hw
      simp only [Bool.and_eq_true] at hw
      obtain ⟨h1, h2⟩ := stp_back a hb hne hw.1
      have hs := stp_len a hne
      have e := ih (a.drop (stp a).2.1) (by rw [List.length_drop]; omega) (hb.drop _) hw.2
      rw [raw_cut hne]
      conv => lhs; rw [h2, List.append_assoc, raw_enc1 _ _ h1, e]
      rfl
theorem By.app {a b : List Int} (ha : By a) (hb : By b) : By (a ++ b) := fun x hx => by
  rcases List.mem_append.1 hx with h | h
  · exact ha x h
  · exact hb x h
/-- A slice in memory, empty or not. -/
theorem Nums.form {k : IntKind} {w : World} {v : Value} {bs : List Int} (h : Nums k w v bs) :
    ∃ a n c, v = .slice a n c ∧ n = bs.length ∧ n ≤ 4611686018427387904 ∧ n ≤ c + 0 + n ∧ (0 < n → ∃ b o, a = some ⟨b, o, none⟩ ∧ b < w.heap.size ∧ n ≤ c ∧ c ≤ 9223372036854775807 ∧ ∀ i, i < n → w.cell? ⟨b, o + i, none⟩ = some (.int k (gt bs i))) := by
  rcases h with ⟨a, c, rfl, rfl⟩ | ⟨b, o, n, c, rfl, hn, h0, hbw, hl, hn9, hc9, hc⟩
  · exact ⟨a, 0, c, rfl, rfl, by omega, by omega, fun h => by omega⟩
  · exact ⟨_, n, c, rfl, hn, hn9, by omega, fun _ => ⟨b, o, rfl, hbw, hl, hc9, hc⟩⟩
end Go.Proofs.YtfadjpebniebaaaGreatDoor
