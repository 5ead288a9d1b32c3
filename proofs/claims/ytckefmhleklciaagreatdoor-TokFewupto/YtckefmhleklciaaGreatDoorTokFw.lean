/-
  Plain: what a token may be; no more tokens than characters.
-/
import Derived.Test.YtckefmhleklciaaGreatDoorTokQ
set_option linter.unusedVariables false
namespace Go.Proofs.YtckefmhleklciaaGreatDoor
open Go.RowKit

/-! ### What a token may be -/
def kNam (k : Int) : Bool := (k == 1) || (k == 2) || (k == 3) || (k == 4) || (k == 12) || (k == 9)
def kNum (k : Int) : Bool := (k == 10) || (k == 11) || (k == 12)
def kTxt (k : Int) : Bool := kNam k || (k == 5) || (k == 7)
structure Few (τ : Tk) : Prop where
  lo : 1 ≤ τ.kind
  hi : τ.kind ≤ 24
  nam : kNam τ.kind = true → τ.text ≠ []
  txt : kTxt τ.kind = false → τ.text = []
  num : kNum τ.kind = false → τ.num = 0 ∧ τ.den = 0 ∧ τ.whole = false
  id : τ.id = true → τ.kind = 4
  den : kNum τ.kind = true → 0 ≤ τ.den ∧ (τ.den = 0 → τ.num = 0) ∧ (τ.whole = true → τ.den ≤ 1)
theorem enc_ne {l : List Int} (h : l ≠ []) : enc l ≠ [] := by
  intro e
  have := (enc_len l).1
  rw [e] at this
  exact h (List.eq_nil_of_length_eq_zero (by simpa using this))
theorem nam_acc (n : Nat) : ∀ acc s : List Int, s.length ≤ n → acc.length ≤ (nam acc s).1.length := by
  induction n with
  | zero =>
    intro acc s h
    obtain rfl : s = [] := List.eq_nil_of_length_eq_zero (by omega)
    rw [nam_end (by decide) (by decide)]; simp
  | succ n ih =>
    intro acc s h
    by_cases h1 : isLet (nx s 0) = true
    · have := isLet_ne h1
      rw [nam_let h1]
      have := ih (acc ++ [nx s 0]) (s.drop 1) (by rw [List.length_drop]; omega)
      rw [List.length_append] at this; omega
    · have h1' : isLet (nx s 0) = false := by simpa using h1
      by_cases h2 : es2 (nx s 0) (nx s 1) = true
      · have := es2_ne h2
        have q := tesc_len (s.drop 1)
        rw [List.length_drop] at q
        rw [nam_esc h1' h2]
        have := ih (acc ++ [(tesc (s.drop 1)).1]) (tesc (s.drop 1)).2 (by omega)
        rw [List.length_append] at this; omega
      · rw [nam_end h1' (by simpa using h2)]; simp
theorem nam_ne {s : List Int} (h : isLet (nx s 0) = true ∨ es2 (nx s 0) (nx s 1) = true) : (nam [] s).1 ≠ [] := by
  intro e
  by_cases h1 : isLet (nx s 0) = true
  · rw [nam_let h1] at e
    have := nam_acc (s.drop 1).length ([] ++ [nx s 0]) (s.drop 1) (Nat.le_refl _)
    rw [e] at this; simp at this
  · have h2 : es2 (nx s 0) (nx s 1) = true := by rcases h with h | h; exact absurd h h1; exact h
    rw [nam_esc (by simpa using h1) h2] at e
    have := nam_acc (tesc (s.drop 1)).2.length ([] ++ [(tesc (s.drop 1)).1]) (tesc (s.drop 1)).2 (Nat.le_refl _)
    rw [e] at this; simp at this
theorem nmB_ne {s : List Int} (h : nmB (nx s 0) (nx s 1) (nx s 2) = true) : (nam [] s).1 ≠ [] := by
  refine nam_ne ?_
  unfold nmB at h
  by_cases g : nx s 0 = 45
  · left; rw [g]; decide
  · rw [if_neg g] at h
    rcases Bool.or_eq_true_iff.1 h with h | h
    · left; unfold isLet; rw [h]; rfl
    · right; exact h
theorem Few.tk {k : Int} (h1 : 1 ≤ k) (h2 : k ≤ 24) (h3 : kTxt k = false) (h4 : kNum k = false) : Few (tk k) :=
  ⟨h1, h2, fun h => (by have : kTxt k = true := by unfold kTxt; rw [show kNam k = true from h]; rfl
                        rw [h3] at this; cases this), fun _ => rfl, fun _ => ⟨rfl, rfl, rfl⟩, fun h => (by cases h), fun h => (by rw [show (Go.Proofs.YtckefmhleklciaaGreatDoor.tk k).kind = k from rfl, h4] at h; cases h)⟩
theorem Few.tkt {k : Int} {l : List Int} (h1 : 1 ≤ k) (h2 : k ≤ 24) (h3 : kTxt k = true) (h4 : kNum k = false) (h5 : kNam k = true → l ≠ []) : Few (tkt k l) :=
  ⟨h1, h2, fun h => enc_ne (h5 h), fun h => (by rw [show (Go.Proofs.YtckefmhleklciaaGreatDoor.tkt k l).kind = k from rfl, h3] at h; cases h), fun _ => ⟨rfl, rfl, rfl⟩, fun h => (by cases h), fun h => (by rw [show (Go.Proofs.YtckefmhleklciaaGreatDoor.tkt k l).kind = k from rfl, h4] at h; cases h)⟩
theorem str_few (n : Nat) : ∀ (q : Int) (acc s : List Int), s.length ≤ n → Few (str q acc s).1 := by
  induction n with
  | zero =>
    intro q acc s h
    obtain rfl : s = [] := List.eq_nil_of_length_eq_zero (by omega)
    rw [str]; simp only [nx_nil, true_or, dite_true]
    exact .tkt (by decide) (by decide) (by decide) (by decide) (fun h => absurd h (by decide))
  | succ n ih =>
    intro q acc s h
    rw [str]
    by_cases h0 : nx s 0 = -1 ∨ nx s 0 = q
    · rw [dif_pos h0]; exact .tkt (by decide) (by decide) (by decide) (by decide) (fun h => absurd h (by decide))
    · have hp := nx_pos (s := s) (fun e => h0 (.inl e))
      rw [dif_neg h0]
      by_cases h1 : nx s 0 = 10
      · rw [dif_pos h1]; exact .tk (by decide) (by decide) (by decide) (by decide)
      · rw [dif_neg h1]
        by_cases h2 : nx s 0 = 92
        · rw [dif_pos h2]
          split
          · exact ih q acc (s.drop 1) (by rw [List.length_drop]; omega)
          · split
            · exact ih q acc (s.drop 2) (by rw [List.length_drop]; omega)
            · have r := tesc_len (s.drop 1)
              rw [List.length_drop] at r
              exact ih q (acc ++ [(tesc (s.drop 1)).1]) (tesc (s.drop 1)).2 (by omega)
        · rw [dif_neg h2]
          exact ih q (acc ++ [nx s 0]) (s.drop 1) (by rw [List.length_drop]; omega)
theorem url_few (n : Nat) : ∀ acc s : List Int, s.length ≤ n → Few (url acc s).1 := by
  induction n with
  | zero =>
    intro acc s h
    obtain rfl : s = [] := List.eq_nil_of_length_eq_zero (by omega)
    rw [url]; simp only [nx_nil, true_or, dite_true]
    exact .tkt (by decide) (by decide) (by decide) (by decide) (fun h => absurd h (by decide))
  | succ n ih =>
    intro acc s h
    rw [url]
    by_cases h0 : nx s 0 = -1 ∨ nx s 0 = 41
    · rw [dif_pos h0]; exact .tkt (by decide) (by decide) (by decide) (by decide) (fun h => absurd h (by decide))
    · have hp := nx_pos (s := s) (fun e => h0 (.inl e))
      rw [dif_neg h0]
      by_cases h1 : isBl (nx s 0) = true
      · rw [dif_pos h1]
        have q := bls_lt h1
        split
        · exact ih acc (bls s) (by omega)
        · exact .tk (by decide) (by decide) (by decide) (by decide)
      · rw [dif_neg h1]
        split
        · have q := tesc_len (s.drop 1)
          rw [List.length_drop] at q
          exact ih (acc ++ [(tesc (s.drop 1)).1]) (tesc (s.drop 1)).2 (by omega)
        · split
          · exact .tk (by decide) (by decide) (by decide) (by decide)
          · exact ih (acc ++ [nx s 0]) (s.drop 1) (by rw [List.length_drop]; omega)
theorem word_few {s : List Int} (h : (nam [] s).1 ≠ []) : Few (word s).1 := by
  unfold word
  split
  · exact .tkt (by decide) (by decide) (by decide) (by decide) (fun _ => h)
  · split
    · split
      · exact .tkt (by decide) (by decide) (by decide) (by decide) (fun _ => h)
      · exact url_few _ _ _ (Nat.le_refl _)
    · exact .tkt (by decide) (by decide) (by decide) (by decide) (fun _ => h)
/-! ### A number's fraction -/
def OkV (r : Int × Int) : Prop := 0 ≤ r.2 ∧ (r.2 = 0 → r.1 = 0)
theorem fr_ok (n : Nat) (p : Int) : OkV (fr n p) := by
  unfold fr fracUp fracDn OkV
  split
  · split <;> simp
  · split
    · refine ⟨Int.natCast_nonneg _, fun h => ?_⟩
      have : 2 ^ (strip 2 n (-p).toNat).2 * 5 ^ (strip 5 (strip 2 n (-p).toNat).1 (-p).toNat).2 = 0 := Int.ofNat_eq_zero.1 h
      have h2 : 0 < 2 ^ (strip 2 n (-p).toNat).2 := Nat.pow_pos (by decide)
      have h5 : 0 < 5 ^ (strip 5 (strip 2 n (-p).toNat).1 (-p).toNat).2 := Nat.pow_pos (by decide)
      have := Nat.mul_pos h2 h5
      omega
    · simp
theorem sg_ok {b : Bool} {r : Int × Int} (h : OkV r) : OkV (sg b r) := by
  unfold sg OkV at *
  refine ⟨h.1, fun e => ?_⟩
  have := h.2 e
  simp only
  split <;> omega
theorem valOf_ok (b : Bool) (ds : List Int) (k : Int) : OkV (valOf b ds k) := by
  unfold valOf
  split
  · simp [OkV]
  · split
    · simp [OkV]
    · exact sg_ok (fr_ok _ _)
theorem valOf_one (b : Bool) (ds : List Int) (k : Int) (hk : 0 ≤ k) : (valOf b ds k).2 ≤ 1 := by
  unfold valOf
  split
  · simp
  · split
    · simp
    · simp only [sg]
      unfold fr
      rw [if_pos (by omega)]
      unfold fracUp
      split <;> simp
theorem decE_ok {b : Bool} {ds : List Int} {k : Nat} {wh : Bool} {s : List Int} (hk : wh = true → k = 0) {r : Int × Int} {w : Bool} (h : decE b ds k wh s = some (r, w)) : OkV r ∧ (w = true → r.2 ≤ 1) := by
  unfold decE at h
  split at h
  · cases h
  · split at h
    · simp only [Option.some.injEq, Prod.mk.injEq] at h
      obtain ⟨rfl, rfl⟩ := h
      exact ⟨valOf_ok _ _ _, fun hw => valOf_one _ _ _ (by rw [hk hw]; decide)⟩
    · cases he : expo s with
      | none => rw [he] at h; cases h
      | some e =>
        rw [he] at h
        simp only [Option.map_some, Option.some.injEq, Prod.mk.injEq] at h
        obtain ⟨rfl, rfl⟩ := h
        exact ⟨valOf_ok _ _ _, fun hw => by cases hw⟩
theorem dcT_ok (s : List Int) : OkV (dcT s).1 ∧ ((dcT s).2 = true → (dcT s).1.2 ≤ 1) := by
  unfold dcT
  cases h : dec s with
  | none => simp [OkV]
  | some x =>
    obtain ⟨r, w⟩ := x
    simp only [Option.getD_some]
    unfold dec at h
    split at h
    · split at h
      · cases h
      · exact decE_ok (by simp) h
    · exact decE_ok (by simp) h
theorem numb_few (s : List Int) : Few (numb s).1 := by
  obtain ⟨⟨h1, h2⟩, h3⟩ := dcT_ok (enc (nmT s))
  unfold numb
  generalize dcT (enc (nmT s)) = z at *
  split
  · rename_i g
    refine ⟨show (1 : Int) ≤ 12 by decide, show (12 : Int) ≤ 24 by decide, fun _ => enc_ne (nmB_ne g), fun h => absurd (show kTxt 12 = false from h) (by decide), fun h => absurd (show kNum 12 = false from h) (by decide), fun h => absurd (show false = true from h) (by decide), fun _ => ⟨h1, h2, h3⟩⟩
  · split
    · refine ⟨show (1 : Int) ≤ 11 by decide, show (11 : Int) ≤ 24 by decide, fun h => absurd (show kNam 11 = true from h) (by decide), fun _ => rfl, fun h => absurd (show kNum 11 = false from h) (by decide), fun h => absurd (show false = true from h) (by decide), fun _ => ⟨h1, h2, h3⟩⟩
    · refine ⟨show (1 : Int) ≤ 10 by decide, show (10 : Int) ≤ 24 by decide, fun h => absurd (show kNam 10 = true from h) (by decide), fun _ => rfl, fun h => absurd (show kNum 10 = false from h) (by decide), fun h => absurd (show false = true from h) (by decide), fun _ => ⟨h1, h2, h3⟩⟩
theorem one_few (s : List Int) : Few (one s).1 := by
  unfold one
  simp only
  split
  · exact .tkt (by decide) (by decide) (by decide) (by decide) (fun _ => by simp)
  · have : brk (nx s 0) = 9 ∨ brk (nx s 0) = 16 ∨ brk (nx s 0) = 17 ∨ brk (nx s 0) = 18 ∨ brk (nx s 0) = 19 ∨ brk (nx s 0) = 20 ∨ brk (nx s 0) = 21 ∨ brk (nx s 0) = 22 ∨ brk (nx s 0) = 23 ∨ brk (nx s 0) = 24 := by
      unfold brk; omega
    rename_i g
    rcases this with e | e | e | e | e | e | e | e | e | e
    · exact absurd e g
    all_goals (rw [e]; exact .tk (by decide) (by decide) (by decide) (by decide))
theorem hash_few {s : List Int} (h : (isLet (nx s 1) || es2 (nx s 1) (nx s 2)) = true) : Few (hash s).1 := by
  have h' : (nam [] (s.drop 1)).1 ≠ [] := by
    refine nam_ne ?_
    rw [nx_drop, nx_drop]
    exact Bool.or_eq_true_iff.1 h
  unfold hash
  exact ⟨show (1 : Int) ≤ 4 by decide, show (4 : Int) ≤ 24 by decide, fun _ => enc_ne h', fun h => absurd (show kTxt 4 = false from h) (by decide), fun _ => ⟨rfl, rfl, rfl⟩, fun _ => rfl, fun h => absurd (show kNum 4 = true from h) (by decide)⟩
theorem sgnT_few (s : List Int) : Few (sgnT s).1 := by
  unfold sgnT
  split
  · split
    · rename_i g; exact hash_few g
    · exact one_few s
  · split
    · split
      · exact numb_few s
      · exact one_few s
    · split
      · split
        · exact numb_few s
        · split
          · exact .tk (by decide) (by decide) (by decide) (by decide)
          · split
            · rename_i g; exact word_few (nmB_ne g)
            · exact one_few s
      · split
        · split
          · exact .tk (by decide) (by decide) (by decide) (by decide)
          · exact one_few s
        · split
          · split
            · rename_i g
              refine .tkt (by decide) (by decide) (by decide) (by decide) (fun _ => nmB_ne ?_)
              rw [nx_drop, nx_drop, nx_drop]; exact g
            · exact one_few s
          · split
            · split
              · rename_i g; exact word_few (nam_ne (.inr g))
              · exact one_few s
            · exact one_few s
theorem tokn_few (s : List Int) : Few (tokn s).1 := by
  unfold tokn
  split
  · exact .tk (by decide) (by decide) (by decide) (by decide)
  · split
    · exact str_few _ _ _ _ (Nat.le_refl _)
    · split
      · exact numb_few s
      · split
        · rename_i g; exact word_few (nam_ne (.inl (isFst_let g)))
        · exact sgnT_few s
theorem toks_few (n : Nat) : ∀ s : List Int, s.length ≤ n → (toks s).length ≤ s.length ∧ ∀ τ ∈ toks s, Few τ := by
  induction n with
  | zero =>
    intro s h
    obtain rfl : s = [] := List.eq_nil_of_length_eq_zero (by omega)
    rw [toks_end (by rw [rmk_end (by simp [nx_nil])]; exact nx_nil 0)]; simp
  | succ n ih =>
    intro s h
    by_cases g : nx (rmk s) 0 = -1
    · rw [toks_end g]; simp
    · rw [toks_go g]
      have h1 := tokn_lt g
      have h2 := rmk_le s
      obtain ⟨h3, h4⟩ := ih (tokn (rmk s)).2 (by omega)
      refine ⟨by rw [List.length_cons]; omega, fun τ hτ => ?_⟩
      rcases List.mem_cons.1 hτ with rfl | hτ
      · exact tokn_few _
      · exact h4 τ hτ
end Go.Proofs.YtckefmhleklciaaGreatDoor
