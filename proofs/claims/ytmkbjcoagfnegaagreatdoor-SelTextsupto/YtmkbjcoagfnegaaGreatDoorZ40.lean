/-
  Plain: what a token may be; no more tokens than characters.
  Plain: tokens of a text that holds nothing open, and of what follows.
  Bytes of a stylesheet: the mark at the front, line ends, by the program.
  Plain: bytes below 128, decoded; tokens of bytes in parts.
-/
import Derived.Test.YtmkbjcoagfnegaaGreatDoorZ05
import Derived.Test.YtmkbjcoagfnegaaGreatDoorZ04
set_option linter.unusedVariables false
namespace Go.Proofs.YtmkbjcoagfnegaaGreatDoor
open Go.RowKit

/-! ### What a token may be -/
def kNam (k : Int) : Bool := (k == 1) || (k == 2) || (k == 3) || (k == 4) || (k == 12) || (k == 9)
def kNum (k : Int) : Bool := (k == 10) || (k == 11) || (k == 12)
def kTxt (k : Int) : Bool := kNam k || (k == 5) || (k == 7)
structure Few (τ : Tk) : Prop where
  lo : 1 ≤ τ.kind
  hi : τ.kind ≤ 24
  nam : kNam τ.kind = true → τ.text ≠ []
  txt : kTxt τ.kind = false → τ.text = []
  num : kNum τ.kind = false → τ.num = 0 ∧ τ.den = 0 ∧ τ.whole = false
  id : τ.id = true → τ.kind = 4
  den : kNum τ.kind = true → 0 ≤ τ.den ∧ (τ.den = 0 → τ.num = 0) ∧ (τ.whole = true → τ.den ≤ 1)
theorem enc_ne {l : List Int} (h : l ≠ []) : enc l ≠ [] := by
  intro e
  have := (enc_len l).1
  rw [e] at this
  exact h (List.eq_nil_of_length_eq_zero (by simpa using this))
theorem Few.tk {k : Int} (h1 : 1 ≤ k) (h2 : k ≤ 24) (h3 : kTxt k = false) (h4 : kNum k = false) : Few (tk k) :=
  ⟨h1, h2, fun h => (by have : kTxt k = true := by unfold kTxt; rw [show kNam k = true from h]; rfl
                        rw [h3] at this; cases this), fun _ => rfl, fun _ => ⟨rfl, rfl, rfl⟩, fun h => (by cases h), fun h => (by rw [show (Go.Proofs.YtmkbjcoagfnegaaGreatDoor.tk k).kind = k from rfl, h4] at h; cases h)⟩
theorem Few.tkt {k : Int} {l : List Int} (h1 : 1 ≤ k) (h2 : k ≤ 24) (h3 : kTxt k = true) (h4 : kNum k = false) (h5 : kNam k = true → l ≠ []) : Few (tkt k l) :=
  ⟨h1, h2, fun h => enc_ne (h5 h), fun h => (by rw [show (Go.Proofs.YtmkbjcoagfnegaaGreatDoor.tkt k l).kind = k from rfl, h3] at h; cases h), fun _ => ⟨rfl, rfl, rfl⟩, fun h => (by cases h), fun h => (by rw [show (Go.Proofs.YtmkbjcoagfnegaaGreatDoor.tkt k l).kind = k from rfl, h4] at h; cases h)⟩
/-! ### A number's fraction -/
end Go.Proofs.YtmkbjcoagfnegaaGreatDoor
set_option linter.unusedVariables false
namespace Go.Proofs.YtmkbjcoagfnegaaGreatDoor
open Go.RowKit

/-! ### What follows a text that holds nothing open -/
/-- Begins with ; or /. -/
def Stp (t : List Int) : Prop := nx t 0 = 59 ∨ nx t 0 = 47
theorem Stp.let {t : List Int} (h : Stp t) : isLet (nx t 0) = false := by rcases h with h | h <;> rw [h] <;> decide
theorem Stp.fst {t : List Int} (h : Stp t) : isFst (nx t 0) = false := by rcases h with h | h <;> rw [h] <;> decide
theorem Stp.bl {t : List Int} (h : Stp t) : isBl (nx t 0) = false := by rcases h with h | h <;> rw [h] <;> decide
theorem Stp.sg {t : List Int} (h : Stp t) : isSg (nx t 0) = false := by rcases h with h | h <;> rw [h] <;> decide
theorem Stp.ne {t : List Int} (h : Stp t) (c : Int) (hc : c ≠ 59) (hd : c ≠ 47) : nx t 0 ≠ c := by rcases h with h | h <;> omega
/-- No sign that opens a text, an escape, a bracket. -/
def Cln (s : List Int) : Prop := ∀ c ∈ s, c ≠ 34 ∧ c ≠ 39 ∧ c ≠ 92 ∧ c ≠ 40 ∧ c ≠ -1
/-- No remark begins. -/
def NoR (s : List Int) : Prop := ∀ k, ¬ (nx s k = 47 ∧ nx s (k + 1) = 42)
theorem Cln.nx {s : List Int} (h : Cln s) {k : Nat} (hk : k < s.length) : nx s k ≠ 34 ∧ nx s k ≠ 39 ∧ nx s k ≠ 92 ∧ nx s k ≠ 40 ∧ nx s k ≠ -1 := by
  have : Go.Proofs.YtmkbjcoagfnegaaGreatDoor.nx s k = s[k] := by simp [Go.Proofs.YtmkbjcoagfnegaaGreatDoor.nx, List.getD_eq_getElem?_getD, hk]
  rw [this]; exact h _ (List.getElem_mem hk)
theorem Cln.esc {s : List Int} (h : Cln s) (k : Nat) (c : Int) : es2 (Go.Proofs.YtmkbjcoagfnegaaGreatDoor.nx s k) c = false := by
  by_cases hk : k < s.length
  · have := (h.nx hk).2.2.1
    simp [es2, this]
  · have : Go.Proofs.YtmkbjcoagfnegaaGreatDoor.nx s k = -1 := by simp [Go.Proofs.YtmkbjcoagfnegaaGreatDoor.nx, List.getD_eq_getElem?_getD, List.getElem?_eq_none (Nat.le_of_not_lt hk)]
    rw [this]; rfl
theorem Cln.suf {s r : List Int} (h : Cln s) (hr : r <:+ s) : Cln r := fun c hc => h c (hr.subset hc)
theorem NoR.suf {s r : List Int} (h : NoR s) (hr : r <:+ s) : NoR r := by
  obtain ⟨p, rfl⟩ := hr
  intro k hk
  refine h (p.length + k) ?_
  have e : ∀ j, nx (p ++ r) (p.length + j) = nx r j := fun j => by simp [nx, List.getD_eq_getElem?_getD, List.getElem?_append_right]
  rw [e, Nat.add_assoc, e]; exact hk
theorem Cln.cons {c : Int} {s : List Int} (h : Cln (c :: s)) : Cln s := fun x hx => h x (List.mem_cons_of_mem _ hx)
/-- What is said of a part and all that follows. -/
def App (f : List Int → Tk × List Int) (s t : List Int) : Prop := f (s ++ t) = ((f s).1, (f s).2 ++ t) ∧ (f s).2 <:+ s
theorem App.same {f g : List Int → Tk × List Int} {s t : List Int} (h : App g s t) (h1 : f (s ++ t) = g (s ++ t)) (h2 : f s = g s) : App f s t := by
  unfold App at *
  rw [h1, h2]; exact h
def at_ (s : List Int) : Tk × List Int := (tkt 3 (nam [] (s.drop 1)).1, (nam [] (s.drop 1)).2)
theorem nx_len {s : List Int} {k : Nat} (h : nx s k ≠ -1) : k < s.length := by
  rcases Nat.lt_or_ge k s.length with g | g
  · exact g
  · exact absurd (by simp [nx, List.getD_eq_getElem?_getD, List.getElem?_eq_none g]) h
theorem NoR.rmk {s : List Int} (h : NoR s) : rmk s = s := rmk_end (h 0)
end Go.Proofs.YtmkbjcoagfnegaaGreatDoor
set_option linter.unusedVariables false
set_option linter.unusedSimpArgs false
namespace Go.Proofs.YtmkbjcoagfnegaaGreatDoor
open Go.RowKit

def tr (x : Int) : Int := if x = 13 ∨ x = 12 then 10 else if x = 0 then 65533 else x
def lin (last : Int) : List Int → List Int
  | [] => []
  | x :: r => (if x = 10 ∧ last = 13 then [] else [tr x]) ++ lin x r
def mark (bs : List Int) : Bool := decide (3 ≤ bs.length) && (decide (gt bs 0 = 239) && (decide (gt bs 1 = 187) && decide (gt bs 2 = 191)))
def cut (bs : List Int) : List Int := if mark bs then bs.drop 3 else bs
def dcd (bs : List Int) : List Int := lin 0 (raw (cut bs))
theorem mark_cases (bs : List Int) : (bs.length < 3 ∧ mark bs = false) ∨ (3 ≤ bs.length ∧ gt bs 0 ≠ 239 ∧ mark bs = false) ∨ (3 ≤ bs.length ∧ gt bs 0 = 239 ∧ gt bs 1 ≠ 187 ∧ mark bs = false) ∨
    (3 ≤ bs.length ∧ gt bs 0 = 239 ∧ gt bs 1 = 187 ∧ gt bs 2 ≠ 191 ∧ mark bs = false) ∨ (3 ≤ bs.length ∧ gt bs 0 = 239 ∧ gt bs 1 = 187 ∧ gt bs 2 = 191 ∧ mark bs = true) := by
  unfold mark
  by_cases h : 3 ≤ bs.length
  · by_cases h0 : gt bs 0 = 239
    · by_cases h1 : gt bs 1 = 187
      · by_cases h2 : gt bs 2 = 191
        · simp [h, h0, h1, h2]
        · simp [h, h0, h1, h2]
      · simp [h, h0, h1]
    · simp [h, h0]
  · simp [h]; omega
theorem By.cut {bs : List Int} (h : By bs) : By (cut bs) := by unfold Go.Proofs.YtmkbjcoagfnegaaGreatDoor.cut; split; exact h.drop 3; exact h
theorem cutm_len (bs : List Int) : (cut bs).length ≤ bs.length := by unfold cut; split <;> simp
/-- The one ahead. -/
def pv (ls : List Int) : Nat → Int
  | 0 => 0
  | k + 1 => gt ls k
theorem lin_in {ls xs : List Int} {k : Nat} (h : lin 0 ls = xs ++ lin (pv ls k) (ls.drop k)) (hk : k < ls.length) (hn : ¬ (gt ls k = 10 ∧ pv ls k = 13)) :
    lin 0 ls = (xs ++ [tr (gt ls k)]) ++ lin (pv ls (k + 1)) (ls.drop (k + 1)) := by
  rw [h, drop_gt hk]; simp only [lin]; rw [if_neg hn]; simp [pv]
theorem lin_out {ls xs : List Int} {k : Nat} (h : lin 0 ls = xs ++ lin (pv ls k) (ls.drop k)) (hk : k < ls.length) (hn : gt ls k = 10 ∧ pv ls k = 13) :
    lin 0 ls = xs ++ lin (pv ls (k + 1)) (ls.drop (k + 1)) := by
  rw [h, drop_gt hk]; simp only [lin]; rw [if_pos hn]; simp [pv]
theorem lin_end {ls xs : List Int} {k : Nat} (h : lin 0 ls = xs ++ lin (pv ls k) (ls.drop k)) (hk : ls.length ≤ k) : lin 0 ls = xs := by
  rw [h, List.drop_of_length_le hk]; simp [lin]
def RelLin (W : World) (n : Nat) (ls : List Int) (l i : Value) (wr : World) : Prop :=
  ∃ (k : Nat) (xs : List Int), k ≤ n ∧ i = .int .i64 k ∧ xs.length ≤ k ∧ Own W .i32 21 wr l xs ∧ Hid (lin 0 ls = xs ++ lin (pv ls k) (ls.drop k))
theorem RelLin.mk {W : World} {n : Nat} {ls : List Int} {l i : Value} {wr : World} (k : Nat) (xs : List Int) (h1 : k ≤ n) (h2 : i = .int .i64 k) (h3 : xs.length ≤ k) (h4 : Own W .i32 21 wr l xs) (h5 : lin 0 ls = xs ++ lin (pv ls k) (ls.drop k)) : RelLin W n ls l i wr :=
  ⟨k, xs, h1, h2, h3, h4, h5⟩
/-- What becomes of a character. -/
theorem tr_cases (x p : Int) : (x = 10 ∧ p = 13) ∨ (¬ (x = 10 ∧ p = 13) ∧ ((x = 10 ∧ p ≠ 13 ∧ tr x = 10) ∨ (x = 13 ∧ tr x = 10) ∨ (x = 12 ∧ tr x = 10) ∨ (x = 0 ∧ tr x = 65533) ∨ (x ≠ 10 ∧ x ≠ 13 ∧ x ≠ 12 ∧ x ≠ 0 ∧ tr x = x))) := by
  by_cases h : x = 10 ∧ p = 13
  · exact .inl h
  · refine .inr ⟨h, ?_⟩
    unfold tr
    by_cases h1 : x = 10
    · left; subst h1; exact ⟨rfl, by omega, by decide⟩
    · by_cases h2 : x = 13
      · subst h2; right; left; exact ⟨rfl, by decide⟩
      · by_cases h3 : x = 12
        · subst h3; right; right; left; exact ⟨rfl, by decide⟩
        · by_cases h4 : x = 0
          · subst h4; right; right; right; left; exact ⟨rfl, by decide⟩
          · right; right; right; right
            refine ⟨h1, h2, h3, h4, ?_⟩
            rw [if_neg (by omega), if_neg h4]
end Go.Proofs.YtmkbjcoagfnegaaGreatDoor
set_option linter.unusedVariables false
namespace Go.Proofs.YtmkbjcoagfnegaaGreatDoor
open Go.RowKit
/-! ### Bytes below 128 -/
def Asc (a : List Int) : Prop := ∀ c ∈ a, 0 ≤ c ∧ c < 128
theorem Asc.cons {c : Int} {s : List Int} (h : Asc (c :: s)) : Asc s := fun x hx => h x (List.mem_cons_of_mem _ hx)
theorem Asc.head {a : List Int} (h : Asc a) : ∀ c, a.head? = some c → c < 128 := fun c hc => (h c (List.mem_of_mem_head? hc)).2
theorem lin_mem {c : Int} : ∀ (a : List Int) (l : Int), c ∈ lin l a → ∃ x ∈ a, c = tr x := by
  intro a
  induction a with
  | nil => intro l h; cases h
  | cons y r ih =>
    intro l h
    simp only [lin, List.mem_append] at h
    rcases h with h | h
    · split at h
      · cases h
      · simp at h; exact ⟨y, List.mem_cons_self .., h⟩
    · obtain ⟨x, hx, e⟩ := ih _ h
      exact ⟨x, List.mem_cons_of_mem _ hx, e⟩
theorem tr_back {x c : Int} (h : tr x = c) (hc : c ≠ 10) (hd : c ≠ 65533) : x = c := by
  unfold tr at h
  split at h
  · omega
  · split at h
    · omega
    · exact h
theorem lin_not {c : Int} {a : List Int} {l : Int} (h : ∀ x ∈ a, x ≠ c) (hc : c ≠ 10) (hd : c ≠ 65533) : ∀ x ∈ lin l a, x ≠ c := by
  intro x hx e
  obtain ⟨y, hy, e'⟩ := lin_mem a l hx
  exact h y hy (tr_back (e'.symm.trans e) hc hd)
theorem Cln.lin {a : List Int} (h : Cln a) (l : Int) : Cln (lin l a) := by
  intro c hc
  exact ⟨lin_not (fun x hx => (h x hx).1) (by decide) (by decide) c hc, lin_not (fun x hx => (h x hx).2.1) (by decide) (by decide) c hc, lin_not (fun x hx => (h x hx).2.2.1) (by decide) (by decide) c hc, lin_not (fun x hx => (h x hx).2.2.2.1) (by decide) (by decide) c hc, lin_not (fun x hx => (h x hx).2.2.2.2) (by decide) (by decide) c hc⟩
theorem NoR.cons {x : Int} {r : List Int} (h : NoR (x :: r)) : NoR r := h.suf (List.suffix_cons _ _)
theorem NoR.mk {x : Int} {r : List Int} (h0 : ¬ (x = 47 ∧ nx r 0 = 42)) (h : NoR r) : NoR (x :: r) := by
  intro k
  cases k with
  | zero => exact h0
  | succ k => exact h k
theorem lin_nx {r : List Int} (h : nx r 0 ≠ 42) : nx (lin 47 r) 0 ≠ 42 := by
  cases r with
  | nil => exact h
  | cons y q =>
    have e : lin 47 (y :: q) = tr y :: lin y q := by simp [lin]
    rw [e]
    intro g
    exact h (tr_back (show tr y = 42 from g) (by decide) (by decide))
theorem NoR.lin : ∀ (a : List Int) (l : Int), NoR a → NoR (lin l a) := by
  intro a
  induction a with
  | nil => intro l h; exact h
  | cons y r ih =>
    intro l h
    have hr := ih y h.cons
    simp only [Go.Proofs.YtmkbjcoagfnegaaGreatDoor.lin]
    split
    · exact hr
    · refine NoR.mk ?_ hr
      intro ⟨g1, g2⟩
      have hy : y = 47 := tr_back g1 (by decide) (by decide)
      subst hy
      refine lin_nx ?_ g2
      intro e
      exact h 0 ⟨rfl, e⟩
theorem NoR.not {s : List Int} (h : ∀ c ∈ s, c ≠ 47) : NoR s := by
  intro k ⟨h1, _⟩
  have hk := nx_len (s := s) (k := k) (by omega)
  have : nx s k = s[k] := by simp [nx, List.getD_eq_getElem?_getD, hk]
  exact h _ (List.getElem_mem hk) (this.symm.trans h1)
end Go.Proofs.YtmkbjcoagfnegaaGreatDoor

