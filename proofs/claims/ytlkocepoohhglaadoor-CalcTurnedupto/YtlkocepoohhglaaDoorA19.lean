/-
  Plain: there and back; how many come out; what goes on behind whole bytes.
  Bytes of a stylesheet: the mark at the front, line ends, by the program.
  Plain: bytes below 128, decoded; tokens of bytes in parts.
  Line ends, and the characters of a stylesheet, by the program.
-/
import Derived.Test.YtlkocepoohhglaaDoorA11
import Derived.Test.YtlkocepoohhglaaDoorA18
set_option linter.unusedVariables false
set_option linter.unusedSimpArgs false
namespace Go.Proofs.YtlkocepoohhglaaDoor
open Go.RowKit

theorem enc_cons (x : Int) (l : List Int) : enc (x :: l) = enc1 (chr x) ++ enc l := by simp [enc]
theorem enc1_ne (x : Int) (r : List Int) : enc1 x ++ r ≠ [] := by
  intro e
  have h1 := congrArg List.length e
  have := (enc1_len x).1
  simp at h1; simp [h1.1] at this
theorem raw_enc1 (x : Int) (r : List Int) (h : isC x = true) : raw (enc1 x ++ r) = x :: raw r := by
  rw [raw_cut (enc1_ne x r), stp_enc x r h]; simp
theorem whole_enc1 (x : Int) (r : List Int) (h : isC x = true) : whole (enc1 x ++ r) = whole r := by
  rw [whole_cut (enc1_ne x r), stp_enc x r h]; simp
theorem raw_enc (l : List Int) : raw (enc l) = l.map chr := by
  induction l with
  | nil => exact raw_nil
  | cons x l ih => rw [enc_cons, raw_enc1 _ _ (isC_chr x), ih]; rfl
theorem whole_enc (l : List Int) : whole (enc l) = true := by
  induction l with
  | nil => exact whole_nil
  | cons x l ih => rw [enc_cons, whole_enc1 _ _ (isC_chr x), ih]
theorem by_enc1 (x : Int) (h : isC x = true) : By (enc1 x) := by
  rw [isC_iff] at h
  intro y hy
  rcases (show x ≤ 127 ∨ (127 < x ∧ x ≤ 2047) ∨ (2047 < x ∧ x ≤ 65535) ∨ 65535 < x by omega) with g | ⟨g, g'⟩ | ⟨g, g'⟩ | g
  · rw [enc1_1 g] at hy; simp at hy; omega
  · rw [enc1_2 g g'] at hy; simp at hy; omega
  · rw [enc1_3 g g'] at hy; simp at hy; omega
  · rw [enc1_4 g] at hy; simp at hy; omega
theorem by_enc (l : List Int) : By (enc l) := by
  intro y hy
  simp only [enc, List.mem_flatMap] at hy
  obtain ⟨x, _, hx⟩ := hy
  exact by_enc1 _ (isC_chr x) y hx
def allB (l : List Int) : Bool := l.all isC
theorem allB_snoc (l : List Int) (x : Int) : allB (l ++ [x]) = (allB l && isC x) := by simp [allB]
theorem map_chr (l : List Int) : (l.map chr = l) ↔ allB l = true := by
  induction l with
  | nil => simp [allB]
  | cons x l ih =>
    simp only [List.map_cons, List.cons.injEq, allB, List.all_cons, Bool.and_eq_true] at ih ⊢
    rw [ih]
    constructor
    · rintro ⟨h, k⟩
      exact ⟨h ▸ isC_chr x, k⟩
    · rintro ⟨h, k⟩
      exact ⟨chr_yes h, k⟩
theorem back_chars (l : List Int) : eqB (raw (enc l)) l = allB l := by
  rw [raw_enc]
  have := map_chr l
  by_cases h : allB l = true
  · rw [h]; unfold eqB; simp [this.2 h]
  · have h' : allB l = false := by simpa using h
    rw [h']; unfold eqB; simp [this, h']
theorem enc_raw (n : Nat) : ∀ bs : List Int, bs.length ≤ n → By bs → whole bs = true → enc (raw bs) = bs := by
  induction n with
  | zero => intro bs h _ _; obtain rfl : bs = [] := List.eq_nil_of_length_eq_zero (by omega); rw [raw_nil]; rfl
  | succ n ih =>
    intro bs h hb hw
    by_cases hne : bs = []
    · subst hne; rw [raw_nil]; rfl
    · rw [whole_cut hne] at hw
      simp only [Bool.and_eq_true] at hw
      obtain ⟨h1, h2⟩ := stp_back bs hb hne hw.1
      have hs := stp_len bs hne
      rw [raw_cut hne, enc_cons, chr_yes h1, ih _ (by rw [List.length_drop]; omega) (hb.drop _) hw.2]
      exact h2.symm
theorem back_bytes (bs : List Int) (hb : By bs) : eqB (enc (raw bs)) bs = whole bs := by
  by_cases h : whole bs = true
  · rw [h]; unfold eqB; simp [enc_raw bs.length bs (Nat.le_refl _) hb h]
  · have h' : whole bs = false := by simpa using h
    rw [h']; unfold eqB; simp
    intro e
    have := whole_enc (raw bs)
    rw [e] at this
    exact h this
theorem raw_len (n : Nat) : ∀ bs : List Int, bs.length ≤ n → (raw bs).length ≤ bs.length ∧ bs.length ≤ 4 * (raw bs).length := by
  induction n with
  | zero => intro bs h; obtain rfl : bs = [] := List.eq_nil_of_length_eq_zero (by omega); rw [raw_nil]; simp
  | succ n ih =>
    intro bs h
    by_cases hne : bs = []
    · subst hne; rw [raw_nil]; simp
    · have hs := stp_len bs hne
      have := ih (bs.drop (stp bs).2.1) (by rw [List.length_drop]; omega)
      rw [raw_cut hne, List.length_cons]
      rw [List.length_drop] at this
      omega
theorem raw_le (bs : List Int) : (raw bs).length ≤ bs.length ∧ bs.length ≤ 4 * (raw bs).length := raw_len bs.length bs (Nat.le_refl _)
theorem raw_append (n : Nat) (b : List Int) : ∀ a : List Int, a.length ≤ n → By a → whole a = true → raw (a ++ b) = raw a ++ raw b := by
  induction n with
  | zero => intro a h _ _; obtain rfl : a = [] := List.eq_nil_of_length_eq_zero (by omega); rw [raw_nil]; rfl
  | succ n ih =>
    intro a h hb hw
    by_cases hne : a = []
    · subst hne; rw [raw_nil]; rfl
    · rw [whole_cut hne] at hw
      simp only [Bool.and_eq_true] at hw
      obtain ⟨h1, h2⟩ := stp_back a hb hne hw.1
      have hs := stp_len a hne
      have e := ih (a.drop (stp a).2.1) (by rw [List.length_drop]; omega) (hb.drop _) hw.2
      rw [raw_cut hne]
      conv => lhs; rw [h2, List.append_assoc, raw_enc1 _ _ h1, e]
      rfl
theorem By.app {a b : List Int} (ha : By a) (hb : By b) : By (a ++ b) := fun x hx => by
  rcases List.mem_append.1 hx with h | h
  · exact ha x h
  · exact hb x h
/-- A slice in memory, empty or not. -/
theorem Nums.form {k : IntKind} {w : World} {v : Value} {bs : List Int} (h : Nums k w v bs) :
    ∃ a n c, v = .slice a n c ∧ n = bs.length ∧ n ≤ 4611686018427387904 ∧ n ≤ c + 0 + n ∧ (0 < n → ∃ b o, a = some ⟨b, o, none⟩ ∧ b < w.heap.size ∧ n ≤ c ∧ c ≤ 9223372036854775807 ∧ ∀ i, i < n → w.cell? ⟨b, o + i, none⟩ = some (.int k (gt bs i))) := by
  rcases h with ⟨a, c, rfl, rfl⟩ | ⟨b, o, n, c, rfl, hn, h0, hbw, hl, hn9, hc9, hc⟩
  · exact ⟨a, 0, c, rfl, rfl, by omega, by omega, fun h => by omega⟩
  · exact ⟨_, n, c, rfl, hn, hn9, by omega, fun _ => ⟨b, o, rfl, hbw, hl, hc9, hc⟩⟩
end Go.Proofs.YtlkocepoohhglaaDoor
set_option linter.unusedVariables false
set_option linter.unusedSimpArgs false
namespace Go.Proofs.YtlkocepoohhglaaDoor
open Go.RowKit

def tr (x : Int) : Int := if x = 13 ∨ x = 12 then 10 else if x = 0 then 65533 else x
def lin (last : Int) : List Int → List Int
  | [] => []
  | x :: r => (if x = 10 ∧ last = 13 then [] else [tr x]) ++ lin x r
def mark (bs : List Int) : Bool := decide (3 ≤ bs.length) && (decide (gt bs 0 = 239) && (decide (gt bs 1 = 187) && decide (gt bs 2 = 191)))
def cut (bs : List Int) : List Int := if mark bs then bs.drop 3 else bs
def dcd (bs : List Int) : List Int := lin 0 (raw (cut bs))
theorem mark_cases (bs : List Int) : (bs.length < 3 ∧ mark bs = false) ∨ (3 ≤ bs.length ∧ gt bs 0 ≠ 239 ∧ mark bs = false) ∨ (3 ≤ bs.length ∧ gt bs 0 = 239 ∧ gt bs 1 ≠ 187 ∧ mark bs = false) ∨
    (3 ≤ bs.length ∧ gt bs 0 = 239 ∧ gt bs 1 = 187 ∧ gt bs 2 ≠ 191 ∧ mark bs = false) ∨ (3 ≤ bs.length ∧ gt bs 0 = 239 ∧ gt bs 1 = 187 ∧ gt bs 2 = 191 ∧ mark bs = true) := by
  unfold mark
  by_cases h : 3 ≤ bs.length
  · by_cases h0 : gt bs 0 = 239
    · by_cases h1 : gt bs 1 = 187
      · by_cases h2 : gt bs 2 = 191
        · simp [h, h0, h1, h2]
        · simp [h, h0, h1, h2]
      · simp [h, h0, h1]
    · simp [h, h0]
  · simp [h]; omega
theorem By.cut {bs : List Int} (h : By bs) : By (cut bs) := by unfold Go.Proofs.YtlkocepoohhglaaDoor.cut; split; exact h.drop 3; exact h
theorem cutm_len (bs : List Int) : (cut bs).length ≤ bs.length := by unfold cut; split <;> simp
/-- The one ahead. -/
def pv (ls : List Int) : Nat → Int
  | 0 => 0
  | k + 1 => gt ls k
theorem lin_in {ls xs : List Int} {k : Nat} (h : lin 0 ls = xs ++ lin (pv ls k) (ls.drop k)) (hk : k < ls.length) (hn : ¬ (gt ls k = 10 ∧ pv ls k = 13)) :
    lin 0 ls = (xs ++ [tr (gt ls k)]) ++ lin (pv ls (k + 1)) (ls.drop (k + 1)) := by
  rw [h, drop_gt hk]; simp only [lin]; rw [if_neg hn]; simp [pv]
theorem lin_out {ls xs : List Int} {k : Nat} (h : lin 0 ls = xs ++ lin (pv ls k) (ls.drop k)) (hk : k < ls.length) (hn : gt ls k = 10 ∧ pv ls k = 13) :
    lin 0 ls = xs ++ lin (pv ls (k + 1)) (ls.drop (k + 1)) := by
  rw [h, drop_gt hk]; simp only [lin]; rw [if_pos hn]; simp [pv]
theorem lin_end {ls xs : List Int} {k : Nat} (h : lin 0 ls = xs ++ lin (pv ls k) (ls.drop k)) (hk : ls.length ≤ k) : lin 0 ls = xs := by
  rw [h, List.drop_of_length_le hk]; simp [lin]
def RelLin (W : World) (n : Nat) (ls : List Int) (l i : Value) (wr : World) : Prop :=
  ∃ (k : Nat) (xs : List Int), k ≤ n ∧ i = .int .i64 k ∧ xs.length ≤ k ∧ Own W .i32 21 wr l xs ∧ Hid (lin 0 ls = xs ++ lin (pv ls k) (ls.drop k))
theorem RelLin.mk {W : World} {n : Nat} {ls : List Int} {l i : Value} {wr : World} (k : Nat) (xs : List Int) (h1 : k ≤ n) (h2 : i = .int .i64 k) (h3 : xs.length ≤ k) (h4 : Own W .i32 21 wr l xs) (h5 : lin 0 ls = xs ++ lin (pv ls k) (ls.drop k)) : RelLin W n ls l i wr :=
  ⟨k, xs, h1, h2, h3, h4, h5⟩
/-- What becomes of a character. -/
theorem tr_cases (x p : Int) : (x = 10 ∧ p = 13) ∨ (¬ (x = 10 ∧ p = 13) ∧ ((x = 10 ∧ p ≠ 13 ∧ tr x = 10) ∨ (x = 13 ∧ tr x = 10) ∨ (x = 12 ∧ tr x = 10) ∨ (x = 0 ∧ tr x = 65533) ∨ (x ≠ 10 ∧ x ≠ 13 ∧ x ≠ 12 ∧ x ≠ 0 ∧ tr x = x))) := by
  by_cases h : x = 10 ∧ p = 13
  · exact .inl h
  · refine .inr ⟨h, ?_⟩
    unfold tr
    by_cases h1 : x = 10
    · left; subst h1; exact ⟨rfl, by omega, by decide⟩
    · by_cases h2 : x = 13
      · subst h2; right; left; exact ⟨rfl, by decide⟩
      · by_cases h3 : x = 12
        · subst h3; right; right; left; exact ⟨rfl, by decide⟩
        · by_cases h4 : x = 0
          · subst h4; right; right; right; left; exact ⟨rfl, by decide⟩
          · right; right; right; right
            refine ⟨h1, h2, h3, h4, ?_⟩
            rw [if_neg (by omega), if_neg h4]
end Go.Proofs.YtlkocepoohhglaaDoor
set_option linter.unusedVariables false
namespace Go.Proofs.YtlkocepoohhglaaDoor
open Go.RowKit
/-! ### Bytes below 128 -/
def Asc (a : List Int) : Prop := ∀ c ∈ a, 0 ≤ c ∧ c < 128
theorem Asc.cons {c : Int} {s : List Int} (h : Asc (c :: s)) : Asc s := fun x hx => h x (List.mem_cons_of_mem _ hx)
theorem raw_asc1 (x : Int) (r : List Int) (h : x < 128) : raw (x :: r) = x :: raw r := by
  have hs : szOf x = 1 := by unfold szOf; rw [if_pos (by omega)]
  have hl : ldOf x = x := by unfold ldOf; rw [if_pos (by omega)]
  have e : stp (x :: r) = (x, 1, true) := by
    show (if szOf x = 0 then (65533, 1, false) else fol (szOf x - 1) (ldOf x) (loOf x) (hiOf x) 1 r) = _
    rw [hs, if_neg (by decide), hl]; rfl
  rw [raw_cut (List.cons_ne_nil _ _), e]; rfl
theorem raw_asc (b : List Int) : ∀ a : List Int, Asc a → raw (a ++ b) = a ++ raw b := by
  intro a
  induction a with
  | nil => intro _; rfl
  | cons x r ih =>
    intro h
    rw [List.cons_append, raw_asc1 x _ (h x (List.mem_cons_self ..)).2, ih h.cons]; rfl
theorem lin_free {l m : Int} (hl : l ≠ 13) (hm : m ≠ 13) (b : List Int) : lin l b = lin m b := by
  cases b with
  | nil => rfl
  | cons x r => simp [lin, hl, hm]
theorem lin_app (x : Int) (hx : x ≠ 10) (b : List Int) : ∀ (a : List Int) (l : Int), lin l (a ++ x :: b) = lin l a ++ tr x :: lin x b := by
  intro a
  induction a with
  | nil => intro l; simp [lin, hx]
  | cons y r ih => intro l; simp only [List.cons_append, lin]; rw [ih]; simp
theorem mark_asc {a : List Int} (h : ∀ c, a.head? = some c → c < 128) : mark a = false := by
  cases a with
  | nil => rfl
  | cons x r =>
    have := h x rfl
    unfold mark gt
    have e : (x :: r).getD 0 0 = x := rfl
    rw [e, decide_eq_false (p := x = 239) (by omega), Bool.false_and, Bool.and_false]
theorem cut_asc {a : List Int} (h : ∀ c, a.head? = some c → c < 128) : cut a = a := by unfold cut; rw [mark_asc h]; rfl
theorem Asc.head {a : List Int} (h : Asc a) : ∀ c, a.head? = some c → c < 128 := fun c hc => (h c (List.mem_of_mem_head? hc)).2
theorem Asc.head_app {a : List Int} (h : Asc a) {x : Int} (hx : x < 128) (b : List Int) : ∀ c, (a ++ x :: b).head? = some c → c < 128 := by
  intro c hc
  cases a with
  | nil => cases hc; exact hx
  | cons y r => cases hc; exact (h _ (List.mem_cons_self ..)).2
theorem dcd_asc {a : List Int} (h : Asc a) : dcd a = lin 0 a := by
  unfold dcd
  rw [cut_asc h.head]
  have := raw_asc [] a h
  rw [List.append_nil, raw_nil, List.append_nil] at this
  rw [this]
theorem dcd_none {b : List Int} (h : mark b = false) : dcd b = lin 0 (raw b) := by unfold dcd cut; rw [h]; rfl
theorem dcd_semi {a b : List Int} (h : Asc a) (hb : mark b = false) : dcd (a ++ 59 :: b) = dcd a ++ 59 :: dcd b := by
  rw [dcd_asc h, dcd_none hb]
  unfold dcd
  rw [cut_asc (h.head_app (by decide) b), raw_asc _ a h, raw_asc1 59 b (by decide), lin_app 59 (by decide), lin_free (l := 59) (m := 0) (by decide) (by decide)]
  rfl
theorem dcd_blank {a : List Int} (h : Asc a) : dcd (a ++ [32]) = dcd a ++ [32] := by
  have h' : Asc (a ++ [32]) := fun c hc => by
    rcases List.mem_append.1 hc with hc | hc
    · exact h c hc
    · simp at hc; omega
  rw [dcd_asc h, dcd_asc h', lin_app 32 (by decide)]; rfl
theorem dcd_remark {a i b : List Int} (h : Asc a) (hi : Asc i) (hb : mark b = false) : dcd (a ++ 32 :: 47 :: 42 :: (i ++ 42 :: 47 :: b)) = (dcd a ++ [32]) ++ 47 :: 42 :: (dcd i ++ 42 :: 47 :: dcd b) := by
  rw [dcd_asc h, dcd_asc hi, dcd_none hb]
  unfold dcd
  rw [cut_asc (h.head_app (by decide) _), raw_asc _ a h, raw_asc1 32 _ (by decide), raw_asc1 47 _ (by decide), raw_asc1 42 _ (by decide), raw_asc _ i hi, raw_asc1 42 _ (by decide), raw_asc1 47 _ (by decide), lin_app 32 (by decide)]
  have e1 : ∀ r, lin 32 (47 :: 42 :: r) = 47 :: 42 :: lin 42 r := fun r => rfl
  rw [e1, lin_app 42 (by decide), lin_free (l := 42) (m := 0) (by decide) (by decide)]
  have e2 : ∀ r, lin 42 (47 :: r) = 47 :: lin 47 r := fun r => rfl
  rw [e2, lin_free (l := 47) (m := 0) (by decide) (by decide)]
  simp [tr]
theorem lin_mem {c : Int} : ∀ (a : List Int) (l : Int), c ∈ lin l a → ∃ x ∈ a, c = tr x := by
  intro a
  induction a with
  | nil => intro l h; cases h
  | cons y r ih =>
    intro l h
    simp only [lin, List.mem_append] at h
    rcases h with h | h
    · split at h
      · cases h
      · simp at h; exact ⟨y, List.mem_cons_self .., h⟩
    · obtain ⟨x, hx, e⟩ := ih _ h
      exact ⟨x, List.mem_cons_of_mem _ hx, e⟩
theorem tr_back {x c : Int} (h : tr x = c) (hc : c ≠ 10) (hd : c ≠ 65533) : x = c := by
  unfold tr at h
  split at h
  · omega
  · split at h
    · omega
    · exact h
theorem lin_not {c : Int} {a : List Int} {l : Int} (h : ∀ x ∈ a, x ≠ c) (hc : c ≠ 10) (hd : c ≠ 65533) : ∀ x ∈ lin l a, x ≠ c := by
  intro x hx e
  obtain ⟨y, hy, e'⟩ := lin_mem a l hx
  exact h y hy (tr_back (e'.symm.trans e) hc hd)
theorem Cln.lin {a : List Int} (h : Cln a) (l : Int) : Cln (lin l a) := by
  intro c hc
  exact ⟨lin_not (fun x hx => (h x hx).1) (by decide) (by decide) c hc, lin_not (fun x hx => (h x hx).2.1) (by decide) (by decide) c hc, lin_not (fun x hx => (h x hx).2.2.1) (by decide) (by decide) c hc, lin_not (fun x hx => (h x hx).2.2.2.1) (by decide) (by decide) c hc, lin_not (fun x hx => (h x hx).2.2.2.2) (by decide) (by decide) c hc⟩
theorem NoR.cons {x : Int} {r : List Int} (h : NoR (x :: r)) : NoR r := h.suf (List.suffix_cons _ _)
theorem NoR.mk {x : Int} {r : List Int} (h0 : ¬ (x = 47 ∧ nx r 0 = 42)) (h : NoR r) : NoR (x :: r) := by
  intro k
  cases k with
  | zero => exact h0
  | succ k => exact h k
theorem lin_nx {r : List Int} (h : nx r 0 ≠ 42) : nx (lin 47 r) 0 ≠ 42 := by
  cases r with
  | nil => exact h
  | cons y q =>
    have e : lin 47 (y :: q) = tr y :: lin y q := by simp [lin]
    rw [e]
    intro g
    exact h (tr_back (show tr y = 42 from g) (by decide) (by decide))
theorem NoR.lin : ∀ (a : List Int) (l : Int), NoR a → NoR (lin l a) := by
  intro a
  induction a with
  | nil => intro l h; exact h
  | cons y r ih =>
    intro l h
    have hr := ih y h.cons
    simp only [Go.Proofs.YtlkocepoohhglaaDoor.lin]
    split
    · exact hr
    · refine NoR.mk ?_ hr
      intro ⟨g1, g2⟩
      have hy : y = 47 := tr_back g1 (by decide) (by decide)
      subst hy
      refine lin_nx ?_ g2
      intro e
      exact h 0 ⟨rfl, e⟩
theorem toks_parts {a b : List Int} (h : Asc a) (hc : Cln a) (hn : NoR a) (hb : mark b = false) : toks (dcd (a ++ 59 :: b)) = toks (dcd a) ++ tk 17 :: toks (dcd b) := by
  rw [dcd_semi h hb, toks_app (t := 59 :: dcd b) (.inl rfl) _ _ (Nat.le_refl _) (by rw [dcd_asc h]; exact hc.lin 0) (by rw [dcd_asc h]; exact hn.lin _ _), toks_semi]
theorem Cln.blank {s : List Int} (h : Cln s) : Cln (s ++ [32]) := by
  intro c hc
  rcases List.mem_append.1 hc with hc | hc
  · exact h c hc
  · simp at hc; omega
theorem NoR.not {s : List Int} (h : ∀ c ∈ s, c ≠ 47) : NoR s := by
  intro k ⟨h1, _⟩
  have hk := nx_len (s := s) (k := k) (by omega)
  have : nx s k = s[k] := by simp [nx, List.getD_eq_getElem?_getD, hk]
  exact h _ (List.getElem_mem hk) (this.symm.trans h1)
theorem toks_remarks {a i b : List Int} (h : Asc a) (hc : Cln a) (hn : ∀ c ∈ a, c ≠ 47) (hi : Asc i) (hi2 : ∀ c ∈ i, c ≠ 42) (hb : mark b = false) : toks (dcd (a ++ 32 :: 47 :: 42 :: (i ++ 42 :: 47 :: b))) = toks (dcd (a ++ [32])) ++ toks (dcd b) := by
  have n47 : ∀ c ∈ dcd a ++ [32], c ≠ 47 := by
    intro c hc
    rcases List.mem_append.1 hc with hc | hc
    · rw [dcd_asc h] at hc; exact lin_not hn (by decide) (by decide) c hc
    · simp at hc; omega
  rw [dcd_remark h hi hb, dcd_blank h, toks_app (t := 47 :: 42 :: (dcd i ++ 42 :: 47 :: dcd b)) (.inr rfl) _ _ (Nat.le_refl _) (by rw [dcd_asc h]; exact (hc.lin 0).blank) (NoR.not n47), toks_remark]
  rw [dcd_asc hi]
  exact lin_not hi2 (by decide) (by decide)
end Go.Proofs.YtlkocepoohhglaaDoor
set_option linter.unusedVariables false
set_option linter.unusedSimpArgs false
namespace Go.Proofs.YtlkocepoohhglaaDoor
open Go.RowKit

/-- A slice without its first three. -/
theorem Nums.three {k : IntKind} {w : World} {b o n c : Nat} {bs : List Int} (h : Nums k w (.slice (some ⟨b, o, none⟩) n c) bs) (h3 : 3 ≤ n) (hc : ¬ c = 3) : Nums k w (.slice (some ⟨b, o + 3, none⟩) (n - 3) (c - 3)) (bs.drop 3) := by
  rcases h with ⟨a, c', e, rfl⟩ | ⟨b', o', n', c', e, hn, h0, hbw, hl, hn9, hc9, hcc⟩
  · simp at e; omega
  · simp at e
    obtain ⟨⟨rfl, rfl⟩, rfl, rfl⟩ := e
    by_cases h : n = 3
    · exact .inl ⟨_, _, by rw [h], List.drop_of_length_le (by omega)⟩
    · exact .inr ⟨b, o + 3, n - 3, c - 3, rfl, by rw [List.length_drop]; omega, by omega, hbw, by omega, by omega, by omega, fun i hi => by rw [gt_drop, Nat.add_assoc]; exact hcc (3 + i) (by omega)⟩
theorem Nums.none3 {k : IntKind} {w : World} {a : Option Addr} {n c : Nat} {bs : List Int} (h : Nums k w (.slice a n c) bs) (h3 : 3 ≤ n) (hc : c = 3) : n = 3 ∧ bs.drop 3 = [] := by
  rcases h with ⟨a, c', e, rfl⟩ | ⟨b', o', n', c', e, hn, h0, hbw, hl, hn9, hc9, hcc⟩
  · simp at e; omega
  · simp at e
    obtain ⟨rfl, rfl, rfl⟩ := e
    exact ⟨by omega, List.drop_of_length_le (by omega)⟩
theorem mark_len {bs : List Int} (h : mark bs = true) : 3 ≤ bs.length := by unfold mark at h; simp at h; exact h.1
end Go.Proofs.YtlkocepoohhglaaDoor
