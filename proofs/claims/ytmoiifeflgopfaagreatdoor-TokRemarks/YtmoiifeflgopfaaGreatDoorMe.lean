/-
  Plain: bytes below 128, decoded; tokens of bytes in parts.
-/
import Derived.Test.YtmoiifeflgopfaaGreatDoorMd
import Derived.Test.YtmoiifeflgopfaaGreatDoorMc
set_option linter.unusedVariables false
namespace Go.Proofs.YtmoiifeflgopfaaGreatDoor
open Go.RowKit
/-! ### Bytes below 128 -/
def Asc (a : List Int) : Prop := ∀ c ∈ a, 0 ≤ c ∧ c < 128
theorem Asc.cons {c : Int} {s : List Int} (h : Asc (c :: s)) : Asc s := fun x hx => h x (List.mem_cons_of_mem _ hx)
theorem raw_asc1 (x : Int) (r : List Int) (h : x < 128) : raw (x :: r) = x :: raw r := by
  have hs : szOf x = 1 := by unfold szOf; rw [if_pos (by omega)]
  have hl : ldOf x = x := by unfold ldOf; rw [if_pos (by omega)]
  have e : stp (x :: r) = (x, 1, true) := by
    show (if szOf x = 0 then (65533, 1, false) else fol (szOf x - 1) (ldOf x) (loOf x) (hiOf x) 1 r) = _
    rw [hs, if_neg (by decide), hl]; rfl
  rw [raw_cut (List.cons_ne_nil _ _), e]; rfl
theorem raw_asc (b : List Int) : ∀ a : List Int, Asc a → raw (a ++ b) = a ++ raw b := by
  intro a
  induction a with
  | nil => intro _; rfl
  | cons x r ih =>
    intro h
    rw [List.cons_append, raw_asc1 x _ (h x (List.mem_cons_self ..)).2, ih h.cons]; rfl
theorem lin_free {l m : Int} (hl : l ≠ 13) (hm : m ≠ 13) (b : List Int) : lin l b = lin m b := by
  cases b with
  | nil => rfl
  | cons x r => simp [lin, hl, hm]
theorem lin_app (x : Int) (hx : x ≠ 10) (b : List Int) : ∀ (a : List Int) (l : Int), lin l (a ++ x :: b) = lin l a ++ tr x :: lin x b := by
  intro a
  induction a with
  | nil => intro l; simp [lin, hx]
  | cons y r ih => intro l; simp only [List.cons_append, lin]; rw [ih]; simp
theorem mark_asc {a : List Int} (h : ∀ c, a.head? = some c → c < 128) : mark a = false := by
  cases a with
  | nil => rfl
  | cons x r =>
    have := h x rfl
    unfold mark gt
    have e : (x :: r).getD 0 0 = x := rfl
    rw [e, decide_eq_false (p := x = 239) (by omega), Bool.false_and, Bool.and_false]
theorem cut_asc {a : List Int} (h : ∀ c, a.head? = some c → c < 128) : cut a = a := by unfold cut; rw [mark_asc h]; rfl
theorem Asc.head {a : List Int} (h : Asc a) : ∀ c, a.head? = some c → c < 128 := fun c hc => (h c (List.mem_of_mem_head? hc)).2
theorem Asc.head_app {a : List Int} (h : Asc a) {x : Int} (hx : x < 128) (b : List Int) : ∀ c, (a ++ x :: b).head? = some c → c < 128 := by
  intro c hc
  cases a with
  | nil => cases hc; exact hx
  | cons y r => cases hc; exact (h _ (List.mem_cons_self ..)).2
theorem dcd_asc {a : List Int} (h : Asc a) : dcd a = lin 0 a := by
  unfold dcd
  rw [cut_asc h.head]
  have := raw_asc [] a h
  rw [List.append_nil, raw_nil, List.append_nil] at this
  rw [this]
theorem dcd_none {b : List Int} (h : mark b = false) : dcd b = lin 0 (raw b) := by unfold dcd cut; rw [h]; rfl
theorem dcd_semi {a b : List Int} (h : Asc a) (hb : mark b = false) : dcd (a ++ 59 :: b) = dcd a ++ 59 :: dcd b := by
  rw [dcd_asc h, dcd_none hb]
  unfold dcd
  rw [cut_asc (h.head_app (by decide) b), raw_asc _ a h, raw_asc1 59 b (by decide), lin_app 59 (by decide), lin_free (l := 59) (m := 0) (by decide) (by decide)]
  rfl
theorem dcd_blank {a : List Int} (h : Asc a) : dcd (a ++ [32]) = dcd a ++ [32] := by
  have h' : Asc (a ++ [32]) := fun c hc => by
    rcases List.mem_append.1 hc with hc | hc
    · exact h c hc
    · simp at hc; omega
  rw [dcd_asc h, dcd_asc h', lin_app 32 (by decide)]; rfl
theorem dcd_remark {a i b : List Int} (h : Asc a) (hi : Asc i) (hb : mark b = false) : dcd (a ++ 32 :: 47 :: 42 :: (i ++ 42 :: 47 :: b)) = (dcd a ++ [32]) ++ 47 :: 42 :: (dcd i ++ 42 :: 47 :: dcd b) := by
  rw [dcd_asc h, dcd_asc hi, dcd_none hb]
  unfold dcd
  rw [cut_asc (h.head_app (by decide) _), raw_asc _ a h, raw_asc1 32 _ (by decide), raw_asc1 47 _ (by decide), raw_asc1 42 _ (by decide), raw_asc _ i hi, raw_asc1 42 _ (by decide), raw_asc1 47 _ (by decide), lin_app 32 (by decide)]
  have e1 : ∀ r, lin 32 (47 :: 42 :: r) = 47 :: 42 :: lin 42 r := fun r => rfl
  rw [e1, lin_app 42 (by decide), lin_free (l := 42) (m := 0) (by decide) (by decide)]
  have e2 : ∀ r, lin 42 (47 :: r) = 47 :: lin 47 r := fun r => rfl
  rw [e2, lin_free (l := 47) (m := 0) (by decide) (by decide)]
  simp [tr]
theorem lin_mem {c : Int} : ∀ (a : List Int) (l : Int), c ∈ lin l a → ∃ x ∈ a, c = tr x := by
  intro a
  induction a with
  | nil => intro l h; cases h
  | cons y r ih =>
    intro l h
    simp only [lin, List.mem_append] at h
    rcases h with h | h
    · split at h
      · cases h
      · simp at h; exact ⟨y, List.mem_cons_self .., h⟩
    · obtain ⟨x, hx, e⟩ := ih _ h
      exact ⟨x, List.mem_cons_of_mem _ hx, e⟩
theorem tr_back {x c : Int} (h : tr x = c) (hc : c ≠ 10) (hd : c ≠ 65533) : x = c := by
  unfold tr at h
  split at h
  · omega
  · split at h
    · omega
    · exact h
theorem lin_not {c : Int} {a : List Int} {l : Int} (h : ∀ x ∈ a, x ≠ c) (hc : c ≠ 10) (hd : c ≠ 65533) : ∀ x ∈ lin l a, x ≠ c := by
  intro x hx e
  obtain ⟨y, hy, e'⟩ := lin_mem a l hx
  exact h y hy (tr_back (e'.symm.trans e) hc hd)
theorem Cln.lin {a : List Int} (h : Cln a) (l : Int) : Cln (lin l a) := by
  intro c hc
  exact ⟨lin_not (fun x hx => (h x hx).1) (by decide) (by decide) c hc, lin_not (fun x hx => (h x hx).2.1) (by decide) (by decide) c hc, lin_not (fun x hx => (h x hx).2.2.1) (by decide) (by decide) c hc, lin_not (fun x hx => (h x hx).2.2.2.1) (by decide) (by decide) c hc, lin_not (fun x hx => (h x hx).2.2.2.2) (by decide) (by decide) c hc⟩
theorem NoR.cons {x : Int} {r : List Int} (h : NoR (x :: r)) : NoR r := h.suf (List.suffix_cons _ _)
theorem NoR.mk {x : Int} {r : List Int} (h0 : ¬ (x = 47 ∧ nx r 0 = 42)) (h : NoR r) : NoR (x :: r) := by
  intro k
  cases k with
  | zero => exact h0
  | succ k => exact h k
theorem lin_nx {r : List Int} (h : nx r 0 ≠ 42) : nx (lin 47 r) 0 ≠ 42 := by
  cases r with
  | nil => exact h
  | cons y q =>
    have e : lin 47 (y :: q) = tr y :: lin y q := by simp [lin]
    rw [e]
    intro g
    exact h (tr_back (show tr y = 42 from g) (by decide) (by decide))
theorem NoR.lin : ∀ (a : List Int) (l : Int), NoR a → NoR (lin l a) := by
  intro a
  induction a with
  | nil => intro l h; exact h
  | cons y r ih =>
    intro l h
    have hr := ih y h.cons
    simp only [Go.Proofs.YtmoiifeflgopfaaGreatDoor.lin]
    split
    · exact hr
    · refine NoR.mk ?_ hr
      intro ⟨g1, g2⟩
      have hy : y = 47 := tr_back g1 (by decide) (by decide)
      subst hy
      refine lin_nx ?_ g2
      intro e
      exact h 0 ⟨rfl, e⟩
theorem toks_parts {a b : List Int} (h : Asc a) (hc : Cln a) (hn : NoR a) (hb : mark b = false) : toks (dcd (a ++ 59 :: b)) = toks (dcd a) ++ tk 17 :: toks (dcd b) := by
  rw [dcd_semi h hb, toks_app (t := 59 :: dcd b) (.inl rfl) _ _ (Nat.le_refl _) (by rw [dcd_asc h]; exact hc.lin 0) (by rw [dcd_asc h]; exact hn.lin _ _), toks_semi]
theorem Cln.blank {s : List Int} (h : Cln s) : Cln (s ++ [32]) := by
  intro c hc
  rcases List.mem_append.1 hc with hc | hc
  · exact h c hc
  · simp at hc; omega
theorem NoR.not {s : List Int} (h : ∀ c ∈ s, c ≠ 47) : NoR s := by
  intro k ⟨h1, _⟩
  have hk := nx_len (s := s) (k := k) (by omega)
  have : nx s k = s[k] := by simp [nx, List.getD_eq_getElem?_getD, hk]
  exact h _ (List.getElem_mem hk) (this.symm.trans h1)
theorem toks_remarks {a i b : List Int} (h : Asc a) (hc : Cln a) (hn : ∀ c ∈ a, c ≠ 47) (hi : Asc i) (hi2 : ∀ c ∈ i, c ≠ 42) (hb : mark b = false) : toks (dcd (a ++ 32 :: 47 :: 42 :: (i ++ 42 :: 47 :: b))) = toks (dcd (a ++ [32])) ++ toks (dcd b) := by
  have n47 : ∀ c ∈ dcd a ++ [32], c ≠ 47 := by
    intro c hc
    rcases List.mem_append.1 hc with hc | hc
    · rw [dcd_asc h] at hc; exact lin_not hn (by decide) (by decide) c hc
    · simp at hc; omega
  rw [dcd_remark h hi hb, dcd_blank h, toks_app (t := 47 :: 42 :: (dcd i ++ 42 :: 47 :: dcd b)) (.inr rfl) _ _ (Nat.le_refl _) (by rw [dcd_asc h]; exact (hc.lin 0).blank) (NoR.not n47), toks_remark]
  rw [dcd_asc hi]
  exact lin_not hi2 (by decide) (by decide)
end Go.Proofs.YtmoiifeflgopfaaGreatDoor
