/-
  Plain: tokens of a text that holds nothing open, and of what follows.
-/
import Derived.Test.YtckefmhleklciaaGreatDoorTokFw
set_option linter.unusedVariables false
namespace Go.Proofs.YtckefmhleklciaaGreatDoor
open Go.RowKit

/-! ### What follows a text that holds nothing open -/
/-- Begins with ; or /. -/
def Stp (t : List Int) : Prop := nx t 0 = 59 ∨ nx t 0 = 47
theorem nx_app (s t : List Int) (k : Nat) : (k < s.length ∧ nx (s ++ t) k = nx s k) ∨ (k = s.length ∧ nx (s ++ t) k = nx t 0 ∧ nx s k = -1) ∨ (s.length < k ∧ nx s k = -1) := by
  rcases Nat.lt_trichotomy k s.length with h | h | h
  · left; exact ⟨h, by simp [nx, List.getD_eq_getElem?_getD, List.getElem?_append_left h]⟩
  · right; left
    subst h
    exact ⟨rfl, by simp [nx, List.getD_eq_getElem?_getD, List.getElem?_append_right], by simp [nx, List.getD_eq_getElem?_getD]⟩
  · right; right
    exact ⟨h, by simp [nx, List.getD_eq_getElem?_getD, List.getElem?_eq_none (Nat.le_of_lt h)]⟩
theorem Stp.let {t : List Int} (h : Stp t) : isLet (nx t 0) = false := by rcases h with h | h <;> rw [h] <;> decide
theorem Stp.fst {t : List Int} (h : Stp t) : isFst (nx t 0) = false := by rcases h with h | h <;> rw [h] <;> decide
theorem Stp.dig {t : List Int} (h : Stp t) : isDig (nx t 0) = false := by rcases h with h | h <;> rw [h] <;> decide
theorem Stp.bl {t : List Int} (h : Stp t) : isBl (nx t 0) = false := by rcases h with h | h <;> rw [h] <;> decide
theorem Stp.sg {t : List Int} (h : Stp t) : isSg (nx t 0) = false := by rcases h with h | h <;> rw [h] <;> decide
theorem Stp.ne {t : List Int} (h : Stp t) (c : Int) (hc : c ≠ 59) (hd : c ≠ 47) : nx t 0 ≠ c := by rcases h with h | h <;> omega
theorem Stp.es {t : List Int} (h : Stp t) (c : Int) : es2 (nx t 0) c = false := by
  have := h.ne 92 (by decide) (by decide)
  simp [es2, this]
/-- No sign that opens a text, an escape, a bracket. -/
def Cln (s : List Int) : Prop := ∀ c ∈ s, c ≠ 34 ∧ c ≠ 39 ∧ c ≠ 92 ∧ c ≠ 40 ∧ c ≠ -1
/-- No remark begins. -/
def NoR (s : List Int) : Prop := ∀ k, ¬ (nx s k = 47 ∧ nx s (k + 1) = 42)
theorem Cln.nx {s : List Int} (h : Cln s) {k : Nat} (hk : k < s.length) : nx s k ≠ 34 ∧ nx s k ≠ 39 ∧ nx s k ≠ 92 ∧ nx s k ≠ 40 ∧ nx s k ≠ -1 := by
  have : Go.Proofs.YtckefmhleklciaaGreatDoor.nx s k = s[k] := by simp [Go.Proofs.YtckefmhleklciaaGreatDoor.nx, List.getD_eq_getElem?_getD, hk]
  rw [this]; exact h _ (List.getElem_mem hk)
theorem Cln.esc {s : List Int} (h : Cln s) (k : Nat) (c : Int) : es2 (Go.Proofs.YtckefmhleklciaaGreatDoor.nx s k) c = false := by
  by_cases hk : k < s.length
  · have := (h.nx hk).2.2.1
    simp [es2, this]
  · have : Go.Proofs.YtckefmhleklciaaGreatDoor.nx s k = -1 := by simp [Go.Proofs.YtckefmhleklciaaGreatDoor.nx, List.getD_eq_getElem?_getD, List.getElem?_eq_none (Nat.le_of_not_lt hk)]
    rw [this]; rfl
theorem Cln.suf {s r : List Int} (h : Cln s) (hr : r <:+ s) : Cln r := fun c hc => h c (hr.subset hc)
theorem NoR.suf {s r : List Int} (h : NoR s) (hr : r <:+ s) : NoR r := by
  obtain ⟨p, rfl⟩ := hr
  intro k hk
  refine h (p.length + k) ?_
  have e : ∀ j, nx (p ++ r) (p.length + j) = nx r j := fun j => by simp [nx, List.getD_eq_getElem?_getD, List.getElem?_append_right]
  rw [e, Nat.add_assoc, e]; exact hk
theorem Cln.cons {c : Int} {s : List Int} (h : Cln (c :: s)) : Cln s := fun x hx => h x (List.mem_cons_of_mem _ hx)
theorem es2_app {s t : List Int} (h : Cln s) (ht : Stp t) (k : Nat) (hk : k ≤ s.length) (c : Int) : es2 (nx (s ++ t) k) c = false := by
  rcases nx_app s t k with ⟨h1, h2⟩ | ⟨h1, h2, h3⟩ | ⟨h1, h2⟩
  · rw [h2]; exact h.esc k c
  · rw [h2]; exact ht.es c
  · omega
theorem nam_app {t : List Int} (ht : Stp t) : ∀ (s acc : List Int), Cln s → nam acc (s ++ t) = ((nam acc s).1, (nam acc s).2 ++ t) ∧ (nam acc s).2 <:+ s := by
  intro s
  induction s with
  | nil =>
    intro acc h
    rw [List.nil_append, nam_end ht.let (ht.es _), nam_end (s := []) (by decide) (by decide)]
    exact ⟨rfl, List.suffix_refl _⟩
  | cons a r ih =>
    intro acc h
    have e0 : nx (a :: r ++ t) 0 = a := rfl
    have e1 : nx (a :: r) 0 = a := rfl
    cases hl : isLet a
    · have hes : ∀ c, es2 a c = false := fun c => h.esc (s := a :: r) 0 c
      rw [nam_end (s := a :: r ++ t) (by rw [e0]; exact hl) (by rw [e0]; exact hes _), nam_end (s := a :: r) (by rw [e1]; exact hl) (by rw [e1]; exact hes _)]
      exact ⟨rfl, List.suffix_refl _⟩
    · rw [nam_let (s := a :: r ++ t) (by rw [e0]; exact hl), nam_let (s := a :: r) (by rw [e1]; exact hl)]
      obtain ⟨h1, h2⟩ := ih (acc ++ [a]) h.cons
      exact ⟨h1, h2.trans (List.suffix_cons _ _)⟩
theorem dw_app {p : Int → Bool} {t : List Int} (ht : p (nx t 0) = false) : ∀ s : List Int, (s ++ t).dropWhile p = s.dropWhile p ++ t := by
  intro s
  induction s with
  | nil =>
    cases t with
    | nil => rfl
    | cons x r =>
      have hx : p x = false := ht
      simp [hx]
  | cons a r ih =>
    simp only [List.cons_append, List.dropWhile_cons]
    split
    · exact ih
    · rfl
theorem dgs_app {t : List Int} (ht : Stp t) (s : List Int) : dgs (s ++ t) = dgs s ++ t := dw_app ht.dig s
theorem bls_app {t : List Int} (ht : Stp t) (s : List Int) : bls (s ++ t) = bls s ++ t := dw_app ht.bl s
theorem dgs_suf (s : List Int) : dgs s <:+ s := List.dropWhile_suffix _
theorem bls_suf (s : List Int) : bls s <:+ s := List.dropWhile_suffix _
theorem drop_app {s t : List Int} {k : Nat} (h : k ≤ s.length) : (s ++ t).drop k = s.drop k ++ t := by
  rw [List.drop_append_of_le_length h]
theorem nmS_app {t : List Int} (ht : Stp t) (s : List Int) : nmS (s ++ t) = nmS s ++ t ∧ nmS s <:+ s := by
  unfold nmS
  cases s with
  | nil => 
    rw [List.nil_append, ht.sg]
    exact ⟨rfl, List.suffix_refl _⟩
  | cons a r =>
    have e0 : nx (a :: r ++ t) 0 = a := rfl
    have e1 : nx (a :: r) 0 = a := rfl
    rw [e0, e1]
    split
    · exact ⟨rfl, List.suffix_cons _ _⟩
    · exact ⟨rfl, List.suffix_refl _⟩
theorem nmP_app {t : List Int} (ht : Stp t) (s : List Int) : nmP (s ++ t) = nmP s ++ t ∧ nmP s <:+ s := by
  unfold nmP
  match s with
  | [] =>
    rw [List.nil_append]
    have := ht.ne 46 (by decide) (by decide)
    have e : (nx t 0 == 46) = false := by simpa using this
    rw [e]
    exact ⟨rfl, List.suffix_refl _⟩
  | [a] =>
    have e0 : nx ([a] ++ t) 1 = nx t 0 := by cases t <;> rfl
    rw [e0, ht.dig, show nx [a] 1 = -1 from rfl, show isDig (-1) = false by decide, Bool.and_false, Bool.and_false]
    exact ⟨rfl, List.suffix_refl _⟩
  | a :: b :: r =>
    have e0 : nx (a :: b :: r ++ t) 0 = a := rfl
    have e1 : nx (a :: b :: r) 0 = a := rfl
    have e2 : nx (a :: b :: r ++ t) 1 = b := rfl
    have e3 : nx (a :: b :: r) 1 = b := rfl
    rw [e0, e1, e2, e3]
    split
    · exact ⟨dgs_app ht (b :: r), (dgs_suf _).trans (List.suffix_cons _ _)⟩
    · exact ⟨rfl, List.suffix_refl _⟩
/-- A test of three places. -/
theorem test3 {f : Int → Int → Int → Bool} {t : List Int} (h0 : ∀ a b, f (nx t 0) a b = false) (h0' : f (-1) (-1) (-1) = false) (h1 : ∀ a b, f a (nx t 0) b = f a (-1) (-1)) (h2 : ∀ a b, f a b (nx t 0) = f a b (-1)) (s : List Int) : f (nx (s ++ t) 0) (nx (s ++ t) 1) (nx (s ++ t) 2) = f (nx s 0) (nx s 1) (nx s 2) := by
  match s with
  | [] => rw [List.nil_append, h0]; exact h0'.symm
  | [a] =>
    have e0 : nx ([a] ++ t) 1 = nx t 0 := by cases t <;> rfl
    rw [e0, h1]; rfl
  | [a, b] =>
    have e0 : nx ([a, b] ++ t) 2 = nx t 0 := by cases t <;> rfl
    rw [e0, h2]; rfl
  | a :: b :: c :: r => rfl
theorem exB_app {t : List Int} (ht : Stp t) (s : List Int) : exB (nx (s ++ t) 0) (nx (s ++ t) 1) (nx (s ++ t) 2) = exB (nx s 0) (nx s 1) (nx s 2) := by
  refine test3 (f := exB) ?_ (by decide) ?_ ?_ s
  · intro a b
    have h1 := ht.ne 101 (by decide) (by decide)
    have h2 := ht.ne 69 (by decide) (by decide)
    simp [exB, h1, h2]
  · intro a b
    unfold exB
    rw [ht.sg, ht.dig]; rfl
  · intro a b
    unfold exB
    rw [ht.dig]; rfl
theorem nuB_app {t : List Int} (ht : Stp t) (s : List Int) : nuB (nx (s ++ t) 0) (nx (s ++ t) 1) (nx (s ++ t) 2) = nuB (nx s 0) (nx s 1) (nx s 2) := by
  have h46 : (nx t 0 == 46) = false := by simpa using ht.ne 46 (by decide) (by decide)
  refine test3 (f := nuB) ?_ (by decide) ?_ ?_ s
  · intro a b
    unfold nuB; rw [ht.sg, ht.dig, h46]; rfl
  · intro a b
    unfold nuB; rw [ht.dig, h46]; rfl
  · intro a b
    unfold nuB; rw [ht.dig]; rfl
theorem nmB_app {t : List Int} (ht : Stp t) {s : List Int} (hs : Cln s) : nmB (nx (s ++ t) 0) (nx (s ++ t) 1) (nx (s ++ t) 2) = nmB (nx s 0) (nx s 1) (nx s 2) := by
  have h45 := ht.ne 45 (by decide) (by decide)
  have h45' : (nx t 0 == 45) = false := by simpa using h45
  match s, hs with
  | [], hs => rw [List.nil_append]; unfold nmB; rw [if_neg h45, ht.fst, ht.es]; decide
  | [a], hs =>
    have e0 : nx ([a] ++ t) 1 = nx t 0 := by cases t <;> rfl
    have e1 : ∀ c, es2 a c = false := fun c => hs.esc (s := [a]) 0 c
    rw [e0]
    show nmB a (nx t 0) _ = nmB a (-1) (-1)
    unfold nmB
    rw [ht.fst, ht.es, h45', e1, e1]; rfl
  | [a, b], hs =>
    have e1 : ∀ c, es2 b c = false := fun c => hs.esc (s := [a, b]) 1 c
    show nmB a b _ = nmB a b _
    unfold nmB
    rw [e1, e1]
  | a :: b :: c :: r, hs => rfl
theorem nmE_app {t : List Int} (ht : Stp t) (s : List Int) : nmE (s ++ t) = nmE s ++ t ∧ nmE s <:+ s := by
  unfold nmE
  rw [exB_app ht s]
  split
  · rename_i g
    have hp : 0 < s.length := nx_pos fun e => by rw [e] at g; simp [exB] at g
    rw [drop_app (by omega), (nmS_app ht _).1, dgs_app ht]
    exact ⟨rfl, (dgs_suf _).trans ((nmS_app ht _).2.trans (List.drop_suffix _ _))⟩
  · exact ⟨rfl, List.suffix_refl _⟩
theorem nmZ_app {t : List Int} (ht : Stp t) (s : List Int) : nmZ (s ++ t) = nmZ s ++ t ∧ nmZ s <:+ s := by
  unfold nmZ
  rw [(nmS_app ht s).1, dgs_app ht, (nmP_app ht _).1, (nmE_app ht _).1]
  exact ⟨rfl, (nmE_app ht _).2.trans ((nmP_app ht _).2.trans ((dgs_suf _).trans (nmS_app ht s).2))⟩
theorem nmT_app {t : List Int} (ht : Stp t) (s : List Int) : nmT (s ++ t) = nmT s := by
  unfold nmT
  rw [(nmZ_app ht s).1, List.length_append, List.length_append, Nat.add_sub_add_right]
  exact List.take_append_of_le_length (by omega)
theorem nx0_app {t s : List Int} (ht : Stp t) (c : Int) (h1 : c ≠ 59) (h2 : c ≠ 47) (h3 : c ≠ -1) : (nx (s ++ t) 0 = c) ↔ (nx s 0 = c) := by
  rcases nx_app s t 0 with ⟨g1, g2⟩ | ⟨g1, g2, g3⟩ | ⟨g1, g2⟩
  · rw [g2]
  · rw [g2, g3]; exact ⟨fun e => absurd e (ht.ne c h1 h2), fun e => absurd e.symm h3⟩
  · omega
/-- What is said of a part and all that follows. -/
def App (f : List Int → Tk × List Int) (s t : List Int) : Prop := f (s ++ t) = ((f s).1, (f s).2 ++ t) ∧ (f s).2 <:+ s
theorem App.same {f g : List Int → Tk × List Int} {s t : List Int} (h : App g s t) (h1 : f (s ++ t) = g (s ++ t)) (h2 : f s = g s) : App f s t := by
  unfold App at *
  rw [h1, h2]; exact h
theorem numb_app {t : List Int} (ht : Stp t) {s : List Int} (hs : Cln s) : App numb s t := by
  obtain ⟨z1, z2⟩ := nmZ_app ht s
  have hz := hs.suf z2
  obtain ⟨n1, n2⟩ := nam_app ht (nmZ s) [] hz
  unfold App numb
  rw [z1, nmT_app ht s, nmB_app ht hz, n1]
  simp only [nx0_app ht 37 (by decide) (by decide) (by decide)]
  generalize dcT (enc (nmT s)) = z
  split
  · exact ⟨rfl, n2.trans z2⟩
  · split
    · rename_i g
      have hp : 0 < (nmZ s).length := nx_pos (by omega)
      exact ⟨by rw [drop_app (by omega)], (List.drop_suffix _ _).trans z2⟩
    · exact ⟨rfl, z2⟩
theorem word_app {t : List Int} (ht : Stp t) {s : List Int} (hs : Cln s) : App word s t := by
  obtain ⟨n1, n2⟩ := nam_app ht s [] hs
  have hn := hs.suf n2
  have h40 : nx (nam [] s).2 0 ≠ 40 := by
    intro e
    have hp : 0 < (nam [] s).2.length := nx_pos (by omega)
    exact (hn.nx hp).2.2.2.1 e
  have h40' : nx ((nam [] s).2 ++ t) 0 ≠ 40 := by rw [ne_eq, nx0_app ht 40 (by decide) (by decide) (by decide)]; exact h40
  unfold App word
  rw [n1, if_pos h40', if_pos h40]
  exact ⟨rfl, n2⟩
theorem one_app {t s : List Int} (h : s ≠ []) : App one s t := by
  cases s with
  | nil => exact absurd rfl h
  | cons a r => exact ⟨rfl, List.suffix_cons _ _⟩
theorem hash_app {t : List Int} (ht : Stp t) {s : List Int} (hs : Cln s) (h : s ≠ []) : App hash s t := by
  cases s with
  | nil => exact absurd rfl h
  | cons a r =>
    obtain ⟨n1, n2⟩ := nam_app ht r [] hs.cons
    unfold App hash
    show ((⟨4, enc (nam [] (r ++ t)).1, 0, 0, false, nmB (nx (r ++ t) 0) (nx (r ++ t) 1) (nx (r ++ t) 2)⟩ : Tk), (nam [] (r ++ t)).2) = ((⟨4, enc (nam [] r).1, 0, 0, false, nmB (nx r 0) (nx r 1) (nx r 2)⟩ : Tk), (nam [] r).2 ++ t) ∧ (nam [] r).2 <:+ a :: r
    rw [n1, nmB_app ht hs.cons]
    exact ⟨rfl, n2.trans (List.suffix_cons _ _)⟩
def at_ (s : List Int) : Tk × List Int := (tkt 3 (nam [] (s.drop 1)).1, (nam [] (s.drop 1)).2)
theorem at_app {t : List Int} (ht : Stp t) {s : List Int} (hs : Cln s) (h : s ≠ []) : App at_ s t := by
  cases s with
  | nil => exact absurd rfl h
  | cons a r =>
    obtain ⟨n1, n2⟩ := nam_app ht r [] hs.cons
    unfold App at_
    show (tkt 3 (nam [] (r ++ t)).1, (nam [] (r ++ t)).2) = (tkt 3 (nam [] r).1, (nam [] r).2 ++ t) ∧ (nam [] r).2 <:+ a :: r
    rw [n1]
    exact ⟨rfl, n2.trans (List.suffix_cons _ _)⟩
theorem skip_app {k : Int} {n : Nat} {s t : List Int} (h : n ≤ s.length) : App (fun s => (tk k, s.drop n)) s t := by
  unfold App
  exact ⟨by simp only [drop_app h], List.drop_suffix _ _⟩
theorem nxk_app {t s : List Int} (ht : Stp t) (k : Nat) (hk : k ≤ s.length) (c : Int) (h1 : c ≠ 59) (h2 : c ≠ 47) (h3 : c ≠ -1) : (nx (s ++ t) k = c) ↔ (nx s k = c) := by
  rcases nx_app s t k with ⟨g1, g2⟩ | ⟨g1, g2, g3⟩ | ⟨g1, g2⟩
  · rw [g2]
  · rw [g2, g3]; exact ⟨fun e => absurd e (ht.ne c h1 h2), fun e => absurd e.symm h3⟩
  · omega
theorem nx_len {s : List Int} {k : Nat} (h : nx s k ≠ -1) : k < s.length := by
  rcases Nat.lt_or_ge k s.length with g | g
  · exact g
  · exact absurd (by simp [nx, List.getD_eq_getElem?_getD, List.getElem?_eq_none g]) h
theorem sgnT_app {t : List Int} (ht : Stp t) {s : List Int} (hs : Cln s) (h : s ≠ []) : App sgnT s t := by
  cases s with
  | nil => exact absurd rfl h
  | cons a r =>
    have hr := hs.cons
    have o := one_app (t := t) h
    have a0 : nx (a :: r ++ t) 0 = a := rfl
    have a1 : nx (a :: r) 0 = a := rfl
    have b0 : nx (a :: r ++ t) 1 = nx (r ++ t) 0 := rfl
    have b1 : nx (a :: r) 1 = nx r 0 := rfl
    have c0 : nx (a :: r ++ t) 2 = nx (r ++ t) 1 := rfl
    have c1 : nx (a :: r) 2 = nx r 1 := rfl
    have d0 : nx (a :: r ++ t) 3 = nx (r ++ t) 2 := rfl
    have d1 : nx (a :: r) 3 = nx r 2 := rfl
    have NU := nuB_app ht (a :: r)
    have NM := nmB_app ht hs
    have NR := nmB_app ht hr
    have LE : (isLet (nx (r ++ t) 0) || es2 (nx (r ++ t) 0) (nx (r ++ t) 1)) = (isLet (nx r 0) || es2 (nx r 0) (nx r 1)) := by
      rw [es2_app hr ht 0 (by omega), hr.esc 0, Bool.or_false, Bool.or_false]
      rcases nx_app r t 0 with ⟨g1, g2⟩ | ⟨g1, g2, g3⟩ | ⟨g1, g2⟩
      · rw [g2]
      · rw [g2, g3, ht.let]; rfl
      · omega
    have ES : es2 a (nx (r ++ t) 0) = false := hs.esc (s := a :: r) 0 _
    have ES' : es2 a (nx r 0) = false := hs.esc (s := a :: r) 0 _
    have CD : (nx (r ++ t) 0 = 45 ∧ nx (r ++ t) 1 = 62) ↔ (nx r 0 = 45 ∧ nx r 1 = 62) := by
      rw [nx0_app ht 45 (by decide) (by decide) (by decide)]
      refine ⟨fun ⟨x, y⟩ => ⟨x, (nxk_app ht 1 ?_ 62 (by decide) (by decide) (by decide)).1 y⟩, fun ⟨x, y⟩ => ⟨x, (nxk_app ht 1 ?_ 62 (by decide) (by decide) (by decide)).2 y⟩⟩
      all_goals exact nx_len (s := r) (k := 0) (by omega)
    have CO : (nx (r ++ t) 0 = 33 ∧ nx (r ++ t) 1 = 45 ∧ nx (r ++ t) 2 = 45) ↔ (nx r 0 = 33 ∧ nx r 1 = 45 ∧ nx r 2 = 45) := by
      rw [nx0_app ht 33 (by decide) (by decide) (by decide)]
      refine ⟨fun ⟨x, y, z⟩ => ?_, fun ⟨x, y, z⟩ => ?_⟩
      · have y' := (nxk_app ht 1 (nx_len (s := r) (k := 0) (by omega)) 45 (by decide) (by decide) (by decide)).1 y
        exact ⟨x, y', (nxk_app ht 2 (nx_len (s := r) (k := 1) (by omega)) 45 (by decide) (by decide) (by decide)).1 z⟩
      · have y' := (nxk_app ht 1 (nx_len (s := r) (k := 0) (by omega)) 45 (by decide) (by decide) (by decide)).2 y
        exact ⟨x, y', (nxk_app ht 2 (nx_len (s := r) (k := 1) (by omega)) 45 (by decide) (by decide) (by decide)).2 z⟩
    have H := hash_app ht hs h
    have U := numb_app ht hs
    have V := word_app ht hs
    have Z := at_app ht hs h
    unfold App
    unfold sgnT
    rw [a0, a1, b0, b1, c0, c1, d0, d1] at *
    simp only [LE, NU, NM, NR, ES, ES', CD, CO]
    split
    · split
      · exact H
      · exact o
    · split
      · split
        · exact U
        · exact o
      · split
        · split
          · exact U
          · split
            · rename_i g
              exact skip_app (k := 15) (n := 3) (s := a :: r) (t := t) (by have := nx_len (s := r) (k := 1) (by omega); simp; omega)
            · split
              · exact V
              · exact o
        · split
          · split
            · rename_i g
              exact skip_app (k := 14) (n := 4) (s := a :: r) (t := t) (by have := nx_len (s := r) (k := 2) (by omega); simp; omega)
            · exact o
          · split
            · split
              · exact Z
              · exact o
            · split
              · exact o
              · exact o
theorem tokn_app {t : List Int} (ht : Stp t) {s : List Int} (hs : Cln s) (h : s ≠ []) : App tokn s t := by
  have S := sgnT_app ht hs h
  have U := numb_app ht hs
  have V := word_app ht hs
  have B := bls_app ht s
  have B' := bls_suf s
  have hq : isQ (nx s 0) = false := by
    have := hs.nx (List.length_pos_iff.2 h)
    simp [isQ, this.1, this.2.1]
  have e : nx (s ++ t) 0 = nx s 0 := by
    rcases nx_app s t 0 with ⟨g1, g2⟩ | ⟨g1, g2, g3⟩ | ⟨g1, g2⟩
    · exact g2
    · exact absurd (List.eq_nil_of_length_eq_zero g1.symm) h
    · omega
  unfold App
  unfold tokn
  rw [e]
  simp only [hq, Bool.false_eq_true, if_false]
  split
  · exact ⟨by rw [B], B'⟩
  · split
    · exact U
    · split
      · exact V
      · exact S
theorem NoR.rmk {s : List Int} (h : NoR s) : rmk s = s := rmk_end (h 0)
theorem NoR.rmk_app {s t : List Int} (h : NoR s) (ht : Stp t) (hs : s ≠ []) : Go.Proofs.YtckefmhleklciaaGreatDoor.rmk (s ++ t) = s ++ t := by
  refine rmk_end fun ⟨h1, h2⟩ => ?_
  have hp := List.length_pos_iff.2 hs
  have h1' : nx s 0 = 47 := by
    rcases nx_app s t 0 with ⟨g1, g2⟩ | ⟨g1, g2, g3⟩ | ⟨g1, g2⟩
    · rw [← g2]; exact h1
    · omega
    · omega
  exact h 0 ⟨h1', (nxk_app ht 1 hp 42 (by decide) (by decide) (by decide)).1 h2⟩
theorem toks_app {t : List Int} (ht : Stp t) (n : Nat) : ∀ s : List Int, s.length ≤ n → Cln s → NoR s → toks (s ++ t) = toks s ++ toks t := by
  induction n with
  | zero =>
    intro s h _ _
    obtain rfl : s = [] := List.eq_nil_of_length_eq_zero (by omega)
    rw [toks_end (s := []) (by rw [rmk_end (by simp [nx_nil])]; exact nx_nil 0)]; rfl
  | succ n ih =>
    intro s h hs hr
    by_cases he : s = []
    · subst he
      rw [toks_end (s := []) (by rw [rmk_end (by simp [nx_nil])]; exact nx_nil 0)]; rfl
    · have hp := List.length_pos_iff.2 he
      have h0 : nx s 0 ≠ -1 := (hs.nx hp).2.2.2.2
      have h0' : nx (s ++ t) 0 ≠ -1 := by
        rcases nx_app s t 0 with ⟨g1, g2⟩ | ⟨g1, g2, g3⟩ | ⟨g1, g2⟩
        · rw [g2]; exact h0
        · omega
        · omega
      obtain ⟨A, A'⟩ := tokn_app ht hs he
      have hl := tokn_lt h0
      rw [toks_go (s := s ++ t) (by rw [hr.rmk_app ht he]; exact h0'), toks_go (s := s) (by rw [hr.rmk]; exact h0), hr.rmk_app ht he, hr.rmk, A]
      rw [ih (tokn s).2 (by omega) (hs.suf A') (hr.suf A')]
      rfl
theorem toks_semi (v : List Int) : toks (59 :: v) = tk 17 :: toks v := by
  have h : rmk (59 :: v) = 59 :: v := rmk_end (by simp [nx])
  rw [toks_go (by rw [h]; simp [nx]), h]
  rfl
theorem toks_rmk {s t : List Int} (h : rmk s = rmk t) : toks s = toks t := by
  by_cases g : nx (rmk t) 0 = -1
  · rw [toks_end g, toks_end (by rw [h]; exact g)]
  · rw [toks_go g, toks_go (by rw [h]; exact g), h]
theorem untl_in (v : List Int) : ∀ i : List Int, (∀ c ∈ i, c ≠ 42) → untl (i ++ 42 :: 47 :: v) = v := by
  intro i
  induction i with
  | nil => intro _; simp [untl, nx]
  | cons a r ih =>
    intro h
    have : a ≠ 42 := h a (List.mem_cons_self ..)
    simp only [List.cons_append, untl, this, false_and, if_false]
    exact ih fun c hc => h c (List.mem_cons_of_mem _ hc)
theorem toks_remark (i v : List Int) (h : ∀ c ∈ i, c ≠ 42) : toks (47 :: 42 :: (i ++ 42 :: 47 :: v)) = toks v := by
  refine toks_rmk ?_
  rw [rmk_go (s := 47 :: 42 :: (i ++ 42 :: 47 :: v)) rfl rfl]
  show rmk (untl (i ++ 42 :: 47 :: v)) = rmk v
  rw [untl_in v i h]
end Go.Proofs.YtckefmhleklciaaGreatDoor
