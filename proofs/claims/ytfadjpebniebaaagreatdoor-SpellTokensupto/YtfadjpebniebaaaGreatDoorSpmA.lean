/-
  Plain: which tokens may be, which must stand apart.
-/
import Derived.Test.YtfadjpebniebaaaGreatDoorUtfK
import Derived.Test.YtfadjpebniebaaaGreatDoorPlnH
set_option linter.unusedVariables false
set_option linter.unusedSimpArgs false
namespace Go.Proofs.YtfadjpebniebaaaGreatDoor
open Go.RowKit

/-! ### Kinds -/
def tx (k : Int) : Bool := (k == 1) || (k == 2) || (k == 3) || (k == 4) || (k == 5) || (k == 7) || (k == 9) || (k == 12)
def nm (k : Int) : Bool := (k == 1) || (k == 2) || (k == 3) || (k == 4) || (k == 12)
def nu (k : Int) : Bool := (k == 10) || (k == 11) || (k == 12)
def ro (k : Int) : Bool := (k == 1) || (k == 3) || (k == 4) || (k == 9) || (k == 10) || (k == 12)
def jo (k : Int) : Bool := (k == 1) || (k == 2) || (k == 7) || (k == 8) || (k == 9) || (k == 10) || (k == 11) || (k == 12) || (k == 15) || (k == 21)
def fx (k : Int) : ByteArray :=
  if k = 6 then ⟨#[34, 10]⟩ else if k = 8 then ⟨#[117, 114, 108, 40, 40, 41]⟩ else if k = 13 then ⟨#[32]⟩ else if k = 14 then ⟨#[60, 33, 45, 45]⟩ else if k = 15 then ⟨#[45, 45, 62]⟩
  else if k = 16 then ⟨#[58]⟩ else if k = 17 then ⟨#[59]⟩ else if k = 18 then ⟨#[44]⟩ else if k = 19 then ⟨#[91]⟩ else if k = 20 then ⟨#[93]⟩ else if k = 21 then ⟨#[40]⟩ else if k = 22 then ⟨#[41]⟩ else if k = 23 then ⟨#[123]⟩ else if k = 24 then ⟨#[125]⟩ else ⟨#[]⟩
def isDl (c : Int) : Bool := [35, 36, 37, 38, 42, 43, 45, 46, 47, 60, 61, 62, 63, 64, 92, 94, 96, 124, 126, 33].contains c
def isCt (c : Int) : Bool := (decide (1 ≤ c) && decide (c ≤ 8)) || (c == 11) || (decide (14 ≤ c) && decide (c ≤ 31)) || (c == 127)
/-- Whole bytes of characters without 0. -/
def chB (bs : List Int) : Bool := whole bs && !(bs.contains 0)
/-- It begins as no identifier does. -/
def fB (bs : List Int) : Bool := isDig (nx bs 0) || ((nx bs 0 == 45) && ((bs.length == 1) || isDig (nx bs 1)))
def dlB (bs : List Int) : Bool := (bs.length == 1) && (isDl (nx bs 0) || isCt (nx bs 0))
def fdB (k : Int) (bs : List Int) (n d : Int) (i h : Bool) : Bool := (tx k || bs.isEmpty) && ((nu k || (((n == 0) && (d == 0)) && !i)) && ((k == 4) || !h))
def txB (k : Int) (bs : List Int) (h : Bool) : Bool := if k = 9 then dlB bs else if k = 4 ∧ h = false ∧ fB bs = false then false else if nm k = true ∧ bs = [] then false else chB bs
def nuB1 (k n d : Int) (i : Bool) : Bool := !nu k || (plT n d i).isSome
/-- May the token be? -/
def mayT (k : Int) (bs : List Int) (n d : Int) (i h : Bool) : Bool := (decide (1 ≤ k) && decide (k ≤ 24)) && ((fdB k bs n d i h && txB k bs h) && nuB1 k n d i)
def apB (a b : Int) : Bool := ((a == 13) && (b == 13)) || (ro a && jo b)
/-! ### Characters -/
theorem enc1_zero {c : Int} (h : isC c = true) : (enc1 c).contains 0 = (c == 0) := by
  rw [isC_iff] at h
  unfold enc1
  rw [Bool.eq_iff_iff]
  split
  · simp; omega
  split
  · simp; omega
  split
  · simp; omega
  · simp; omega
theorem zero_raw (n : Nat) : ∀ bs : List Int, bs.length ≤ n → By bs → whole bs = true → (raw bs).contains 0 = bs.contains 0 := by
  induction n with
  | zero => intro bs h _ _; rw [List.eq_nil_of_length_eq_zero (by omega : bs.length = 0), raw_nil]
  | succ n ih =>
    intro bs h hb hw
    by_cases hn : bs = []
    · subst hn; rw [raw_nil]
    rw [whole_cut hn, Bool.and_eq_true] at hw
    obtain ⟨h1, h2⟩ := stp_back bs hb hn hw.1
    have hl := stp_len bs hn
    have e : bs.contains 0 = ((enc1 (stp bs).1).contains 0 || (bs.drop (stp bs).2.1).contains 0) := by
      refine (congrArg (fun l : List Int => l.contains 0) h2).trans ?_
      show (enc1 (stp bs).1 ++ bs.drop (stp bs).2.1).contains 0 = _
      rw [Bool.eq_iff_iff]
      simp
    rw [raw_cut hn, List.contains_cons, ih _ (by rw [List.length_drop]; omega) (hb.drop _) hw.2, e, enc1_zero h1]
    congr 1
    rw [Bool.eq_iff_iff]
    simp only [beq_iff_eq]
    exact ⟨fun h => h.symm, fun h => h.symm⟩
theorem chB_raw (bs : List Int) (hb : By bs) : chB bs = (!((raw bs).contains 0) && whole bs) := by
  unfold chB
  cases hw : whole bs with
  | false => simp
  | true => rw [zero_raw _ bs (Nat.le_refl _) hb hw]; simp
/-- How whole bytes begin. -/
theorem raw_head (bs : List Int) (hb : By bs) (hn : bs ≠ []) (hw : whole bs = true) :
    (raw bs = nx bs 0 :: raw (bs.drop 1) ∧ whole (bs.drop 1) = true ∧ nx bs 0 < 128) ∨ (128 ≤ nx bs 0 ∧ 128 ≤ nx (raw bs) 0) := by
  have hl := stp_len bs hn
  have hw2 := hw
  rw [whole_cut hn, Bool.and_eq_true] at hw
  obtain ⟨h1, h2⟩ := stp_back bs hb hn hw.1
  have hc := h1
  rw [isC_iff] at hc
  by_cases h : (stp bs).1 ≤ 127
  · left
    have e1 : enc1 (stp bs).1 = [(stp bs).1] := by unfold enc1; rw [if_pos h]
    rw [e1] at h2
    have hnx : nx bs 0 = (stp bs).1 := (congrArg (fun l => nx l 0) h2).trans rfl
    have hl1 : (stp bs).2.1 = 1 := by
      have := congrArg List.length h2
      rw [List.length_append, List.length_drop] at this
      simp at this
      omega
    rw [hnx]
    rw [hl1] at hw
    exact ⟨by rw [raw_cut hn, hl1], hw.2, by omega⟩
  · right
    have e0 : nx (raw bs) 0 = (stp bs).1 := by rw [raw_cut hn]; rfl
    refine ⟨?_, by rw [e0]; omega⟩
    have e2 : nx bs 0 = nx (enc1 (stp bs).1 ++ bs.drop (stp bs).2.1) 0 := congrArg (fun l => nx l 0) h2
    rw [e2]
    generalize (stp bs).1 = c at *
    unfold enc1
    rw [if_neg h]
    split
    · show 128 ≤ 192 + _; omega
    split
    · show 128 ≤ 224 + _; omega
    · show 128 ≤ 240 + _; omega
def gB (l : List Int) : Bool := isDig (nx l 0) || ((nx l 0 == 45) && ((l.length == 1) || isDig (nx l 1)))
theorem dig_big {c : Int} (h : 128 ≤ c) : isDig c = false := by simp [isDig]; omega
theorem nx_cons1 (c : Int) (l : List Int) : nx (c :: l) 1 = nx l 0 := by simp [nx]
theorem nx_drop1 (bs : List Int) : nx bs 1 = nx (bs.drop 1) 0 := by rw [nx_drop]
theorem hash_raw (bs : List Int) (hb : By bs) (hn : bs ≠ []) (hw : whole bs = true) : gB (raw bs) = fB bs := by
  unfold gB fB
  rcases raw_head bs hb hn hw with ⟨h1, h2, h3⟩ | ⟨h1, h2⟩
  · rw [h1, show nx (nx bs 0 :: raw (bs.drop 1)) 0 = nx bs 0 by rfl, nx_cons1, nx_drop1]
    congr 1
    congr 1
    by_cases he : bs.drop 1 = []
    · have hl : bs.length = 1 := by
        have h0 := congrArg List.length he
        rw [List.length_drop] at h0
        simp at h0
        have := List.length_pos_iff.2 hn
        omega
      rw [he, raw_nil, hl]; simp
    · have hl : 1 < bs.length := by
        refine Nat.lt_of_not_le fun h => he (List.drop_of_length_le h)
      have hr : raw (bs.drop 1) ≠ [] := by rw [raw_cut he]; simp
      have hb1 : ((nx bs 0 :: raw (bs.drop 1)).length == 1) = false := by
        have hp := List.length_pos_iff.2 hr
        rw [List.length_cons, beq_eq_false_iff_ne]
        omega
      have hb2 : (bs.length == 1) = false := by simp; omega
      rw [hb1, hb2, Bool.false_or, Bool.false_or]
      rcases raw_head (bs.drop 1) (hb.drop 1) he h2 with ⟨g1, _, _⟩ | ⟨g1, g2⟩
      · rw [g1]; rfl
      · rw [dig_big g1, dig_big g2]
  · rw [dig_big h1, dig_big h2]
    have e1 : (nx (raw bs) 0 == 45) = false := by simp; omega
    have e2 : (nx bs 0 == 45) = false := by simp; omega
    rw [e1, e2]; rfl
theorem raw_empty (bs : List Int) : (raw bs).length = 0 ↔ bs = [] := by
  constructor
  · intro h
    have := raw_le bs
    exact List.eq_nil_of_length_eq_zero (by omega)
  · rintro rfl; rw [raw_nil]; rfl
/-! ### The reference's words, by kinds -/
def zB (n d : Int) (i : Bool) : Bool := ((n == 0) && (d == 0)) && !i
theorem may_name {k : Int} (hk : k = 1 ∨ k = 2 ∨ k = 3) (bs : List Int) (n d : Int) (i h : Bool) : mayT k bs n d i h = ((zB n d i && !h) && (chB bs && !bs.isEmpty)) := by
  rcases hk with rfl | rfl | rfl
  all_goals
    cases bs <;> simp [mayT, fdB, txB, nuB1, tx, nm, nu, zB] <;> (cases i <;> cases h <;> simp)
theorem may_hash (bs : List Int) (n d : Int) (i h : Bool) : mayT 4 bs n d i h = (zB n d i && ((chB bs && !bs.isEmpty) && (h || fB bs))) := by
  cases bs <;> simp [mayT, fdB, txB, nuB1, tx, nm, nu, zB]
  cases h <;> simp
  rename_i c r
  cases fB (c :: r) <;> simp
theorem may_text {k : Int} (hk : k = 5 ∨ k = 7) (bs : List Int) (n d : Int) (i h : Bool) : mayT k bs n d i h = ((zB n d i && !h) && chB bs) := by
  rcases hk with rfl | rfl
  all_goals simp [mayT, fdB, txB, nuB1, tx, nm, nu, zB]
theorem may_delim (bs : List Int) (n d : Int) (i h : Bool) : mayT 9 bs n d i h = ((zB n d i && !h) && dlB bs) := by
  simp [mayT, fdB, txB, nuB1, tx, nm, nu, zB]
theorem may_num {k : Int} (hk : k = 10 ∨ k = 11) (bs : List Int) (n d : Int) (i h : Bool) : mayT k bs n d i h = ((bs.isEmpty && !h) && (plT n d i).isSome) := by
  have c0 : chB [] = true := by unfold chB; rw [whole_nil]; rfl
  rcases hk with rfl | rfl
  all_goals
    cases bs <;> simp [mayT, fdB, txB, nuB1, tx, nm, nu, c0]
theorem may_dim (bs : List Int) (n d : Int) (i h : Bool) : mayT 12 bs n d i h = ((chB bs && !bs.isEmpty) && (!h && (plT n d i).isSome)) := by
  cases bs <;> simp [mayT, fdB, txB, nuB1, tx, nm, nu]
  cases h <;> simp
theorem may_rest {k : Int} (hk : ¬ (k = 1 ∨ k = 2 ∨ k = 3 ∨ k = 4 ∨ k = 5 ∨ k = 7 ∨ k = 9 ∨ k = 10 ∨ k = 11 ∨ k = 12)) (bs : List Int) (n d : Int) (i h : Bool) : mayT k bs n d i h = ((decide (1 ≤ k) && decide (k ≤ 24)) && (bs.isEmpty && (zB n d i && !h))) := by
  have c0 : chB [] = true := by unfold chB; rw [whole_nil]; rfl
  have e1 : tx k = false := by simp [tx]; omega
  have e2 : nm k = false := by simp [nm]; omega
  have e3 : nu k = false := by simp [nu]; omega
  have e4 : (k == 4) = false := by simp; omega
  have e9 : ¬ k = 9 := by omega
  have e5 : ¬ k = 4 := by omega
  cases bs with
  | nil => simp [mayT, fdB, txB, nuB1, e1, e2, e3, e4, e9, e5, zB, c0]
  | cons c r => simp [mayT, fdB, txB, nuB1, e1, e2, e3, e4, e9, e5, zB]
end Go.Proofs.YtfadjpebniebaaaGreatDoor
