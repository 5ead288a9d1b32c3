/-
  Bytes of a stylesheet: the mark at the front, line ends, by the program.
-/
import Derived.Test.YtckefmhleklciaaGreatDoorUtfK
set_option linter.unusedVariables false
set_option linter.unusedSimpArgs false
namespace Go.Proofs.YtckefmhleklciaaGreatDoor
open Go.RowKit

def tr (x : Int) : Int := if x = 13 ∨ x = 12 then 10 else if x = 0 then 65533 else x
def lin (last : Int) : List Int → List Int
  | [] => []
  | x :: r => (if x = 10 ∧ last = 13 then [] else [tr x]) ++ lin x r
def mark (bs : List Int) : Bool := decide (3 ≤ bs.length) && (decide (gt bs 0 = 239) && (decide (gt bs 1 = 187) && decide (gt bs 2 = 191)))
def cut (bs : List Int) : List Int := if mark bs then bs.drop 3 else bs
def dcd (bs : List Int) : List Int := lin 0 (raw (cut bs))
theorem mark_cases (bs : List Int) : (bs.length < 3 ∧ mark bs = false) ∨ (3 ≤ bs.length ∧ gt bs 0 ≠ 239 ∧ mark bs = false) ∨ (3 ≤ bs.length ∧ gt bs 0 = 239 ∧ gt bs 1 ≠ 187 ∧ mark bs = false) ∨
    (3 ≤ bs.length ∧ gt bs 0 = 239 ∧ gt bs 1 = 187 ∧ gt bs 2 ≠ 191 ∧ mark bs = false) ∨ (3 ≤ bs.length ∧ gt bs 0 = 239 ∧ gt bs 1 = 187 ∧ gt bs 2 = 191 ∧ mark bs = true) := by
  unfold mark
  by_cases h : 3 ≤ bs.length
  · by_cases h0 : gt bs 0 = 239
    · by_cases h1 : gt bs 1 = 187
      · by_cases h2 : gt bs 2 = 191
        · simp [h, h0, h1, h2]
        · simp [h, h0, h1, h2]
      · simp [h, h0, h1]
    · simp [h, h0]
  · simp [h]; omega
theorem By.cut {bs : List Int} (h : By bs) : By (cut bs) := by unfold Go.Proofs.YtckefmhleklciaaGreatDoor.cut; split; exact h.drop 3; exact h
theorem cutm_len (bs : List Int) : (cut bs).length ≤ bs.length := by unfold cut; split <;> simp
set_option maxRecDepth 100000 in
set_option maxHeartbeats 1000000 in
theorem mark_any (bs : List Int) (v : Value) (w : World) (hv : Nums .u8 w v bs) :
    Calls Tryz.prog 46 #[v] w fun e w' => e = .returned (.bool (mark bs)) ∧ w' = w := by
  obtain ⟨a, n, c, rfl, hn, hn9, _, hc⟩ := hv.form
  rcases mark_cases bs with ⟨h, e⟩ | ⟨h, h0, e⟩ | ⟨h, h0, h1, e⟩ | ⟨h, h0, h1, h2, e⟩ | ⟨h, h0, h1, h2, e⟩
  · have E := hide e
    have hs : n < 3 := by omega
    clear hc hn hv e h
    go_enter Tryz.func46, Tryz.ntmps46
    go_wp2
    go_ret
    exact ⟨ret_bool E.out.symm, rfl⟩
  all_goals
    obtain ⟨b, o, rfl, hbw, hl, hc9, hcc⟩ := hc (by omega)
    have c0 : w.cell? ⟨b, o, none⟩ = some (.int .u8 (gt bs 0)) := hcc 0 (by omega)
    have c1 : w.cell? ⟨b, o + 1, none⟩ = some (.int .u8 (gt bs 1)) := hcc 1 (by omega)
    have c2 : w.cell? ⟨b, o + 2, none⟩ = some (.int .u8 (gt bs 2)) := hcc 2 (by omega)
    have hs : 3 ≤ n := by omega
    have E := hide e
    clear hc hcc hn hv e h
  · generalize gt bs 0 = y0 at *
    have g0 : (y0 == 239) = false := by simp [h0]
    clear h0
    go_enter Tryz.func46, Tryz.ntmps46
    go_wp2
    go_ret
    exact ⟨ret_bool E.out.symm, rfl⟩
  · rw [h0] at c0
    generalize gt bs 1 = y1 at *
    have g1 : (y1 == 187) = false := by simp [h1]
    clear h0 h1
    go_enter Tryz.func46, Tryz.ntmps46
    go_wp2
    go_ret
    exact ⟨ret_bool E.out.symm, rfl⟩
  · rw [h0] at c0
    rw [h1] at c1
    generalize gt bs 2 = y2 at *
    have g1 : (y2 == 191) = false := by simp [h2]
    clear h0 h1 h2
    go_enter Tryz.func46, Tryz.ntmps46
    go_wp2
    go_ret
    exact ⟨ret_bool E.out.symm, rfl⟩
  · rw [h0] at c0
    rw [h1] at c1
    rw [h2] at c2
    clear h0 h1 h2
    go_enter Tryz.func46, Tryz.ntmps46
    go_wp2
    go_ret
    exact ⟨ret_bool E.out.symm, rfl⟩
/-- The one ahead. -/
def pv (ls : List Int) : Nat → Int
  | 0 => 0
  | k + 1 => gt ls k
theorem lin_in {ls xs : List Int} {k : Nat} (h : lin 0 ls = xs ++ lin (pv ls k) (ls.drop k)) (hk : k < ls.length) (hn : ¬ (gt ls k = 10 ∧ pv ls k = 13)) :
    lin 0 ls = (xs ++ [tr (gt ls k)]) ++ lin (pv ls (k + 1)) (ls.drop (k + 1)) := by
  rw [h, drop_gt hk]; simp only [lin]; rw [if_neg hn]; simp [pv]
theorem lin_out {ls xs : List Int} {k : Nat} (h : lin 0 ls = xs ++ lin (pv ls k) (ls.drop k)) (hk : k < ls.length) (hn : gt ls k = 10 ∧ pv ls k = 13) :
    lin 0 ls = xs ++ lin (pv ls (k + 1)) (ls.drop (k + 1)) := by
  rw [h, drop_gt hk]; simp only [lin]; rw [if_pos hn]; simp [pv]
theorem lin_end {ls xs : List Int} {k : Nat} (h : lin 0 ls = xs ++ lin (pv ls k) (ls.drop k)) (hk : ls.length ≤ k) : lin 0 ls = xs := by
  rw [h, List.drop_of_length_le hk]; simp [lin]
def RelLin (W : World) (n : Nat) (ls : List Int) (l i : Value) (wr : World) : Prop :=
  ∃ (k : Nat) (xs : List Int), k ≤ n ∧ i = .int .i64 k ∧ xs.length ≤ k ∧ Own W .i32 21 wr l xs ∧ Hid (lin 0 ls = xs ++ lin (pv ls k) (ls.drop k))
theorem RelLin.mk {W : World} {n : Nat} {ls : List Int} {l i : Value} {wr : World} (k : Nat) (xs : List Int) (h1 : k ≤ n) (h2 : i = .int .i64 k) (h3 : xs.length ≤ k) (h4 : Own W .i32 21 wr l xs) (h5 : lin 0 ls = xs ++ lin (pv ls k) (ls.drop k)) : RelLin W n ls l i wr :=
  ⟨k, xs, h1, h2, h3, h4, h5⟩
/-- What becomes of a character. -/
theorem tr_cases (x p : Int) : (x = 10 ∧ p = 13) ∨ (¬ (x = 10 ∧ p = 13) ∧ ((x = 10 ∧ p ≠ 13 ∧ tr x = 10) ∨ (x = 13 ∧ tr x = 10) ∨ (x = 12 ∧ tr x = 10) ∨ (x = 0 ∧ tr x = 65533) ∨ (x ≠ 10 ∧ x ≠ 13 ∧ x ≠ 12 ∧ x ≠ 0 ∧ tr x = x))) := by
  by_cases h : x = 10 ∧ p = 13
  · exact .inl h
  · refine .inr ⟨h, ?_⟩
    unfold tr
    by_cases h1 : x = 10
    · left; subst h1; exact ⟨rfl, by omega, by decide⟩
    · by_cases h2 : x = 13
      · subst h2; right; left; exact ⟨rfl, by decide⟩
      · by_cases h3 : x = 12
        · subst h3; right; right; left; exact ⟨rfl, by decide⟩
        · by_cases h4 : x = 0
          · subst h4; right; right; right; left; exact ⟨rfl, by decide⟩
          · right; right; right; right
            refine ⟨h1, h2, h3, h4, ?_⟩
            rw [if_neg (by omega), if_neg h4]
end Go.Proofs.YtckefmhleklciaaGreatDoor
