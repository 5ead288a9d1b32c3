/-
  Which boxes may be; the law.
-/
import Derived.Test.YtdmijejcifjaoaaDomB
set_option linter.unusedVariables false
set_option linter.unusedSimpArgs false
namespace Go.Proofs.Ytdmijejcifjaoaa
open Go.RowKit

def sdB (n d : Int) : Bool := isV n d && decide (0 ≤ n)
theorem maySide_any (n d : Int) (w : World) (n1 : -9223372036854775808 ≤ n) (n2 : n ≤ 9223372036854775807) (d1 : -9223372036854775808 ≤ d) (d2 : d ≤ 9223372036854775807) :
    Calls Try.prog 8 #[.agg #[.int .i64 n, .int .i64 d]] w fun e w' => e = .returned (.bool (sdB n d)) ∧ Below w.heap.size w w' := by
  cases hm : mayB n d
  · have F := hide (isV_of_not hm)
    have H := hide hm
    clear hm
    go_enter Try.func8, Try.ntmps8
    go_wp2_with (go_at_call 11; refine (may_any _ _ _ n1 n2 d1 d2).mono ?_; rintro e w1 ⟨rfl, U⟩; have hc := U.cell; simp only [H.out])
    go_ret
    exact ⟨ret_bool (by unfold sdB; rw [F.out]; rfl), bto (bplus (Below.refl _ _) _) U.1⟩
  · have F := hide (isV_of_may' hm)
    have H := hide hm
    clear hm
    by_cases hd : 0 < d <;> by_cases hn : 0 ≤ n
    all_goals
      go_enter Try.func8, Try.ntmps8
      go_wp2_with (go_at_call 11; refine (may_any _ _ _ n1 n2 d1 d2).mono ?_; rintro e w1 ⟨rfl, U⟩; have hc := U.cell; simp only [H.out])
      go_ret
      exact ⟨ret_bool (by unfold sdB; rw [F.out]; simp; omega), bto (bplus (Below.refl _ _) _) U.1⟩
theorem sizeR_any (n d : Int) (w : World) (n1 : -9223372036854775808 ≤ n) (n2 : n ≤ 9223372036854775807) (d1 : -9223372036854775808 ≤ d) (d2 : d ≤ 9223372036854775807) :
    Calls Try.prog 9 #[.agg #[.int .i64 n, .int .i64 d]] w fun e w' => e = .returned (.bool (sdB n d)) ∧ Below w.heap.size w w' := by
  cases hm : isV n d
  · have H := hide hm
    clear hm
    go_enter Try.func9, Try.ntmps9
    go_wp2_with (go_at_call 12; refine (is_any _ _ _ n1 n2 d1 d2).mono ?_; rintro e w1 ⟨rfl, U⟩; have hc := U.cell; simp only [H.out])
    go_ret
    exact ⟨ret_bool (by unfold sdB; rw [H.out]; rfl), bto (bplus (Below.refl _ _) _) U.1⟩
  · have H := hide hm
    clear hm
    by_cases hn : 0 ≤ n
    all_goals
      go_enter Try.func9, Try.ntmps9
      go_wp2_with (go_at_call 12; refine (is_any _ _ _ n1 n2 d1 d2).mono ?_; rintro e w1 ⟨rfl, U⟩; have hc := U.cell; simp only [H.out])
      go_ret
      exact ⟨ret_bool (by unfold sdB; rw [H.out]; simp; omega), bto (bplus (Below.refl _ _) _) U.1⟩

def boxB (t : Int) (s : List Int) (n d m e : Int) : Bool := (decide (0 ≤ t) && decide (t ≤ 2)) && ((s.isEmpty || nmD s) && (sdB n d && sdB m e))
def boxV (t : Int) (s : ByteArray) (n d m e : Int) : Value := .agg #[.int .i64 t, .string s, .int .i64 n, .int .i64 d, .int .i64 m, .int .i64 e]
def Box6 (w : World) (b : Nat) (k : Int) (s : ByteArray) (n d m e : Int) : Prop :=
  b < w.heap.size ∧ w.cell? ⟨b, 0, none⟩ = some (.int .i64 k) ∧ w.cell? ⟨b, 1, none⟩ = some (.string s) ∧ w.cell? ⟨b, 2, none⟩ = some (.int .i64 n) ∧ w.cell? ⟨b, 3, none⟩ = some (.int .i64 d) ∧ w.cell? ⟨b, 4, none⟩ = some (.int .i64 m) ∧ w.cell? ⟨b, 5, none⟩ = some (.int .i64 e)
theorem Box6.below {w w' : World} {b : Nat} {k : Int} {s : ByteArray} {n d m e : Int} (t : Box6 w b k s n d m e) (hb : Below w.heap.size w w') : Box6 w' b k s n d m e := by
  obtain ⟨z, q0, q1, q2, q3, q4, q5⟩ := t
  exact ⟨Nat.lt_of_lt_of_le z hb.size, (hb.cell (p := ⟨b, 0, none⟩) z).trans q0, (hb.cell (p := ⟨b, 1, none⟩) z).trans q1, (hb.cell (p := ⟨b, 2, none⟩) z).trans q2, (hb.cell (p := ⟨b, 3, none⟩) z).trans q3, (hb.cell (p := ⟨b, 4, none⟩) z).trans q4, (hb.cell (p := ⟨b, 5, none⟩) z).trans q5⟩
theorem Box6.box (w : World) (k : Int) (s : ByteArray) (n d m e : Int) (t : TypeId) : Box6 (w.alloc (.cells #[.int .i64 k, .string s, .int .i64 n, .int .i64 d, .int .i64 m, .int .i64 e] t)) w.heap.size k s n d m e :=
  ⟨by simp, by simp [go_sem], by simp [go_sem], by simp [go_sem], by simp [go_sem], by simp [go_sem], by simp [go_sem]⟩
set_option maxHeartbeats 600000 in
theorem mayBox_any (t : Int) (s : ByteArray) (n d m e : Int) (w : World) (t1 : -9223372036854775808 ≤ t) (t2 : t ≤ 9223372036854775807) (hs : s.size ≤ maxLen) (n1 : -9223372036854775808 ≤ n) (n2 : n ≤ 9223372036854775807) (d1 : -9223372036854775808 ≤ d) (d2 : d ≤ 9223372036854775807) (m1 : -9223372036854775808 ≤ m) (m2 : m ≤ 9223372036854775807) (e1 : -9223372036854775808 ≤ e) (e2 : e ≤ 9223372036854775807) :
    Calls Try.prog 4 #[boxV t s n d m e] w fun r w' => r = .returned (.bool (boxB t (bl s) n d m e)) ∧ Below w.heap.size w w' := by
  have T := hide (Box6.box w t s n d m e 25)
  have B := hide (bplus (Below.refl w.heap.size w) (.cells #[.int .i64 t, .string s, .int .i64 n, .int .i64 d, .int .i64 m, .int .i64 e] 25))
  have M := hide (show boxB t (bl s) n d m e = ((decide (0 ≤ t) && decide (t ≤ 2)) && (((bl s).isEmpty || nmD (bl s)) && (sdB n d && sdB m e))) from rfl)
  unfold boxV
  by_cases h1 : t < 0
  · have F := hide (show boxB t (bl s) n d m e = false by rw [M.out]; simp; omega)
    go_enter Try.func4, Try.ntmps4
    go_wp2
    go_ret
    exact ⟨ret_bool F.out.symm, bplus (Below.refl _ _) _⟩
  by_cases h2 : 2 < t
  · have F := hide (show boxB t (bl s) n d m e = false by rw [M.out]; simp; omega)
    have h1' : 0 ≤ t := by omega
    go_enter Try.func4, Try.ntmps4
    go_wp2
    go_ret
    exact ⟨ret_bool F.out.symm, bplus (Below.refl _ _) _⟩
  have h1' : 0 ≤ t := by omega
  have h2' : t ≤ 2 := by omega
  have M2 := hide (show boxB t (bl s) n d m e = (((bl s).isEmpty || nmD (bl s)) && (sdB n d && sdB m e)) by rw [M.out]; simp [h1', h2'])
  clear h1 h2
  by_cases h0 : s.size = 0
  · have E := hide (show (bl s).isEmpty = true by rw [bl_nil h0]; rfl)
    have z1 : s.toList.isEmpty = true := emp_t h0
    have z2 : s.toList = [] := by simpa using z1
    cases ha : sdB n d
    all_goals
      have HA := hide ha
      clear ha
      go_enter Try.func4, Try.ntmps4
      go_wp2_with (go_at_call 8; refine (maySide_any _ _ _ (by assumption) (by assumption) (by assumption) (by assumption)).mono ?_; rintro r w1 ⟨rfl, B1⟩; replace B := hide (bto B.out B1); replace T := hide (T.out.below B1); (try clear q0 q1 q2 q3 q4 q5); obtain ⟨y1, q0, q1, q2, q3, q4, q5⟩ := T.out; (try simp only [HA.out]))
      go_ret
      exact ⟨ret_bool (by rw [M2.out, E.out, HA.out]; simp), B.out⟩
  · have E := hide (show (bl s).isEmpty = false by cases h : bl s with | nil => (exfalso; have := bl_len s; rw [h] at this; exact h0 this.symm) | cons _ _ => rfl)
    have z1 : s.toList.isEmpty = false := emp_f (by omega)
    have z2 : ¬ s.toList = [] := by intro h; rw [h] at z1; cases z1
    cases hn : nmD (bl s) <;> cases ha : sdB n d
    all_goals
      have HN := hide hn
      have HA := hide ha
      clear ha hn
      go_enter Try.func4, Try.ntmps4
      go_wp2_with (first
        | (go_at_call 8; refine (maySide_any _ _ _ (by assumption) (by assumption) (by assumption) (by assumption)).mono ?_; rintro r w1 ⟨rfl, B1⟩; replace B := hide (bto B.out B1); replace T := hide (T.out.below B1); (try clear q0 q1 q2 q3 q4 q5); obtain ⟨y1, q0, q1, q2, q3, q4, q5⟩ := T.out; (try simp only [HA.out]))
        | (go_at_call 6; refine (mayName_any _ _ hs).mono ?_; rintro r w1 ⟨rfl, rfl⟩; simp only [HN.out]))
      go_ret
      exact ⟨ret_bool (by rw [M2.out, E.out, HN.out, HA.out]; simp), B.out⟩
set_option maxHeartbeats 600000 in
theorem boxR_any (t : Int) (s : ByteArray) (n d m e : Int) (w : World) (t1 : -9223372036854775808 ≤ t) (t2 : t ≤ 9223372036854775807) (hs : s.size ≤ maxLen) (n1 : -9223372036854775808 ≤ n) (n2 : n ≤ 9223372036854775807) (d1 : -9223372036854775808 ≤ d) (d2 : d ≤ 9223372036854775807) (m1 : -9223372036854775808 ≤ m) (m2 : m ≤ 9223372036854775807) (e1 : -9223372036854775808 ≤ e) (e2 : e ≤ 9223372036854775807) :
    Calls Try.prog 5 #[boxV t s n d m e] w fun r w' => r = .returned (.bool (boxB t (bl s) n d m e)) ∧ Below w.heap.size w w' := by
  have T := hide (Box6.box w t s n d m e 25)
  have B := hide (bplus (Below.refl w.heap.size w) (.cells #[.int .i64 t, .string s, .int .i64 n, .int .i64 d, .int .i64 m, .int .i64 e] 25))
  have M := hide (show boxB t (bl s) n d m e = ((decide (0 ≤ t) && decide (t ≤ 2)) && (((bl s).isEmpty || nmD (bl s)) && (sdB n d && sdB m e))) from rfl)
  unfold boxV
  by_cases h1 : t < 0
  · have F := hide (show boxB t (bl s) n d m e = false by rw [M.out]; simp; omega)
    go_enter Try.func5, Try.ntmps5
    go_wp2
    go_ret
    exact ⟨ret_bool F.out.symm, bplus (Below.refl _ _) _⟩
  by_cases h2 : 2 < t
  · have F := hide (show boxB t (bl s) n d m e = false by rw [M.out]; simp; omega)
    have h1' : 0 ≤ t := by omega
    go_enter Try.func5, Try.ntmps5
    go_wp2
    go_ret
    exact ⟨ret_bool F.out.symm, bplus (Below.refl _ _) _⟩
  have h1' : 0 ≤ t := by omega
  have h2' : t ≤ 2 := by omega
  have M2 := hide (show boxB t (bl s) n d m e = (((bl s).isEmpty || nmD (bl s)) && (sdB n d && sdB m e)) by rw [M.out]; simp [h1', h2'])
  clear h1 h2
  by_cases h0 : s.size = 0
  · have E := hide (show (bl s).isEmpty = true by rw [bl_nil h0]; rfl)
    have z1 : s.toList.isEmpty = true := emp_t h0
    have z2 : s.toList = [] := by simpa using z1
    cases ha : sdB n d
    all_goals
      have HA := hide ha
      clear ha
      go_enter Try.func5, Try.ntmps5
      go_wp2_with (go_at_call 9; refine (sizeR_any _ _ _ (by assumption) (by assumption) (by assumption) (by assumption)).mono ?_; rintro r w1 ⟨rfl, B1⟩; replace B := hide (bto B.out B1); replace T := hide (T.out.below B1); (try clear q0 q1 q2 q3 q4 q5); obtain ⟨y1, q0, q1, q2, q3, q4, q5⟩ := T.out; (try simp only [HA.out]))
      go_ret
      exact ⟨ret_bool (by rw [M2.out, E.out, HA.out]; simp), B.out⟩
  · have E := hide (show (bl s).isEmpty = false by cases h : bl s with | nil => (exfalso; have := bl_len s; rw [h] at this; exact h0 this.symm) | cons _ _ => rfl)
    have z1 : s.toList.isEmpty = false := emp_f (by omega)
    have z2 : ¬ s.toList = [] := by intro h; rw [h] at z1; cases z1
    cases hn : nmD (bl s) <;> cases ha : sdB n d
    all_goals
      have HN := hide hn
      have HA := hide ha
      clear ha hn
      go_enter Try.func5, Try.ntmps5
      go_wp2_with (first
        | (go_at_call 9; refine (sizeR_any _ _ _ (by assumption) (by assumption) (by assumption) (by assumption)).mono ?_; rintro r w1 ⟨rfl, B1⟩; replace B := hide (bto B.out B1); replace T := hide (T.out.below B1); (try clear q0 q1 q2 q3 q4 q5); obtain ⟨y1, q0, q1, q2, q3, q4, q5⟩ := T.out; (try simp only [HA.out]))
        | (go_at_call 7; refine (nameR_any _ _ hs).mono ?_; rintro r w1 ⟨rfl, B1⟩; replace B := hide (bto B.out B1); replace T := hide (T.out.below B1); (try clear q0 q1 q2 q3 q4 q5); obtain ⟨y1, q0, q1, q2, q3, q4, q5⟩ := T.out; simp only [HN.out]))
      go_ret
      exact ⟨ret_bool (by rw [M2.out, E.out, HN.out, HA.out]; simp), B.out⟩
end Go.Proofs.Ytdmijejcifjaoaa
