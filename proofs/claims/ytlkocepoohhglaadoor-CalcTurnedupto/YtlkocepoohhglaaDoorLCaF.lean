/-
  A character and an operator, if they come: by the program.
-/
import Derived.Test.YtlkocepoohhglaaDoorLCaE
set_option linter.unusedVariables false
set_option linter.unusedSimpArgs false
namespace Go.Proofs.YtlkocepoohhglaaDoor.cc
open Go.RowKit

/-- Does this character come? -/
def dlB (s : ByteArray) (l : List VT) : Bool := match l with
  | [] => false
  | v :: _ => decide (v.t.k = 9) && decide (v.t.s = s)
theorem tl_ne' {t1 t2 : ByteArray} (h : ¬ t1 = t2) : ¬ t1.toList = t2.toList := fun e => by
  apply h
  cases t1; cases t2
  congr
  simpa [ByteArray.toList_eq] using e
theorem delim_none (W w0 : World) (g : Nat) (s : ByteArray) (h : Cu W w0 g []) : Calls Tryd.prog 99 #[.pointer (some ⟨g, 0, none⟩), .string s] w0 fun e w' => e = .returned (.bool false) ∧ Cu W w' g [] ∧ w0.grownBy w' (some g) := by
  have q1 := fun (u0 u1 u2 u3 u4 u5 u6 : Value) (w : World) => fldV u0 u1 u2 u3 u4 u5 u6 w
  have CN := hide (nextC_nil W w0 g h)
  have HC := hide h
  clear h
  go_enter Tryd.func99, Tryd.ntmps99
  go_wp2_with (go_at_call 51; refine CN.out.mono ?_; rintro e w1 ⟨rfl, B1⟩; replace B1 := hide B1)
  go_ret
  exact ⟨rfl, HC.out.low (bplus B1.out _), Mod.of g (bplus B1.out _)⟩
theorem delim_no (W w0 : World) (g : Nat) (s : ByteArray) (t : TS) (ks r : List VT) (h : Cu W w0 g (.mk t ks :: r)) (hn : ¬ (t.k = 9 ∧ t.s = s)) : Calls Tryd.prog 99 #[.pointer (some ⟨g, 0, none⟩), .string s] w0 fun e w' => e = .returned (.bool false) ∧ Cu W w' g (.mk t ks :: r) ∧ w0.grownBy w' (some g) := by
  have q1 := fun (u0 u1 u2 u3 u4 u5 u6 : Value) (w : World) => fldV u0 u1 u2 u3 u4 u5 u6 w
  have CN := hide (nextC_cons W w0 g t ks r h)
  have HC := hide h
  clear h
  obtain ⟨tk, ts, tn, td, ti, th⟩ := t
  simp only at CN hn
  by_cases hk : tk = 9
  · subst hk
    have hs : ¬ ts = s := fun e => hn ⟨rfl, e⟩
    have hs2 := tl_ne' hs
    have hs3 : (ts.toList == s.toList) = false := by simpa using hs2
    clear hn
    go_enter Tryd.func99, Tryd.ntmps99
    go_wp2_with (go_at_call 51; refine CN.out.mono ?_; rintro e w1 ⟨ka, kn, kc, rfl, -, B1⟩; replace B1 := hide B1)
    go_ret
    exact ⟨rfl, HC.out.low (bplus B1.out _), Mod.of g (bplus B1.out _)⟩
  · have hk1 : (tk == 9) = false := by simpa using hk
    clear hn
    go_enter Tryd.func99, Tryd.ntmps99
    go_wp2_with (go_at_call 51; refine CN.out.mono ?_; rintro e w1 ⟨ka, kn, kc, rfl, -, B1⟩; replace B1 := hide B1)
    go_ret
    exact ⟨rfl, HC.out.low (bplus B1.out _), Mod.of g (bplus B1.out _)⟩
theorem delim_yes (W w0 : World) (g : Nat) (s : ByteArray) (n d : Int) (i h' : Bool) (ks r : List VT) (h : Cu W w0 g (.mk ⟨9, s, n, d, i, h'⟩ ks :: r)) : Calls Tryd.prog 99 #[.pointer (some ⟨g, 0, none⟩), .string s] w0 fun e w' => e = .returned (.bool true) ∧ Cu W w' g r ∧ w0.grownBy w' (some g) := by
  have HC := hide h
  have q1 := fun (u0 u1 u2 u3 u4 u5 u6 : Value) (w : World) => fldV u0 u1 u2 u3 u4 u5 u6 w
  have CN := hide (nextC_cons W w0 g _ ks r h)
  have CT := hide (fun (w1 : World) (h : Cu W w1 g (.mk ⟨9, s, n, d, i, h'⟩ ks :: r)) => takeC_cons W w1 g _ ks r h)
  have HM := hide (Mod.refl w0 g)
  clear h
  simp only at CN CT
  go_enter Tryd.func99, Tryd.ntmps99
  go_wp2_with (first
    | (go_at_call 51; refine CN.out.mono ?_; rintro e w1 ⟨ka, kn, kc, rfl, -, B1⟩; replace HC := hide (HC.out.low (bplus B1 (.cells #[.int .i64 9, .string s, .int .i64 n, .int .i64 d, .bool i, .bool h'] 66))); replace HM := hide (Mod.trans HM.out (Mod.of g (bplus B1 (.cells #[.int .i64 9, .string s, .int .i64 n, .int .i64 d, .bool i, .bool h'] 66)))); clear B1)
    | (go_at_call 44; refine (CT.out _ HC.out).mono ?_; rintro e w2 ⟨ka2, kn2, kc2, rfl, -, C2, M2⟩; replace HC := hide C2; replace HM := hide (Mod.trans HM.out M2); clear C2 M2))
  go_ret
  exact ⟨rfl, HC.out, HM.out⟩
/-- What is left behind it. -/
def dlR (s : ByteArray) (l : List VT) : List VT := if dlB s l = true then l.tail else l
theorem delim_any (W w0 : World) (g : Nat) (s : ByteArray) (l : List VT) (h : Cu W w0 g l) : Calls Tryd.prog 99 #[.pointer (some ⟨g, 0, none⟩), .string s] w0 fun e w' => e = .returned (.bool (dlB s l)) ∧ Cu W w' g (dlR s l) ∧ w0.grownBy w' (some g) := by
  cases l with
  | nil => exact delim_none W w0 g s h
  | cons x r =>
    obtain ⟨t, ks⟩ := x
    by_cases hn : t.k = 9 ∧ t.s = s
    · obtain ⟨h1, h2⟩ := hn
      obtain ⟨tk, ts, tn, td, ti, th⟩ := t
      simp only at h1 h2
      subst h1 h2
      rw [show dlR ts (.mk ⟨9, ts, tn, td, ti, th⟩ ks :: r) = r by simp [dlR, dlB, VT.t], show dlB ts (.mk ⟨9, ts, tn, td, ti, th⟩ ks :: r) = true by simp [dlB, VT.t]]
      exact delim_yes W w0 g ts tn td ti th ks r h
    · have e : dlB s (.mk t ks :: r) = false := by
        have : ¬ ((VT.mk t ks).t.k = 9 ∧ (VT.mk t ks).t.s = s) := hn
        simp only [dlB]
        rw [Bool.and_eq_false_iff]
        by_cases h9 : (VT.mk t ks).t.k = 9
        · right; simp; exact fun e => this ⟨h9, e⟩
        · left; simp [h9]
      rw [show dlR s (.mk t ks :: r) = .mk t ks :: r by simp [dlR, e], e]
      exact delim_no W w0 g s t ks r h hn
/-- An operator: does it turn, does it come, what is left. -/
def opB (on back : ByteArray) (sp : Bool) (l : List VT) : Bool × Bool × List VT :=
  let l1 := spL l
  let t := dlB back l1
  let l2 := dlR back l1
  let f := t || dlB on l2
  let l3 := if t = true then l2 else dlR on l2
  let l4 := spL l3
  if (!f || (sp && !(decide (l1.length < l.length) && decide (l4.length < l3.length)))) = true then (false, false, l) else (t, true, l4)
theorem Cu.back {W wr w1 : World} {g : Nat} {l l' : List VT} {v : Value} (h : Cu W wr g l) (hv : wr.cell? ⟨g, 0, none⟩ = some v) (h1 : Cu W w1 g l') : Cu W (w1.setCell ⟨g, 0, none⟩ v) g l := by
  obtain ⟨v0, k1, _, k3⟩ := h.cell
  rw [hv] at k1
  cases k1
  exact h1.put k3
set_option maxRecDepth 100000 in
set_option maxHeartbeats 2000000 in
theorem operator_any (on back : ByteArray) (sp : Bool) (W w0 : World) (g : Nat) (l : List VT) (h : Cu W w0 g l) : Calls Tryd.prog 93 #[.pointer (some ⟨g, 0, none⟩), .string on, .string back, .bool sp] w0 fun e w' => e = .returned (.tuple #[.bool (opB on back sp l).1, .bool (opB on back sp l).2.1]) ∧ Cu W w' g (opB on back sp l).2.2 ∧ w0.grownBy w' (some g) := by
  obtain ⟨v, c0, -, hv⟩ := h.cell
  have E := hide (show opB on back sp l = (if (!(dlB back (spL l) || dlB on (dlR back (spL l))) || (sp && !(decide ((spL l).length < l.length) && decide ((spL (if dlB back (spL l) = true then dlR back (spL l) else dlR on (dlR back (spL l)))).length < (if dlB back (spL l) = true then dlR back (spL l) else dlR on (dlR back (spL l))).length)))) = true then (false, false, l) else (dlB back (spL l), true, spL (if dlB back (spL l) = true then dlR back (spL l) else dlR on (dlR back (spL l))))) from rfl)
  have S1 := hide (spacesC_any W w0 g l h)
  have D1 := hide (fun (w1 : World) (h : Cu W w1 g (spL l)) => delim_any W w1 g back _ h)
  have D2 := hide (fun (w1 : World) (h : Cu W w1 g (dlR back (spL l))) => delim_any W w1 g on _ h)
  have S2 := hide (fun (w1 : World) (q : List VT) (h : Cu W w1 g q) => spacesC_any W w1 g q h)
  have HB := hide (fun (w1 : World) (q : List VT) (h1 : Cu W w1 g q) => h.back c0 h1)
  have HZ := hide (fun (w1 : World) (q : List VT) (h1 : Cu W w1 g q) => (h1.cell))
  have HC := hide h
  clear h
  obtain ⟨va, vc, rfl, -⟩ := hv.shape
  clear hv
  generalize spL l = l1 at *
  generalize decide (l1.length < l.length) = ah at *
  cases ht : dlB back l1
  · rw [ht] at D1 E
    simp only [Bool.false_or, Bool.false_eq_true, if_false] at E
    generalize dlR back l1 = l2 at *
    cases hf : dlB on l2
    · rw [hf] at D2 E
      simp only [Bool.not_false, Bool.true_or, if_true] at E
      rw [E.out]
      clear ht hf E
      generalize dlR on l2 = l3 at *
      go_enter Tryd.func93, Tryd.ntmps93
      go_wp2_with (first
        | (go_at_call 43; refine S1.out.mono ?_; rintro e w1 ⟨rfl, C1, M1⟩; replace HC := hide C1; have HM := hide M1; clear C1 M1 S1)
        | (go_at_call 99; refine (D1.out _ HC.out).mono ?_; rintro e w2 ⟨rfl, C1, M1⟩; replace HC := hide C1; replace HM := hide (Mod.trans HM.out M1); clear C1 M1 D1)
        | (go_at_call 99; refine (D2.out _ HC.out).mono ?_; rintro e w3 ⟨rfl, C1, M1⟩; replace HC := hide C1; replace HM := hide (Mod.trans HM.out M1); clear C1 M1 D2)
        | (go_at_call 43; refine (S2.out _ _ HC.out).mono ?_; rintro e w4 ⟨rfl, C1, M1⟩; replace HC := hide C1; replace HM := hide (Mod.trans HM.out M1); obtain ⟨zv, z1, z2, -⟩ := HZ.out _ _ HC.out; clear C1 M1 S2))
      go_ret2
      exact ⟨rfl, HB.out _ _ HC.out, Mod.trans HM.out (grownBy_setC _ _ _ _)⟩
    · rw [hf] at D2 E
      simp only [Bool.not_true, Bool.false_or] at E
      clear ht hf
      generalize dlR on l2 = l3 at *
      obtain ⟨l4, hl4⟩ : ∃ l4, spL l3 = l4 := ⟨_, rfl⟩
      have S2' := hide (fun (w1 : World) (h : Cu W w1 g l3) => spacesC_any W w1 g l3 h)
      rw [hl4] at E S2'
      obtain ⟨be, hbe⟩ : ∃ be, decide (l4.length < l3.length) = be := ⟨_, rfl⟩
      rw [hbe] at E S2'
      clear hl4 hbe S2
      cases sp
      · simp only [Bool.false_and, Bool.false_eq_true, if_false, Bool.not_true, Bool.or_false] at E
        rw [E.out]
        clear E
        go_enter Tryd.func93, Tryd.ntmps93
        go_wp2_with (first
          | (go_at_call 43; refine S1.out.mono ?_; rintro e w1 ⟨rfl, C1, M1⟩; replace HC := hide C1; have HM := hide M1; clear C1 M1 S1)
          | (go_at_call 99; refine (D1.out _ HC.out).mono ?_; rintro e w2 ⟨rfl, C1, M1⟩; replace HC := hide C1; replace HM := hide (Mod.trans HM.out M1); clear C1 M1 D1)
          | (go_at_call 99; refine (D2.out _ HC.out).mono ?_; rintro e w3 ⟨rfl, C1, M1⟩; replace HC := hide C1; replace HM := hide (Mod.trans HM.out M1); clear C1 M1 D2)
          | (go_at_call 43; refine (S2'.out _ HC.out).mono ?_; rintro e w4 ⟨rfl, C1, M1⟩; replace HC := hide C1; replace HM := hide (Mod.trans HM.out M1); obtain ⟨zv, z1, z2, -⟩ := HZ.out _ _ HC.out;  clear C1 M1 S2'))
        go_ret2
        exact ⟨rfl, HC.out, HM.out⟩
      cases ah
      · simp only [Bool.false_and, Bool.not_true, Bool.not_false, Bool.true_and, Bool.false_or, if_true] at E
        rw [E.out]
        clear E
        go_enter Tryd.func93, Tryd.ntmps93
        go_wp2_with (first
          | (go_at_call 43; refine S1.out.mono ?_; rintro e w1 ⟨rfl, C1, M1⟩; replace HC := hide C1; have HM := hide M1; clear C1 M1 S1)
          | (go_at_call 99; refine (D1.out _ HC.out).mono ?_; rintro e w2 ⟨rfl, C1, M1⟩; replace HC := hide C1; replace HM := hide (Mod.trans HM.out M1); clear C1 M1 D1)
          | (go_at_call 99; refine (D2.out _ HC.out).mono ?_; rintro e w3 ⟨rfl, C1, M1⟩; replace HC := hide C1; replace HM := hide (Mod.trans HM.out M1); clear C1 M1 D2)
          | (go_at_call 43; refine (S2'.out _ HC.out).mono ?_; rintro e w4 ⟨rfl, C1, M1⟩; replace HC := hide C1; replace HM := hide (Mod.trans HM.out M1); obtain ⟨zv, z1, z2, -⟩ := HZ.out _ _ HC.out;  clear C1 M1 S2'))
        go_ret2
        exact ⟨rfl, HB.out _ _ HC.out, Mod.trans HM.out (grownBy_setC _ _ _ _)⟩
      cases be
      · simp only [Bool.false_and, Bool.and_false, Bool.not_true, Bool.not_false, Bool.true_and, Bool.false_or, if_true] at E
        rw [E.out]
        clear E
        go_enter Tryd.func93, Tryd.ntmps93
        go_wp2_with (first
          | (go_at_call 43; refine S1.out.mono ?_; rintro e w1 ⟨rfl, C1, M1⟩; replace HC := hide C1; have HM := hide M1; clear C1 M1 S1)
          | (go_at_call 99; refine (D1.out _ HC.out).mono ?_; rintro e w2 ⟨rfl, C1, M1⟩; replace HC := hide C1; replace HM := hide (Mod.trans HM.out M1); clear C1 M1 D1)
          | (go_at_call 99; refine (D2.out _ HC.out).mono ?_; rintro e w3 ⟨rfl, C1, M1⟩; replace HC := hide C1; replace HM := hide (Mod.trans HM.out M1); clear C1 M1 D2)
          | (go_at_call 43; refine (S2'.out _ HC.out).mono ?_; rintro e w4 ⟨rfl, C1, M1⟩; replace HC := hide C1; replace HM := hide (Mod.trans HM.out M1); obtain ⟨zv, z1, z2, -⟩ := HZ.out _ _ HC.out;  clear C1 M1 S2'))
        go_ret2
        exact ⟨rfl, HB.out _ _ HC.out, Mod.trans HM.out (grownBy_setC _ _ _ _)⟩
      simp only [Bool.true_and, Bool.and_true, Bool.not_true, Bool.and_false, Bool.or_false, Bool.false_eq_true, if_false] at E
      rw [E.out]
      clear E
      go_enter Tryd.func93, Tryd.ntmps93
      go_wp2_with (first
        | (go_at_call 43; refine S1.out.mono ?_; rintro e w1 ⟨rfl, C1, M1⟩; replace HC := hide C1; have HM := hide M1; clear C1 M1 S1)
        | (go_at_call 99; refine (D1.out _ HC.out).mono ?_; rintro e w2 ⟨rfl, C1, M1⟩; replace HC := hide C1; replace HM := hide (Mod.trans HM.out M1); clear C1 M1 D1)
        | (go_at_call 99; refine (D2.out _ HC.out).mono ?_; rintro e w3 ⟨rfl, C1, M1⟩; replace HC := hide C1; replace HM := hide (Mod.trans HM.out M1); clear C1 M1 D2)
        | (go_at_call 43; refine (S2'.out _ HC.out).mono ?_; rintro e w4 ⟨rfl, C1, M1⟩; replace HC := hide C1; replace HM := hide (Mod.trans HM.out M1); obtain ⟨zv, z1, z2, -⟩ := HZ.out _ _ HC.out;  clear C1 M1 S2'))
      go_ret2
      exact ⟨rfl, HC.out, HM.out⟩
  · rw [ht] at D1 E
    simp only [Bool.true_or, Bool.not_true, Bool.false_or, if_true] at E
    clear ht D2
    generalize dlR back l1 = l3 at *
    obtain ⟨l4, hl4⟩ : ∃ l4, spL l3 = l4 := ⟨_, rfl⟩
    have S2' := hide (fun (w1 : World) (h : Cu W w1 g l3) => spacesC_any W w1 g l3 h)
    rw [hl4] at E S2'
    obtain ⟨be, hbe⟩ : ∃ be, decide (l4.length < l3.length) = be := ⟨_, rfl⟩
    rw [hbe] at E S2'
    clear hl4 hbe S2
    cases sp
    · simp only [Bool.false_and, Bool.false_eq_true, if_false, Bool.not_true, Bool.or_false] at E
      rw [E.out]
      clear E
      go_enter Tryd.func93, Tryd.ntmps93
      go_wp2_with (first
        | (go_at_call 43; refine S1.out.mono ?_; rintro e w1 ⟨rfl, C1, M1⟩; replace HC := hide C1; have HM := hide M1; clear C1 M1 S1)
        | (go_at_call 99; refine (D1.out _ HC.out).mono ?_; rintro e w2 ⟨rfl, C1, M1⟩; replace HC := hide C1; replace HM := hide (Mod.trans HM.out M1); clear C1 M1 D1)
        | (go_at_call 43; refine (S2'.out _ HC.out).mono ?_; rintro e w4 ⟨rfl, C1, M1⟩; replace HC := hide C1; replace HM := hide (Mod.trans HM.out M1); obtain ⟨zv, z1, z2, -⟩ := HZ.out _ _ HC.out;  clear C1 M1 S2'))
      go_ret2
      exact ⟨rfl, HC.out, HM.out⟩
    cases ah
    · simp only [Bool.false_and, Bool.not_true, Bool.not_false, Bool.true_and, Bool.false_or, if_true] at E
      rw [E.out]
      clear E
      go_enter Tryd.func93, Tryd.ntmps93
      go_wp2_with (first
        | (go_at_call 43; refine S1.out.mono ?_; rintro e w1 ⟨rfl, C1, M1⟩; replace HC := hide C1; have HM := hide M1; clear C1 M1 S1)
        | (go_at_call 99; refine (D1.out _ HC.out).mono ?_; rintro e w2 ⟨rfl, C1, M1⟩; replace HC := hide C1; replace HM := hide (Mod.trans HM.out M1); clear C1 M1 D1)
        | (go_at_call 43; refine (S2'.out _ HC.out).mono ?_; rintro e w4 ⟨rfl, C1, M1⟩; replace HC := hide C1; replace HM := hide (Mod.trans HM.out M1); obtain ⟨zv, z1, z2, -⟩ := HZ.out _ _ HC.out;  clear C1 M1 S2'))
      go_ret2
      exact ⟨rfl, HB.out _ _ HC.out, Mod.trans HM.out (grownBy_setC _ _ _ _)⟩
    cases be
    · simp only [Bool.false_and, Bool.and_false, Bool.not_true, Bool.not_false, Bool.true_and, Bool.false_or, if_true] at E
      rw [E.out]
      clear E
      go_enter Tryd.func93, Tryd.ntmps93
      go_wp2_with (first
        | (go_at_call 43; refine S1.out.mono ?_; rintro e w1 ⟨rfl, C1, M1⟩; replace HC := hide C1; have HM := hide M1; clear C1 M1 S1)
        | (go_at_call 99; refine (D1.out _ HC.out).mono ?_; rintro e w2 ⟨rfl, C1, M1⟩; replace HC := hide C1; replace HM := hide (Mod.trans HM.out M1); clear C1 M1 D1)
        | (go_at_call 43; refine (S2'.out _ HC.out).mono ?_; rintro e w4 ⟨rfl, C1, M1⟩; replace HC := hide C1; replace HM := hide (Mod.trans HM.out M1); obtain ⟨zv, z1, z2, -⟩ := HZ.out _ _ HC.out;  clear C1 M1 S2'))
      go_ret2
      exact ⟨rfl, HB.out _ _ HC.out, Mod.trans HM.out (grownBy_setC _ _ _ _)⟩
    simp only [Bool.true_and, Bool.and_true, Bool.not_true, Bool.and_false, Bool.or_false, Bool.false_eq_true, if_false] at E
    rw [E.out]
    clear E
    go_enter Tryd.func93, Tryd.ntmps93
    go_wp2_with (first
      | (go_at_call 43; refine S1.out.mono ?_; rintro e w1 ⟨rfl, C1, M1⟩; replace HC := hide C1; have HM := hide M1; clear C1 M1 S1)
      | (go_at_call 99; refine (D1.out _ HC.out).mono ?_; rintro e w2 ⟨rfl, C1, M1⟩; replace HC := hide C1; replace HM := hide (Mod.trans HM.out M1); clear C1 M1 D1)
      | (go_at_call 43; refine (S2'.out _ HC.out).mono ?_; rintro e w4 ⟨rfl, C1, M1⟩; replace HC := hide C1; replace HM := hide (Mod.trans HM.out M1); obtain ⟨zv, z1, z2, -⟩ := HZ.out _ _ HC.out;  clear C1 M1 S2'))
    go_ret2
    exact ⟨rfl, HC.out, HM.out⟩
end Go.Proofs.YtlkocepoohhglaaDoor.cc
