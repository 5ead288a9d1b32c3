/-
  Whether an exponent begins; a number taken, by the program.
-/
import Derived.Test.YtckefmhleklciaaGreatDoorTokI
import Derived.Outline
set_option linter.unusedVariables false
set_option linter.unusedSimpArgs false
namespace Go.Proofs.YtckefmhleklciaaGreatDoor
open Go.RowKit

theorem exB_s (s u : List Int) (hu : s.drop 1 = u) : exB (nx s 0) (nx s 1) (nx s 2) = (((nx s 0 == 101) || (nx s 0 == 69)) && isDig (nx (nmS u) 0)) := by
  subst hu
  unfold exB nmS
  rw [nx_drop]
  split
  · rw [nx_drop, nx_drop]
  · rw [nx_drop]
set_option maxHeartbeats 1000000 in
theorem expB_any (v : Value) (s : List Int) (w : World) (hv : Look 5 w v s) :
    Calls Tryz.prog 86 #[v] w fun e w' => e = .returned (.bool (exB (nx s 0) (nx s 1) (nx s 2))) ∧ Below w.heap.size w w' := by
  obtain ⟨u, hu⟩ : ∃ u, s.drop 1 = u := ⟨_, rfl⟩
  rw [exB_s s u hu]
  have HU := hide hu
  have HV := hide hv
  clear hu
  obtain ⟨g, lb, rfl, eg, hg⟩ := hv
  have HG := hide hg
  clear hg
  have B := hide (Below.refl w.heap.size w)
  have H0 := hide (show nx s (Int.toNat 0) = nx s 0 from rfl)
  have H1 := hide (show nx (nmS u) (Int.toNat 0) = nx (nmS u) 0 from rfl)
  generalize nx s 0 = a at H0 ⊢
  generalize hz : nx (nmS u) 0 = z at H1 ⊢
  clear hz
  by_cases h1 : a = 101
  · subst h1
    go_enter Tryz.func86, Tryz.ntmps86
    go_wp2_with (first
      | (go_at_fn g2; refine (HG2.out _ _ (by decide) (by decide) B2.out).mono ?_; rintro e w1 ⟨he, B1⟩; rw [H1.out] at he; subst he; replace B := hide (bto B.out B1); clear B1)
      | (go_at_fn g; refine (HG.out _ _ (by decide) (by decide) B.out).mono ?_; rintro e w1 ⟨he, B1⟩; rw [H0.out] at he; subst he; replace B := hide (bto B.out B1); clear B1)
      | (go_at_call 63; refine (behind_any 4 _ s 1 _ (HV.out.below B.out) (by decide) (by decide)).mono ?_; rintro e w3 ⟨x, rfl, HL, B3⟩; rw [HU.out] at HL; replace HL := hide HL; replace B := hide (bto B.out B3); clear B3)
      | (go_at_call 91; refine (behindSign_any _ u _ HL.out).mono ?_; rintro e w4 ⟨y, rfl, HM, B1⟩; obtain ⟨g2, lb2, rfl, eg2, hg2⟩ := HM; have HG2 := hide hg2; clear hg2; have B2 := hide (Below.refl w4.heap.size w4); replace B := hide (bto B.out B1); clear B1)
      | (go_at_call 29; refine (isDigP_any _ _).mono ?_; rintro e w2 ⟨rfl, rfl⟩))
    go_ret
    exact ⟨ret_bool (by simp), B.out⟩
  · have h1' : (a == 101) = false := by simpa using h1
    by_cases h2 : a = 69
    · subst h2
      go_enter Tryz.func86, Tryz.ntmps86
      go_wp2_with (first
        | (go_at_fn g2; refine (HG2.out _ _ (by decide) (by decide) B2.out).mono ?_; rintro e w1 ⟨he, B1⟩; rw [H1.out] at he; subst he; replace B := hide (bto B.out B1); clear B1)
        | (go_at_fn g; refine (HG.out _ _ (by decide) (by decide) B.out).mono ?_; rintro e w1 ⟨he, B1⟩; rw [H0.out] at he; subst he; replace B := hide (bto B.out B1); clear B1)
        | (go_at_call 63; refine (behind_any 4 _ s 1 _ (HV.out.below B.out) (by decide) (by decide)).mono ?_; rintro e w3 ⟨x, rfl, HL, B3⟩; rw [HU.out] at HL; replace HL := hide HL; replace B := hide (bto B.out B3); clear B3)
        | (go_at_call 91; refine (behindSign_any _ u _ HL.out).mono ?_; rintro e w4 ⟨y, rfl, HM, B1⟩; obtain ⟨g2, lb2, rfl, eg2, hg2⟩ := HM; have HG2 := hide hg2; clear hg2; have B2 := hide (Below.refl w4.heap.size w4); replace B := hide (bto B.out B1); clear B1)
        | (go_at_call 29; refine (isDigP_any _ _).mono ?_; rintro e w2 ⟨rfl, rfl⟩))
      go_ret
      exact ⟨ret_bool (by simp), B.out⟩
    · have h2' : (a == 69) = false := by simpa using h2
      have n1 : (a != 101) = true := by simpa using h1
      have n2 : (a != 69) = true := by simpa using h2
      go_enter Tryz.func86, Tryz.ntmps86
      go_wp2_with (go_at_fn g; refine (HG.out _ _ (by decide) (by decide) B.out).mono ?_; rintro e w1 ⟨he, B1⟩; rw [H0.out] at he; subst he; replace B := hide (bto B.out B1); clear B1)
      go_ret
      exact ⟨ret_bool (by simp [h1', h2']), B.out⟩
end Go.Proofs.YtckefmhleklciaaGreatDoor
