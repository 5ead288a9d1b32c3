/-
  A simple selector that may be: by the reference: one of its kinds.
-/
import Derived.Test.YtmkbjcoagfnegaaGreatDoorZ22
set_option linter.unusedVariables false
set_option linter.unusedSimpArgs false
namespace Go.Proofs.YtmkbjcoagfnegaaGreatDoor
open Go.RowKit

set_option maxRecDepth 100000 in
set_option maxHeartbeats 4000000 in
theorem fits_c (n left : Nat) (s : Sl) (u : Value) (w : World) (h : s.k = 5) (hl1 : 1 ≤ left) (hl2 : left ≤ 65) (hu : CM w n u s.ls) (ok : SlOk s) (IH : ListMayR n) :
    Calls Tryz.prog 57 #[s.v u, .int .i64 (left : Int)] w fun e w' => e = .returned (.bool (slM left (lsM (left - 1)) s)) ∧ Below w.heap.size w w' := by
  have E := hide (show slM left (lsM (left - 1)) s = _ from slM_C h)
  have C1 := hide (fun (W : World) => text9_any s.nm W (by have := ok.hn; omega))
  have C2 := hide (fun (W : World) => text9_any s.vl W (by have := ok.hv; omega))
  have C3 := hide (fun (W : World) (h : Below w.heap.size w W) => IH (left - 1) s.ls u W (by omega) (hu.low h))
  rw [show ((left - 1 : Nat) : Int) = (left : Int) - 1 by omega] at C3
  obtain ⟨ua, uc, hus, hl9⟩ := hu.shape
  obtain ⟨W0, hW0⟩ : ∃ W0, w.alloc (.cells #[.int .i64 s.k, .string s.nm, .int .i64 s.op, .string s.vl, .bool s.fo, u, .int .i64 s.a, .int .i64 s.b] 69) = W0 := ⟨_, rfl⟩
  have HW0 := hide hW0
  have B0 := hide (show Below w.heap.size w W0 by rw [← hW0]; exact bplus (Below.refl _ _) _)
  have P0 := hide (show W0.heap[w.heap.size]? = some (.cells #[.int .i64 s.k, .string s.nm, .int .i64 s.op, .string s.vl, .bool s.fo, u, .int .i64 s.a, .int .i64 s.b] 69) by rw [← hW0]; exact heap_alloc_new w _)
  obtain ⟨c0, c1, c2, c3, c4, c5, c6, c7⟩ := bxk_8 P0.out
  clear hu IH ok hW0
  unfold Sl.v slV
  rw [hus] at c5 HW0 P0 C3 ⊢
  clear hus
  have E2 := E.out
  clear E
  have hb : ((left : Int) == 1) = !(decide (1 < left)) := by rw [Bool.eq_iff_iff]; simp; omega
  generalize decide (1 < left) = R0 at hb E2
  generalize slM left (lsM (left - 1)) s = RR at E2 ⊢
  generalize lsM (left - 1) s.ls = R3 at C3 E2
  generalize chB (bl s.nm) = R1 at C1 E2
  generalize chB (bl s.vl) = R2 at C2 E2
  generalize s.ls.length = ln at C3 HW0 P0 c5 E2 hl9 ⊢
  generalize s.k = k at *
  generalize s.op = op at *
  generalize s.a = a at *
  generalize s.b = b at *
  generalize s.nm = nm at *
  generalize s.vl = vl at *
  generalize s.fo = fo at *
  have E := hide E2
  clear E2
  subst h
  obtain hop | hop | hop | hop : op < 0 ∨ 6 < op ∨ op = 0 ∨ (0 < op ∧ op ≤ 6) := by omega
  · have z1 : op < 0 := hop
    have z2 : ¬ (0 : Int) ≤ op := by omega
    have z3 : (op == 0) = false := by rw [beq_eq_false_iff_ne]; omega
    have z4 : op ≤ 6 := by omega
    clear hop
    cases R0 <;> cases R1 <;> cases R2
    all_goals
      simp only [Bool.not_false, Bool.not_true] at hb
      go_enter Tryz.func57, Tryz.ntmps57
      go_upto_region 1 with fail
      rw [HW0.out]
      clear HW0
      go_wp2_with (first
        | (go_at_call_of 86 (Value.string nm); refine (C1.out _).mono ?_; rintro e w1 ⟨rfl, B1⟩; replace P0 := hide ((B1.block _ (Array.getElem?_eq_some_iff.1 P0.out).1).trans P0.out); replace B0 := hide (bto B0.out B1); clear B1 c0 c1 c2 c3 c4 c5 c6 c7; obtain ⟨c0, c1, c2, c3, c4, c5, c6, c7⟩ := bxk_8 P0.out)
        | (go_at_call_of 86 (Value.string vl); refine (C2.out _).mono ?_; rintro e w2 ⟨rfl, B1⟩; replace P0 := hide ((B1.block _ (Array.getElem?_eq_some_iff.1 P0.out).1).trans P0.out); replace B0 := hide (bto B0.out B1); clear B1 c0 c1 c2 c3 c4 c5 c6 c7; obtain ⟨c0, c1, c2, c3, c4, c5, c6, c7⟩ := bxk_8 P0.out)
        | (go_at_call 35; refine (C3.out _ B0.out).mono ?_; rintro e w3 ⟨rfl, B1⟩; replace P0 := hide ((B1.block _ (Array.getElem?_eq_some_iff.1 P0.out).1).trans P0.out); replace B0 := hide (bto B0.out B1); clear B1 c0 c1 c2 c3 c4 c5 c6 c7; obtain ⟨c0, c1, c2, c3, c4, c5, c6, c7⟩ := bxk_8 P0.out))
      all_goals
        go_ret
        exact ⟨ret_bool (by rw [E.out]; clear E C1 C2 C3 B0 P0; first | (simp [emp_iff, *]; done) | (simp [emp_iff, *]; omega) | omega), B0.out⟩
  · have z1 : ¬ op < 0 := by omega
    have z2 : (0 : Int) ≤ op := by omega
    have z3 : (op == 0) = false := by rw [beq_eq_false_iff_ne]; omega
    have z4 : ¬ op ≤ 6 := by omega
    have z5 : 6 < op := hop
    clear hop
    cases R0 <;> cases R1 <;> cases R2
    all_goals
      simp only [Bool.not_false, Bool.not_true] at hb
      go_enter Tryz.func57, Tryz.ntmps57
      go_upto_region 1 with fail
      rw [HW0.out]
      clear HW0
      go_wp2_with (first
        | (go_at_call_of 86 (Value.string nm); refine (C1.out _).mono ?_; rintro e w1 ⟨rfl, B1⟩; replace P0 := hide ((B1.block _ (Array.getElem?_eq_some_iff.1 P0.out).1).trans P0.out); replace B0 := hide (bto B0.out B1); clear B1 c0 c1 c2 c3 c4 c5 c6 c7; obtain ⟨c0, c1, c2, c3, c4, c5, c6, c7⟩ := bxk_8 P0.out)
        | (go_at_call_of 86 (Value.string vl); refine (C2.out _).mono ?_; rintro e w2 ⟨rfl, B1⟩; replace P0 := hide ((B1.block _ (Array.getElem?_eq_some_iff.1 P0.out).1).trans P0.out); replace B0 := hide (bto B0.out B1); clear B1 c0 c1 c2 c3 c4 c5 c6 c7; obtain ⟨c0, c1, c2, c3, c4, c5, c6, c7⟩ := bxk_8 P0.out)
        | (go_at_call 35; refine (C3.out _ B0.out).mono ?_; rintro e w3 ⟨rfl, B1⟩; replace P0 := hide ((B1.block _ (Array.getElem?_eq_some_iff.1 P0.out).1).trans P0.out); replace B0 := hide (bto B0.out B1); clear B1 c0 c1 c2 c3 c4 c5 c6 c7; obtain ⟨c0, c1, c2, c3, c4, c5, c6, c7⟩ := bxk_8 P0.out))
      all_goals
        go_ret
        exact ⟨ret_bool (by rw [E.out]; clear E C1 C2 C3 B0 P0; first | (simp [emp_iff, *]; done) | (simp [emp_iff, *]; omega) | omega), B0.out⟩
  · subst hop
    cases R0 <;> cases R1 <;> cases R2
    all_goals
      simp only [Bool.not_false, Bool.not_true] at hb
      go_enter Tryz.func57, Tryz.ntmps57
      go_upto_region 1 with fail
      rw [HW0.out]
      clear HW0
      go_wp2_with (first
        | (go_at_call_of 86 (Value.string nm); refine (C1.out _).mono ?_; rintro e w1 ⟨rfl, B1⟩; replace P0 := hide ((B1.block _ (Array.getElem?_eq_some_iff.1 P0.out).1).trans P0.out); replace B0 := hide (bto B0.out B1); clear B1 c0 c1 c2 c3 c4 c5 c6 c7; obtain ⟨c0, c1, c2, c3, c4, c5, c6, c7⟩ := bxk_8 P0.out)
        | (go_at_call_of 86 (Value.string vl); refine (C2.out _).mono ?_; rintro e w2 ⟨rfl, B1⟩; replace P0 := hide ((B1.block _ (Array.getElem?_eq_some_iff.1 P0.out).1).trans P0.out); replace B0 := hide (bto B0.out B1); clear B1 c0 c1 c2 c3 c4 c5 c6 c7; obtain ⟨c0, c1, c2, c3, c4, c5, c6, c7⟩ := bxk_8 P0.out)
        | (go_at_call 35; refine (C3.out _ B0.out).mono ?_; rintro e w3 ⟨rfl, B1⟩; replace P0 := hide ((B1.block _ (Array.getElem?_eq_some_iff.1 P0.out).1).trans P0.out); replace B0 := hide (bto B0.out B1); clear B1 c0 c1 c2 c3 c4 c5 c6 c7; obtain ⟨c0, c1, c2, c3, c4, c5, c6, c7⟩ := bxk_8 P0.out))
      all_goals
        go_ret
        exact ⟨ret_bool (by rw [E.out]; clear E C1 C2 C3 B0 P0; first | (simp [emp_iff, *]; done) | (simp [emp_iff, *]; omega) | omega), B0.out⟩
  · have z1 : ¬ op < 0 := by omega
    have z2 : (0 : Int) ≤ op := by omega
    have z3 : (op == 0) = false := by rw [beq_eq_false_iff_ne]; omega
    have z4 : op ≤ 6 := by omega
    have z5 : ¬ 6 < op := by omega
    clear hop
    cases R0 <;> cases R1 <;> cases R2
    all_goals
      simp only [Bool.not_false, Bool.not_true] at hb
      go_enter Tryz.func57, Tryz.ntmps57
      go_upto_region 1 with fail
      rw [HW0.out]
      clear HW0
      go_wp2_with (first
        | (go_at_call_of 86 (Value.string nm); refine (C1.out _).mono ?_; rintro e w1 ⟨rfl, B1⟩; replace P0 := hide ((B1.block _ (Array.getElem?_eq_some_iff.1 P0.out).1).trans P0.out); replace B0 := hide (bto B0.out B1); clear B1 c0 c1 c2 c3 c4 c5 c6 c7; obtain ⟨c0, c1, c2, c3, c4, c5, c6, c7⟩ := bxk_8 P0.out)
        | (go_at_call_of 86 (Value.string vl); refine (C2.out _).mono ?_; rintro e w2 ⟨rfl, B1⟩; replace P0 := hide ((B1.block _ (Array.getElem?_eq_some_iff.1 P0.out).1).trans P0.out); replace B0 := hide (bto B0.out B1); clear B1 c0 c1 c2 c3 c4 c5 c6 c7; obtain ⟨c0, c1, c2, c3, c4, c5, c6, c7⟩ := bxk_8 P0.out)
        | (go_at_call 35; refine (C3.out _ B0.out).mono ?_; rintro e w3 ⟨rfl, B1⟩; replace P0 := hide ((B1.block _ (Array.getElem?_eq_some_iff.1 P0.out).1).trans P0.out); replace B0 := hide (bto B0.out B1); clear B1 c0 c1 c2 c3 c4 c5 c6 c7; obtain ⟨c0, c1, c2, c3, c4, c5, c6, c7⟩ := bxk_8 P0.out))
      all_goals
        go_ret
        exact ⟨ret_bool (by rw [E.out]; clear E C1 C2 C3 B0 P0; first | (simp [emp_iff, *]; done) | (simp [emp_iff, *]; omega) | omega), B0.out⟩
end Go.Proofs.YtmkbjcoagfnegaaGreatDoor

