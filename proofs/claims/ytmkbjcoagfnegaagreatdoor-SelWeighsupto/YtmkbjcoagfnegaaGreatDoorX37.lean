/-
  A simple selector that may be: by the reference: one of its kinds.
  A simple selector that may be: by the reference: all kinds.
  A list of selectors that may be: by the reference.
  Which tokens may be: by the reference.
-/
import Derived.Test.YtmkbjcoagfnegaaGreatDoorX34
import Derived.Test.YtmkbjcoagfnegaaGreatDoorX35
import Derived.Test.YtmkbjcoagfnegaaGreatDoorX36
import Derived.Deep.DeepCutAuto
import Derived.Test.YtmkbjcoagfnegaaGreatDoorX13
set_option linter.unusedVariables false
set_option linter.unusedSimpArgs false
namespace Go.Proofs.YtmkbjcoagfnegaaGreatDoor
open Go.RowKit

set_option maxRecDepth 100000 in
set_option maxHeartbeats 4000000 in
theorem fits_f2 (n left : Nat) (s : Sl) (u : Value) (w : World) (h : 15 < s.k) (hl1 : 1 ≤ left) (hl2 : left ≤ 65) (hu : CM w n u s.ls) (ok : SlOk s) (IH : ListMayR n) :
    Calls Tryz.prog 57 #[s.v u, .int .i64 (left : Int)] w fun e w' => e = .returned (.bool (slM left (lsM (left - 1)) s)) ∧ Below w.heap.size w w' := by
  have E := hide (show slM left (lsM (left - 1)) s = _ from slM_F (.inr h))
  have C1 := hide (fun (W : World) => text9_any s.nm W (by have := ok.hn; omega))
  have C2 := hide (fun (W : World) => text9_any s.vl W (by have := ok.hv; omega))
  have C3 := hide (fun (W : World) (h : Below w.heap.size w W) => IH (left - 1) s.ls u W (by omega) (hu.low h))
  rw [show ((left - 1 : Nat) : Int) = (left : Int) - 1 by omega] at C3
  obtain ⟨ua, uc, hus, hl9⟩ := hu.shape
  obtain ⟨W0, hW0⟩ : ∃ W0, w.alloc (.cells #[.int .i64 s.k, .string s.nm, .int .i64 s.op, .string s.vl, .bool s.fo, u, .int .i64 s.a, .int .i64 s.b] 69) = W0 := ⟨_, rfl⟩
  have HW0 := hide hW0
  have B0 := hide (show Below w.heap.size w W0 by rw [← hW0]; exact bplus (Below.refl _ _) _)
  have P0 := hide (show W0.heap[w.heap.size]? = some (.cells #[.int .i64 s.k, .string s.nm, .int .i64 s.op, .string s.vl, .bool s.fo, u, .int .i64 s.a, .int .i64 s.b] 69) by rw [← hW0]; exact heap_alloc_new w _)
  obtain ⟨c0, c1, c2, c3, c4, c5, c6, c7⟩ := bxk_8 P0.out
  clear hu IH ok hW0
  unfold Sl.v slV
  rw [hus] at c5 HW0 P0 C3 ⊢
  clear hus
  have E2 := E.out
  clear E
  have hb : ((left : Int) == 1) = !(decide (1 < left)) := by rw [Bool.eq_iff_iff]; simp; omega
  generalize decide (1 < left) = R0 at hb E2
  generalize slM left (lsM (left - 1)) s = RR at E2 ⊢
  generalize lsM (left - 1) s.ls = R3 at C3 E2
  generalize chB (bl s.nm) = R1 at C1 E2
  generalize chB (bl s.vl) = R2 at C2 E2
  generalize s.ls.length = ln at C3 HW0 P0 c5 E2 hl9 ⊢
  generalize s.k = k at *
  generalize s.op = op at *
  generalize s.a = a at *
  generalize s.b = b at *
  generalize s.nm = nm at *
  generalize s.vl = vl at *
  generalize s.fo = fo at *
  have E := hide E2
  clear E2
  have t0 : 2 ≤ k := by omega
  have t1 : ¬ (k ≤ 5) := by omega
  have t2 : 6 ≤ k := by omega
  have t3 : ¬ (k ≤ 8) := by omega
  have t4 : ¬ (k < 1) := by omega
  have t5 : 15 < k := by omega
  have q14 : (k == 14) = false := by rw [beq_eq_false_iff_ne]; omega
  have q15 : (k == 15) = false := by rw [beq_eq_false_iff_ne]; omega
  have q5 : (k == 5) = false := by rw [beq_eq_false_iff_ne]; omega
  clear h
  cases R0
  all_goals
    simp only [Bool.not_false, Bool.not_true] at hb
    go_enter Tryz.func57, Tryz.ntmps57
    go_upto_region 1 with fail
    rw [HW0.out]
    clear HW0
    go_wp2_with (first
      | (go_at_call_of 86 (Value.string nm); refine (C1.out _).mono ?_; rintro e w1 ⟨rfl, B1⟩; replace P0 := hide ((B1.block _ (Array.getElem?_eq_some_iff.1 P0.out).1).trans P0.out); replace B0 := hide (bto B0.out B1); clear B1 c0 c1 c2 c3 c4 c5 c6 c7; obtain ⟨c0, c1, c2, c3, c4, c5, c6, c7⟩ := bxk_8 P0.out)
      | (go_at_call_of 86 (Value.string vl); refine (C2.out _).mono ?_; rintro e w2 ⟨rfl, B1⟩; replace P0 := hide ((B1.block _ (Array.getElem?_eq_some_iff.1 P0.out).1).trans P0.out); replace B0 := hide (bto B0.out B1); clear B1 c0 c1 c2 c3 c4 c5 c6 c7; obtain ⟨c0, c1, c2, c3, c4, c5, c6, c7⟩ := bxk_8 P0.out)
      | (go_at_call 35; refine (C3.out _ B0.out).mono ?_; rintro e w3 ⟨rfl, B1⟩; replace P0 := hide ((B1.block _ (Array.getElem?_eq_some_iff.1 P0.out).1).trans P0.out); replace B0 := hide (bto B0.out B1); clear B1 c0 c1 c2 c3 c4 c5 c6 c7; obtain ⟨c0, c1, c2, c3, c4, c5, c6, c7⟩ := bxk_8 P0.out))
    all_goals
      go_ret
      exact ⟨ret_bool E.out.symm, B0.out⟩
end Go.Proofs.YtmkbjcoagfnegaaGreatDoor
set_option linter.unusedVariables false
namespace Go.Proofs.YtmkbjcoagfnegaaGreatDoor
open Go.RowKit

theorem fits9_any (n left : Nat) (s : Sl) (u : Value) (w : World) (hl1 : 1 ≤ left) (hl2 : left ≤ 65) (hu : CM w n u s.ls) (ok : SlOk s) (IH : ListMayR n) :
    Calls Tryz.prog 57 #[s.v u, .int .i64 (left : Int)] w fun e w' => e = .returned (.bool (slM left (lsM (left - 1)) s)) ∧ Below w.heap.size w w' := by
  have W : s.k = 1 ∨ (9 ≤ s.k ∧ s.k ≤ 13) ∨ (2 ≤ s.k ∧ s.k ≤ 4) ∨ s.k = 5 ∨ (6 ≤ s.k ∧ s.k ≤ 8) ∨ s.k = 14 ∨ s.k = 15 ∨ s.k < 1 ∨ 15 < s.k := by omega
  rcases W with h | h | h | h | h | h | h | h | h
  · exact fits_a1 n left s u w h hl1 hl2 hu ok IH
  · exact fits_a2 n left s u w h hl1 hl2 hu ok IH
  · exact fits_b n left s u w h hl1 hl2 hu ok IH
  · exact fits_c n left s u w h hl1 hl2 hu ok IH
  · exact fits_d n left s u w h hl1 hl2 hu ok IH
  · exact fits_e1 n left s u w h hl1 hl2 hu ok IH
  · exact fits_e2 n left s u w h hl1 hl2 hu ok IH
  · exact fits_f1 n left s u w h hl1 hl2 hu ok IH
  · exact fits_f2 n left s u w h hl1 hl2 hu ok IH
end Go.Proofs.YtmkbjcoagfnegaaGreatDoor
set_option linter.unusedVariables false
set_option linter.unusedSimpArgs false
namespace Go.Proofs.YtmkbjcoagfnegaaGreatDoor
open Go.RowKit

theorem coB_zero {k : Nat} {c : Int} (h : k = 0) : coB k c = (c == 0) := by unfold coB; rw [if_pos h]
theorem coB_more {k : Nat} {c : Int} (h : ¬ k = 0) : coB k c = (decide (1 ≤ c) && decide (c ≤ 4)) := by unfold coB; rw [if_neg h]
set_option maxRecDepth 100000 in
set_option maxHeartbeats 12000000 in
theorem mayR9_any (n : Nat) : ListMayR n := by
  induction n with
  | zero =>
    intro left l v W hl hv
    obtain ⟨rfl, a, c, rfl⟩ := hv
    have E := hide (show lsM left [] = false by cases left <;> rfl)
    go_enter Tryz.func35, Tryz.ntmps35
    go_wp2
    go_ret
    exact ⟨ret_bool E.out.symm, Below.refl _ _⟩
  | succ n ih =>
    intro left l v w hl hv
    obtain ⟨a, c, rfl, h9⟩ := hv.shape
    cases left with
    | zero =>
      have E := hide (show lsM 0 l = false from rfl)
      clear hv ih
      by_cases hl0 : l.length = 0
      · rw [hl0]
        go_enter Tryz.func35, Tryz.ntmps35
        go_wp2
        go_ret
        exact ⟨ret_bool E.out.symm, Below.refl _ _⟩
      · have g0 : ((l.length : Int) == 0) = false := by rw [beq_eq_false_iff_ne]; omega
        generalize l.length = ln at g0 h9 hl0 ⊢
        go_enter Tryz.func35, Tryz.ntmps35
        go_wp2
        all_goals
          go_ret
          exact ⟨ret_bool E.out.symm, Below.refl _ _⟩
    | succ left =>
      obtain ⟨d, hd⟩ : ∃ d : Int, d = ((left + 1 : Nat) : Int) := ⟨_, rfl⟩
      have HV := hide hv
      have CS := hide (fun (s : Sl) (u : Value) (W : World) (hW : Below w.heap.size w W) (hu : CM w n u s.ls) (ok : SlOk s) => fits9_any n (left + 1) s u W (by omega) hl (hu.low hW) ok ih)
      have hd1 : 1 ≤ d := by omega
      have hd2 : d ≤ 65 := by omega
      have hd3 : (d == 0) = false := by rw [beq_eq_false_iff_ne]; omega
      rw [← hd] at CS ⊢
      simp only [Nat.add_sub_cancel] at CS
      clear hv ih hd
      by_cases hl0 : l.length = 0
      · obtain rfl : l = [] := List.eq_nil_of_length_eq_zero hl0
        have E := hide (show lsM (left + 1) [] = false from rfl)
        clear CS HV
        go_enter Tryz.func35, Tryz.ntmps35
        go_wp2
        go_ret
        exact ⟨ret_bool E.out.symm, Below.refl _ _⟩
      · have g0 : ((l.length : Int) == 0) = false := by rw [beq_eq_false_iff_ne]; omega
        go_enter Tryz.func35, Tryz.ntmps35
        go_wp2
        go_loopw [20] (fun i wr => RelAI (fun _ c => cxM (left + 1) (lsM left) c) l w i wr) (fun i _ => l.length - (intOf i).toNat)
        case atStart => exact .mk 0 rfl (by omega) (Below.refl _ _) (fun j y hj => by omega)
        case round =>
          obtain ⟨k, rfl, hk, R⟩ := hrel
          have BE := hide R.out.1
          by_cases hlt : k < l.length
          · obtain ⟨s, hs⟩ : ∃ s, l[k]? = some s := ⟨_, List.getElem?_eq_getElem hlt⟩
            obtain ⟨b, o, c', u, hv', hb, e0, hu⟩ := HV.out.at hs
            obtain ⟨rfl, rfl⟩ : a = some ⟨b, o, none⟩ ∧ c = c' := by cases hv'; exact ⟨rfl, rfl⟩
            have hlt' : (k : Int) < l.length := by omega
            have f0 := (BE.out.cell (p := ⟨b, o + k * 1, none⟩) hb).trans e0
            rw [Nat.mul_one] at f0
            have hbw : b < wr.heap.size := by have := BE.out.size; omega
            have nb : b ≠ wr.heap.size := by omega
            have NO := hide (fun (h : cxM (left + 1) (lsM left) s = false) => show lsM (left + 1) l = false by unfold lsM; rw [allI_no hs h]; simp)
            have YES := hide (fun (h : cxM (left + 1) (lsM left) s = true) => allI_snoc (f := fun _ c => cxM (left + 1) (lsM left) c) R.out.2 hs h)
            have HU := hide hu
            obtain ⟨ua, uc, hus, hs9⟩ := hu.shape
            clear e0 hv' hs hu R
            have BB := hide (bplus BE.out (.cells #[u] 40))
            subst hus
            by_cases hs0 : s.length = 0
            · obtain rfl : s = [] := List.eq_nil_of_length_eq_zero hs0
              have F := hide (NO.out rfl)
              clear NO YES HU
              go_wp2
              go_ret
              exact ⟨ret_bool F.out.symm, BB.out⟩
            · have g1 : ((s.length : Int) == 0) = false := by rw [beq_eq_false_iff_ne]; omega
              have SN := hide (show s.isEmpty = false by cases s with | nil => simp at hs0 | cons x r => rfl)
              go_wp2
              go_loopw [31] (fun i wr => RelAI (cxF (left + 1) (lsM left)) s w i wr) (fun i _ => s.length - (intOf i).toNat)
              case atStart => exact .mk 0 rfl (by omega) BB.out (fun j y hj => by omega)
              case round =>
                clear f0 hbw nb BB BE
                obtain ⟨k2, rfl, hk2, R2⟩ := hrel
                have BE := hide R2.out.1
                by_cases hlt2 : k2 < s.length
                · obtain ⟨p, hp⟩ : ∃ p, s[k2]? = some p := ⟨_, List.getElem?_eq_getElem hlt2⟩
                  obtain ⟨b2, o2, c2', u2, hv2, hb2, p0, p1, hu2, pk1, pk2⟩ := HU.out.at hp
                  obtain ⟨rfl, rfl⟩ : ua = some ⟨b2, o2, none⟩ ∧ uc = c2' := by cases hv2; exact ⟨rfl, rfl⟩
                  have hlt2' : (k2 : Int) < s.length := by omega
                  have f0 := (BE.out.cell (p := ⟨b2, o2 + k2 * 2, none⟩) hb2).trans p0
                  have f1 := (BE.out.cell (p := ⟨b2, o2 + k2 * 2 + 1, none⟩) hb2).trans p1
                  have hbw2 : b2 < wr.heap.size := by have := BE.out.size; omega
                  have nb2 : b2 ≠ wr.heap.size := by omega
                  have NO2 := hide (fun (h : cxF (left + 1) (lsM left) k2 p = false) => NO.out (by unfold cxM; rw [allI_no hp h]; simp))
                  have YES2 := hide (fun (h : cxF (left + 1) (lsM left) k2 p = true) => allI_snoc R2.out.2 hp h)
                  have HU2 := hide hu2
                  obtain ⟨ua2, uc2, hus2, hs29⟩ := hu2.shape
                  clear p0 p1 hv2 hp hu2 R2
                  obtain ⟨cm, ss⟩ := p
                  simp only at f0 f1 HU2 hus2 hs29 pk1 pk2
                  have NO3 := hide (fun (h : (coB k2 cm && cpM (left + 1) (lsM left) ss) = false) => NO2.out h)
                  have YES3 := hide (fun (h : (coB k2 cm && cpM (left + 1) (lsM left) ss) = true) => YES2.out h)
                  clear NO2 YES2
                  subst hus2
                  have BB := hide (bplus BE.out (.cells #[.int .i64 cm, .slice ua2 ss.length uc2] 67))
                  by_cases hss : ss.length = 0
                  · obtain rfl : ss = [] := List.eq_nil_of_length_eq_zero hss
                    have F := hide (NO3.out (by simp [cpM]))
                    clear NO3 YES3 HU2
                    go_wp2
                    go_ret
                    exact ⟨ret_bool F.out.symm, BB.out⟩
                  · have g2 : ((ss.length : Int) == 0) = false := by rw [beq_eq_false_iff_ne]; omega
                    have SS := hide (show ss.isEmpty = false by cases ss with | nil => simp at hss | cons x r => rfl)
                    obtain ⟨W1, hW1⟩ : ∃ W1, wr.alloc (.cells #[.int .i64 cm, .slice ua2 ss.length uc2] 67) = W1 := ⟨_, rfl⟩
                    have HW1 := hide hW1
                    have P1 := hide (show W1.heap[wr.heap.size]? = some (.cells #[.int .i64 cm, .slice ua2 ss.length uc2] 67) by rw [← hW1]; exact heap_alloc_new wr _)
                    rw [hW1] at BB
                    clear hW1
                    obtain ⟨m0, m1⟩ := bxk_2 P1.out
                    obtain ⟨bad, hbad⟩ : ∃ bad, (!coB k2 cm) = bad := ⟨_, rfl⟩
                    have HBAD := hide hbad
                    clear hbad
                    go_upto_region 11 with fail
                    rw [HW1.out]
                    go_cut [62] (fun x wx => x = .bool bad ∧ wx = W1)
                    case first =>
                      clear NO3 YES3 HU2 f0 f1
                      by_cases hk0 : k2 = 0
                      · have z1 : ((k2 : Int) == 0) = true := by simp [hk0]
                        have z2 : ¬ (0 : Int) < (k2 : Int) := by omega
                        have z3 : decide (0 < k2) = false := by simp [hk0]
                        have EB := hide (show bad = !(cm == 0) by rw [← HBAD.out, coB_zero hk0])
                        clear HBAD hk0
                        by_cases hc : cm = 0
                        · have zc : (cm == 0) = true := by simpa using hc
                          have EB2 := hide (show bad = false by rw [EB.out, zc]; rfl)
                          clear EB zc
                          subst hc
                          go_wp2
                          go_meet
                          case rel => exact ⟨by rw [EB2.out], rfl⟩
                        · have zc : (cm == 0) = false := by simpa using hc
                          have EB2 := hide (show bad = true by rw [EB.out, zc]; rfl)
                          clear EB
                          go_wp2
                          go_meet
                          case rel => exact ⟨by rw [EB2.out], rfl⟩
                      · have z1 : ((k2 : Int) == 0) = false := by rw [beq_eq_false_iff_ne]; omega
                        have z2 : (0 : Int) < (k2 : Int) := by omega
                        have z3 : decide (0 < k2) = true := by simp; omega
                        have z4 : 0 < k2 := by omega
                        have EB := hide (show bad = !(decide (1 ≤ cm) && decide (cm ≤ 4)) by rw [← HBAD.out, coB_more hk0])
                        clear HBAD hk0
                        by_cases hc : cm < 1
                        · have EB2 := hide (show bad = true by rw [EB.out, show decide (1 ≤ cm) = false by simp; omega]; rfl)
                          clear EB
                          go_wp2
                          go_meet
                          case rel => exact ⟨by rw [EB2.out], rfl⟩
                        · by_cases hc2 : 4 < cm
                          · have EB2 := hide (show bad = true by rw [EB.out, show decide (cm ≤ 4) = false by simp; omega]; simp)
                            clear EB
                            go_wp2
                            go_meet
                            case rel => exact ⟨by rw [EB2.out], rfl⟩
                          · have EB2 := hide (show bad = false by rw [EB.out, show decide (1 ≤ cm) = true by simp; omega, show decide (cm ≤ 4) = true by simp; omega]; rfl)
                            clear EB
                            go_wp2
                            go_meet
                            case rel => exact ⟨by rw [EB2.out], rfl⟩
                    case rest =>
                      obtain ⟨rfl, rfl⟩ := hcut
                      cases hbd : bad
                      · have CO := hide (show coB k2 cm = true by have := HBAD.out; rw [hbd] at this; cases h : coB k2 cm; rw [h] at this; cases this; rfl)
                        have NO4 := hide (fun (h : cpM (left + 1) (lsM left) ss = false) => NO3.out (by rw [h]; simp))
                        have YES4 := hide (fun (h : cpM (left + 1) (lsM left) ss = true) => YES3.out (by rw [CO.out, h]; rfl))
                        clear NO3 YES3 HBAD hbd f0 f1 HW1
                        go_wp2
                        go_loopw [66] (fun i wr => RelAI (cpF (left + 1) (lsM left)) ss w i wr) (fun i _ => ss.length - (intOf i).toNat)
                        case atStart => exact .mk 0 rfl (by omega) BB.out (fun j y hj => by omega)
                        case round =>
                          clear m0 m1 BB BE P1 hbw2 nb2
                          obtain ⟨k3, rfl, hk3, R3⟩ := hrel
                          have BE := hide R3.out.1
                          by_cases hlt3 : k3 < ss.length
                          · obtain ⟨t, ht⟩ : ∃ t, ss[k3]? = some t := ⟨_, List.getElem?_eq_getElem hlt3⟩
                            obtain ⟨b3, o3, c3', u3', hv3, hb3, ⟨e0, e1, e2, e3, e4, e5, e6, e7⟩, hu3, ok3⟩ := HU2.out.at ht
                            obtain ⟨rfl, rfl⟩ : ua2 = some ⟨b3, o3, none⟩ ∧ uc2 = c3' := by cases hv3; exact ⟨rfl, rfl⟩
                            have hlt3' : (k3 : Int) < ss.length := by omega
                            have f0 := (BE.out.cell (p := ⟨b3, o3 + k3 * 8, none⟩) hb3).trans e0
                            have f1 := (BE.out.cell (p := ⟨b3, o3 + k3 * 8 + 1, none⟩) hb3).trans e1
                            have f2 := (BE.out.cell (p := ⟨b3, o3 + k3 * 8 + 2, none⟩) hb3).trans e2
                            have f3 := (BE.out.cell (p := ⟨b3, o3 + k3 * 8 + 3, none⟩) hb3).trans e3
                            have f4 := (BE.out.cell (p := ⟨b3, o3 + k3 * 8 + 4, none⟩) hb3).trans e4
                            have f5 := (BE.out.cell (p := ⟨b3, o3 + k3 * 8 + 5, none⟩) hb3).trans e5
                            have f6 := (BE.out.cell (p := ⟨b3, o3 + k3 * 8 + 6, none⟩) hb3).trans e6
                            have f7 := (BE.out.cell (p := ⟨b3, o3 + k3 * 8 + 7, none⟩) hb3).trans e7
                            have hbw3 : b3 < wr.heap.size := by have := BE.out.size; omega
                            have nb3 : b3 ≠ wr.heap.size := by omega
                            have NO5 := hide (fun (h : cpF (left + 1) (lsM left) k3 t = false) => NO4.out (by unfold cpM; rw [allI_no ht h]; simp))
                            have YES5 := hide (fun (h : cpF (left + 1) (lsM left) k3 t = true) => allI_snoc R3.out.2 ht h)
                            have KF1 := hide (@cpF_first (left + 1) (lsM left) k3 t)
                            have KF2 := hide (@cpF_slM (left + 1) (lsM left) k3 t)
                            have CS1 := hide (fun (W : World) (hW : Below w.heap.size w W) => CS.out t u3' W hW hu3 ok3)
                            obtain ⟨ua3, uc3, hus3, _⟩ := hu3.shape
                            clear e0 e1 e2 e3 e4 e5 e6 e7 hv3 ht hu3 ok3 R3
                            have B3 := hide (bplus BE.out (.cells #[.int .i64 t.k, .string t.nm, .int .i64 t.op, .string t.vl, .bool t.fo, u3', .int .i64 t.a, .int .i64 t.b] 69))
                            unfold Sl.v slV at CS1
                            subst hus3
                            generalize cpF (left + 1) (lsM left) k3 t = RF at NO5 YES5 KF1 KF2
                            generalize slM (left + 1) (lsM left) t = RS at CS1 KF2
                            generalize t.ls.length = ln at CS1 f5 B3
                            generalize t.k = tk at *
                            generalize t.op = top at *
                            generalize t.a = ta at *
                            generalize t.b = tb' at *
                            generalize t.nm = tnm at *
                            generalize t.vl = tvl at *
                            generalize t.fo = tfo at *
                            by_cases hf : ¬ k3 = 0 ∧ (tk = 1 ∨ tk = 2)
                            · have F := hide (NO5.out (KF1.out hf.1 hf.2))
                              have hk0 : (0 : Int) < (k3 : Int) := by omega
                              have hk0' : 0 < k3 := by omega
                              obtain ⟨_, hsk⟩ := hf
                              clear NO5 YES5 KF1 KF2 CS1
                              rcases hsk with rfl | rfl
                              all_goals
                                go_wp2
                                go_ret
                                exact ⟨ret_bool F.out.symm, B3.out⟩
                            · have hf' : k3 = 0 ∨ (tk ≠ 1 ∧ tk ≠ 2) := by omega
                              have KF := hide (KF2.out hf')
                              clear KF1 KF2 hf
                              cases RS with
                              | false =>
                                have F := hide (NO5.out KF.out)
                                clear NO5 YES5 KF
                                rcases hf' with h0 | ⟨h1, h2⟩
                                · have z1 : decide (0 < k3) = false := by simp; omega
                                  have z2 : ¬ (0 : Int) < (k3 : Int) := by omega
                                  clear h0
                                  go_wp2_with (go_at_call 57; refine (CS1.out _ B3.out).mono ?_; rintro e w3 ⟨rfl, B4⟩; replace B3 := hide (bto B3.out B4); clear B4)
                                  go_ret
                                  exact ⟨ret_bool F.out.symm, B3.out⟩
                                · have q1 : (tk == 1) = false := by simpa using h1
                                  have q2 : (tk == 2) = false := by simpa using h2
                                  go_wp2_with (go_at_call 57; refine (CS1.out _ B3.out).mono ?_; rintro e w3 ⟨rfl, B4⟩; replace B3 := hide (bto B3.out B4); clear B4)
                                  all_goals
                                    go_ret
                                    exact ⟨ret_bool F.out.symm, B3.out⟩
                              | true =>
                                have Y := hide (YES5.out KF.out)
                                clear NO5 YES5 KF
                                rcases hf' with h0 | ⟨h1, h2⟩
                                · have z1 : decide (0 < k3) = false := by simp; omega
                                  have z2 : ¬ (0 : Int) < (k3 : Int) := by omega
                                  clear h0
                                  go_wp2_with (go_at_call 57; refine (CS1.out _ B3.out).mono ?_; rintro e w3 ⟨rfl, B4⟩; replace B3 := hide (bto B3.out B4); clear B4)
                                  go_roundw
                                  case rel => exact .mk (k3 + 1) (by go_num) (by omega) B3.out Y.out
                                  case measure => simp [intOf]; omega
                                · have q1 : (tk == 1) = false := by simpa using h1
                                  have q2 : (tk == 2) = false := by simpa using h2
                                  go_wp2_with (go_at_call 57; refine (CS1.out _ B3.out).mono ?_; rintro e w3 ⟨rfl, B4⟩; replace B3 := hide (bto B3.out B4); clear B4)
                                  all_goals
                                    go_roundw
                                    case rel => exact .mk (k3 + 1) (by go_num) (by omega) B3.out Y.out
                                    case measure => simp [intOf]; omega
                          · have hlt3' : ¬ (k3 : Int) < ss.length := by omega
                            have Y := hide (YES4.out (by unfold cpM; rw [SS.out, allI_end R3.out.2 (by omega)]; rfl))
                            clear R3
                            go_wp2
                            go_roundw
                            case rel => exact .mk (k2 + 1) (by go_num) (by omega) BE.out Y.out
                            case measure => simp [intOf]; omega
                      · have F := hide (NO3.out (by have := HBAD.out; rw [hbd] at this; cases h : coB k2 cm; rfl; rw [h] at this; cases this))
                        clear NO3 YES3 HBAD hbd
                        go_wp2
                        go_ret
                        exact ⟨ret_bool F.out.symm, BB.out⟩
                · have hlt2' : ¬ (k2 : Int) < s.length := by omega
                  have Y := hide (YES.out (by unfold cxM; rw [SN.out, allI_end R2.out.2 (by omega)]; rfl))
                  clear R2
                  go_wp2
                  go_roundw
                  case rel => exact .mk (k + 1) (by go_num) (by omega) BE.out Y.out
                  case measure => simp [intOf]; omega
          · have hlt' : ¬ (k : Int) < l.length := by omega
            have F := hide (show lsM (left + 1) l = true by
              unfold lsM
              rw [allI_end R.out.2 (by omega)]
              cases l with
              | nil => simp at hl0
              | cons x r => rfl)
            clear R
            go_wp2
            go_ret
            exact ⟨ret_bool F.out.symm, BE.out⟩
theorem mayRR9_any (n : Nat) (l : List Cx) (v : Value) (w : World) (hv : CM w n v l) :
    Calls Tryz.prog 16 #[v] w fun e w' => e = .returned (.bool (lsM 65 l)) ∧ Below w.heap.size w w' := by
  have C := hide (mayR9_any n 65 l v w (Nat.le_refl _) hv)
  rw [show ((65 : Nat) : Int) = 65 by decide] at C
  clear hv
  go_enter Tryz.func16, Tryz.ntmps16
  go_wp2_with (go_at_call 35; refine C.out.mono ?_; rintro e w1 ⟨rfl, B⟩; replace B := hide B)
  go_ret
  exact ⟨rfl, B.out⟩
end Go.Proofs.YtmkbjcoagfnegaaGreatDoor
set_option linter.unusedVariables false
set_option linter.unusedSimpArgs false
namespace Go.Proofs.YtmkbjcoagfnegaaGreatDoor
open Go.RowKit

theorem z_ways (n d : Int) (i h : Bool) : ((n == 0) = false ∧ zB n d i = false) ∨ ((n == 0) = true ∧ (d == 0) = false ∧ zB n d i = false) ∨ ((n == 0) = true ∧ (d == 0) = true ∧ i = true ∧ zB n d i = false) ∨ ((n == 0) = true ∧ (d == 0) = true ∧ i = false ∧ zB n d i = true) := by
  unfold zB
  cases (n == 0) <;> cases (d == 0) <;> cases i <;> simp
/-- Where the reference's May stands behind its characters. -/
structure MR (w w1 : World) (k : Int) (s : ByteArray) (n d : Int) (i h : Bool) : Prop where
  bel : Below w.heap.size w w1
  t0 : Tok6 w1 w.heap.size k s n d i h
  t1 : Tok6 w1 (w.heap.size + 1) k ⟨#[]⟩ 0 0 false false
  fr : ∀ j, w1.frozen? ⟨w.heap.size + 1, j, none⟩ = false
  ap : ∀ j x, w1.cell? ⟨w.heap.size + 1, j, none⟩ ≠ some (.int .i32 x)
theorem MR.mk' {w w1 : World} {k : Int} {s : ByteArray} {n d : Int} {i h : Bool} (hb : Below ((w.alloc (.cells #[.int .i64 k, .string s, .int .i64 n, .int .i64 d, .bool i, .bool h] 73)).alloc (.cells #[.int .i64 k, .string ⟨#[]⟩, .int .i64 0, .int .i64 0, .bool false, .bool false] 73)).heap.size ((w.alloc (.cells #[.int .i64 k, .string s, .int .i64 n, .int .i64 d, .bool i, .bool h] 73)).alloc (.cells #[.int .i64 k, .string ⟨#[]⟩, .int .i64 0, .int .i64 0, .bool false, .bool false] 73)) w1) : MR w w1 k s n d i h := by
  have e1 : (w.alloc (.cells #[.int .i64 k, .string s, .int .i64 n, .int .i64 d, .bool i, .bool h] 73)).heap.size = w.heap.size + 1 := by simp
  have T0 := ((Tok6.box w k s n d i h 73).below (bplus (Below.refl _ _) (.cells #[.int .i64 k, .string ⟨#[]⟩, .int .i64 0, .int .i64 0, .bool false, .bool false] 73))).below hb
  have T1 := (Tok6.box (w.alloc (.cells #[.int .i64 k, .string s, .int .i64 n, .int .i64 d, .bool i, .bool h] 73)) k ⟨#[]⟩ 0 0 false false 73).below hb
  rw [e1] at T1
  refine ⟨bto (bplus (bplus (Below.refl _ _) _) _) hb, T0, T1, fun j => ?_, fun j x hx => ?_⟩
  rotate_left
  · rw [hb.cell (p := ⟨w.heap.size + 1, j, none⟩) (by simp)] at hx
    have hblk := heap_alloc_new (w.alloc (.cells #[.int .i64 k, .string s, .int .i64 n, .int .i64 d, .bool i, .bool h] 73)) (.cells #[.int .i64 k, .string ⟨#[]⟩, .int .i64 0, .int .i64 0, .bool false, .bool false] 73)
    rw [e1] at hblk
    rw [row_blk hblk] at hx
    match j with
    | 0 => simp at hx
    | 1 => simp at hx
    | 2 => simp at hx
    | 3 => simp at hx
    | 4 => simp at hx
    | 5 => simp at hx
    | j + 6 => simp at hx
  rw [hb.frozen (p := ⟨w.heap.size + 1, j, none⟩) (by simp)]
  have := World.frozen?_alloc_new (w.alloc (.cells #[.int .i64 k, .string s, .int .i64 n, .int .i64 d, .bool i, .bool h] 73)) #[.int .i64 k, .string ⟨#[]⟩, .int .i64 0, .int .i64 0, .bool false, .bool false] 73 j
  rw [e1] at this
  exact this
theorem nums_len {k : IntKind} {w : World} {a : Option Addr} {n c : Nat} {l : List Int} (h : Nums k w (.slice a n c) l) : n = l.length := by
  rcases h with ⟨a', c', h1, h2⟩ | ⟨b, o, m, c', h1, h2, _⟩
  · simp at h1; rw [h2, h1.2.1]; rfl
  · simp at h1; omega
set_option maxRecDepth 100000 in
set_option maxHeartbeats 4000000 in
theorem mayR_name (k : Int) (s : ByteArray) (n d : Int) (i h : Bool) (w : World) (hk : k = 1 ∨ k = 2 ∨ k = 3) (hs : s.size ≤ 1099511627776) :
    Calls Tryz.prog 120 #[tokV k s n d i h] w fun e w' => e = .returned (.bool (mayT k (bl s) n d i h)) ∧ Below w.heap.size w w' := by
  have M := hide (may_name hk (bl s) n d i h)
  unfold tokV
  have CH := hide (fun W => charsR_any s W hs)
  have RE := hide (raw_empty (bl s))
  have EM := hide (emp_iff s)
  go_enter Tryz.func120, Tryz.ntmps120
  go_wp2_with fail
  go_at_call 114
  refine (CH.out _).mono ?_
  rintro e w1 ⟨a, nn, c, rfl, hN, hb⟩
  have R := MR.mk' hb
  clear hb
  have BB := hide R.bel
  obtain ⟨z0, p0, p1, p2, p3, p4, p5⟩ := R.t0
  obtain ⟨z1, q0, q1, q2, q3, q4, q5⟩ := R.t1
  have fr1 := R.fr 1
  clear R
  have NL := hide (fun hc => nums_len (hN hc))
  clear hN
  rcases z_ways n d i h with ⟨x1, x2⟩ | ⟨x1, x3, x2⟩ | ⟨x1, x3, rfl, x2⟩ | ⟨x1, x3, rfl, x2⟩
  case inr.inr.inr =>
    cases h with
    | true =>
      have F := hide (show mayT k (bl s) n d false true = false by rw [M.out]; simp)
      rcases hk with rfl | rfl | rfl
      all_goals
        go_wp2
        go_ret
        refine ⟨ret_bool F.out.symm, ?_⟩
        repeat (first | (with_reducible exact BB.out) | (with_reducible refine Below.setCell ?_ (by simp) _) | (with_reducible refine bplus ?_ _))
    | false =>
      have M2 := hide (show mayT k (bl s) n d false false = (chB (bl s) && !(bl s).isEmpty) by rw [M.out, x2]; rfl)
      cases hc : chB (bl s) with
      | false =>
        have F := hide (show mayT k (bl s) n d false false = false by rw [M2.out, hc]; rfl)
        clear hc
        rcases hk with rfl | rfl | rfl
        all_goals
          go_wp2
          go_ret
          refine ⟨ret_bool F.out.symm, ?_⟩
          repeat (first | (with_reducible exact BB.out) | (with_reducible refine Below.setCell ?_ (by simp) _) | (with_reducible refine bplus ?_ _))
      | true =>
        have hl := NL.out hc
        by_cases he : bl s = []
        · have F := hide (show mayT k (bl s) n d false false = false by rw [M2.out, he]; simp)
          have hnn : ¬ (0 : Int) < nn := by have := RE.out.2 he; omega
          clear hc hl he
          rcases hk with rfl | rfl | rfl
          all_goals
            go_wp2
            go_ret
            refine ⟨ret_bool (by rw [F.out]; simp; omega), ?_⟩
            repeat (first | (with_reducible exact BB.out) | (with_reducible refine Below.setCell ?_ (by simp) _) | (with_reducible refine bplus ?_ _))
        · have F := hide (show mayT k (bl s) n d false false = true by rw [M2.out, hc]; cases hb : bl s; exact absurd hb he; rfl)
          have hnn : (0 : Int) < nn := by
            have : ¬ (raw (bl s)).length = 0 := fun h0 => he (RE.out.1 h0)
            omega
          clear hc hl he
          rcases hk with rfl | rfl | rfl
          all_goals
            go_wp2
            go_ret
            refine ⟨ret_bool (by rw [F.out]; simp; omega), ?_⟩
            repeat (first | (with_reducible exact BB.out) | (with_reducible refine Below.setCell ?_ (by simp) _) | (with_reducible refine bplus ?_ _))
  all_goals
    have F := hide (M.out.trans (by rw [x2, Bool.false_and, Bool.false_and]))
    rcases hk with rfl | rfl | rfl
    all_goals
      go_wp2
      go_ret
      refine ⟨ret_bool F.out.symm, ?_⟩
      repeat (first | (with_reducible exact BB.out) | (with_reducible refine Below.setCell ?_ (by simp) _) | (with_reducible refine bplus ?_ _))
set_option maxRecDepth 100000 in
set_option maxHeartbeats 4000000 in
theorem mayR_text (k : Int) (s : ByteArray) (n d : Int) (i h : Bool) (w : World) (hk : k = 5 ∨ k = 7) (hs : s.size ≤ 1099511627776) :
    Calls Tryz.prog 120 #[tokV k s n d i h] w fun e w' => e = .returned (.bool (mayT k (bl s) n d i h)) ∧ Below w.heap.size w w' := by
  have M := hide (may_text hk (bl s) n d i h)
  unfold tokV
  have CH := hide (fun W => charsR_any s W hs)
  have RE := hide (raw_empty (bl s))
  have EM := hide (emp_iff s)
  go_enter Tryz.func120, Tryz.ntmps120
  go_wp2_with fail
  go_at_call 114
  refine (CH.out _).mono ?_
  rintro e w1 ⟨a, nn, c, rfl, hN, hb⟩
  have R := MR.mk' hb
  clear hb
  have BB := hide R.bel
  obtain ⟨z0, p0, p1, p2, p3, p4, p5⟩ := R.t0
  obtain ⟨z1, q0, q1, q2, q3, q4, q5⟩ := R.t1
  have fr1 := R.fr 1
  clear R
  have NL := hide (fun hc => nums_len (hN hc))
  clear hN
  rcases z_ways n d i h with ⟨x1, x2⟩ | ⟨x1, x3, x2⟩ | ⟨x1, x3, rfl, x2⟩ | ⟨x1, x3, rfl, x2⟩
  case inr.inr.inr =>
    cases h with
    | true =>
      have F := hide (show mayT k (bl s) n d false true = false by rw [M.out]; simp)
      rcases hk with rfl | rfl
      all_goals
        go_wp2
        go_ret
        refine ⟨ret_bool F.out.symm, ?_⟩
        repeat (first | (with_reducible exact BB.out) | (with_reducible refine Below.setCell ?_ (by simp) _) | (with_reducible refine bplus ?_ _))
    | false =>
      have F := hide (show mayT k (bl s) n d false false = chB (bl s) by rw [M.out, x2]; rfl)
      rcases hk with rfl | rfl
      all_goals
        go_wp2
        go_ret
        refine ⟨ret_bool F.out.symm, ?_⟩
        repeat (first | (with_reducible exact BB.out) | (with_reducible refine Below.setCell ?_ (by simp) _) | (with_reducible refine bplus ?_ _))
  all_goals
    have F := hide (M.out.trans (by rw [x2, Bool.false_and, Bool.false_and]))
    rcases hk with rfl | rfl
    all_goals
      go_wp2
      go_ret
      refine ⟨ret_bool F.out.symm, ?_⟩
      repeat (first | (with_reducible exact BB.out) | (with_reducible refine Below.setCell ?_ (by simp) _) | (with_reducible refine bplus ?_ _))
set_option maxRecDepth 100000 in
set_option maxHeartbeats 4000000 in
theorem mayR_rest (k : Int) (s : ByteArray) (n d : Int) (i h : Bool) (w : World) (hk : ¬ (k = 1 ∨ k = 2 ∨ k = 3 ∨ k = 4 ∨ k = 5 ∨ k = 7 ∨ k = 9 ∨ k = 10 ∨ k = 11 ∨ k = 12)) (hs : s.size ≤ 1099511627776) :
    Calls Tryz.prog 120 #[tokV k s n d i h] w fun e w' => e = .returned (.bool (mayT k (bl s) n d i h)) ∧ Below w.heap.size w w' := by
  have M := hide (may_rest hk (bl s) n d i h)
  have g1 : (k == 1) = false := by simp; omega
  have g2 : (k == 2) = false := by simp; omega
  have g3 : (k == 3) = false := by simp; omega
  have g4 : (k == 4) = false := by simp; omega
  have g5 : (k == 5) = false := by simp; omega
  have g7 : (k == 7) = false := by simp; omega
  have g9 : (k == 9) = false := by simp; omega
  have g10 : (k == 10) = false := by simp; omega
  have g11 : (k == 11) = false := by simp; omega
  have g12 : (k == 12) = false := by simp; omega
  clear hk
  unfold tokV
  have CH := hide (fun W => charsR_any s W hs)
  have RE := hide (raw_empty (bl s))
  have EM := hide (emp_iff s)
  go_enter Tryz.func120, Tryz.ntmps120
  go_wp2_with fail
  go_at_call 114
  refine (CH.out _).mono ?_
  rintro e w1 ⟨a, nn, c, rfl, hN, hb⟩
  have R := MR.mk' hb
  clear hb
  have BB := hide R.bel
  obtain ⟨z0, p0, p1, p2, p3, p4, p5⟩ := R.t0
  obtain ⟨z1, q0, q1, q2, q3, q4, q5⟩ := R.t1
  clear R
  have NL := hide (fun hc => nums_len (hN hc))
  clear hN
  by_cases k1 : 1 ≤ k
  · by_cases k2 : k ≤ 24
    · have M2 := hide (show mayT k (bl s) n d i h = (s.toList.isEmpty && (zB n d i && !h)) by rw [M.out, ← EM.out]; simp [k1, k2])
      cases he : s.toList.isEmpty with
      | false =>
        have F := hide (show mayT k (bl s) n d i h = false by rw [M2.out, he]; rfl)
        have hse : (s.toList == []) = false := by
          cases hq : s.toList with
          | nil => rw [hq] at he; cases he
          | cons c r => rfl
        go_wp2
        go_ret
        refine ⟨ret_bool F.out.symm, ?_⟩
        repeat (first | (with_reducible exact BB.out) | (with_reducible refine Below.setCell ?_ (by simp) _) | (with_reducible refine bplus ?_ _))
      | true =>
        rcases z_ways n d i h with ⟨x1, x2⟩ | ⟨x1, x3, x2⟩ | ⟨x1, x3, rfl, x2⟩ | ⟨x1, x3, rfl, x2⟩
        case inr.inr.inr =>
          cases h
          all_goals
            have F := hide (M2.out.trans (by rw [he, x2]))
            go_wp2
            go_ret
            refine ⟨ret_bool F.out.symm, ?_⟩
            repeat (first | (with_reducible exact BB.out) | (with_reducible refine Below.setCell ?_ (by simp) _) | (with_reducible refine bplus ?_ _))
        all_goals
          have F := hide (M2.out.trans (by rw [he, x2, Bool.false_and, Bool.and_false]))
          go_wp2
          go_ret
          refine ⟨ret_bool F.out.symm, ?_⟩
          repeat (first | (with_reducible exact BB.out) | (with_reducible refine Below.setCell ?_ (by simp) _) | (with_reducible refine bplus ?_ _))
    · have F := hide (show mayT k (bl s) n d i h = false by rw [M.out]; simp [k2])
      have k2' : 24 < k := by omega
      go_wp2
      go_ret
      refine ⟨ret_bool F.out.symm, ?_⟩
      repeat (first | (with_reducible exact BB.out) | (with_reducible refine Below.setCell ?_ (by simp) _) | (with_reducible refine bplus ?_ _))
  · have F := hide (show mayT k (bl s) n d i h = false by rw [M.out]; simp [k1])
    have k1' : k < 1 := by omega
    go_wp2
    go_ret
    refine ⟨ret_bool F.out.symm, ?_⟩
    repeat (first | (with_reducible exact BB.out) | (with_reducible refine Below.setCell ?_ (by simp) _) | (with_reducible refine bplus ?_ _))
end Go.Proofs.YtmkbjcoagfnegaaGreatDoor
