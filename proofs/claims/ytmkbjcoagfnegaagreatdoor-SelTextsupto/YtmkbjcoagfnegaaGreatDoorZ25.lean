/-
  A simple selector that may be: by the reference: one of its kinds.
  A simple selector that may be: by the reference: all kinds.
  A list of selectors that may be: by the reference.
  A list's text: by the reference.
-/
import Derived.Test.YtmkbjcoagfnegaaGreatDoorZ22
import Derived.Test.YtmkbjcoagfnegaaGreatDoorZ23
import Derived.Test.YtmkbjcoagfnegaaGreatDoorZ24
import Derived.Deep.DeepCutAuto
import Derived.Test.YtmkbjcoagfnegaaGreatDoorZ21
set_option linter.unusedVariables false
set_option linter.unusedSimpArgs false
namespace Go.Proofs.YtmkbjcoagfnegaaGreatDoor
open Go.RowKit

set_option maxRecDepth 100000 in
set_option maxHeartbeats 4000000 in
theorem fits_f2 (n left : Nat) (s : Sl) (u : Value) (w : World) (h : 15 < s.k) (hl1 : 1 ≤ left) (hl2 : left ≤ 65) (hu : CM w n u s.ls) (ok : SlOk s) (IH : ListMayR n) :
    Calls Tryz.prog 57 #[s.v u, .int .i64 (left : Int)] w fun e w' => e = .returned (.bool (slM left (lsM (left - 1)) s)) ∧ Below w.heap.size w w' := by
  have E := hide (show slM left (lsM (left - 1)) s = _ from slM_F (.inr h))
  have C1 := hide (fun (W : World) => text9_any s.nm W (by have := ok.hn; omega))
  have C2 := hide (fun (W : World) => text9_any s.vl W (by have := ok.hv; omega))
  have C3 := hide (fun (W : World) (h : Below w.heap.size w W) => IH (left - 1) s.ls u W (by omega) (hu.low h))
  rw [show ((left - 1 : Nat) : Int) = (left : Int) - 1 by omega] at C3
  obtain ⟨ua, uc, hus, hl9⟩ := hu.shape
  obtain ⟨W0, hW0⟩ : ∃ W0, w.alloc (.cells #[.int .i64 s.k, .string s.nm, .int .i64 s.op, .string s.vl, .bool s.fo, u, .int .i64 s.a, .int .i64 s.b] 69) = W0 := ⟨_, rfl⟩
  have HW0 := hide hW0
  have B0 := hide (show Below w.heap.size w W0 by rw [← hW0]; exact bplus (Below.refl _ _) _)
  have P0 := hide (show W0.heap[w.heap.size]? = some (.cells #[.int .i64 s.k, .string s.nm, .int .i64 s.op, .string s.vl, .bool s.fo, u, .int .i64 s.a, .int .i64 s.b] 69) by rw [← hW0]; exact heap_alloc_new w _)
  obtain ⟨c0, c1, c2, c3, c4, c5, c6, c7⟩ := bxk_8 P0.out
  clear hu IH ok hW0
  unfold Sl.v slV
  rw [hus] at c5 HW0 P0 C3 ⊢
  clear hus
  have E2 := E.out
  clear E
  have hb : ((left : Int) == 1) = !(decide (1 < left)) := by rw [Bool.eq_iff_iff]; simp; omega
  generalize decide (1 < left) = R0 at hb E2
  generalize slM left (lsM (left - 1)) s = RR at E2 ⊢
  generalize lsM (left - 1) s.ls = R3 at C3 E2
  generalize chB (bl s.nm) = R1 at C1 E2
  generalize chB (bl s.vl) = R2 at C2 E2
  generalize s.ls.length = ln at C3 HW0 P0 c5 E2 hl9 ⊢
  generalize s.k = k at *
  generalize s.op = op at *
  generalize s.a = a at *
  generalize s.b = b at *
  generalize s.nm = nm at *
  generalize s.vl = vl at *
  generalize s.fo = fo at *
  have E := hide E2
  clear E2
  have t0 : 2 ≤ k := by omega
  have t1 : ¬ (k ≤ 5) := by omega
  have t2 : 6 ≤ k := by omega
  have t3 : ¬ (k ≤ 8) := by omega
  have t4 : ¬ (k < 1) := by omega
  have t5 : 15 < k := by omega
  have q14 : (k == 14) = false := by rw [beq_eq_false_iff_ne]; omega
  have q15 : (k == 15) = false := by rw [beq_eq_false_iff_ne]; omega
  have q5 : (k == 5) = false := by rw [beq_eq_false_iff_ne]; omega
  clear h
  cases R0
  all_goals
    simp only [Bool.not_false, Bool.not_true] at hb
    go_enter Tryz.func57, Tryz.ntmps57
    go_upto_region 1 with fail
    rw [HW0.out]
    clear HW0
    go_wp2_with (first
      | (go_at_call_of 86 (Value.string nm); refine (C1.out _).mono ?_; rintro e w1 ⟨rfl, B1⟩; replace P0 := hide ((B1.block _ (Array.getElem?_eq_some_iff.1 P0.out).1).trans P0.out); replace B0 := hide (bto B0.out B1); clear B1 c0 c1 c2 c3 c4 c5 c6 c7; obtain ⟨c0, c1, c2, c3, c4, c5, c6, c7⟩ := bxk_8 P0.out)
      | (go_at_call_of 86 (Value.string vl); refine (C2.out _).mono ?_; rintro e w2 ⟨rfl, B1⟩; replace P0 := hide ((B1.block _ (Array.getElem?_eq_some_iff.1 P0.out).1).trans P0.out); replace B0 := hide (bto B0.out B1); clear B1 c0 c1 c2 c3 c4 c5 c6 c7; obtain ⟨c0, c1, c2, c3, c4, c5, c6, c7⟩ := bxk_8 P0.out)
      | (go_at_call 35; refine (C3.out _ B0.out).mono ?_; rintro e w3 ⟨rfl, B1⟩; replace P0 := hide ((B1.block _ (Array.getElem?_eq_some_iff.1 P0.out).1).trans P0.out); replace B0 := hide (bto B0.out B1); clear B1 c0 c1 c2 c3 c4 c5 c6 c7; obtain ⟨c0, c1, c2, c3, c4, c5, c6, c7⟩ := bxk_8 P0.out))
    all_goals
      go_ret
      exact ⟨ret_bool E.out.symm, B0.out⟩
end Go.Proofs.YtmkbjcoagfnegaaGreatDoor
set_option linter.unusedVariables false
namespace Go.Proofs.YtmkbjcoagfnegaaGreatDoor
open Go.RowKit

theorem fits9_any (n left : Nat) (s : Sl) (u : Value) (w : World) (hl1 : 1 ≤ left) (hl2 : left ≤ 65) (hu : CM w n u s.ls) (ok : SlOk s) (IH : ListMayR n) :
    Calls Tryz.prog 57 #[s.v u, .int .i64 (left : Int)] w fun e w' => e = .returned (.bool (slM left (lsM (left - 1)) s)) ∧ Below w.heap.size w w' := by
  have W : s.k = 1 ∨ (9 ≤ s.k ∧ s.k ≤ 13) ∨ (2 ≤ s.k ∧ s.k ≤ 4) ∨ s.k = 5 ∨ (6 ≤ s.k ∧ s.k ≤ 8) ∨ s.k = 14 ∨ s.k = 15 ∨ s.k < 1 ∨ 15 < s.k := by omega
  rcases W with h | h | h | h | h | h | h | h | h
  · exact fits_a1 n left s u w h hl1 hl2 hu ok IH
  · exact fits_a2 n left s u w h hl1 hl2 hu ok IH
  · exact fits_b n left s u w h hl1 hl2 hu ok IH
  · exact fits_c n left s u w h hl1 hl2 hu ok IH
  · exact fits_d n left s u w h hl1 hl2 hu ok IH
  · exact fits_e1 n left s u w h hl1 hl2 hu ok IH
  · exact fits_e2 n left s u w h hl1 hl2 hu ok IH
  · exact fits_f1 n left s u w h hl1 hl2 hu ok IH
  · exact fits_f2 n left s u w h hl1 hl2 hu ok IH
end Go.Proofs.YtmkbjcoagfnegaaGreatDoor
set_option linter.unusedVariables false
set_option linter.unusedSimpArgs false
namespace Go.Proofs.YtmkbjcoagfnegaaGreatDoor
open Go.RowKit

theorem coB_zero {k : Nat} {c : Int} (h : k = 0) : coB k c = (c == 0) := by unfold coB; rw [if_pos h]
theorem coB_more {k : Nat} {c : Int} (h : ¬ k = 0) : coB k c = (decide (1 ≤ c) && decide (c ≤ 4)) := by unfold coB; rw [if_neg h]
set_option maxRecDepth 100000 in
set_option maxHeartbeats 12000000 in
theorem mayR9_any (n : Nat) : ListMayR n := by
  induction n with
  | zero =>
    intro left l v W hl hv
    obtain ⟨rfl, a, c, rfl⟩ := hv
    have E := hide (show lsM left [] = false by cases left <;> rfl)
    go_enter Tryz.func35, Tryz.ntmps35
    go_wp2
    go_ret
    exact ⟨ret_bool E.out.symm, Below.refl _ _⟩
  | succ n ih =>
    intro left l v w hl hv
    obtain ⟨a, c, rfl, h9⟩ := hv.shape
    cases left with
    | zero =>
      have E := hide (show lsM 0 l = false from rfl)
      clear hv ih
      by_cases hl0 : l.length = 0
      · rw [hl0]
        go_enter Tryz.func35, Tryz.ntmps35
        go_wp2
        go_ret
        exact ⟨ret_bool E.out.symm, Below.refl _ _⟩
      · have g0 : ((l.length : Int) == 0) = false := by rw [beq_eq_false_iff_ne]; omega
        generalize l.length = ln at g0 h9 hl0 ⊢
        go_enter Tryz.func35, Tryz.ntmps35
        go_wp2
        all_goals
          go_ret
          exact ⟨ret_bool E.out.symm, Below.refl _ _⟩
    | succ left =>
      obtain ⟨d, hd⟩ : ∃ d : Int, d = ((left + 1 : Nat) : Int) := ⟨_, rfl⟩
      have HV := hide hv
      have CS := hide (fun (s : Sl) (u : Value) (W : World) (hW : Below w.heap.size w W) (hu : CM w n u s.ls) (ok : SlOk s) => fits9_any n (left + 1) s u W (by omega) hl (hu.low hW) ok ih)
      have hd1 : 1 ≤ d := by omega
      have hd2 : d ≤ 65 := by omega
      have hd3 : (d == 0) = false := by rw [beq_eq_false_iff_ne]; omega
      rw [← hd] at CS ⊢
      simp only [Nat.add_sub_cancel] at CS
      clear hv ih hd
      by_cases hl0 : l.length = 0
      · obtain rfl : l = [] := List.eq_nil_of_length_eq_zero hl0
        have E := hide (show lsM (left + 1) [] = false from rfl)
        clear CS HV
        go_enter Tryz.func35, Tryz.ntmps35
        go_wp2
        go_ret
        exact ⟨ret_bool E.out.symm, Below.refl _ _⟩
      · have g0 : ((l.length : Int) == 0) = false := by rw [beq_eq_false_iff_ne]; omega
        go_enter Tryz.func35, Tryz.ntmps35
        go_wp2
        go_loopw [20] (fun i wr => RelAI (fun _ c => cxM (left + 1) (lsM left) c) l w i wr) (fun i _ => l.length - (intOf i).toNat)
        case atStart => exact .mk 0 rfl (by omega) (Below.refl _ _) (fun j y hj => by omega)
        case round =>
          obtain ⟨k, rfl, hk, R⟩ := hrel
          have BE := hide R.out.1
          by_cases hlt : k < l.length
          · obtain ⟨s, hs⟩ : ∃ s, l[k]? = some s := ⟨_, List.getElem?_eq_getElem hlt⟩
            obtain ⟨b, o, c', u, hv', hb, e0, hu⟩ := HV.out.at hs
            obtain ⟨rfl, rfl⟩ : a = some ⟨b, o, none⟩ ∧ c = c' := by cases hv'; exact ⟨rfl, rfl⟩
            have hlt' : (k : Int) < l.length := by omega
            have f0 := (BE.out.cell (p := ⟨b, o + k * 1, none⟩) hb).trans e0
            rw [Nat.mul_one] at f0
            have hbw : b < wr.heap.size := by have := BE.out.size; omega
            have nb : b ≠ wr.heap.size := by omega
            have NO := hide (fun (h : cxM (left + 1) (lsM left) s = false) => show lsM (left + 1) l = false by unfold lsM; rw [allI_no hs h]; simp)
            have YES := hide (fun (h : cxM (left + 1) (lsM left) s = true) => allI_snoc (f := fun _ c => cxM (left + 1) (lsM left) c) R.out.2 hs h)
            have HU := hide hu
            obtain ⟨ua, uc, hus, hs9⟩ := hu.shape
            clear e0 hv' hs hu R
            have BB := hide (bplus BE.out (.cells #[u] 40))
            subst hus
            by_cases hs0 : s.length = 0
            · obtain rfl : s = [] := List.eq_nil_of_length_eq_zero hs0
              have F := hide (NO.out rfl)
              clear NO YES HU
              go_wp2
              go_ret
              exact ⟨ret_bool F.out.symm, BB.out⟩
            · have g1 : ((s.length : Int) == 0) = false := by rw [beq_eq_false_iff_ne]; omega
              have SN := hide (show s.isEmpty = false by cases s with | nil => simp at hs0 | cons x r => rfl)
              go_wp2
              go_loopw [31] (fun i wr => RelAI (cxF (left + 1) (lsM left)) s w i wr) (fun i _ => s.length - (intOf i).toNat)
              case atStart => exact .mk 0 rfl (by omega) BB.out (fun j y hj => by omega)
              case round =>
                clear f0 hbw nb BB BE
                obtain ⟨k2, rfl, hk2, R2⟩ := hrel
                have BE := hide R2.out.1
                by_cases hlt2 : k2 < s.length
                · obtain ⟨p, hp⟩ : ∃ p, s[k2]? = some p := ⟨_, List.getElem?_eq_getElem hlt2⟩
                  obtain ⟨b2, o2, c2', u2, hv2, hb2, p0, p1, hu2, pk1, pk2⟩ := HU.out.at hp
                  obtain ⟨rfl, rfl⟩ : ua = some ⟨b2, o2, none⟩ ∧ uc = c2' := by cases hv2; exact ⟨rfl, rfl⟩
                  have hlt2' : (k2 : Int) < s.length := by omega
                  have f0 := (BE.out.cell (p := ⟨b2, o2 + k2 * 2, none⟩) hb2).trans p0
                  have f1 := (BE.out.cell (p := ⟨b2, o2 + k2 * 2 + 1, none⟩) hb2).trans p1
                  have hbw2 : b2 < wr.heap.size := by have := BE.out.size; omega
                  have nb2 : b2 ≠ wr.heap.size := by omega
                  have NO2 := hide (fun (h : cxF (left + 1) (lsM left) k2 p = false) => NO.out (by unfold cxM; rw [allI_no hp h]; simp))
                  have YES2 := hide (fun (h : cxF (left + 1) (lsM left) k2 p = true) => allI_snoc R2.out.2 hp h)
                  have HU2 := hide hu2
                  obtain ⟨ua2, uc2, hus2, hs29⟩ := hu2.shape
                  clear p0 p1 hv2 hp hu2 R2
                  obtain ⟨cm, ss⟩ := p
                  simp only at f0 f1 HU2 hus2 hs29 pk1 pk2
                  have NO3 := hide (fun (h : (coB k2 cm && cpM (left + 1) (lsM left) ss) = false) => NO2.out h)
                  have YES3 := hide (fun (h : (coB k2 cm && cpM (left + 1) (lsM left) ss) = true) => YES2.out h)
                  clear NO2 YES2
                  subst hus2
                  have BB := hide (bplus BE.out (.cells #[.int .i64 cm, .slice ua2 ss.length uc2] 67))
                  by_cases hss : ss.length = 0
                  · obtain rfl : ss = [] := List.eq_nil_of_length_eq_zero hss
                    have F := hide (NO3.out (by simp [cpM]))
                    clear NO3 YES3 HU2
                    go_wp2
                    go_ret
                    exact ⟨ret_bool F.out.symm, BB.out⟩
                  · have g2 : ((ss.length : Int) == 0) = false := by rw [beq_eq_false_iff_ne]; omega
                    have SS := hide (show ss.isEmpty = false by cases ss with | nil => simp at hss | cons x r => rfl)
                    obtain ⟨W1, hW1⟩ : ∃ W1, wr.alloc (.cells #[.int .i64 cm, .slice ua2 ss.length uc2] 67) = W1 := ⟨_, rfl⟩
                    have HW1 := hide hW1
                    have P1 := hide (show W1.heap[wr.heap.size]? = some (.cells #[.int .i64 cm, .slice ua2 ss.length uc2] 67) by rw [← hW1]; exact heap_alloc_new wr _)
                    rw [hW1] at BB
                    clear hW1
                    obtain ⟨m0, m1⟩ := bxk_2 P1.out
                    obtain ⟨bad, hbad⟩ : ∃ bad, (!coB k2 cm) = bad := ⟨_, rfl⟩
                    have HBAD := hide hbad
                    clear hbad
                    go_upto_region 11 with fail
                    rw [HW1.out]
                    go_cut [62] (fun x wx => x = .bool bad ∧ wx = W1)
                    case first =>
                      clear NO3 YES3 HU2 f0 f1
                      by_cases hk0 : k2 = 0
                      · have z1 : ((k2 : Int) == 0) = true := by simp [hk0]
                        have z2 : ¬ (0 : Int) < (k2 : Int) := by omega
                        have z3 : decide (0 < k2) = false := by simp [hk0]
                        have EB := hide (show bad = !(cm == 0) by rw [← HBAD.out, coB_zero hk0])
                        clear HBAD hk0
                        by_cases hc : cm = 0
                        · have zc : (cm == 0) = true := by simpa using hc
                          have EB2 := hide (show bad = false by rw [EB.out, zc]; rfl)
                          clear EB zc
                          subst hc
                          go_wp2
                          go_meet
                          case rel => exact ⟨by rw [EB2.out], rfl⟩
                        · have zc : (cm == 0) = false := by simpa using hc
                          have EB2 := hide (show bad = true by rw [EB.out, zc]; rfl)
                          clear EB
                          go_wp2
                          go_meet
                          case rel => exact ⟨by rw [EB2.out], rfl⟩
                      · have z1 : ((k2 : Int) == 0) = false := by rw [beq_eq_false_iff_ne]; omega
                        have z2 : (0 : Int) < (k2 : Int) := by omega
                        have z3 : decide (0 < k2) = true := by simp; omega
                        have z4 : 0 < k2 := by omega
                        have EB := hide (show bad = !(decide (1 ≤ cm) && decide (cm ≤ 4)) by rw [← HBAD.out, coB_more hk0])
                        clear HBAD hk0
                        by_cases hc : cm < 1
                        · have EB2 := hide (show bad = true by rw [EB.out, show decide (1 ≤ cm) = false by simp; omega]; rfl)
                          clear EB
                          go_wp2
                          go_meet
                          case rel => exact ⟨by rw [EB2.out], rfl⟩
                        · by_cases hc2 : 4 < cm
                          · have EB2 := hide (show bad = true by rw [EB.out, show decide (cm ≤ 4) = false by simp; omega]; simp)
                            clear EB
                            go_wp2
                            go_meet
                            case rel => exact ⟨by rw [EB2.out], rfl⟩
                          · have EB2 := hide (show bad = false by rw [EB.out, show decide (1 ≤ cm) = true by simp; omega, show decide (cm ≤ 4) = true by simp; omega]; rfl)
                            clear EB
                            go_wp2
                            go_meet
                            case rel => exact ⟨by rw [EB2.out], rfl⟩
                    case rest =>
                      obtain ⟨rfl, rfl⟩ := hcut
                      cases hbd : bad
                      · have CO := hide (show coB k2 cm = true by have := HBAD.out; rw [hbd] at this; cases h : coB k2 cm; rw [h] at this; cases this; rfl)
                        have NO4 := hide (fun (h : cpM (left + 1) (lsM left) ss = false) => NO3.out (by rw [h]; simp))
                        have YES4 := hide (fun (h : cpM (left + 1) (lsM left) ss = true) => YES3.out (by rw [CO.out, h]; rfl))
                        clear NO3 YES3 HBAD hbd f0 f1 HW1
                        go_wp2
                        go_loopw [66] (fun i wr => RelAI (cpF (left + 1) (lsM left)) ss w i wr) (fun i _ => ss.length - (intOf i).toNat)
                        case atStart => exact .mk 0 rfl (by omega) BB.out (fun j y hj => by omega)
                        case round =>
                          clear m0 m1 BB BE P1 hbw2 nb2
                          obtain ⟨k3, rfl, hk3, R3⟩ := hrel
                          have BE := hide R3.out.1
                          by_cases hlt3 : k3 < ss.length
                          · obtain ⟨t, ht⟩ : ∃ t, ss[k3]? = some t := ⟨_, List.getElem?_eq_getElem hlt3⟩
                            obtain ⟨b3, o3, c3', u3', hv3, hb3, ⟨e0, e1, e2, e3, e4, e5, e6, e7⟩, hu3, ok3⟩ := HU2.out.at ht
                            obtain ⟨rfl, rfl⟩ : ua2 = some ⟨b3, o3, none⟩ ∧ uc2 = c3' := by cases hv3; exact ⟨rfl, rfl⟩
                            have hlt3' : (k3 : Int) < ss.length := by omega
                            have f0 := (BE.out.cell (p := ⟨b3, o3 + k3 * 8, none⟩) hb3).trans e0
                            have f1 := (BE.out.cell (p := ⟨b3, o3 + k3 * 8 + 1, none⟩) hb3).trans e1
                            have f2 := (BE.out.cell (p := ⟨b3, o3 + k3 * 8 + 2, none⟩) hb3).trans e2
                            have f3 := (BE.out.cell (p := ⟨b3, o3 + k3 * 8 + 3, none⟩) hb3).trans e3
                            have f4 := (BE.out.cell (p := ⟨b3, o3 + k3 * 8 + 4, none⟩) hb3).trans e4
                            have f5 := (BE.out.cell (p := ⟨b3, o3 + k3 * 8 + 5, none⟩) hb3).trans e5
                            have f6 := (BE.out.cell (p := ⟨b3, o3 + k3 * 8 + 6, none⟩) hb3).trans e6
                            have f7 := (BE.out.cell (p := ⟨b3, o3 + k3 * 8 + 7, none⟩) hb3).trans e7
                            have hbw3 : b3 < wr.heap.size := by have := BE.out.size; omega
                            have nb3 : b3 ≠ wr.heap.size := by omega
                            have NO5 := hide (fun (h : cpF (left + 1) (lsM left) k3 t = false) => NO4.out (by unfold cpM; rw [allI_no ht h]; simp))
                            have YES5 := hide (fun (h : cpF (left + 1) (lsM left) k3 t = true) => allI_snoc R3.out.2 ht h)
                            have KF1 := hide (@cpF_first (left + 1) (lsM left) k3 t)
                            have KF2 := hide (@cpF_slM (left + 1) (lsM left) k3 t)
                            have CS1 := hide (fun (W : World) (hW : Below w.heap.size w W) => CS.out t u3' W hW hu3 ok3)
                            obtain ⟨ua3, uc3, hus3, _⟩ := hu3.shape
                            clear e0 e1 e2 e3 e4 e5 e6 e7 hv3 ht hu3 ok3 R3
                            have B3 := hide (bplus BE.out (.cells #[.int .i64 t.k, .string t.nm, .int .i64 t.op, .string t.vl, .bool t.fo, u3', .int .i64 t.a, .int .i64 t.b] 69))
                            unfold Sl.v slV at CS1
                            subst hus3
                            generalize cpF (left + 1) (lsM left) k3 t = RF at NO5 YES5 KF1 KF2
                            generalize slM (left + 1) (lsM left) t = RS at CS1 KF2
                            generalize t.ls.length = ln at CS1 f5 B3
                            generalize t.k = tk at *
                            generalize t.op = top at *
                            generalize t.a = ta at *
                            generalize t.b = tb' at *
                            generalize t.nm = tnm at *
                            generalize t.vl = tvl at *
                            generalize t.fo = tfo at *
                            by_cases hf : ¬ k3 = 0 ∧ (tk = 1 ∨ tk = 2)
                            · have F := hide (NO5.out (KF1.out hf.1 hf.2))
                              have hk0 : (0 : Int) < (k3 : Int) := by omega
                              have hk0' : 0 < k3 := by omega
                              obtain ⟨_, hsk⟩ := hf
                              clear NO5 YES5 KF1 KF2 CS1
                              rcases hsk with rfl | rfl
                              all_goals
                                go_wp2
                                go_ret
                                exact ⟨ret_bool F.out.symm, B3.out⟩
                            · have hf' : k3 = 0 ∨ (tk ≠ 1 ∧ tk ≠ 2) := by omega
                              have KF := hide (KF2.out hf')
                              clear KF1 KF2 hf
                              cases RS with
                              | false =>
                                have F := hide (NO5.out KF.out)
                                clear NO5 YES5 KF
                                rcases hf' with h0 | ⟨h1, h2⟩
                                · have z1 : decide (0 < k3) = false := by simp; omega
                                  have z2 : ¬ (0 : Int) < (k3 : Int) := by omega
                                  clear h0
                                  go_wp2_with (go_at_call 57; refine (CS1.out _ B3.out).mono ?_; rintro e w3 ⟨rfl, B4⟩; replace B3 := hide (bto B3.out B4); clear B4)
                                  go_ret
                                  exact ⟨ret_bool F.out.symm, B3.out⟩
                                · have q1 : (tk == 1) = false := by simpa using h1
                                  have q2 : (tk == 2) = false := by simpa using h2
                                  go_wp2_with (go_at_call 57; refine (CS1.out _ B3.out).mono ?_; rintro e w3 ⟨rfl, B4⟩; replace B3 := hide (bto B3.out B4); clear B4)
                                  all_goals
                                    go_ret
                                    exact ⟨ret_bool F.out.symm, B3.out⟩
                              | true =>
                                have Y := hide (YES5.out KF.out)
                                clear NO5 YES5 KF
                                rcases hf' with h0 | ⟨h1, h2⟩
                                · have z1 : decide (0 < k3) = false := by simp; omega
                                  have z2 : ¬ (0 : Int) < (k3 : Int) := by omega
                                  clear h0
                                  go_wp2_with (go_at_call 57; refine (CS1.out _ B3.out).mono ?_; rintro e w3 ⟨rfl, B4⟩; replace B3 := hide (bto B3.out B4); clear B4)
                                  go_roundw
                                  case rel => exact .mk (k3 + 1) (by go_num) (by omega) B3.out Y.out
                                  case measure => simp [intOf]; omega
                                · have q1 : (tk == 1) = false := by simpa using h1
                                  have q2 : (tk == 2) = false := by simpa using h2
                                  go_wp2_with (go_at_call 57; refine (CS1.out _ B3.out).mono ?_; rintro e w3 ⟨rfl, B4⟩; replace B3 := hide (bto B3.out B4); clear B4)
                                  all_goals
                                    go_roundw
                                    case rel => exact .mk (k3 + 1) (by go_num) (by omega) B3.out Y.out
                                    case measure => simp [intOf]; omega
                          · have hlt3' : ¬ (k3 : Int) < ss.length := by omega
                            have Y := hide (YES4.out (by unfold cpM; rw [SS.out, allI_end R3.out.2 (by omega)]; rfl))
                            clear R3
                            go_wp2
                            go_roundw
                            case rel => exact .mk (k2 + 1) (by go_num) (by omega) BE.out Y.out
                            case measure => simp [intOf]; omega
                      · have F := hide (NO3.out (by have := HBAD.out; rw [hbd] at this; cases h : coB k2 cm; rfl; rw [h] at this; cases this))
                        clear NO3 YES3 HBAD hbd
                        go_wp2
                        go_ret
                        exact ⟨ret_bool F.out.symm, BB.out⟩
                · have hlt2' : ¬ (k2 : Int) < s.length := by omega
                  have Y := hide (YES.out (by unfold cxM; rw [SN.out, allI_end R2.out.2 (by omega)]; rfl))
                  clear R2
                  go_wp2
                  go_roundw
                  case rel => exact .mk (k + 1) (by go_num) (by omega) BE.out Y.out
                  case measure => simp [intOf]; omega
          · have hlt' : ¬ (k : Int) < l.length := by omega
            have F := hide (show lsM (left + 1) l = true by
              unfold lsM
              rw [allI_end R.out.2 (by omega)]
              cases l with
              | nil => simp at hl0
              | cons x r => rfl)
            clear R
            go_wp2
            go_ret
            exact ⟨ret_bool F.out.symm, BE.out⟩
theorem mayRR9_any (n : Nat) (l : List Cx) (v : Value) (w : World) (hv : CM w n v l) :
    Calls Tryz.prog 16 #[v] w fun e w' => e = .returned (.bool (lsM 65 l)) ∧ Below w.heap.size w w' := by
  have C := hide (mayR9_any n 65 l v w (Nat.le_refl _) hv)
  rw [show ((65 : Nat) : Int) = 65 by decide] at C
  clear hv
  go_enter Tryz.func16, Tryz.ntmps16
  go_wp2_with (go_at_call 35; refine C.out.mono ?_; rintro e w1 ⟨rfl, B⟩; replace B := hide B)
  go_ret
  exact ⟨rfl, B.out⟩
end Go.Proofs.YtmkbjcoagfnegaaGreatDoor
set_option linter.unusedVariables false
set_option linter.unusedSimpArgs false
namespace Go.Proofs.YtmkbjcoagfnegaaGreatDoor
open Go.RowKit Go.Shelf

/-- The state of a loop that writes a text behind the other. -/
def RelY (w : World) (T : Nat → List Int) (m : Nat) (i s : Value) (wr : World) : Prop := ∃ (k : Nat) (u : ByteArray), i = .int .i64 k ∧ s = .string u ∧ k ≤ m ∧ u.size ≤ 1000000000000 ∧ Hid (bl u = T k ∧ Below w.heap.size w wr)
theorem RelY.mk {w : World} {T : Nat → List Int} {m : Nat} {i s : Value} {wr : World} (k : Nat) (u : ByteArray) (h1 : i = .int .i64 k) (h2 : s = .string u) (h3 : k ≤ m) (h4 : bl u = T k) (h5 : (T k).length ≤ 1000000000000) (h6 : Below w.heap.size w wr) : RelY w T m i s wr :=
  ⟨k, u, h1, h2, h3, by rw [← bl_len, h4]; exact h5, h4, h6⟩
theorem lt9 {u v : ByteArray} (h : u.size ≤ 1000000000000) (g : v.size ≤ 1000000000000) : ¬ 9223372036854775807 < u.size + v.size := by omega
theorem size_of_bl {u : ByteArray} {l : List Int} (h : bl u = l) (g : l.length ≤ 1000000000000) : u.size ≤ 1000000000000 := by rw [← bl_len, h]; exact g
theorem le_app {a b c : List Int} {m : Nat} (h : (a ++ b).length ≤ m) (g : c.length ≤ b.length) : (a ++ c).length ≤ m := by rw [List.length_append] at h ⊢; omega
theorem le_right {a b : List Int} {m : Nat} (h : (a ++ b).length ≤ m) : b.length ≤ m := by rw [List.length_append] at h; omega
/-- What an if leaves that may have written. -/
def CutY (ys : List Int) (x : Value) : Prop := ∃ U : ByteArray, x = .string U ∧ U.size ≤ 1000000000000 ∧ Hid (bl U = ys)
theorem CutY.mk {ys : List Int} {x : Value} (U : ByteArray) (h : x = .string U) (g : ys.length ≤ 1000000000000) (e : bl U = ys) : CutY ys x := ⟨U, h, size_of_bl e g, e⟩
set_option maxRecDepth 100000 in
set_option maxHeartbeats 12000000 in
theorem listR_any (n : Nat) : LsR n := by
  induction n with
  | zero =>
    intro left l v w _ hv hm
    obtain ⟨rfl, _⟩ := hv
    cases left <;> cases hm
  | succ n ih =>
    intro left l v w hl65 hv hm hl hT
    cases left with
    | zero => cases hm
    | succ left =>
      obtain ⟨a, cc, rfl, h9⟩ := hv.shape
      have HV := hide hv
      have hm2 : ∀ (i : Nat) (c : Cx), l[i]? = some c → cxM (left + 1) (lsM left) c = true := by
        unfold lsM at hm
        rw [Bool.and_eq_true] at hm
        exact fun i c h => allI_iff.1 hm.2 i c h
      have HM := hide hm2
      have CS := hide (fun (i j m : Nat) (c : Cx) (p : Cp) (t : Sl) (va : Option Addr) (vc : Nat) (W : World) (hc : l[i]? = some c) (hp : c[j]? = some p) (ht : p.2[m]? = some t) (hu : CM w n (.slice va t.ls.length vc) t.ls) (ok : SlOk t) (hle : (slT (lsT n) t).length ≤ 1000000000000) (hW : Below w.heap.size w W) => oneR_any n (left + 1) t va vc W hl65 (hu.low hW) (cx_simple (hm2 i c hc) hp ht) hle ok (hT.below hW) ih)
      have HL := hide (fun k => show (joT (cxT (lsT n)) (l.take k)).length ≤ 1000000000000 from Nat.le_trans joT_le hl)
      have FIN := hide (show lsT (n + 1) l = joT (cxT (lsT n)) l from rfl)
      clear hv hl hT ih hm hm2
      generalize lsT (n + 1) l = AA at FIN ⊢
      generalize lsT n = r at *
      go_enter Tryz.func38, Tryz.ntmps38
      go_wp2_with fail
      go_loopw [12, 3] (fun i s wr => RelY w (fun j => joT (cxT r) (l.take j)) l.length i s wr) (fun i _ _ => l.length - (intOf i).toNat)
      case atStart => exact .mk 0 _ rfl rfl (by omega) rfl (HL.out 0) (Below.refl _ _)
      case round =>
        obtain ⟨k, u, rfl, rfl, hk, hz, R⟩ := hrel
        have TU := hide (show bl u = joT (cxT r) (l.take k) from R.out.1)
        have BE := hide R.out.2
        clear R
        by_cases hlt : k < l.length
        · obtain ⟨c, hc⟩ : ∃ c, l[k]? = some c := ⟨_, List.getElem?_eq_getElem hlt⟩
          obtain ⟨pb, po, c', uv, hv', hpb, e0, hu⟩ := HV.out.at hc
          obtain ⟨rfl, rfl⟩ : a = some ⟨pb, po, none⟩ ∧ cc = c' := by cases hv'; exact ⟨rfl, rfl⟩
          have hlt' : (k : Int) < l.length := by omega
          have f0 := (BE.out.cell (p := ⟨pb, po + k * 1, none⟩) hpb).trans e0
          rw [Nat.mul_one] at f0
          have hsz := BE.out.size
          have hbw : pb < wr.heap.size := by omega
          have nb' : pb ≠ wr.heap.size := by omega
          have ST := hide (joT_take (f := cxT r) hc)
          have CM1 := hide (HM.out k c hc)
          have CS1 := hide (fun (j m : Nat) (p : Cp) (t : Sl) (va : Option Addr) (vc : Nat) (W : World) => CS.out k j m c p t va vc W hc)
          have HU := hide hu
          obtain ⟨ua, uc, hus, hs9⟩ := hu.shape
          have BB := hide (bplus BE.out (.cells #[uv] 40))
          have LK := hide (HL.out (k + 1))
          clear e0 hv' hu hc
          subst hus
          obtain ⟨ys, YS, EA, EB⟩ : ∃ ys : List Int, Hid (joT (cxT r) (l.take (k + 1)) = ys ++ cxT r c) ∧ Hid (k = 0 → bl u = ys) ∧ Hid (¬ k = 0 → bl (u ++ ⟨#[44, 32]⟩) = ys) := by
            by_cases hk0 : k = 0
            · exact ⟨joT (cxT r) (l.take k), by show _ = _; rw [ST.out, if_pos hk0], fun _ => TU.out, fun h => absurd hk0 h⟩
            · exact ⟨joT (cxT r) (l.take k) ++ [44, 32], by show _ = _; rw [ST.out, if_neg hk0, ← List.append_assoc], fun h => absurd h hk0, fun _ => by show _ = _; rw [bl_app, TU.out]; rfl⟩
          have LY := hide (fun j => show (ys ++ cxT r (c.take j)).length ≤ 1000000000000 from le_app (by rw [← YS.out]; exact LK.out) (cx_le j))
          have LZ := hide (show ys.length ≤ 1000000000000 by have := LY.out 0; rw [List.length_append] at this; omega)
          have n2 : ¬ 9223372036854775807 < u.size + 2 := by omega
          obtain ⟨W1, hW1⟩ : ∃ W1, wr.alloc (.cells #[.slice ua c.length uc] 40) = W1 := ⟨_, rfl⟩
          have HW1 := hide hW1
          have P1 := hide (show W1.heap[wr.heap.size]? = some (.cells #[.slice ua c.length uc] 40) by rw [← hW1]; exact heap_alloc_new wr _)
          rw [hW1] at BB
          clear hW1 ST TU LK CS HM HL
          have m0 := bxk_1 P1.out
          go_upto_if 18 with fail
          rw [HW1.out]
          go_cut [3] (fun x wx => CutY ys x ∧ wx = W1)
          case first =>
            by_cases hk0 : k = 0
            · have z1 : decide (0 < k) = false := by simp; omega
              have z2 : ¬ (0 : Int) < (k : Int) := by omega
              have z3 : ¬ 0 < k := by omega
              have E := hide (EA.out hk0)
              clear hk0 EA EB
              go_wp2
              go_meet
              case rel => exact ⟨.mk _ rfl LZ.out E.out, rfl⟩
            · have z1 : decide (0 < k) = true := by simp; omega
              have z2 : (0 : Int) < (k : Int) := by omega
              have z3 : 0 < k := by omega
              have E := hide (EB.out hk0)
              clear hk0 EA EB
              go_wp2
              go_meet
              case rel => exact ⟨.mk _ rfl LZ.out E.out, rfl⟩
          case rest =>
            obtain ⟨⟨U, rfl, hU, TV⟩, rfl⟩ := hcut
            clear EA EB f0 hbw nb' HW1 n2 LZ hz
            go_wp2
            go_loopw [24, 3] (fun i s wr => RelY w (fun j => ys ++ cxT r (c.take j)) c.length i s wr) (fun i _ _ => c.length - (intOf i).toNat)
            case atStart => exact .mk 0 _ rfl rfl (by omega) (by rw [TV.out]; simp [cxT]) (LY.out 0) BB.out
            case round =>
              clear m0 P1 BB BE hsz
              obtain ⟨k2, u2, rfl, rfl, hk2, hz, R2⟩ := hrel
              have TU := hide (show bl u2 = ys ++ cxT r (c.take k2) from R2.out.1)
              have BE := hide R2.out.2
              clear R2
              by_cases hlt2 : k2 < c.length
              · obtain ⟨p, hp⟩ : ∃ p, c[k2]? = some p := ⟨_, List.getElem?_eq_getElem hlt2⟩
                obtain ⟨b2, o2, c2', uv2, hv2, hb2, p0, p1, hu2, pk1, pk2⟩ := HU.out.at hp
                obtain ⟨rfl, rfl⟩ : ua = some ⟨b2, o2, none⟩ ∧ uc = c2' := by cases hv2; exact ⟨rfl, rfl⟩
                have hlt2' : (k2 : Int) < c.length := by omega
                have f0 := (BE.out.cell (p := ⟨b2, o2 + k2 * 2, none⟩) hb2).trans p0
                have f1 := (BE.out.cell (p := ⟨b2, o2 + k2 * 2 + 1, none⟩) hb2).trans p1
                have hsz := BE.out.size
                have hbw2 : b2 < wr.heap.size := by omega
                have nb2 : b2 ≠ wr.heap.size := by omega
                have ST := hide (cx_step (r := r) hp)
                have CO := hide (show coB k2 p.1 = true by
                  have h := CM1.out
                  unfold cxM at h
                  rw [Bool.and_eq_true] at h
                  have h2 := allI_iff.1 h.2 k2 p hp
                  unfold cxF at h2
                  rw [Bool.and_eq_true] at h2
                  exact h2.1)
                have CS2 := hide (fun (m : Nat) (t : Sl) (va : Option Addr) (vc : Nat) (W : World) => CS1.out k2 m p t va vc W hp)
                have HU2 := hide hu2
                obtain ⟨ua2, uc2, hus2, hs29⟩ := hu2.shape
                have LK := hide (LY.out (k2 + 1))
                clear p0 p1 hv2 hp hu2
                obtain ⟨cm, ss⟩ := p
                simp only at f0 f1 HU2 hus2 hs29 pk1 pk2 ST CO CS2
                subst hus2
                obtain ⟨zs, ZS, EA, EB⟩ : ∃ zs : List Int, Hid (ys ++ cxT r (c.take (k2 + 1)) = zs ++ ssT r ss) ∧ Hid (k2 = 0 → bl u2 = zs) ∧ Hid (¬ k2 = 0 → bl (u2 ++ coS cm) = zs) := by
                  by_cases hk0 : k2 = 0
                  · have hc0 : cm = 0 := by have := CO.out; rw [coB_zero hk0] at this; simpa using this
                    exact ⟨ys ++ cxT r (c.take k2), by show _ = _; rw [ST.out, hc0, show bl (coS 0) = [] from rfl, List.nil_append, List.append_assoc], fun _ => TU.out, fun h => absurd hk0 h⟩
                  · exact ⟨(ys ++ cxT r (c.take k2)) ++ bl (coS cm), by show _ = _; rw [ST.out]; simp only [List.append_assoc], fun h => absurd h hk0, fun _ => by show _ = _; rw [bl_app, TU.out]⟩
                have JX := hide (fun (h : ¬ k2 = 0) => ixC (k := cm) (by have := CO.out; rw [coB_more h] at this; simp at this; omega) (by have := CO.out; rw [coB_more h] at this; simp at this; omega))
                have zc := coS_size cm
                generalize coS cm = cs at JX zc EB
                have LZ0 := hide (show (zs ++ ssT r ss).length ≤ 1000000000000 by rw [← ZS.out]; exact LK.out)
                have LZ := hide (fun j => show (zs ++ ssT r (ss.take j)).length ≤ 1000000000000 from le_app LZ0.out (ss_le j))
                have LW := hide (show zs.length ≤ 1000000000000 by have := LZ0.out; rw [List.length_append] at this; omega)
                have n2 : ¬ 9223372036854775807 < u2.size + cs.size := by omega
                have BB := hide (bplus BE.out (.cells #[.int .i64 cm, .slice ua2 ss.length uc2] 67))
                obtain ⟨W1, hW1⟩ : ∃ W1, wr.alloc (.cells #[.int .i64 cm, .slice ua2 ss.length uc2] 67) = W1 := ⟨_, rfl⟩
                have HW1 := hide hW1
                have P1 := hide (show W1.heap[wr.heap.size]? = some (.cells #[.int .i64 cm, .slice ua2 ss.length uc2] 67) by rw [← hW1]; exact heap_alloc_new wr _)
                rw [hW1] at BB
                clear hW1 ST TU LK CO LZ0
                obtain ⟨m0, m1⟩ := bxk_2 P1.out
                go_upto_if 30 with fail
                rw [HW1.out]
                go_cut [3] (fun x wx => CutY zs x ∧ wx = W1)
                case first =>
                  by_cases hk0 : k2 = 0
                  · have z1 : decide (0 < k2) = false := by simp; omega
                    have z2 : ¬ (0 : Int) < (k2 : Int) := by omega
                    have z3 : ¬ 0 < k2 := by omega
                    have E := hide (EA.out hk0)
                    clear hk0 EA EB JX
                    go_wp2
                    go_meet
                    case rel => exact ⟨.mk _ rfl LW.out E.out, rfl⟩
                  · have z1 : decide (0 < k2) = true := by simp; omega
                    have z2 : (0 : Int) < (k2 : Int) := by omega
                    have z3 : 0 < k2 := by omega
                    have E := hide (EB.out hk0)
                    have jx := JX.out hk0
                    clear hk0 EA EB JX
                    go_wp2
                    go_meet
                    case rel => exact ⟨.mk _ rfl LW.out E.out, rfl⟩
                case rest =>
                  obtain ⟨⟨U2, rfl, hU2, TV2⟩, rfl⟩ := hcut
                  clear EA EB f0 f1 hbw2 nb2 HW1 n2 LW hz JX zc
                  go_wp2
                  go_loopw [40, 3] (fun i s wr => RelY w (fun j => zs ++ ssT r (ss.take j)) ss.length i s wr) (fun i _ _ => ss.length - (intOf i).toNat)
                  case atStart => exact .mk 0 _ rfl rfl (by omega) (by rw [TV2.out]; simp [ssT]) (LZ.out 0) BB.out
                  case round =>
                    clear m0 m1 P1 BB BE hsz
                    obtain ⟨k3, u3, rfl, rfl, hk3, hz, R3⟩ := hrel
                    have TU := hide (show bl u3 = zs ++ ssT r (ss.take k3) from R3.out.1)
                    have BE := hide R3.out.2
                    clear R3
                    by_cases hlt3 : k3 < ss.length
                    · obtain ⟨t, ht⟩ : ∃ t, ss[k3]? = some t := ⟨_, List.getElem?_eq_getElem hlt3⟩
                      obtain ⟨b3, o3, c3', uv3, hv3, hb3, ⟨e0, e1, e2, e3, e4, e5, e6, e7⟩, hu3, ok3⟩ := HU2.out.at ht
                      obtain ⟨rfl, rfl⟩ : ua2 = some ⟨b3, o3, none⟩ ∧ uc2 = c3' := by cases hv3; exact ⟨rfl, rfl⟩
                      have hlt3' : (k3 : Int) < ss.length := by omega
                      have f0 := (BE.out.cell (p := ⟨b3, o3 + k3 * 8, none⟩) hb3).trans e0
                      have f1 := (BE.out.cell (p := ⟨b3, o3 + k3 * 8 + 1, none⟩) hb3).trans e1
                      have f2 := (BE.out.cell (p := ⟨b3, o3 + k3 * 8 + 2, none⟩) hb3).trans e2
                      have f3 := (BE.out.cell (p := ⟨b3, o3 + k3 * 8 + 3, none⟩) hb3).trans e3
                      have f4 := (BE.out.cell (p := ⟨b3, o3 + k3 * 8 + 4, none⟩) hb3).trans e4
                      have f5 := (BE.out.cell (p := ⟨b3, o3 + k3 * 8 + 5, none⟩) hb3).trans e5
                      have f6 := (BE.out.cell (p := ⟨b3, o3 + k3 * 8 + 6, none⟩) hb3).trans e6
                      have f7 := (BE.out.cell (p := ⟨b3, o3 + k3 * 8 + 7, none⟩) hb3).trans e7
                      have hsz := BE.out.size
                      have hbw3 : b3 < wr.heap.size := by omega
                      have nb3 : b3 ≠ wr.heap.size := by omega
                      have SS := hide (ss_step (r := r) ht)
                      have L1 := hide (show (slT r t).length ≤ 1000000000000 by have h := LZ.out (k3 + 1); rw [ss_step (r := r) ht, ← List.append_assoc] at h; exact le_right h)
                      obtain ⟨ua3, uc3, hus3, _⟩ := hu3.shape
                      subst hus3
                      have CS3 := hide (fun (W : World) (hW : Below w.heap.size w W) => CS2.out k3 t ua3 uc3 W ht hu3 ok3 L1.out hW)
                      have SZ := hide (fun (x : ByteArray) (hx : bl x = slT r t) => size_of_bl hx L1.out)
                      have LN := hide (LZ.out (k3 + 1))
                      clear e0 e1 e2 e3 e4 e5 e6 e7 hv3 ht hu3 ok3
                      have B3 := hide (bplus BE.out (.cells #[.int .i64 t.k, .string t.nm, .int .i64 t.op, .string t.vl, .bool t.fo, .slice ua3 t.ls.length uc3, .int .i64 t.a, .int .i64 t.b] 69))
                      unfold Sl.v slV at CS3
                      generalize slT r t = tt at *
                      generalize t.ls.length = ln at CS3 f5 B3
                      generalize t.k = tk at *
                      generalize t.op = top at *
                      generalize t.a = ta at *
                      generalize t.b = tb' at *
                      generalize t.nm = tnm at *
                      generalize t.vl = tvl at *
                      generalize t.fo = tfo at *
                      go_wp2_with (go_at_call 60; refine (CS3.out _ B3.out).mono ?_; rintro e w5 ⟨u5, rfl, hu5, B5⟩; have E5 := hide hu5; have z5 := SZ.out u5 hu5; have y5 := lt9 hz z5; replace B3 := hide (bto B3.out B5); clear hu5 B5)
                      go_roundw
                      case rel => exact .mk (k3 + 1) _ (by go_num) rfl (by omega) (by show bl _ = zs ++ ssT r (ss.take (k3 + 1)); rw [bl_app, TU.out, E5.out, SS.out, List.append_assoc]) LN.out B3.out
                      case measure => simp [intOf]; omega
                    · have hlt3' : ¬ (k3 : Int) < ss.length := by omega
                      rw [List.take_of_length_le (show ss.length ≤ k3 by omega)] at TU
                      have LN := hide (LY.out (k2 + 1))
                      clear HU2 CS2
                      go_wp2
                      go_roundw
                      case rel => exact .mk (k2 + 1) _ (by go_num) rfl (by omega) (by show bl _ = ys ++ cxT r (c.take (k2 + 1)); rw [ZS.out]; exact TU.out) LN.out BE.out
                      case measure => simp [intOf]; omega
              · have hlt2' : ¬ (k2 : Int) < c.length := by omega
                rw [List.take_of_length_le (show c.length ≤ k2 by omega)] at TU
                clear HU CS1
                have LN := hide (show (joT (cxT r) (l.take (k + 1))).length ≤ 1000000000000 by have := LY.out c.length; rw [List.take_length] at this; rw [YS.out]; exact this)
                go_wp2
                go_roundw
                case rel => exact .mk (k + 1) _ (by go_num) rfl (by omega) (by show bl _ = joT (cxT r) (l.take (k + 1)); rw [YS.out]; exact TU.out) LN.out BE.out
                case measure => simp [intOf]; omega
        · have hlt' : ¬ (k : Int) < l.length := by omega
          rw [List.take_of_length_le (show l.length ≤ k by omega)] at TU
          clear HV CS HM HL
          go_wp2
          go_ret
          exact ⟨u, rfl, by rw [FIN.out]; exact TU.out, BE.out⟩
end Go.Proofs.YtmkbjcoagfnegaaGreatDoor

