/-
  Which forms may be: by the program, by the reference.
-/
import Derived.Test.YtlhmecagijdinaaDoorH01
import Derived.Test.YtlhmecagijdinaaDoorN18
set_option linter.unusedVariables false
set_option linter.unusedSimpArgs false
namespace Go.Proofs.YtlhmecagijdinaaDoor.nm
open Go.RowKit
theorem Un.fa {w : World} {b o : Nat} {n0 d0 n1 d1 n2 d2 n3 d3 n4 d4 n5 d5 n6 d6 : Int} (h : Un w b o [(n0, d0), (n1, d1), (n2, d2), (n3, d3), (n4, d4), (n5, d5), (n6, d6)]) : w.cell? ⟨b, o, none⟩ = some (.int .i64 n0) ∧ w.cell? ⟨b, o + 1, none⟩ = some (.int .i64 d0) ∧ w.cell? ⟨b, o + 2, none⟩ = some (.int .i64 n1) ∧ w.cell? ⟨b, o + 3, none⟩ = some (.int .i64 d1) ∧ w.cell? ⟨b, o + 4, none⟩ = some (.int .i64 n2) ∧ w.cell? ⟨b, o + 5, none⟩ = some (.int .i64 d2) ∧ w.cell? ⟨b, o + 6, none⟩ = some (.int .i64 n3) ∧ w.cell? ⟨b, o + 7, none⟩ = some (.int .i64 d3) ∧ w.cell? ⟨b, o + 8, none⟩ = some (.int .i64 n4) ∧ w.cell? ⟨b, o + 9, none⟩ = some (.int .i64 d4) ∧ w.cell? ⟨b, o + 10, none⟩ = some (.int .i64 n5) ∧ w.cell? ⟨b, o + 11, none⟩ = some (.int .i64 d5) ∧ w.cell? ⟨b, o + 12, none⟩ = some (.int .i64 n6) ∧ w.cell? ⟨b, o + 13, none⟩ = some (.int .i64 d6) := by
  have g := fun i r hi => h.2 i r hi
  refine ⟨(g 0 _ rfl).1, (g 0 _ rfl).2, (g 1 _ rfl).1, (g 1 _ rfl).2, (g 2 _ rfl).1, (g 2 _ rfl).2, (g 3 _ rfl).1, (g 3 _ rfl).2, (g 4 _ rfl).1, (g 4 _ rfl).2, (g 5 _ rfl).1, (g 5 _ rfl).2, (g 6 _ rfl).1, (g 6 _ rfl).2⟩
theorem bxk_15 {w : World} {b : Nat} {n0 d0 n1 d1 n2 d2 n3 d3 n4 d4 n5 d5 n6 d6 : Int} {u : Value} {T : TypeId} (h : w.heap[b]? = some (.cells #[.int .i64 n0, .int .i64 d0, .int .i64 n1, .int .i64 d1, .int .i64 n2, .int .i64 d2, .int .i64 n3, .int .i64 d3, .int .i64 n4, .int .i64 d4, .int .i64 n5, .int .i64 d5, .int .i64 n6, .int .i64 d6, u] T)) : (w.cell? ⟨b, 0, none⟩ = some (.int .i64 n0) ∧ w.cell? ⟨b, 1, none⟩ = some (.int .i64 d0) ∧ w.cell? ⟨b, 2, none⟩ = some (.int .i64 n1) ∧ w.cell? ⟨b, 3, none⟩ = some (.int .i64 d1) ∧ w.cell? ⟨b, 4, none⟩ = some (.int .i64 n2) ∧ w.cell? ⟨b, 5, none⟩ = some (.int .i64 d2) ∧ w.cell? ⟨b, 6, none⟩ = some (.int .i64 n3) ∧ w.cell? ⟨b, 7, none⟩ = some (.int .i64 d3) ∧ w.cell? ⟨b, 8, none⟩ = some (.int .i64 n4) ∧ w.cell? ⟨b, 9, none⟩ = some (.int .i64 d4) ∧ w.cell? ⟨b, 10, none⟩ = some (.int .i64 n5) ∧ w.cell? ⟨b, 11, none⟩ = some (.int .i64 d5) ∧ w.cell? ⟨b, 12, none⟩ = some (.int .i64 n6) ∧ w.cell? ⟨b, 13, none⟩ = some (.int .i64 d6)) ∧ w.cell? ⟨b, 14, none⟩ = some u := by
  refine ⟨⟨?_, ?_, ?_, ?_, ?_, ?_, ?_, ?_, ?_, ?_, ?_, ?_, ?_, ?_⟩, ?_⟩ <;> (rw [row_blk h]; rfl)
theorem foV_eq (n0 d0 n1 d1 n2 d2 n3 d3 n4 d4 n5 d5 n6 d6 : Int) (u : Value) : foV [(n0, d0), (n1, d1), (n2, d2), (n3, d3), (n4, d4), (n5, d5), (n6, d6)] u = .agg #[.int .i64 n0, .int .i64 d0, .int .i64 n1, .int .i64 d1, .int .i64 n2, .int .i64 d2, .int .i64 n3, .int .i64 d3, .int .i64 n4, .int .i64 d4, .int .i64 n5, .int .i64 d5, .int .i64 n6, .int .i64 d6, u] := rfl
theorem usV_eq (n0 d0 n1 d1 n2 d2 n3 d3 n4 d4 n5 d5 n6 d6 : Int) : usV [(n0, d0), (n1, d1), (n2, d2), (n3, d3), (n4, d4), (n5, d5), (n6, d6)] = .agg #[.int .i64 n0, .int .i64 d0, .int .i64 n1, .int .i64 d1, .int .i64 n2, .int .i64 d2, .int .i64 n3, .int .i64 d3, .int .i64 n4, .int .i64 d4, .int .i64 n5, .int .i64 d5, .int .i64 n6, .int .i64 d6] := rfl
def RelAl {α : Type} (W : World) (f : α → Bool) (l : List α) (i : Value) (wr : World) : Prop := ∃ k : Nat, i = .int .i64 k ∧ k ≤ l.length ∧ Below W.heap.size W wr ∧ Hid (l.all f = (l.drop k).all f)
theorem RelAl.mk {α : Type} {W : World} {f : α → Bool} {l : List α} {i : Value} {wr : World} (k : Nat) (h1 : i = .int .i64 k) (h2 : k ≤ l.length) (h3 : Below W.heap.size W wr) (h4 : l.all f = (l.drop k).all f) : RelAl W f l i wr := ⟨k, h1, h2, h3, h4⟩
theorem all_step {α : Type} {f : α → Bool} {l : List α} {k : Nat} {x : α} (h : l.all f = (l.drop k).all f) (hx : l[k]? = some x) : l.all f = (f x && (l.drop (k + 1)).all f) := by rw [h, drop_atE hx, List.all_cons]
theorem all_end {α : Type} {f : α → Bool} {l : List α} {k : Nat} (h : l.all f = (l.drop k).all f) (hk : l.length ≤ k) : l.all f = true := by rw [h, List.drop_of_length_le hk]; rfl
theorem maF_succ (j : Nat) (us : List (Int × Int)) (ps : List Pa) : maF (j + 1) (.mk us ps) = (us.all (fun r => mayB r.1 r.2) && ps.all (fun p => !p.2.isEmpty && p.2.all (maF j))) := rfl
set_option maxRecDepth 100000 in
set_option maxHeartbeats 8000000 in
theorem mayAt_any_step (n : Nat) (IH : ∀ m, n = m + 1 → ∀ (us : List (Int × Int)) (ps : List Pa) (j : Nat) (u : Value) (w : World), Us us → 1 ≤ j ∧ j ≤ 341 → PM w m u ps →
    Calls Tryd.prog 38 #[foV us u, .int .i64 j] w fun e w' => e = .returned (.bool (maF (341 - j) (.mk us ps))) ∧ Below w.heap.size w w') : ∀ (us : List (Int × Int)) (ps : List Pa) (j : Nat) (u : Value) (w : World), Us us → 1 ≤ j ∧ j ≤ 341 → PM w n u ps →
    Calls Tryd.prog 38 #[foV us u, .int .i64 j] w fun e w' => e = .returned (.bool (maF (341 - j) (.mk us ps))) ∧ Below w.heap.size w w' := by
  intro us ps j u w hus hj hv
  obtain ⟨a, c, rfl, hl9⟩ := hv.shape
  have HUS := hide hus
  obtain ⟨n0, d0, n1, d1, n2, d2, n3, d3, n4, d4, n5, d5, n6, d6, rfl⟩ := us7 hus
  rw [foV_eq]
  have HV := hide hv
  replace IH := hide IH
  clear hv hus
  obtain ⟨hj1, hj2⟩ := hj
  by_cases hj3 : j = 341
  · subst hj3
    have F := hide (show maF (341 - 341) (.mk [(n0, d0), (n1, d1), (n2, d2), (n3, d3), (n4, d4), (n5, d5), (n6, d6)] ps) = false from rfl)
    clear HUS IH HV
    go_enter Tryd.func38, Tryd.ntmps38
    go_wp2
    go_ret
    exact ⟨ret_bool F.out.symm, bplus (Below.refl _ _) _⟩
  obtain ⟨q, hq⟩ : ∃ q, 341 - j = q + 1 := ⟨340 - j, by omega⟩
  have hj4 : (j : Int) ≤ 340 := by omega
  rw [hq]
  have EJ := hide (show 341 - (j + 1) = q by omega)
  have E := hide (maF_succ q [(n0, d0), (n1, d1), (n2, d2), (n3, d3), (n4, d4), (n5, d5), (n6, d6)] ps)
  obtain ⟨W1, hW1⟩ : ∃ W1, w.alloc (.cells #[.int .i64 n0, .int .i64 d0, .int .i64 n1, .int .i64 d1, .int .i64 n2, .int .i64 d2, .int .i64 n3, .int .i64 d3, .int .i64 n4, .int .i64 d4, .int .i64 n5, .int .i64 d5, .int .i64 n6, .int .i64 d6, .slice a ps.length c] 30) = W1 := ⟨_, rfl⟩
  have B0 := hide (show Below w.heap.size w W1 by rw [← hW1]; exact bplus (Below.refl _ _) _)
  have P0 := hide (show W1.heap[w.heap.size]? = some (.cells #[.int .i64 n0, .int .i64 d0, .int .i64 n1, .int .i64 d1, .int .i64 n2, .int .i64 d2, .int .i64 n3, .int .i64 d3, .int .i64 n4, .int .i64 d4, .int .i64 n5, .int .i64 d5, .int .i64 n6, .int .i64 d6, .slice a ps.length c] 30) by rw [← hW1]; exact heap_alloc_new w _)
  have hs1 : w.heap.size < W1.heap.size := by rw [← hW1]; simp
  have HW1 := hide hW1
  clear hW1
  obtain ⟨-, p14⟩ := bxk_15 P0.out
  replace p14 := hide p14
  generalize hU : [(n0, d0), (n1, d1), (n2, d2), (n3, d3), (n4, d4), (n5, d5), (n6, d6)] = US at *
  go_enter Tryd.func38, Tryd.ntmps38
  go_wp2
  rw [HW1.out]
  go_loopw [15] (fun i wr => RelAl W1 (fun r : Int × Int => mayB r.1 r.2) US i wr) (fun i _ => US.length - (intOf i).toNat)
  case atStart => exact .mk 0 rfl (by omega) (Below.refl _ _) rfl
  case round =>
    obtain ⟨k, rfl, hk, BE, R⟩ := hrel
    replace BE := hide BE
    have h7 : US.length = 7 := HUS.out.1
    by_cases hlt : k < 7
    · obtain ⟨rn, rd, hr, ⟨rn1, rn2⟩, ⟨rd1, rd2⟩⟩ := us_at HUS.out hlt
      have IX := ix7 (n0 := n0) (d0 := d0) (n1 := n1) (d1 := d1) (n2 := n2) (d2 := d2) (n3 := n3) (d3 := d3) (n4 := n4) (d4 := d4) (n5 := n5) (d5 := d5) (n6 := n6) (d6 := d6) hlt 27 (.inl rfl) (n := rn) (d := rd) (by rw [hU]; exact hr)
      have R2 := hide (all_step R.out hr)
      have C := hide (fun (W : World) => may_any rn rd W rn1 rn2 rd1 rd2)
      have hlt' : (k : Int) < 7 := by omega
      clear hr R
      cases hm : mayB rn rd
      · have HM := hide hm
        have F := hide (show maF (q + 1) (.mk US ps) = false by rw [E.out, R2.out, hm]; rfl)
        clear hm R2 E IH HV
        go_wp2_with (go_at_call 40; refine (C.out _).mono ?_; rintro e w1 ⟨rfl, U1⟩; rw [HM.out]; replace U1 := hide (bto (bplus BE.out _) U1.1))
        go_ret
        exact ⟨ret_bool F.out.symm, bto B0.out U1.out⟩
      · have HM := hide hm
        have R3 := hide (show US.all (fun r : Int × Int => mayB r.1 r.2) = (US.drop (k + 1)).all (fun r : Int × Int => mayB r.1 r.2) by rw [R2.out, hm]; rfl)
        clear hm R2
        go_wp2_with (go_at_call 40; refine (C.out _).mono ?_; rintro e w1 ⟨rfl, U1⟩; rw [HM.out]; replace U1 := hide (bto (bplus BE.out _) U1.1))
        go_roundw
        case rel => exact .mk (k + 1) (by go_num) (by omega) U1.out R3.out
        case measure => simp [intOf]; omega
    · have hlt' : ¬ (k : Int) < 7 := by omega
      have EU := hide (all_end R.out (by omega))
      replace E := hide (show maF (q + 1) (.mk US ps) = ps.all (fun p => !p.2.isEmpty && p.2.all (maF q)) by rw [E.out, EU.out]; rfl)
      have f14 := (BE.out.cell (p := ⟨w.heap.size, 14, none⟩) hs1).trans p14.out
      clear EU R
      go_wp2
      go_loopw [25] (fun i wr => RelAl W1 (fun p : Pa => !p.2.isEmpty && p.2.all (maF q)) ps i wr) (fun i _ => ps.length - (intOf i).toNat)
      case atStart => exact .mk 0 rfl (by omega) BE.out rfl
      case round =>
        clear f14 BE
        obtain ⟨k2, rfl, hk2, BE, R⟩ := hrel
        replace BE := hide BE
        by_cases hlt2 : k2 < ps.length
        · obtain ⟨p, hp⟩ : ∃ p, ps[k2]? = some p := ⟨_, List.getElem?_eq_getElem hlt2⟩
          obtain ⟨b2, o2, c2', u2, hv2, hb2, -, -, p0, p1, hu2⟩ := HV.out.at hp
          obtain ⟨rfl, rfl⟩ : a = some ⟨b2, o2, none⟩ ∧ c = c2' := by cases hv2; exact ⟨rfl, rfl⟩
          have hlt2' : (k2 : Int) < ps.length := by omega
          have hb2' : b2 < W1.heap.size := by omega
          have f0 := (BE.out.cell (p := ⟨b2, o2 + k2 * 2, none⟩) hb2').trans ((B0.out.cell (p := ⟨b2, o2 + k2 * 2, none⟩) hb2).trans p0)
          have f1 := (BE.out.cell (p := ⟨b2, o2 + k2 * 2 + 1, none⟩) hb2').trans ((B0.out.cell (p := ⟨b2, o2 + k2 * 2 + 1, none⟩) hb2).trans p1)
          have hbw2 : b2 < wr.heap.size := by have := BE.out.size; omega
          have nb2 : b2 ≠ wr.heap.size := by omega
          have R2 := hide (all_step R.out hp)
          obtain ⟨mx, ags⟩ := p
          simp only at f0 f1 hu2 R2
          obtain ⟨ua, uc, hus, has9⟩ := hu2.shape
          have HU := hide hu2
          clear p0 p1 hv2 hp hu2 R
          subst hus
          have BB := hide (bplus BE.out (.cells #[.bool mx, .slice ua ags.length uc] 51))
          by_cases ha0 : ags.length = 0
          · obtain rfl : ags = [] := List.eq_nil_of_length_eq_zero ha0
            have F := hide (show maF (q + 1) (.mk US ps) = false by rw [E.out, R2.out]; rfl)
            clear E R2 HU IH HV
            go_wp2
            go_ret
            exact ⟨ret_bool F.out.symm, bto B0.out BB.out⟩
          · have g1 : ((ags.length : Int) == 0) = false := by rw [beq_eq_false_iff_ne]; omega
            replace R2 := hide (show ps.all (fun p => !p.2.isEmpty && p.2.all (maF q)) = (ags.all (maF q) && (ps.drop (k2 + 1)).all (fun p => !p.2.isEmpty && p.2.all (maF q))) by
              rw [R2.out]; cases ags with | nil => simp at ha0 | cons x r => rfl)
            go_wp2
            go_loopw [36] (fun i wr => RelAl W1 (maF q) ags i wr) (fun i _ => ags.length - (intOf i).toNat)
            case atStart => exact .mk 0 rfl (by omega) BB.out rfl
            case round =>
              clear f0 f1 hbw2 nb2 BB BE
              obtain ⟨k3, rfl, hk3, BE, R3⟩ := hrel
              replace BE := hide BE
              by_cases hlt3 : k3 < ags.length
              · obtain ⟨x, hx⟩ : ∃ x, ags[k3]? = some x := ⟨_, List.getElem?_eq_getElem hlt3⟩
                obtain ⟨m, hm, b3, o3, c3', u3, hv3, hb3, -, -, q0, q1, hu3⟩ := HU.out.at hx
                obtain ⟨rfl, rfl⟩ : ua = some ⟨b3, o3, none⟩ ∧ uc = c3' := by cases hv3; exact ⟨rfl, rfl⟩
                have hlt3' : (k3 : Int) < ags.length := by omega
                have hb3' : b3 < W1.heap.size := by omega
                have f14 := (BE.out.cell (p := ⟨b3, o3 + k3 * 15 + 14, none⟩) hb3').trans ((B0.out.cell (p := ⟨b3, o3 + k3 * 15 + 14, none⟩) hb3).trans q1)
                have hbw3 : b3 < wr.heap.size := by have := BE.out.size; omega
                have nb3 : b3 ≠ wr.heap.size := by omega
                have R4 := hide (all_step R3.out hx)
                obtain ⟨xus, xps⟩ := x
                simp only [Fo.us, Fo.ps] at q0 hu3 R4
                obtain ⟨xa, xc, hxs, hx9⟩ := hu3.shape
                subst hxs
                have QU := hide q0.1
                have QP := hide hu3
                have CI := hide (fun (W : World) (h : Below W1.heap.size W1 W) => IH.out m hm xus xps (j + 1) (.slice xa xps.length xc) W QU.out ⟨by omega, by omega⟩ (QP.out.low (bto B0.out h)))
                obtain ⟨xn0, xd0, xn1, xd1, xn2, xd2, xn3, xd3, xn4, xd4, xn5, xd5, xn6, xd6, rfl⟩ := us7 QU.out
                rw [foV_eq, EJ.out, show ((j + 1 : Nat) : Int) = (j : Int) + 1 by omega] at CI
                obtain ⟨g0, g1, g2, g3, g4, g5, g6, g7, g8, g9, g10, g11, g12, g13⟩ := ((q0.below B0.out hb3).below BE.out hb3').fa
                clear hv3 hx q0 q1 hu3 R3 hm
                cases hmx : maF q (.mk [(xn0, xd0), (xn1, xd1), (xn2, xd2), (xn3, xd3), (xn4, xd4), (xn5, xd5), (xn6, xd6)] xps)
                · have HM := hide hmx
                  have F := hide (show maF (q + 1) (.mk US ps) = false by rw [E.out, R2.out, R4.out, hmx]; rfl)
                  clear hmx R4 R2 E
                  go_wp2_with (go_at_call 38; refine (CI.out _ (bplus BE.out _)).mono ?_; rintro e w4 ⟨rfl, B4⟩; rw [HM.out]; replace B4 := hide (bto (bplus BE.out _) B4))
                  go_ret
                  exact ⟨ret_bool F.out.symm, bto B0.out B4.out⟩
                · have HM := hide hmx
                  have R5 := hide (show ags.all (maF q) = (ags.drop (k3 + 1)).all (maF q) by rw [R4.out, hmx]; rfl)
                  clear hmx R4
                  go_wp2_with (go_at_call 38; refine (CI.out _ (bplus BE.out _)).mono ?_; rintro e w4 ⟨rfl, B4⟩; rw [HM.out]; replace B4 := hide (bto (bplus BE.out _) B4))
                  go_roundw
                  case rel => exact .mk (k3 + 1) (by go_num) (by omega) B4.out R5.out
                  case measure => simp [intOf]; omega
              · have hlt3' : ¬ (k3 : Int) < ags.length := by omega
                have EA := hide (all_end R3.out (by omega))
                have R5 := hide (show ps.all (fun p => !p.2.isEmpty && p.2.all (maF q)) = (ps.drop (k2 + 1)).all (fun p => !p.2.isEmpty && p.2.all (maF q)) by rw [R2.out, EA.out]; rfl)
                clear R2 EA R3
                go_wp2
                go_roundw
                case rel => exact .mk (k2 + 1) (by go_num) (by omega) BE.out R5.out
                case measure => simp [intOf]; omega
        · have hlt2' : ¬ (k2 : Int) < ps.length := by omega
          have F := hide (show maF (q + 1) (.mk US ps) = true by rw [E.out]; exact all_end R.out (by omega))
          clear R
          go_wp2
          go_ret
          exact ⟨ret_bool F.out.symm, bto B0.out BE.out⟩
set_option maxRecDepth 100000 in
set_option maxHeartbeats 8000000 in
theorem mayAt_any (n : Nat) : ∀ (us : List (Int × Int)) (ps : List Pa) (j : Nat) (u : Value) (w : World), Us us → 1 ≤ j ∧ j ≤ 341 → PM w n u ps →
    Calls Tryd.prog 38 #[foV us u, .int .i64 j] w fun e w' => e = .returned (.bool (maF (341 - j) (.mk us ps))) ∧ Below w.heap.size w w' := by
  induction n with
  | zero => exact mayAt_any_step 0 (fun m hm => by omega)
  | succ n ih => exact mayAt_any_step (n + 1) (fun m hm => by have e : m = n := (by omega); subst e; exact ih)
theorem fmay_any (n : Nat) (us : List (Int × Int)) (ps : List Pa) (u : Value) (w : World) (hus : Us us) (hv : PM w n u ps) :
    Calls Tryd.prog 20 #[foV us u] w fun e w' => e = .returned (.bool (maF 340 (.mk us ps))) ∧ Below w.heap.size w w' := by
  have C := hide (fun (W : World) (h : Below w.heap.size w W) => mayAt_any n us ps 1 u W hus ⟨by omega, by omega⟩ (hv.low h))
  obtain ⟨n0, d0, n1, d1, n2, d2, n3, d3, n4, d4, n5, d5, n6, d6, rfl⟩ := us7 hus
  rw [foV_eq] at C ⊢
  clear hv hus
  have B0 := hide (bplus (Below.refl w.heap.size w) (.cells #[.int .i64 n0, .int .i64 d0, .int .i64 n1, .int .i64 d1, .int .i64 n2, .int .i64 d2, .int .i64 n3, .int .i64 d3, .int .i64 n4, .int .i64 d4, .int .i64 n5, .int .i64 d5, .int .i64 n6, .int .i64 d6, u] 30))
  go_enter Tryd.func20, Tryd.ntmps20
  go_wp2_with (go_at_call 38; refine (C.out _ B0.out).mono ?_; rintro e w1 ⟨rfl, B1⟩)
  go_ret
  exact ⟨rfl, bto B0.out B1⟩
end Go.Proofs.YtlhmecagijdinaaDoor.nm
