/-
  Line ends, and the characters of a stylesheet, by the program.
-/
import Derived.Test.YtckefmhleklciaaGreatDoorUtfN
set_option linter.unusedVariables false
set_option linter.unusedSimpArgs false
namespace Go.Proofs.YtckefmhleklciaaGreatDoor
open Go.RowKit

set_option maxRecDepth 100000 in
set_option maxHeartbeats 4000000 in
theorem line_any (ls : List Int) (v : Value) (w : World) (hv : Nums .i32 w v ls) (hl9 : ls.length ≤ 1099511627776) :
    Calls Tryz.prog 47 #[v] w fun e w' => ∃ u, e = .returned u ∧ Nums .i32 w' u (lin 0 ls) ∧ Below w.heap.size w w' := by
  obtain ⟨i0, hi, hz0, hz1, hz2⟩ := info_parts info32
  obtain ⟨a, n, c, rfl, hn, hn9, _, hc⟩ := hv.form
  have HN := hide hn
  have HC := hide hc
  have hnb : n ≤ 1099511627776 := by omega
  clear hc hn hl9 hv
  go_enter Tryz.func47, Tryz.ntmps47
  go_wp2_with (at_make; refine wpList_make_own _ rfl _ _ 22 rfl w.heap.size 21 i0 (.int .i32 0) 1 Tryz.underlying22 hi hz0 hz1 _ _ _ n rfl rfl (by omega) (by rw [hz2]; omega) (by unfold maxLen; omega) (Nat.le_refl _) ?_; intro w1 hown hgrow)
  have HO := hide (Own.made (k := .i32) hown hgrow)
  clear hown hgrow
  go_loopw [3, 11] (fun l i wr => RelLin w n ls l i wr) (fun _ i _ => n - (intOf i).toNat)
  case atStart => exact .mk 0 [] (by omega) rfl (by simp) HO.out rfl
  case round =>
    clear HO
    obtain ⟨k, xs, hk, rfl, hxs, HO, R⟩ := hrel
    replace HO := hide HO
    by_cases hlt : k < n
    · obtain ⟨b, o, rfl, hbw, hcl, hc9, hcc⟩ := HC.out (by omega)
      have cx : wr.cell? ⟨b, o + k, none⟩ = some (.int .i32 (gt ls k)) := (HO.out.2.cell (p := ⟨b, o + k, none⟩) hbw).trans (hcc k hlt)
      have cp : ∀ j, k = j + 1 → wr.cell? ⟨b, o + j, none⟩ = some (.int .i32 (pv ls k)) := fun j hj => by subst hj; exact (HO.out.2.cell (p := ⟨b, o + j, none⟩) hbw).trans (hcc j (by omega))
      have p0 : k = 0 → pv ls k = 0 := fun h => by subst h; rfl
      have R1 := hide (lin_in R.out (by rw [← HN.out]; exact hlt))
      have R2 := hide (lin_out R.out (by rw [← HN.out]; exact hlt))
      clear hcc R
      generalize gt ls k = x at *
      generalize pv ls k = p at *
      have CP := hide cp
      clear cp
      rcases tr_cases x p with ⟨rfl, rfl⟩ | ⟨hno, q⟩
      · have R := hide (R2.out ⟨rfl, rfl⟩)
        clear R1 R2
        cases k with
        | zero => exact absurd (p0 rfl) (by decide)
        | succ j =>
          have c1 := CP.out j rfl
          clear p0
          go_wp2
          go_roundw
          case rel => exact .mk (j + 1 + 1) xs (by omega) (by go_num) (by omega) HO.out R.out
          case measure => simp [intOf]; omega
      · have R := hide (R1.out hno)
        clear R1 R2 hno
        rcases q with ⟨rfl, hp, e⟩ | ⟨rfl, e⟩ | ⟨rfl, e⟩ | ⟨rfl, e⟩ | ⟨x1, x2, x3, x4, e⟩
        · rw [e] at R
          clear e
          cases k with
          | zero =>
            simp only [Nat.add_zero] at cx
            go_wp2_with (at_builtin; refine wpList_append_own _ rfl _ _ 22 rfl w.heap.size 21 i0 (.int .i32 0) 1 4 Tryz.underlying22 hi hz0 hz1 hz2 rfl (by decide) _ _ _ rfl (HO.out.1.alloc _) ⟨_, 0, none⟩ 1 1 [.int .i32 10] rfl rfl (news1 _ _ _) (by intro u hu; simp at hu; subst hu; rfl) (by unfold maxLen; omega) (by omega) (by have := HO.out.2.size; simp; omega) ?_; intro v' w1 hown' hgrow _; replace HO := hide (HO.out.grow (ys := [10]) hown' hgrow); clear hown' hgrow)
            go_roundw
            case rel => exact .mk (0 + 1) (xs ++ [10]) (by omega) (by go_num) (by rw [List.length_append, List.length_singleton]; omega) HO.out R.out
            case measure => simp [intOf]; omega
          | succ j =>
            have c1 := CP.out j rfl
            have hp' : (p == 13) = false := by simp [hp]
            clear p0 hp
            go_wp2_with (at_builtin; refine wpList_append_own _ rfl _ _ 22 rfl w.heap.size 21 i0 (.int .i32 0) 1 4 Tryz.underlying22 hi hz0 hz1 hz2 rfl (by decide) _ _ _ rfl (HO.out.1.alloc _) ⟨_, 0, none⟩ 1 1 [.int .i32 10] rfl rfl (news1 _ _ _) (by intro u hu; simp at hu; subst hu; rfl) (by unfold maxLen; omega) (by omega) (by have := HO.out.2.size; simp; omega) ?_; intro v' w1 hown' hgrow _; replace HO := hide (HO.out.grow (ys := [10]) hown' hgrow); clear hown' hgrow)
            go_roundw
            case rel => exact .mk (j + 1 + 1) (xs ++ [10]) (by omega) (by go_num) (by rw [List.length_append, List.length_singleton]; omega) HO.out R.out
            case measure => simp [intOf]; omega
        · rw [e] at R
          clear e CP p0
          go_wp2_with (at_builtin; refine wpList_append_own _ rfl _ _ 22 rfl w.heap.size 21 i0 (.int .i32 0) 1 4 Tryz.underlying22 hi hz0 hz1 hz2 rfl (by decide) _ _ _ rfl (HO.out.1.alloc _) ⟨_, 0, none⟩ 1 1 [.int .i32 10] rfl rfl (news1 _ _ _) (by intro u hu; simp at hu; subst hu; rfl) (by unfold maxLen; omega) (by omega) (by have := HO.out.2.size; simp; omega) ?_; intro v' w1 hown' hgrow _; replace HO := hide (HO.out.grow (ys := [10]) hown' hgrow); clear hown' hgrow)
          go_roundw
          case rel => exact .mk (k + 1) (xs ++ [10]) (by omega) (by go_num) (by rw [List.length_append, List.length_singleton]; omega) HO.out R.out
          case measure => simp [intOf]; omega
        · rw [e] at R
          clear e CP p0
          go_wp2_with (at_builtin; refine wpList_append_own _ rfl _ _ 22 rfl w.heap.size 21 i0 (.int .i32 0) 1 4 Tryz.underlying22 hi hz0 hz1 hz2 rfl (by decide) _ _ _ rfl (HO.out.1.alloc _) ⟨_, 0, none⟩ 1 1 [.int .i32 10] rfl rfl (news1 _ _ _) (by intro u hu; simp at hu; subst hu; rfl) (by unfold maxLen; omega) (by omega) (by have := HO.out.2.size; simp; omega) ?_; intro v' w1 hown' hgrow _; replace HO := hide (HO.out.grow (ys := [10]) hown' hgrow); clear hown' hgrow)
          go_roundw
          case rel => exact .mk (k + 1) (xs ++ [10]) (by omega) (by go_num) (by rw [List.length_append, List.length_singleton]; omega) HO.out R.out
          case measure => simp [intOf]; omega
        · rw [e] at R
          clear e CP p0
          go_wp2_with (at_builtin; refine wpList_append_own _ rfl _ _ 22 rfl w.heap.size 21 i0 (.int .i32 0) 1 4 Tryz.underlying22 hi hz0 hz1 hz2 rfl (by decide) _ _ _ rfl (HO.out.1.alloc _) ⟨_, 0, none⟩ 1 1 [.int .i32 65533] rfl rfl (news1 _ _ _) (by intro u hu; simp at hu; subst hu; rfl) (by unfold maxLen; omega) (by omega) (by have := HO.out.2.size; simp; omega) ?_; intro v' w1 hown' hgrow _; replace HO := hide (HO.out.grow (ys := [65533]) hown' hgrow); clear hown' hgrow)
          go_roundw
          case rel => exact .mk (k + 1) (xs ++ [65533]) (by omega) (by go_num) (by rw [List.length_append, List.length_singleton]; omega) HO.out R.out
          case measure => simp [intOf]; omega
        · rw [e] at R
          have y1 : (x == 10) = false := by simp [x1]
          have y2 : (x == 13) = false := by simp [x2]
          have y3 : (x == 12) = false := by simp [x3]
          have y4 : (x == 0) = false := by simp [x4]
          clear e CP p0 x1 x2 x3 x4
          go_wp2_with (at_builtin; refine wpList_append_own _ rfl _ _ 22 rfl w.heap.size 21 i0 (.int .i32 0) 1 4 Tryz.underlying22 hi hz0 hz1 hz2 rfl (by decide) _ _ _ rfl (HO.out.1.alloc _) ⟨_, 0, none⟩ 1 1 [.int .i32 x] rfl rfl (news1 _ _ _) (by intro u hu; simp at hu; subst hu; rfl) (by unfold maxLen; omega) (by omega) (by have := HO.out.2.size; simp; omega) ?_; intro v' w1 hown' hgrow _; replace HO := hide (HO.out.grow (ys := [x]) hown' hgrow); clear hown' hgrow)
          go_roundw
          case rel => exact .mk (k + 1) (xs ++ [x]) (by omega) (by go_num) (by rw [List.length_append, List.length_singleton]; omega) HO.out R.out
          case measure => simp [intOf]; omega
    · have R' := hide (lin_end R.out (by rw [← HN.out]; omega))
      have N := hide (HO.out.nums (by omega))
      go_wp2
      go_ret
      exact ⟨_, rfl, by rw [R'.out]; exact N.out, HO.out.2⟩
/-- A slice without its first three. -/
theorem Nums.three {k : IntKind} {w : World} {b o n c : Nat} {bs : List Int} (h : Nums k w (.slice (some ⟨b, o, none⟩) n c) bs) (h3 : 3 ≤ n) (hc : ¬ c = 3) : Nums k w (.slice (some ⟨b, o + 3, none⟩) (n - 3) (c - 3)) (bs.drop 3) := by
  rcases h with ⟨a, c', e, rfl⟩ | ⟨b', o', n', c', e, hn, h0, hbw, hl, hn9, hc9, hcc⟩
  · simp at e; omega
  · simp at e
    obtain ⟨⟨rfl, rfl⟩, rfl, rfl⟩ := e
    by_cases h : n = 3
    · exact .inl ⟨_, _, by rw [h], List.drop_of_length_le (by omega)⟩
    · exact .inr ⟨b, o + 3, n - 3, c - 3, rfl, by rw [List.length_drop]; omega, by omega, hbw, by omega, by omega, by omega, fun i hi => by rw [gt_drop, Nat.add_assoc]; exact hcc (3 + i) (by omega)⟩
theorem Nums.none3 {k : IntKind} {w : World} {a : Option Addr} {n c : Nat} {bs : List Int} (h : Nums k w (.slice a n c) bs) (h3 : 3 ≤ n) (hc : c = 3) : n = 3 ∧ bs.drop 3 = [] := by
  rcases h with ⟨a, c', e, rfl⟩ | ⟨b', o', n', c', e, hn, h0, hbw, hl, hn9, hc9, hcc⟩
  · simp at e; omega
  · simp at e
    obtain ⟨rfl, rfl, rfl⟩ := e
    exact ⟨by omega, List.drop_of_length_le (by omega)⟩
theorem mark_len {bs : List Int} (h : mark bs = true) : 3 ≤ bs.length := by unfold mark at h; simp at h; exact h.1
set_option maxRecDepth 100000 in
set_option maxHeartbeats 1000000 in
theorem dcdP_any (bs : List Int) (v : Value) (w : World) (hb : By bs) (hv : Nums .u8 w v bs) (hl9 : bs.length ≤ 1099511627776) :
    Calls Tryz.prog 20 #[v] w fun e w' => ∃ u, e = .returned u ∧ Nums .i32 w' u (dcd bs) ∧ Below w.heap.size w w' := by
  obtain ⟨a, n, c, rfl, hn, hn9, _, hc⟩ := hv.form
  have HV := hide hv
  have LC := cutm_len bs
  have LR := (raw_le (cut bs)).1
  have BC := hb.cut
  have D := hide (show dcd bs = lin 0 (raw (cut bs)) from rfl)
  by_cases hm : mark bs = true
  · have hlen := mark_len hm
    have h3 : 3 ≤ n := by omega
    obtain ⟨b, o, rfl, hbw, hcl, hc9, _⟩ := hc (by omega)
    have HM := hide hm
    have e1 : cut bs = bs.drop 3 := by unfold cut; rw [if_pos hm]
    rw [e1] at LC LR BC D
    by_cases hc3 : c = 3
    · obtain ⟨e2, e3⟩ := hv.none3 h3 hc3
      have NC := hide (show Nums .u8 w (.slice (some ⟨b, o, none⟩) 0 0) (bs.drop 3) from .inl ⟨_, _, rfl, e3⟩)
      clear hc hn hv hm e1 hlen e3
      subst hc3
      subst e2
      go_enter Tryz.func20, Tryz.ntmps20
      go_wp2_with (first
        | (go_at_call 46; refine (mark_any bs _ _ HV.out).mono ?_; rintro e w' ⟨rfl, rfl⟩; rw [HM.out])
        | (go_at_call 48; refine (rawP_any (bs.drop 3) _ _ BC NC.out (by omega)).mono ?_; rintro e w1 ⟨u1, rfl, N1, B1⟩; replace N1 := hide N1; replace B1 := hide B1)
        | (go_at_call 47; refine (line_any _ _ _ N1.out (by omega)).mono ?_; rintro e w2 ⟨u2, rfl, N2, B2⟩; replace N2 := hide N2; replace B1 := hide (bto B1.out B2); clear B2))
      go_ret
      exact ⟨_, rfl, by rw [D.out]; exact N2.out, B1.out⟩
    · have NC := hide (hv.three h3 hc3)
      clear hc hn hv hm e1 hlen
      go_enter Tryz.func20, Tryz.ntmps20
      go_wp2_with (first
        | (go_at_call 46; refine (mark_any bs _ _ HV.out).mono ?_; rintro e w' ⟨rfl, rfl⟩; rw [HM.out])
        | (go_at_call 48; refine (rawP_any (bs.drop 3) _ _ BC NC.out (by omega)).mono ?_; rintro e w1 ⟨u1, rfl, N1, B1⟩; replace N1 := hide N1; replace B1 := hide B1)
        | (go_at_call 47; refine (line_any _ _ _ N1.out (by omega)).mono ?_; rintro e w2 ⟨u2, rfl, N2, B2⟩; replace N2 := hide N2; replace B1 := hide (bto B1.out B2); clear B2))
      go_ret
      exact ⟨_, rfl, by rw [D.out]; exact N2.out, B1.out⟩
  · have hm' : mark bs = false := by simpa using hm
    have HM := hide hm'
    have e1 : cut bs = bs := by unfold cut; rw [if_neg hm]
    rw [e1] at LC LR BC D
    clear hc hn hv hm hm' e1
    go_enter Tryz.func20, Tryz.ntmps20
    go_wp2_with (first
      | (go_at_call 46; refine (mark_any bs _ _ HV.out).mono ?_; rintro e w' ⟨rfl, rfl⟩; rw [HM.out])
      | (go_at_call 48; refine (rawP_any bs _ _ BC HV.out (by omega)).mono ?_; rintro e w1 ⟨u1, rfl, N1, B1⟩; replace N1 := hide N1; replace B1 := hide B1)
      | (go_at_call 47; refine (line_any _ _ _ N1.out (by omega)).mono ?_; rintro e w2 ⟨u2, rfl, N2, B2⟩; replace N2 := hide N2; replace B1 := hide (bto B1.out B2); clear B2))
    go_ret
    exact ⟨_, rfl, by rw [D.out]; exact N2.out, B1.out⟩
end Go.Proofs.YtckefmhleklciaaGreatDoor
