/-
  Bytes of characters, by the program.
-/
import Derived.Test.YtfadjpebniebaaaGreatDoorUtfH
set_option linter.unusedVariables false
set_option linter.unusedSimpArgs false
namespace Go.Proofs.YtfadjpebniebaaaGreatDoor
open Go.RowKit

theorem isC_cases (x : Int) : (x < 0 ∧ isC x = false) ∨ (1114111 < x ∧ isC x = false) ∨ (55296 ≤ x ∧ x ≤ 57343 ∧ isC x = false) ∨ (0 ≤ x ∧ x < 55296 ∧ isC x = true) ∨ (57343 < x ∧ x ≤ 1114111 ∧ isC x = true) := by
  have := isC_iff x
  by_cases h : isC x = true
  · have := this.1 h; rcases this with ⟨h1, h2, h3 | h3⟩
    · right; right; right; left; exact ⟨h1, h3, h⟩
    · right; right; right; right; exact ⟨h3, h2, h⟩
  · have h' : isC x = false := by simpa using h
    have : ¬ (0 ≤ x ∧ x ≤ 1114111 ∧ (x < 55296 ∨ 57343 < x)) := fun k => h (this.2 k)
    simp only [h', and_true]; omega
set_option maxRecDepth 100000 in
set_option maxHeartbeats 1000000 in
theorem isChar_any (x : Int) (w : World) : Calls Tryz.prog 184 #[.int .i32 x] w fun e w' => e = .returned (.bool (isC x)) ∧ w' = w := by
  rcases isC_cases x with ⟨h, e⟩ | ⟨h, e⟩ | ⟨h, g, e⟩ | ⟨h, g, e⟩ | ⟨h, g, e⟩
  all_goals
    have E := hide e
    clear e
    go_enter Tryz.func184, Tryz.ntmps184
    go_wp2
    go_ret
    exact ⟨ret_bool (by first | (rw [E.out]; done) | (rw [E.out]; simp; omega)), rfl⟩
set_option maxRecDepth 100000 in
set_option maxHeartbeats 1000000 in
theorem isR_any (x : Int) (w : World) : Calls Tryz.prog 114 #[.int .i32 x] w fun e w' => e = .returned (.bool (isC x)) ∧ w' = w := by
  rcases isC_cases x with ⟨h, e⟩ | ⟨h, e⟩ | ⟨h, g, e⟩ | ⟨h, g, e⟩ | ⟨h, g, e⟩
  all_goals
    have E := hide e
    clear e
    go_enter Tryz.func114, Tryz.ntmps114
    go_wp2
    go_ret
    exact ⟨ret_bool (by first | (rw [E.out]; done) | (rw [E.out]; simp; omega)), rfl⟩
theorem follower_any (x : Int) (w : World) (h0 : 0 ≤ x) (h1 : x < 2147483648) : Calls Tryz.prog 204 #[.int .i32 x] w fun e w' => e = .returned (.int .u8 (128 + x % 64)) ∧ w' = w := by
  have e1 := i32_and63 x h0 h1
  have m0 : 0 ≤ x % 64 := by omega
  have m1 : x % 64 < 64 := by omega
  have e2 := i32_or128 (x % 64) m0 m1
  go_enter Tryz.func204, Tryz.ntmps204
  go_wp2
  go_ret
  exact ⟨ret_int (by first | rfl | omega), rfl⟩
theorem newsL (w : World) (l : List Value) (t : TypeId) : ∀ j x, l[j]? = some x → (w.alloc (.cells l.toArray t)).cell? ((⟨w.heap.size, 0, none⟩ : Addr).add j) = some x := fun j x hx => by
  rw [Addr.add_lit, cell_of_row _ w.heap.size (0 + j) _ t (0, 0) (heap_alloc_new w _)]
  simpa using hx
theorem info8 : (Tryz.prog.info? 5).map (fun i => (i.zero, i.size, i.bytes)) = some (some (.int .u8 0), 1, 1) := by kernel_rfl
theorem enc1_1 {x : Int} (h : x ≤ 127) : enc1 x = [x] := by unfold enc1; rw [if_pos h]
theorem enc1_2 {x : Int} (h : 127 < x) (h2 : x ≤ 2047) : enc1 x = [192 + x / 64, 128 + x % 64] := by unfold enc1; rw [if_neg (by omega), if_pos h2]
theorem enc1_3 {x : Int} (h : 2047 < x) (h2 : x ≤ 65535) : enc1 x = [224 + x / 4096, 128 + x / 64 % 64, 128 + x % 64] := by unfold enc1; rw [if_neg (by omega), if_neg (by omega), if_pos h2]
theorem enc1_4 {x : Int} (h : 65535 < x) : enc1 x = [240 + x / 262144, 128 + x / 4096 % 64, 128 + x / 64 % 64, 128 + x % 64] := by unfold enc1; rw [if_neg (by omega), if_neg (by omega), if_neg (by omega)]
set_option maxRecDepth 100000 in
set_option maxHeartbeats 2000000 in
theorem append_any (W w : World) (v : Value) (xs : List Int) (x : Int) (h0 : 0 ≤ x) (h1 : x ≤ 1114111) (ho : Own W .u8 5 w v xs) (hl : xs.length + 4 ≤ 140737488355328) :
    Calls Tryz.prog 185 #[v, .int .i32 x] w fun e w' => ∃ u, e = .returned u ∧ Own W .u8 5 w' u (xs ++ enc1 x) := by
  obtain ⟨i0, hi, hz0, hz1, hz2⟩ := info_parts info8
  have HO := hide ho
  clear ho
  rcases (show x ≤ 127 ∨ (127 < x ∧ x ≤ 2047) ∨ (2047 < x ∧ x ≤ 65535) ∨ 65535 < x by omega) with g | ⟨g, g'⟩ | ⟨g, g'⟩ | g
  · have E := hide (enc1_1 g)
    go_enter Tryz.func185, Tryz.ntmps185
    go_wp2_with (at_builtin; refine wpList_append_own _ rfl _ _ 36 rfl W.heap.size 5 i0 (.int .u8 0) 1 1 Tryz.underlying36 hi hz0 hz1 hz2 rfl (by decide) _ _ _ rfl (HO.out.1.alloc _) ⟨_, 0, none⟩ 1 1 [.int .u8 x] rfl rfl (newsL _ _ _) (ints_oneCell .u8 [x]) (by unfold maxLen; omega) (by omega) (by have := HO.out.2.size; simp; omega) ?_; intro v' w1 hown' hgrow _; replace HO := hide (HO.out.grow (ys := [x]) hown' hgrow); clear hown' hgrow)
    go_ret
    exact ⟨_, rfl, by rw [E.out]; exact HO.out⟩
  · have E := hide (enc1_2 g g')
    have d0 : 0 ≤ x / 64 := by omega
    have d1 : x / 64 < 32 := by omega
    have e1 := i32_or192 (x / 64) d0 (by omega)
    go_enter Tryz.func185, Tryz.ntmps185
    go_wp2_with (first
      | (go_at_call 204; refine (follower_any _ _ (by omega) (by omega)).mono ?_; rintro e w' ⟨rfl, rfl⟩)
      | (at_builtin; refine wpList_append_own _ rfl _ _ 36 rfl W.heap.size 5 i0 (.int .u8 0) 1 1 Tryz.underlying36 hi hz0 hz1 hz2 rfl (by decide) _ _ _ rfl (HO.out.1.alloc _) ⟨_, 0, none⟩ 2 2 [.int .u8 (192 + x / 64), .int .u8 (128 + x % 64)] rfl rfl (newsL _ _ _) (ints_oneCell .u8 [192 + x / 64, 128 + x % 64]) (by unfold maxLen; omega) (by omega) (by have := HO.out.2.size; simp; omega) ?_; intro v' w1 hown' hgrow _; replace HO := hide (HO.out.grow (ys := [192 + x / 64, 128 + x % 64]) hown' hgrow); clear hown' hgrow))
    go_ret
    exact ⟨_, rfl, by rw [E.out]; exact HO.out⟩
  · have E := hide (enc1_3 g g')
    have d0 : 0 ≤ x / 4096 := by omega
    have d1 : x / 4096 < 16 := by omega
    have e1 := i32_or224 (x / 4096) d0 (by omega)
    go_enter Tryz.func185, Tryz.ntmps185
    go_wp2_with (first
      | (go_at_call 204; refine (follower_any _ _ (by omega) (by omega)).mono ?_; rintro e w' ⟨rfl, rfl⟩)
      | (at_builtin; refine wpList_append_own _ rfl _ _ 36 rfl W.heap.size 5 i0 (.int .u8 0) 1 1 Tryz.underlying36 hi hz0 hz1 hz2 rfl (by decide) _ _ _ rfl (HO.out.1.alloc _) ⟨_, 0, none⟩ 3 3 [.int .u8 (224 + x / 4096), .int .u8 (128 + x / 64 % 64), .int .u8 (128 + x % 64)] rfl rfl (newsL _ _ _) (ints_oneCell .u8 [224 + x / 4096, 128 + x / 64 % 64, 128 + x % 64]) (by unfold maxLen; omega) (by omega) (by have := HO.out.2.size; simp; omega) ?_; intro v' w1 hown' hgrow _; replace HO := hide (HO.out.grow (ys := [224 + x / 4096, 128 + x / 64 % 64, 128 + x % 64]) hown' hgrow); clear hown' hgrow))
    go_ret
    exact ⟨_, rfl, by rw [E.out]; exact HO.out⟩
  · have E := hide (enc1_4 g)
    have d0 : 0 ≤ x / 262144 := by omega
    have d1 : x / 262144 < 8 := by omega
    have e1 := i32_or240 (x / 262144) d0 (by omega)
    go_enter Tryz.func185, Tryz.ntmps185
    go_wp2_with (first
      | (go_at_call 204; refine (follower_any _ _ (by omega) (by omega)).mono ?_; rintro e w' ⟨rfl, rfl⟩)
      | (at_builtin; refine wpList_append_own _ rfl _ _ 36 rfl W.heap.size 5 i0 (.int .u8 0) 1 1 Tryz.underlying36 hi hz0 hz1 hz2 rfl (by decide) _ _ _ rfl (HO.out.1.alloc _) ⟨_, 0, none⟩ 4 4 [.int .u8 (240 + x / 262144), .int .u8 (128 + x / 4096 % 64), .int .u8 (128 + x / 64 % 64), .int .u8 (128 + x % 64)] rfl rfl (newsL _ _ _) (ints_oneCell .u8 [240 + x / 262144, 128 + x / 4096 % 64, 128 + x / 64 % 64, 128 + x % 64]) (by unfold maxLen; omega) (by omega) (by have := HO.out.2.size; simp; omega) ?_; intro v' w1 hown' hgrow _; replace HO := hide (HO.out.grow (ys := [240 + x / 262144, 128 + x / 4096 % 64, 128 + x / 64 % 64, 128 + x % 64]) hown' hgrow); clear hown' hgrow))
    go_ret
    exact ⟨_, rfl, by rw [E.out]; exact HO.out⟩
/-- The state of a loop that writes characters. -/
def RelEnc (W : World) (n : Nat) (ls : List Int) (b i : Value) (wr : World) : Prop :=
  ∃ k : Nat, k ≤ n ∧ i = .int .i64 k ∧ Own W .u8 5 wr b (enc (ls.take k))
theorem RelEnc.mk {W : World} {n : Nat} {ls : List Int} {b i : Value} {wr : World} (k : Nat) (h1 : k ≤ n) (h2 : i = .int .i64 k) (h3 : Own W .u8 5 wr b (enc (ls.take k))) : RelEnc W n ls b i wr := ⟨k, h1, h2, h3⟩
theorem take_gt {bs : List Int} {i : Nat} (h : i < bs.length) : bs.take (i + 1) = bs.take i ++ [gt bs i] := by
  rw [gt_eq h]; exact List.take_succ_eq_append_getElem h
theorem enc_take_len (ls : List Int) (k : Nat) : (enc (ls.take k)).length ≤ 4 * k := by
  have h1 := (enc_len (ls.take k)).2
  have h2 : (ls.take k).length ≤ k := List.length_take_le _ _
  omega
theorem chr_yes {x : Int} (h : isC x = true) : chr x = x := by unfold chr; rw [if_pos h]
theorem chr_no {x : Int} (h : isC x = false) : chr x = 65533 := by unfold chr; rw [h]; rfl
set_option maxRecDepth 100000 in
set_option maxHeartbeats 1000000 in
theorem encP_any (ls : List Int) (v : Value) (w : World) (hv : Nums .i32 w v ls) (hl9 : ls.length ≤ 35184372088832) :
    Calls Tryz.prog 161 #[v] w fun e w' => ∃ u, e = .returned u ∧ Nums .u8 w' u (enc ls) ∧ Below w.heap.size w w' := by
  obtain ⟨i0, hi, hz0, hz1, hz2⟩ := info_parts info8
  rcases hv with ⟨a, c, rfl, rfl⟩ | ⟨b, o, n, c, rfl, hn, h0, hbw, hl, hn9, hc9, hc⟩
  · go_enter Tryz.func161, Tryz.ntmps161
    go_wp2_with (at_make; refine wpList_make_own _ rfl _ _ 36 rfl w.heap.size 5 i0 (.int .u8 0) 1 Tryz.underlying36 hi hz0 hz1 _ _ _ 0 rfl rfl (by omega) (by omega) (by unfold maxLen; omega) (Nat.le_refl _) ?_; intro w1 hown hgrow)
    refine wp_loop_rounds 1 ?_
    rw [rounds_succ]
    go_wp2
    go_ret
    exact ⟨_, rfl, .inl ⟨_, _, rfl, rfl⟩, (Own.made (k := .u8) hown hgrow).2⟩
  · have HN : Hid (n = ls.length) := hn
    have HC := hide hc
    have hnb : n ≤ 35184372088832 := by omega
    clear hc hn hl9
    go_enter Tryz.func161, Tryz.ntmps161
    go_wp2_with (at_make; refine wpList_make_own _ rfl _ _ 36 rfl w.heap.size 5 i0 (.int .u8 0) 1 Tryz.underlying36 hi hz0 hz1 _ _ _ n rfl rfl (by omega) (by rw [hz2]; omega) (by unfold maxLen; omega) (Nat.le_refl _) ?_; intro w1 hown hgrow)
    have HO := hide (Own.made (k := .u8) hown hgrow)
    clear hown hgrow
    go_loopw [3, 11] (fun b i wr => RelEnc w n ls b i wr) (fun _ i _ => n - (intOf i).toNat)
    case atStart => exact .mk 0 (by omega) rfl HO.out
    case round =>
      clear HO
      obtain ⟨k, hk, rfl, HO⟩ := hrel
      replace HO := hide HO
      have hle := enc_take_len ls k
      by_cases hlt : k < n
      · have cx : wr.cell? ⟨b, o + k, none⟩ = some (.int .i32 (gt ls k)) := (HO.out.2.cell (p := ⟨b, o + k, none⟩) hbw).trans (HC.out k hlt)
        have R : Hid (enc (ls.take (k + 1)) = enc (ls.take k) ++ enc1 (chr (gt ls k))) := by rw [take_gt (by rw [← HN.out]; exact hlt)]; exact enc_snoc _ _
        generalize gt ls k = x at cx R
        by_cases hx : isC x = true
        · obtain ⟨x0, x1, x2⟩ := (isC_iff x).1 hx
          rw [chr_yes hx] at R
          have HX := hide hx
          clear hx x2
          go_wp2_with (first
            | (go_at_call 184; refine (isChar_any x _).mono ?_; rintro e w' ⟨rfl, rfl⟩; rw [HX.out])
            | (go_at_call 185; refine (append_any w _ _ (enc (ls.take k)) x x0 x1 HO.out (by omega)).mono ?_; rintro e w' ⟨u, rfl, HO'⟩; replace HO' := hide HO'; clear HO))
          go_roundw
          case rel => exact .mk (k + 1) (by omega) (by go_num) (by rw [R.out]; exact HO'.out)
          case measure => simp [intOf]; omega
        · have hx' : isC x = false := by simpa using hx
          rw [chr_no hx'] at R
          have HX := hide hx'
          clear hx hx'
          go_wp2_with (first
            | (go_at_call 184; refine (isChar_any x _).mono ?_; rintro e w' ⟨rfl, rfl⟩; rw [HX.out])
            | (go_at_call 185; refine (append_any w _ _ (enc (ls.take k)) 65533 (by decide) (by decide) HO.out (by omega)).mono ?_; rintro e w' ⟨u, rfl, HO'⟩; replace HO' := hide HO'; clear HO))
          go_roundw
          case rel => exact .mk (k + 1) (by omega) (by go_num) (by rw [R.out]; exact HO'.out)
          case measure => simp [intOf]; omega
      · have hkn : k = n := by omega
        subst hkn
        have R : Hid (ls.take k = ls) := List.take_of_length_le (by rw [← HN.out]; omega)
        rw [R.out] at HO hle
        have N := hide (HO.out.nums (by omega))
        go_wp2
        go_ret
        exact ⟨_, rfl, N.out, HO.out.2⟩
end Go.Proofs.YtfadjpebniebaaaGreatDoor
