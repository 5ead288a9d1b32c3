/-
  Bytes of characters, by the program.
  Bytes of characters, by the reference; the law of both.
  Plain: there and back; how many come out; what goes on behind whole bytes.
  Bytes of a stylesheet: the mark at the front, line ends, by the program.
  Line ends, and the characters of a stylesheet, by the program.
  The law: what is decoded is decoded again as it is.
-/
import Derived.Test.YtcclhdiphcfdfaaGreatDoorKa
set_option linter.unusedVariables false
set_option linter.unusedSimpArgs false
namespace Go.Proofs.YtcclhdiphcfdfaaGreatDoor
open Go.RowKit

theorem isC_cases (x : Int) : (x < 0 ∧ isC x = false) ∨ (1114111 < x ∧ isC x = false) ∨ (55296 ≤ x ∧ x ≤ 57343 ∧ isC x = false) ∨ (0 ≤ x ∧ x < 55296 ∧ isC x = true) ∨ (57343 < x ∧ x ≤ 1114111 ∧ isC x = true) := by
  have := isC_iff x
  by_cases h : isC x = true
  · have := this.1 h; rcases this with ⟨h1, h2, h3 | h3⟩
    · right; right; right; left; exact ⟨h1, h3, h⟩
    · right; right; right; right; exact ⟨h3, h2, h⟩
  · have h' : isC x = false := by simpa using h
    have : ¬ (0 ≤ x ∧ x ≤ 1114111 ∧ (x < 55296 ∨ 57343 < x)) := fun k => h (this.2 k)
    simp only [h', and_true]; omega
set_option maxRecDepth 100000 in
set_option maxHeartbeats 1000000 in
theorem isChar_any (x : Int) (w : World) : Calls Tryz.prog 184 #[.int .i32 x] w fun e w' => e = .returned (.bool (isC x)) ∧ w' = w := by
  rcases isC_cases x with ⟨h, e⟩ | ⟨h, e⟩ | ⟨h, g, e⟩ | ⟨h, g, e⟩ | ⟨h, g, e⟩
  all_goals
    have E := hide e
    clear e
    go_enter Tryz.func184, Tryz.ntmps184
    go_wp2
    go_ret
    exact ⟨ret_bool (by first | (rw [E.out]; done) | (rw [E.out]; simp; omega)), rfl⟩
set_option maxRecDepth 100000 in
set_option maxHeartbeats 1000000 in
theorem isR_any (x : Int) (w : World) : Calls Tryz.prog 114 #[.int .i32 x] w fun e w' => e = .returned (.bool (isC x)) ∧ w' = w := by
  rcases isC_cases x with ⟨h, e⟩ | ⟨h, e⟩ | ⟨h, g, e⟩ | ⟨h, g, e⟩ | ⟨h, g, e⟩
  all_goals
    have E := hide e
    clear e
    go_enter Tryz.func114, Tryz.ntmps114
    go_wp2
    go_ret
    exact ⟨ret_bool (by first | (rw [E.out]; done) | (rw [E.out]; simp; omega)), rfl⟩
theorem follower_any (x : Int) (w : World) (h0 : 0 ≤ x) (h1 : x < 2147483648) : Calls Tryz.prog 204 #[.int .i32 x] w fun e w' => e = .returned (.int .u8 (128 + x % 64)) ∧ w' = w := by
  have e1 := i32_and63 x h0 h1
  have m0 : 0 ≤ x % 64 := by omega
  have m1 : x % 64 < 64 := by omega
  have e2 := i32_or128 (x % 64) m0 m1
  go_enter Tryz.func204, Tryz.ntmps204
  go_wp2
  go_ret
  exact ⟨ret_int (by first | rfl | omega), rfl⟩
theorem newsL (w : World) (l : List Value) (t : TypeId) : ∀ j x, l[j]? = some x → (w.alloc (.cells l.toArray t)).cell? ((⟨w.heap.size, 0, none⟩ : Addr).add j) = some x := fun j x hx => by
  rw [Addr.add_lit, cell_of_row _ w.heap.size (0 + j) _ t (0, 0) (heap_alloc_new w _)]
  simpa using hx
theorem info8 : (Tryz.prog.info? 5).map (fun i => (i.zero, i.size, i.bytes)) = some (some (.int .u8 0), 1, 1) := by kernel_rfl
theorem enc1_1 {x : Int} (h : x ≤ 127) : enc1 x = [x] := by unfold enc1; rw [if_pos h]
theorem enc1_2 {x : Int} (h : 127 < x) (h2 : x ≤ 2047) : enc1 x = [192 + x / 64, 128 + x % 64] := by unfold enc1; rw [if_neg (by omega), if_pos h2]
theorem enc1_3 {x : Int} (h : 2047 < x) (h2 : x ≤ 65535) : enc1 x = [224 + x / 4096, 128 + x / 64 % 64, 128 + x % 64] := by unfold enc1; rw [if_neg (by omega), if_neg (by omega), if_pos h2]
theorem enc1_4 {x : Int} (h : 65535 < x) : enc1 x = [240 + x / 262144, 128 + x / 4096 % 64, 128 + x / 64 % 64, 128 + x % 64] := by unfold enc1; rw [if_neg (by omega), if_neg (by omega), if_neg (by omega)]
set_option maxRecDepth 100000 in
set_option maxHeartbeats 2000000 in
theorem append_any (W w : World) (v : Value) (xs : List Int) (x : Int) (h0 : 0 ≤ x) (h1 : x ≤ 1114111) (ho : Own W .u8 5 w v xs) (hl : xs.length + 4 ≤ 140737488355328) :
    Calls Tryz.prog 185 #[v, .int .i32 x] w fun e w' => ∃ u, e = .returned u ∧ Own W .u8 5 w' u (xs ++ enc1 x) := by
  obtain ⟨i0, hi, hz0, hz1, hz2⟩ := info_parts info8
  have HO := hide ho
  clear ho
  rcases (show x ≤ 127 ∨ (127 < x ∧ x ≤ 2047) ∨ (2047 < x ∧ x ≤ 65535) ∨ 65535 < x by omega) with g | ⟨g, g'⟩ | ⟨g, g'⟩ | g
  · have E := hide (enc1_1 g)
    go_enter Tryz.func185, Tryz.ntmps185
    go_wp2_with (at_builtin; refine wpList_append_own _ rfl _ _ 36 rfl W.heap.size 5 i0 (.int .u8 0) 1 1 Tryz.underlying36 hi hz0 hz1 hz2 rfl (by decide) _ _ _ rfl (HO.out.1.alloc _) ⟨_, 0, none⟩ 1 1 [.int .u8 x] rfl rfl (newsL _ _ _) (ints_oneCell .u8 [x]) (by unfold maxLen; omega) (by omega) (by have := HO.out.2.size; simp; omega) ?_; intro v' w1 hown' hgrow _; replace HO := hide (HO.out.grow (ys := [x]) hown' hgrow); clear hown' hgrow)
    go_ret
    exact ⟨_, rfl, by rw [E.out]; exact HO.out⟩
  · have E := hide (enc1_2 g g')
    have d0 : 0 ≤ x / 64 := by omega
    have d1 : x / 64 < 32 := by omega
    have e1 := i32_or192 (x / 64) d0 (by omega)
    go_enter Tryz.func185, Tryz.ntmps185
    go_wp2_with (first
      | (go_at_call 204; refine (follower_any _ _ (by omega) (by omega)).mono ?_; rintro e w' ⟨rfl, rfl⟩)
      | (at_builtin; refine wpList_append_own _ rfl _ _ 36 rfl W.heap.size 5 i0 (.int .u8 0) 1 1 Tryz.underlying36 hi hz0 hz1 hz2 rfl (by decide) _ _ _ rfl (HO.out.1.alloc _) ⟨_, 0, none⟩ 2 2 [.int .u8 (192 + x / 64), .int .u8 (128 + x % 64)] rfl rfl (newsL _ _ _) (ints_oneCell .u8 [192 + x / 64, 128 + x % 64]) (by unfold maxLen; omega) (by omega) (by have := HO.out.2.size; simp; omega) ?_; intro v' w1 hown' hgrow _; replace HO := hide (HO.out.grow (ys := [192 + x / 64, 128 + x % 64]) hown' hgrow); clear hown' hgrow))
    go_ret
    exact ⟨_, rfl, by rw [E.out]; exact HO.out⟩
  · have E := hide (enc1_3 g g')
    have d0 : 0 ≤ x / 4096 := by omega
    have d1 : x / 4096 < 16 := by omega
    have e1 := i32_or224 (x / 4096) d0 (by omega)
    go_enter Tryz.func185, Tryz.ntmps185
    go_wp2_with (first
      | (go_at_call 204; refine (follower_any _ _ (by omega) (by omega)).mono ?_; rintro e w' ⟨rfl, rfl⟩)
      | (at_builtin; refine wpList_append_own _ rfl _ _ 36 rfl W.heap.size 5 i0 (.int .u8 0) 1 1 Tryz.underlying36 hi hz0 hz1 hz2 rfl (by decide) _ _ _ rfl (HO.out.1.alloc _) ⟨_, 0, none⟩ 3 3 [.int .u8 (224 + x / 4096), .int .u8 (128 + x / 64 % 64), .int .u8 (128 + x % 64)] rfl rfl (newsL _ _ _) (ints_oneCell .u8 [224 + x / 4096, 128 + x / 64 % 64, 128 + x % 64]) (by unfold maxLen; omega) (by omega) (by have := HO.out.2.size; simp; omega) ?_; intro v' w1 hown' hgrow _; replace HO := hide (HO.out.grow (ys := [224 + x / 4096, 128 + x / 64 % 64, 128 + x % 64]) hown' hgrow); clear hown' hgrow))
    go_ret
    exact ⟨_, rfl, by rw [E.out]; exact HO.out⟩
  · have E := hide (enc1_4 g)
    have d0 : 0 ≤ x / 262144 := by omega
    have d1 : x / 262144 < 8 := by omega
    have e1 := i32_or240 (x / 262144) d0 (by omega)
    go_enter Tryz.func185, Tryz.ntmps185
    go_wp2_with (first
      | (go_at_call 204; refine (follower_any _ _ (by omega) (by omega)).mono ?_; rintro e w' ⟨rfl, rfl⟩)
      | (at_builtin; refine wpList_append_own _ rfl _ _ 36 rfl W.heap.size 5 i0 (.int .u8 0) 1 1 Tryz.underlying36 hi hz0 hz1 hz2 rfl (by decide) _ _ _ rfl (HO.out.1.alloc _) ⟨_, 0, none⟩ 4 4 [.int .u8 (240 + x / 262144), .int .u8 (128 + x / 4096 % 64), .int .u8 (128 + x / 64 % 64), .int .u8 (128 + x % 64)] rfl rfl (newsL _ _ _) (ints_oneCell .u8 [240 + x / 262144, 128 + x / 4096 % 64, 128 + x / 64 % 64, 128 + x % 64]) (by unfold maxLen; omega) (by omega) (by have := HO.out.2.size; simp; omega) ?_; intro v' w1 hown' hgrow _; replace HO := hide (HO.out.grow (ys := [240 + x / 262144, 128 + x / 4096 % 64, 128 + x / 64 % 64, 128 + x % 64]) hown' hgrow); clear hown' hgrow))
    go_ret
    exact ⟨_, rfl, by rw [E.out]; exact HO.out⟩
/-- The state of a loop that writes characters. -/
def RelEnc (W : World) (n : Nat) (ls : List Int) (b i : Value) (wr : World) : Prop :=
  ∃ k : Nat, k ≤ n ∧ i = .int .i64 k ∧ Own W .u8 5 wr b (enc (ls.take k))
theorem RelEnc.mk {W : World} {n : Nat} {ls : List Int} {b i : Value} {wr : World} (k : Nat) (h1 : k ≤ n) (h2 : i = .int .i64 k) (h3 : Own W .u8 5 wr b (enc (ls.take k))) : RelEnc W n ls b i wr := ⟨k, h1, h2, h3⟩
theorem take_gt {bs : List Int} {i : Nat} (h : i < bs.length) : bs.take (i + 1) = bs.take i ++ [gt bs i] := by
  rw [gt_eq h]; exact List.take_succ_eq_append_getElem h
theorem enc_take_len (ls : List Int) (k : Nat) : (enc (ls.take k)).length ≤ 4 * k := by
  have h1 := (enc_len (ls.take k)).2
  have h2 : (ls.take k).length ≤ k := List.length_take_le _ _
  omega
theorem chr_yes {x : Int} (h : isC x = true) : chr x = x := by unfold chr; rw [if_pos h]
theorem chr_no {x : Int} (h : isC x = false) : chr x = 65533 := by unfold chr; rw [h]; rfl
set_option maxRecDepth 100000 in
set_option maxHeartbeats 1000000 in
theorem encP_any (ls : List Int) (v : Value) (w : World) (hv : Nums .i32 w v ls) (hl9 : ls.length ≤ 35184372088832) :
    Calls Tryz.prog 161 #[v] w fun e w' => ∃ u, e = .returned u ∧ Nums .u8 w' u (enc ls) ∧ Below w.heap.size w w' := by
  obtain ⟨i0, hi, hz0, hz1, hz2⟩ := info_parts info8
  rcases hv with ⟨a, c, rfl, rfl⟩ | ⟨b, o, n, c, rfl, hn, h0, hbw, hl, hn9, hc9, hc⟩
  · go_enter Tryz.func161, Tryz.ntmps161
    go_wp2_with (at_make; refine wpList_make_own _ rfl _ _ 36 rfl w.heap.size 5 i0 (.int .u8 0) 1 Tryz.underlying36 hi hz0 hz1 _ _ _ 0 rfl rfl (by omega) (by omega) (by unfold maxLen; omega) (Nat.le_refl _) ?_; intro w1 hown hgrow)
    refine wp_loop_rounds 1 ?_
    rw [rounds_succ]
    go_wp2
    go_ret
    exact ⟨_, rfl, .inl ⟨_, _, rfl, rfl⟩, (Own.made (k := .u8) hown hgrow).2⟩
  · have HN : Hid (n = ls.length) := hn
    have HC := hide hc
    have hnb : n ≤ 35184372088832 := by omega
    clear hc hn hl9
    go_enter Tryz.func161, Tryz.ntmps161
    go_wp2_with (at_make; refine wpList_make_own _ rfl _ _ 36 rfl w.heap.size 5 i0 (.int .u8 0) 1 Tryz.underlying36 hi hz0 hz1 _ _ _ n rfl rfl (by omega) (by rw [hz2]; omega) (by unfold maxLen; omega) (Nat.le_refl _) ?_; intro w1 hown hgrow)
    have HO := hide (Own.made (k := .u8) hown hgrow)
    clear hown hgrow
    go_loopw [3, 11] (fun b i wr => RelEnc w n ls b i wr) (fun _ i _ => n - (intOf i).toNat)
    case atStart => exact .mk 0 (by omega) rfl HO.out
    case round =>
      clear HO
      obtain ⟨k, hk, rfl, HO⟩ := hrel
      replace HO := hide HO
      have hle := enc_take_len ls k
      by_cases hlt : k < n
      · have cx : wr.cell? ⟨b, o + k, none⟩ = some (.int .i32 (gt ls k)) := (HO.out.2.cell (p := ⟨b, o + k, none⟩) hbw).trans (HC.out k hlt)
        have R : Hid (enc (ls.take (k + 1)) = enc (ls.take k) ++ enc1 (chr (gt ls k))) := by rw [take_gt (by rw [← HN.out]; exact hlt)]; exact enc_snoc _ _
        generalize gt ls k = x at cx R
        by_cases hx : isC x = true
        · obtain ⟨x0, x1, x2⟩ := (isC_iff x).1 hx
          rw [chr_yes hx] at R
          have HX := hide hx
          clear hx x2
          go_wp2_with (first
            | (go_at_call 184; refine (isChar_any x _).mono ?_; rintro e w' ⟨rfl, rfl⟩; rw [HX.out])
            | (go_at_call 185; refine (append_any w _ _ (enc (ls.take k)) x x0 x1 HO.out (by omega)).mono ?_; rintro e w' ⟨u, rfl, HO'⟩; replace HO' := hide HO'; clear HO))
          go_roundw
          case rel => exact .mk (k + 1) (by omega) (by go_num) (by rw [R.out]; exact HO'.out)
          case measure => simp [intOf]; omega
        · have hx' : isC x = false := by simpa using hx
          rw [chr_no hx'] at R
          have HX := hide hx'
          clear hx hx'
          go_wp2_with (first
            | (go_at_call 184; refine (isChar_any x _).mono ?_; rintro e w' ⟨rfl, rfl⟩; rw [HX.out])
            | (go_at_call 185; refine (append_any w _ _ (enc (ls.take k)) 65533 (by decide) (by decide) HO.out (by omega)).mono ?_; rintro e w' ⟨u, rfl, HO'⟩; replace HO' := hide HO'; clear HO))
          go_roundw
          case rel => exact .mk (k + 1) (by omega) (by go_num) (by rw [R.out]; exact HO'.out)
          case measure => simp [intOf]; omega
      · have hkn : k = n := by omega
        subst hkn
        have R : Hid (ls.take k = ls) := List.take_of_length_le (by rw [← HN.out]; omega)
        rw [R.out] at HO hle
        have N := hide (HO.out.nums (by omega))
        go_wp2
        go_ret
        exact ⟨_, rfl, N.out, HO.out.2⟩
end Go.Proofs.YtcclhdiphcfdfaaGreatDoor
set_option linter.unusedVariables false
set_option linter.unusedSimpArgs false
namespace Go.Proofs.YtcclhdiphcfdfaaGreatDoor
open Go.RowKit

set_option maxRecDepth 100000 in
set_option maxHeartbeats 4000000 in
theorem encR_any (ls : List Int) (v : Value) (w : World) (hv : Nums .i32 w v ls) (hl9 : ls.length ≤ 35184372088832) :
    Calls Tryz.prog 74 #[v] w fun e w' => ∃ u, e = .returned u ∧ Nums .u8 w' u (enc ls) ∧ Below w.heap.size w w' := by
  obtain ⟨i0, hi, hz0, hz1, hz2⟩ := info_parts info8
  rcases hv with ⟨a, c, rfl, rfl⟩ | ⟨b, o, n, c, rfl, hn, h0, hbw, hl, hn9, hc9, hc⟩
  · go_enter Tryz.func74, Tryz.ntmps74
    go_wp2
    refine wp_loop_rounds 1 ?_
    rw [rounds_succ]
    go_wp2
    go_ret
    exact ⟨_, rfl, .inl ⟨_, _, rfl, rfl⟩, Below.refl _ _⟩
  · have HN : Hid (n = ls.length) := hn
    have HC := hide hc
    have hnb : n ≤ 35184372088832 := by omega
    clear hc hn hl9
    go_enter Tryz.func74, Tryz.ntmps74
    go_wp2
    go_loopw [3, 8] (fun b i wr => RelEnc w n ls b i wr) (fun _ i _ => n - (intOf i).toNat)
    case atStart => exact .mk 0 (by omega) rfl (Own.nil _ _ _)
    case round =>
      obtain ⟨k, hk, rfl, HO⟩ := hrel
      replace HO := hide HO
      have hle := enc_take_len ls k
      by_cases hlt : k < n
      · have cx : wr.cell? ⟨b, o + k, none⟩ = some (.int .i32 (gt ls k)) := (HO.out.2.cell (p := ⟨b, o + k, none⟩) hbw).trans (HC.out k hlt)
        have R : Hid (enc (ls.take (k + 1)) = enc (ls.take k) ++ enc1 (chr (gt ls k))) := by rw [take_gt (by rw [← HN.out]; exact hlt)]; exact enc_snoc _ _
        generalize gt ls k = x at cx R
        by_cases hx : isC x = true
        · obtain ⟨x0, x1, x2⟩ := (isC_iff x).1 hx
          rw [chr_yes hx] at R
          have HX := hide hx
          clear hx x2
          rcases (show x ≤ 127 ∨ (127 < x ∧ x ≤ 2047) ∨ (2047 < x ∧ x ≤ 65535) ∨ 65535 < x by omega) with g | ⟨g, g'⟩ | ⟨g, g'⟩ | g
          · rw [enc1_1 g] at R
            go_wp2_with (first
              | (go_at_call 114; refine (isR_any x _).mono ?_; rintro e w' ⟨rfl, rfl⟩; rw [HX.out])
              | (at_builtin; refine wpList_append_own _ rfl _ _ 36 rfl w.heap.size 5 i0 (.int .u8 0) 1 1 Tryz.underlying36 hi hz0 hz1 hz2 rfl (by decide) _ _ _ rfl (HO.out.1.alloc _) ⟨_, 0, none⟩ 1 1 [.int .u8 (x)] rfl rfl (newsL _ _ _) (ints_oneCell .u8 [x]) (by unfold maxLen; omega) (by omega) (by have := HO.out.2.size; simp; omega) ?_; intro v' w1 hown' hgrow _; replace HO := hide (HO.out.grow (ys := [x]) hown' hgrow); clear hown' hgrow))
            go_roundw
            case rel => exact .mk (k + 1) (by omega) (by go_num) (by rw [R.out]; exact HO.out)
            case measure => simp [intOf]; omega
          · rw [enc1_2 g g'] at R
            have d0 : 0 ≤ x / 64 := by omega
            have d1 : x / 64 < 32 := by omega
            have e1 := i32_or192 (x / 64) d0 (by omega)
            have q1 := i32_and63 x (by omega) (by omega)
            have q2 := i32_or128 (x % 64) (by omega) (by omega)
            have q3 : 0 ≤ x % 64 := by omega
            have q4 : x % 64 < 64 := by omega
            go_wp2_with (first
              | (go_at_call 114; refine (isR_any x _).mono ?_; rintro e w' ⟨rfl, rfl⟩; rw [HX.out])
              | (at_builtin; refine wpList_append_own _ rfl _ _ 36 rfl w.heap.size 5 i0 (.int .u8 0) 1 1 Tryz.underlying36 hi hz0 hz1 hz2 rfl (by decide) _ _ _ rfl (HO.out.1.alloc _) ⟨_, 0, none⟩ 2 2 [.int .u8 (192 + x / 64), .int .u8 (128 + x % 64)] rfl rfl (newsL _ _ _) (ints_oneCell .u8 [192 + x / 64, 128 + x % 64]) (by unfold maxLen; omega) (by omega) (by have := HO.out.2.size; simp; omega) ?_; intro v' w1 hown' hgrow _; replace HO := hide (HO.out.grow (ys := [192 + x / 64, 128 + x % 64]) hown' hgrow); clear hown' hgrow))
            go_roundw
            case rel => exact .mk (k + 1) (by omega) (by go_num) (by rw [R.out]; exact HO.out)
            case measure => simp [intOf]; omega
          · rw [enc1_3 g g'] at R
            have d0 : 0 ≤ x / 4096 := by omega
            have d1 : x / 4096 < 16 := by omega
            have e1 := i32_or224 (x / 4096) d0 (by omega)
            have p1 := i32_and63 (x / 64) (by omega) (by omega)
            have p2 := i32_or128 (x / 64 % 64) (by omega) (by omega)
            have p3 : 0 ≤ x / 64 % 64 := by omega
            have p4 : x / 64 % 64 < 64 := by omega
            have q1 := i32_and63 x (by omega) (by omega)
            have q2 := i32_or128 (x % 64) (by omega) (by omega)
            have q3 : 0 ≤ x % 64 := by omega
            have q4 : x % 64 < 64 := by omega
            go_wp2_with (first
              | (go_at_call 114; refine (isR_any x _).mono ?_; rintro e w' ⟨rfl, rfl⟩; rw [HX.out])
              | (at_builtin; refine wpList_append_own _ rfl _ _ 36 rfl w.heap.size 5 i0 (.int .u8 0) 1 1 Tryz.underlying36 hi hz0 hz1 hz2 rfl (by decide) _ _ _ rfl (HO.out.1.alloc _) ⟨_, 0, none⟩ 3 3 [.int .u8 (224 + x / 4096), .int .u8 (128 + x / 64 % 64), .int .u8 (128 + x % 64)] rfl rfl (newsL _ _ _) (ints_oneCell .u8 [224 + x / 4096, 128 + x / 64 % 64, 128 + x % 64]) (by unfold maxLen; omega) (by omega) (by have := HO.out.2.size; simp; omega) ?_; intro v' w1 hown' hgrow _; replace HO := hide (HO.out.grow (ys := [224 + x / 4096, 128 + x / 64 % 64, 128 + x % 64]) hown' hgrow); clear hown' hgrow))
            go_roundw
            case rel => exact .mk (k + 1) (by omega) (by go_num) (by rw [R.out]; exact HO.out)
            case measure => simp [intOf]; omega
          · rw [enc1_4 g] at R
            have d0 : 0 ≤ x / 262144 := by omega
            have d1 : x / 262144 < 8 := by omega
            have e1 := i32_or240 (x / 262144) d0 (by omega)
            have p1 := i32_and63 (x / 64) (by omega) (by omega)
            have p2 := i32_or128 (x / 64 % 64) (by omega) (by omega)
            have p3 : 0 ≤ x / 64 % 64 := by omega
            have p4 : x / 64 % 64 < 64 := by omega
            have r1 := i32_and63 (x / 4096) (by omega) (by omega)
            have r2 := i32_or128 (x / 4096 % 64) (by omega) (by omega)
            have r3 : 0 ≤ x / 4096 % 64 := by omega
            have r4 : x / 4096 % 64 < 64 := by omega
            have q1 := i32_and63 x (by omega) (by omega)
            have q2 := i32_or128 (x % 64) (by omega) (by omega)
            have q3 : 0 ≤ x % 64 := by omega
            have q4 : x % 64 < 64 := by omega
            go_wp2_with (first
              | (go_at_call 114; refine (isR_any x _).mono ?_; rintro e w' ⟨rfl, rfl⟩; rw [HX.out])
              | (at_builtin; refine wpList_append_own _ rfl _ _ 36 rfl w.heap.size 5 i0 (.int .u8 0) 1 1 Tryz.underlying36 hi hz0 hz1 hz2 rfl (by decide) _ _ _ rfl (HO.out.1.alloc _) ⟨_, 0, none⟩ 4 4 [.int .u8 (240 + x / 262144), .int .u8 (128 + x / 4096 % 64), .int .u8 (128 + x / 64 % 64), .int .u8 (128 + x % 64)] rfl rfl (newsL _ _ _) (ints_oneCell .u8 [240 + x / 262144, 128 + x / 4096 % 64, 128 + x / 64 % 64, 128 + x % 64]) (by unfold maxLen; omega) (by omega) (by have := HO.out.2.size; simp; omega) ?_; intro v' w1 hown' hgrow _; replace HO := hide (HO.out.grow (ys := [240 + x / 262144, 128 + x / 4096 % 64, 128 + x / 64 % 64, 128 + x % 64]) hown' hgrow); clear hown' hgrow))
            go_roundw
            case rel => exact .mk (k + 1) (by omega) (by go_num) (by rw [R.out]; exact HO.out)
            case measure => simp [intOf]; omega
        · have hx' : isC x = false := by simpa using hx
          have e65 : enc1 65533 = [239, 191, 189] := by decide
          rw [chr_no hx', e65] at R
          have HX := hide hx'
          clear hx hx' e65
          have f1 : bits .or .i32 224 15 = 239 := by decide
          have f2 : bits .and .i32 1023 63 = 63 := by decide
          have f3 : bits .and .i32 65533 63 = 61 := by decide
          have f4 : bits .or .i32 128 63 = 191 := by decide
          have f5 : bits .or .i32 128 61 = 189 := by decide
          go_wp2_with (first
            | (go_at_call 114; refine (isR_any x _).mono ?_; rintro e w' ⟨rfl, rfl⟩; rw [HX.out])
            | (at_builtin; refine wpList_append_own _ rfl _ _ 36 rfl w.heap.size 5 i0 (.int .u8 0) 1 1 Tryz.underlying36 hi hz0 hz1 hz2 rfl (by decide) _ _ _ rfl (HO.out.1.alloc _) ⟨_, 0, none⟩ 3 3 [.int .u8 (239), .int .u8 (191), .int .u8 (189)] rfl rfl (newsL _ _ _) (ints_oneCell .u8 [239, 191, 189]) (by unfold maxLen; omega) (by omega) (by have := HO.out.2.size; simp; omega) ?_; intro v' w1 hown' hgrow _; replace HO := hide (HO.out.grow (ys := [239, 191, 189]) hown' hgrow); clear hown' hgrow))
          go_roundw
          case rel => exact .mk (k + 1) (by omega) (by go_num) (by rw [R.out]; exact HO.out)
          case measure => simp [intOf]; omega
      · have hkn : k = n := by omega
        subst hkn
        have R : Hid (ls.take k = ls) := List.take_of_length_le (by rw [← HN.out]; omega)
        rw [R.out] at HO hle
        have N := hide (HO.out.nums (by omega))
        go_wp2
        go_ret
        exact ⟨_, rfl, N.out, HO.out.2⟩
theorem enc_euro : enc [8364] = [226, 130, 172] := by decide
end Go.Proofs.YtcclhdiphcfdfaaGreatDoor
set_option linter.unusedVariables false
set_option linter.unusedSimpArgs false
namespace Go.Proofs.YtcclhdiphcfdfaaGreatDoor
open Go.RowKit

theorem enc_cons (x : Int) (l : List Int) : enc (x :: l) = enc1 (chr x) ++ enc l := by simp [enc]
theorem enc1_ne (x : Int) (r : List Int) : enc1 x ++ r ≠ [] := by
  intro e
  have h1 := congrArg List.length e
  have := (enc1_len x).1
  simp at h1; simp [h1.1] at this
theorem raw_enc1 (x : Int) (r : List Int) (h : isC x = true) : raw (enc1 x ++ r) = x :: raw r := by
  rw [raw_cut (enc1_ne x r), stp_enc x r h]; simp
theorem whole_enc1 (x : Int) (r : List Int) (h : isC x = true) : whole (enc1 x ++ r) = whole r := by
  rw [whole_cut (enc1_ne x r), stp_enc x r h]; simp
theorem raw_enc (l : List Int) : raw (enc l) = l.map chr := by
  induction l with
  | nil => exact raw_nil
  | cons x l ih => rw [enc_cons, raw_enc1 _ _ (isC_chr x), ih]; rfl
theorem whole_enc (l : List Int) : whole (enc l) = true := by
  induction l with
  | nil => exact whole_nil
  | cons x l ih => rw [enc_cons, whole_enc1 _ _ (isC_chr x), ih]
theorem by_enc1 (x : Int) (h : isC x = true) : By (enc1 x) := by
  rw [isC_iff] at h
  intro y hy
  rcases (show x ≤ 127 ∨ (127 < x ∧ x ≤ 2047) ∨ (2047 < x ∧ x ≤ 65535) ∨ 65535 < x by omega) with g | ⟨g, g'⟩ | ⟨g, g'⟩ | g
  · rw [enc1_1 g] at hy; simp at hy; omega
  · rw [enc1_2 g g'] at hy; simp at hy; omega
  · rw [enc1_3 g g'] at hy; simp at hy; omega
  · rw [enc1_4 g] at hy; simp at hy; omega
theorem by_enc (l : List Int) : By (enc l) := by
  intro y hy
  simp only [enc, List.mem_flatMap] at hy
  obtain ⟨x, _, hx⟩ := hy
  exact by_enc1 _ (isC_chr x) y hx
def allB (l : List Int) : Bool := l.all isC
theorem allB_snoc (l : List Int) (x : Int) : allB (l ++ [x]) = (allB l && isC x) := by simp [allB]
theorem map_chr (l : List Int) : (l.map chr = l) ↔ allB l = true := by
  induction l with
  | nil => simp [allB]
  | cons x l ih =>
    simp only [List.map_cons, List.cons.injEq, allB, List.all_cons, Bool.and_eq_true] at ih ⊢
    rw [ih]
    constructor
    · rintro ⟨h, k⟩
      exact ⟨h ▸ isC_chr x, k⟩
    · rintro ⟨h, k⟩
      exact ⟨chr_yes h, k⟩
theorem back_chars (l : List Int) : eqB (raw (enc l)) l = allB l := by
  rw [raw_enc]
  have := map_chr l
  by_cases h : allB l = true
  · rw [h]; unfold eqB; simp [this.2 h]
  · have h' : allB l = false := by simpa using h
    rw [h']; unfold eqB; simp [this, h']
theorem enc_raw (n : Nat) : ∀ bs : List Int, bs.length ≤ n → By bs → whole bs = true → enc (raw bs) = bs := by
  induction n with
  | zero => intro bs h _ _; obtain rfl : bs = [] := List.eq_nil_of_length_eq_zero (by omega); rw [raw_nil]; rfl
  | succ n ih =>
    intro bs h hb hw
    by_cases hne : bs = []
    · subst hne; rw [raw_nil]; rfl
    · rw [whole_cut hne] at hw
      simp only [Bool.and_eq_true] at hw
      obtain ⟨h1, h2⟩ := stp_back bs hb hne hw.1
      have hs := stp_len bs hne
      rw [raw_cut hne, enc_cons, chr_yes h1, ih _ (by rw [List.length_drop]; omega) (hb.drop _) hw.2]
      exact h2.symm
theorem back_bytes (bs : List Int) (hb : By bs) : eqB (enc (raw bs)) bs = whole bs := by
  by_cases h : whole bs = true
  · rw [h]; unfold eqB; simp [enc_raw bs.length bs (Nat.le_refl _) hb h]
  · have h' : whole bs = false := by simpa using h
    rw [h']; unfold eqB; simp
    intro e
    have := whole_enc (raw bs)
    rw [e] at this
    exact h this
theorem raw_len (n : Nat) : ∀ bs : List Int, bs.length ≤ n → (raw bs).length ≤ bs.length ∧ bs.length ≤ 4 * (raw bs).length := by
  induction n with
  | zero => intro bs h; obtain rfl : bs = [] := List.eq_nil_of_length_eq_zero (by omega); rw [raw_nil]; simp
  | succ n ih =>
    intro bs h
    by_cases hne : bs = []
    · subst hne; rw [raw_nil]; simp
    · have hs := stp_len bs hne
      have := ih (bs.drop (stp bs).2.1) (by rw [List.length_drop]; omega)
      rw [raw_cut hne, List.length_cons]
      rw [List.length_drop] at this
      omega
theorem raw_le (bs : List Int) : (raw bs).length ≤ bs.length ∧ bs.length ≤ 4 * (raw bs).length := raw_len bs.length bs (Nat.le_refl _)
theorem raw_append (n : Nat) (b : List Int) : ∀ a : List Int, a.length ≤ n → By a → whole a = true → raw (a ++ b) = raw a ++ raw b := by
  induction n with
  | zero => intro a h _ _; obtain rfl : a = [] := List.eq_nil_of_length_eq_zero (by omega); rw [raw_nil]; rfl
  | succ n ih =>
    intro a h hb hw
    by_cases hne : a = []
    · subst hne; rw [raw_nil]; rfl
    · rw [whole_cut hne] at hw
      simp only [Bool.and_eq_true] at hw
      obtain ⟨h1, h2⟩ := stp_back a hb hne hw.1
      have hs := stp_len a hne
      have e := ih (a.drop (stp a).2.1) (by rw [List.length_drop]; omega) (hb.drop _) hw.2
      rw [raw_cut hne]
      conv => lhs; rw [h2, List.append_assoc, raw_enc1 _ _ h1, e]
      rfl
theorem By.app {a b : List Int} (ha : By a) (hb : By b) : By (a ++ b) := fun x hx => by
  rcases List.mem_append.1 hx with h | h
  · exact ha x h
  · exact hb x h
/-- A slice in memory, empty or not. -/
theorem Nums.form {k : IntKind} {w : World} {v : Value} {bs : List Int} (h : Nums k w v bs) :
    ∃ a n c, v = .slice a n c ∧ n = bs.length ∧ n ≤ 4611686018427387904 ∧ n ≤ c + 0 + n ∧ (0 < n → ∃ b o, a = some ⟨b, o, none⟩ ∧ b < w.heap.size ∧ n ≤ c ∧ c ≤ 9223372036854775807 ∧ ∀ i, i < n → w.cell? ⟨b, o + i, none⟩ = some (.int k (gt bs i))) := by
  rcases h with ⟨a, c, rfl, rfl⟩ | ⟨b, o, n, c, rfl, hn, h0, hbw, hl, hn9, hc9, hc⟩
  · exact ⟨a, 0, c, rfl, rfl, by omega, by omega, fun h => by omega⟩
  · exact ⟨_, n, c, rfl, hn, hn9, by omega, fun _ => ⟨b, o, rfl, hbw, hl, hc9, hc⟩⟩
end Go.Proofs.YtcclhdiphcfdfaaGreatDoor
set_option linter.unusedVariables false
set_option linter.unusedSimpArgs false
namespace Go.Proofs.YtcclhdiphcfdfaaGreatDoor
open Go.RowKit

def tr (x : Int) : Int := if x = 13 ∨ x = 12 then 10 else if x = 0 then 65533 else x
def lin (last : Int) : List Int → List Int
  | [] => []
  | x :: r => (if x = 10 ∧ last = 13 then [] else [tr x]) ++ lin x r
def mark (bs : List Int) : Bool := decide (3 ≤ bs.length) && (decide (gt bs 0 = 239) && (decide (gt bs 1 = 187) && decide (gt bs 2 = 191)))
def cut (bs : List Int) : List Int := if mark bs then bs.drop 3 else bs
def dcd (bs : List Int) : List Int := lin 0 (raw (cut bs))
theorem mark_cases (bs : List Int) : (bs.length < 3 ∧ mark bs = false) ∨ (3 ≤ bs.length ∧ gt bs 0 ≠ 239 ∧ mark bs = false) ∨ (3 ≤ bs.length ∧ gt bs 0 = 239 ∧ gt bs 1 ≠ 187 ∧ mark bs = false) ∨
    (3 ≤ bs.length ∧ gt bs 0 = 239 ∧ gt bs 1 = 187 ∧ gt bs 2 ≠ 191 ∧ mark bs = false) ∨ (3 ≤ bs.length ∧ gt bs 0 = 239 ∧ gt bs 1 = 187 ∧ gt bs 2 = 191 ∧ mark bs = true) := by
  unfold mark
  by_cases h : 3 ≤ bs.length
  · by_cases h0 : gt bs 0 = 239
    · by_cases h1 : gt bs 1 = 187
      · by_cases h2 : gt bs 2 = 191
        · simp [h, h0, h1, h2]
        · simp [h, h0, h1, h2]
      · simp [h, h0, h1]
    · simp [h, h0]
  · simp [h]; omega
theorem By.cut {bs : List Int} (h : By bs) : By (cut bs) := by unfold Go.Proofs.YtcclhdiphcfdfaaGreatDoor.cut; split; exact h.drop 3; exact h
theorem cutm_len (bs : List Int) : (cut bs).length ≤ bs.length := by unfold cut; split <;> simp
set_option maxRecDepth 100000 in
set_option maxHeartbeats 1000000 in
theorem mark_any (bs : List Int) (v : Value) (w : World) (hv : Nums .u8 w v bs) :
    Calls Tryz.prog 61 #[v] w fun e w' => e = .returned (.bool (mark bs)) ∧ w' = w := by
  obtain ⟨a, n, c, rfl, hn, hn9, _, hc⟩ := hv.form
  rcases mark_cases bs with ⟨h, e⟩ | ⟨h, h0, e⟩ | ⟨h, h0, h1, e⟩ | ⟨h, h0, h1, h2, e⟩ | ⟨h, h0, h1, h2, e⟩
  · have E := hide e
    have hs : n < 3 := by omega
    clear hc hn hv e h
    go_enter Tryz.func61, Tryz.ntmps61
    go_wp2
    go_ret
    exact ⟨ret_bool E.out.symm, rfl⟩
  all_goals
    obtain ⟨b, o, rfl, hbw, hl, hc9, hcc⟩ := hc (by omega)
    have c0 : w.cell? ⟨b, o, none⟩ = some (.int .u8 (gt bs 0)) := hcc 0 (by omega)
    have c1 : w.cell? ⟨b, o + 1, none⟩ = some (.int .u8 (gt bs 1)) := hcc 1 (by omega)
    have c2 : w.cell? ⟨b, o + 2, none⟩ = some (.int .u8 (gt bs 2)) := hcc 2 (by omega)
    have hs : 3 ≤ n := by omega
    have E := hide e
    clear hc hcc hn hv e h
  · generalize gt bs 0 = y0 at *
    have g0 : (y0 == 239) = false := by simp [h0]
    clear h0
    go_enter Tryz.func61, Tryz.ntmps61
    go_wp2
    go_ret
    exact ⟨ret_bool E.out.symm, rfl⟩
  · rw [h0] at c0
    generalize gt bs 1 = y1 at *
    have g1 : (y1 == 187) = false := by simp [h1]
    clear h0 h1
    go_enter Tryz.func61, Tryz.ntmps61
    go_wp2
    go_ret
    exact ⟨ret_bool E.out.symm, rfl⟩
  · rw [h0] at c0
    rw [h1] at c1
    generalize gt bs 2 = y2 at *
    have g1 : (y2 == 191) = false := by simp [h2]
    clear h0 h1 h2
    go_enter Tryz.func61, Tryz.ntmps61
    go_wp2
    go_ret
    exact ⟨ret_bool E.out.symm, rfl⟩
  · rw [h0] at c0
    rw [h1] at c1
    rw [h2] at c2
    clear h0 h1 h2
    go_enter Tryz.func61, Tryz.ntmps61
    go_wp2
    go_ret
    exact ⟨ret_bool E.out.symm, rfl⟩
/-- The one ahead. -/
def pv (ls : List Int) : Nat → Int
  | 0 => 0
  | k + 1 => gt ls k
theorem lin_in {ls xs : List Int} {k : Nat} (h : lin 0 ls = xs ++ lin (pv ls k) (ls.drop k)) (hk : k < ls.length) (hn : ¬ (gt ls k = 10 ∧ pv ls k = 13)) :
    lin 0 ls = (xs ++ [tr (gt ls k)]) ++ lin (pv ls (k + 1)) (ls.drop (k + 1)) := by
  rw [h, drop_gt hk]; simp only [lin]; rw [if_neg hn]; simp [pv]
theorem lin_out {ls xs : List Int} {k : Nat} (h : lin 0 ls = xs ++ lin (pv ls k) (ls.drop k)) (hk : k < ls.length) (hn : gt ls k = 10 ∧ pv ls k = 13) :
    lin 0 ls = xs ++ lin (pv ls (k + 1)) (ls.drop (k + 1)) := by
  rw [h, drop_gt hk]; simp only [lin]; rw [if_pos hn]; simp [pv]
theorem lin_end {ls xs : List Int} {k : Nat} (h : lin 0 ls = xs ++ lin (pv ls k) (ls.drop k)) (hk : ls.length ≤ k) : lin 0 ls = xs := by
  rw [h, List.drop_of_length_le hk]; simp [lin]
def RelLin (W : World) (n : Nat) (ls : List Int) (l i : Value) (wr : World) : Prop :=
  ∃ (k : Nat) (xs : List Int), k ≤ n ∧ i = .int .i64 k ∧ xs.length ≤ k ∧ Own W .i32 21 wr l xs ∧ Hid (lin 0 ls = xs ++ lin (pv ls k) (ls.drop k))
theorem RelLin.mk {W : World} {n : Nat} {ls : List Int} {l i : Value} {wr : World} (k : Nat) (xs : List Int) (h1 : k ≤ n) (h2 : i = .int .i64 k) (h3 : xs.length ≤ k) (h4 : Own W .i32 21 wr l xs) (h5 : lin 0 ls = xs ++ lin (pv ls k) (ls.drop k)) : RelLin W n ls l i wr :=
  ⟨k, xs, h1, h2, h3, h4, h5⟩
/-- What becomes of a character. -/
theorem tr_cases (x p : Int) : (x = 10 ∧ p = 13) ∨ (¬ (x = 10 ∧ p = 13) ∧ ((x = 10 ∧ p ≠ 13 ∧ tr x = 10) ∨ (x = 13 ∧ tr x = 10) ∨ (x = 12 ∧ tr x = 10) ∨ (x = 0 ∧ tr x = 65533) ∨ (x ≠ 10 ∧ x ≠ 13 ∧ x ≠ 12 ∧ x ≠ 0 ∧ tr x = x))) := by
  by_cases h : x = 10 ∧ p = 13
  · exact .inl h
  · refine .inr ⟨h, ?_⟩
    unfold tr
    by_cases h1 : x = 10
    · left; subst h1; exact ⟨rfl, by omega, by decide⟩
    · by_cases h2 : x = 13
      · subst h2; right; left; exact ⟨rfl, by decide⟩
      · by_cases h3 : x = 12
        · subst h3; right; right; left; exact ⟨rfl, by decide⟩
        · by_cases h4 : x = 0
          · subst h4; right; right; right; left; exact ⟨rfl, by decide⟩
          · right; right; right; right
            refine ⟨h1, h2, h3, h4, ?_⟩
            rw [if_neg (by omega), if_neg h4]
end Go.Proofs.YtcclhdiphcfdfaaGreatDoor
set_option linter.unusedVariables false
set_option linter.unusedSimpArgs false
namespace Go.Proofs.YtcclhdiphcfdfaaGreatDoor
open Go.RowKit

set_option maxRecDepth 100000 in
set_option maxHeartbeats 4000000 in
theorem line_any (ls : List Int) (v : Value) (w : World) (hv : Nums .i32 w v ls) (hl9 : ls.length ≤ 1099511627776) :
    Calls Tryz.prog 62 #[v] w fun e w' => ∃ u, e = .returned u ∧ Nums .i32 w' u (lin 0 ls) ∧ Below w.heap.size w w' := by
  obtain ⟨i0, hi, hz0, hz1, hz2⟩ := info_parts info32
  obtain ⟨a, n, c, rfl, hn, hn9, _, hc⟩ := hv.form
  have HN := hide hn
  have HC := hide hc
  have hnb : n ≤ 1099511627776 := by omega
  clear hc hn hl9 hv
  go_enter Tryz.func62, Tryz.ntmps62
  go_wp2_with (at_make; refine wpList_make_own _ rfl _ _ 43 rfl w.heap.size 21 i0 (.int .i32 0) 1 Tryz.underlying43 hi hz0 hz1 _ _ _ n rfl rfl (by omega) (by rw [hz2]; omega) (by unfold maxLen; omega) (Nat.le_refl _) ?_; intro w1 hown hgrow)
  have HO := hide (Own.made (k := .i32) hown hgrow)
  clear hown hgrow
  go_loopw [3, 11] (fun l i wr => RelLin w n ls l i wr) (fun _ i _ => n - (intOf i).toNat)
  case atStart => exact .mk 0 [] (by omega) rfl (by simp) HO.out rfl
  case round =>
    clear HO
    obtain ⟨k, xs, hk, rfl, hxs, HO, R⟩ := hrel
    replace HO := hide HO
    by_cases hlt : k < n
    · obtain ⟨b, o, rfl, hbw, hcl, hc9, hcc⟩ := HC.out (by omega)
      have cx : wr.cell? ⟨b, o + k, none⟩ = some (.int .i32 (gt ls k)) := (HO.out.2.cell (p := ⟨b, o + k, none⟩) hbw).trans (hcc k hlt)
      have cp : ∀ j, k = j + 1 → wr.cell? ⟨b, o + j, none⟩ = some (.int .i32 (pv ls k)) := fun j hj => by subst hj; exact (HO.out.2.cell (p := ⟨b, o + j, none⟩) hbw).trans (hcc j (by omega))
      have p0 : k = 0 → pv ls k = 0 := fun h => by subst h; rfl
      have R1 := hide (lin_in R.out (by rw [← HN.out]; exact hlt))
      have R2 := hide (lin_out R.out (by rw [← HN.out]; exact hlt))
      clear hcc R
      generalize gt ls k = x at *
      generalize pv ls k = p at *
      have CP := hide cp
      clear cp
      rcases tr_cases x p with ⟨rfl, rfl⟩ | ⟨hno, q⟩
      · have R := hide (R2.out ⟨rfl, rfl⟩)
        clear R1 R2
        cases k with
        | zero => exact absurd (p0 rfl) (by decide)
        | succ j =>
          have c1 := CP.out j rfl
          clear p0
          go_wp2
          go_roundw
          case rel => exact .mk (j + 1 + 1) xs (by omega) (by go_num) (by omega) HO.out R.out
          case measure => simp [intOf]; omega
      · have R := hide (R1.out hno)
        clear R1 R2 hno
        rcases q with ⟨rfl, hp, e⟩ | ⟨rfl, e⟩ | ⟨rfl, e⟩ | ⟨rfl, e⟩ | ⟨x1, x2, x3, x4, e⟩
        · rw [e] at R
          clear e
          cases k with
          | zero =>
            simp only [Nat.add_zero] at cx
            go_wp2_with (at_builtin; refine wpList_append_own _ rfl _ _ 43 rfl w.heap.size 21 i0 (.int .i32 0) 1 4 Tryz.underlying43 hi hz0 hz1 hz2 rfl (by decide) _ _ _ rfl (HO.out.1.alloc _) ⟨_, 0, none⟩ 1 1 [.int .i32 10] rfl rfl (news1 _ _ _) (by intro u hu; simp at hu; subst hu; rfl) (by unfold maxLen; omega) (by omega) (by have := HO.out.2.size; simp; omega) ?_; intro v' w1 hown' hgrow _; replace HO := hide (HO.out.grow (ys := [10]) hown' hgrow); clear hown' hgrow)
            go_roundw
            case rel => exact .mk (0 + 1) (xs ++ [10]) (by omega) (by go_num) (by rw [List.length_append, List.length_singleton]; omega) HO.out R.out
            case measure => simp [intOf]; omega
          | succ j =>
            have c1 := CP.out j rfl
            have hp' : (p == 13) = false := by simp [hp]
            clear p0 hp
            go_wp2_with (at_builtin; refine wpList_append_own _ rfl _ _ 43 rfl w.heap.size 21 i0 (.int .i32 0) 1 4 Tryz.underlying43 hi hz0 hz1 hz2 rfl (by decide) _ _ _ rfl (HO.out.1.alloc _) ⟨_, 0, none⟩ 1 1 [.int .i32 10] rfl rfl (news1 _ _ _) (by intro u hu; simp at hu; subst hu; rfl) (by unfold maxLen; omega) (by omega) (by have := HO.out.2.size; simp; omega) ?_; intro v' w1 hown' hgrow _; replace HO := hide (HO.out.grow (ys := [10]) hown' hgrow); clear hown' hgrow)
            go_roundw
            case rel => exact .mk (j + 1 + 1) (xs ++ [10]) (by omega) (by go_num) (by rw [List.length_append, List.length_singleton]; omega) HO.out R.out
            case measure => simp [intOf]; omega
        · rw [e] at R
          clear e CP p0
          go_wp2_with (at_builtin; refine wpList_append_own _ rfl _ _ 43 rfl w.heap.size 21 i0 (.int .i32 0) 1 4 Tryz.underlying43 hi hz0 hz1 hz2 rfl (by decide) _ _ _ rfl (HO.out.1.alloc _) ⟨_, 0, none⟩ 1 1 [.int .i32 10] rfl rfl (news1 _ _ _) (by intro u hu; simp at hu; subst hu; rfl) (by unfold maxLen; omega) (by omega) (by have := HO.out.2.size; simp; omega) ?_; intro v' w1 hown' hgrow _; replace HO := hide (HO.out.grow (ys := [10]) hown' hgrow); clear hown' hgrow)
          go_roundw
          case rel => exact .mk (k + 1) (xs ++ [10]) (by omega) (by go_num) (by rw [List.length_append, List.length_singleton]; omega) HO.out R.out
          case measure => simp [intOf]; omega
        · rw [e] at R
          clear e CP p0
          go_wp2_with (at_builtin; refine wpList_append_own _ rfl _ _ 43 rfl w.heap.size 21 i0 (.int .i32 0) 1 4 Tryz.underlying43 hi hz0 hz1 hz2 rfl (by decide) _ _ _ rfl (HO.out.1.alloc _) ⟨_, 0, none⟩ 1 1 [.int .i32 10] rfl rfl (news1 _ _ _) (by intro u hu; simp at hu; subst hu; rfl) (by unfold maxLen; omega) (by omega) (by have := HO.out.2.size; simp; omega) ?_; intro v' w1 hown' hgrow _; replace HO := hide (HO.out.grow (ys := [10]) hown' hgrow); clear hown' hgrow)
          go_roundw
          case rel => exact .mk (k + 1) (xs ++ [10]) (by omega) (by go_num) (by rw [List.length_append, List.length_singleton]; omega) HO.out R.out
          case measure => simp [intOf]; omega
        · rw [e] at R
          clear e CP p0
          go_wp2_with (at_builtin; refine wpList_append_own _ rfl _ _ 43 rfl w.heap.size 21 i0 (.int .i32 0) 1 4 Tryz.underlying43 hi hz0 hz1 hz2 rfl (by decide) _ _ _ rfl (HO.out.1.alloc _) ⟨_, 0, none⟩ 1 1 [.int .i32 65533] rfl rfl (news1 _ _ _) (by intro u hu; simp at hu; subst hu; rfl) (by unfold maxLen; omega) (by omega) (by have := HO.out.2.size; simp; omega) ?_; intro v' w1 hown' hgrow _; replace HO := hide (HO.out.grow (ys := [65533]) hown' hgrow); clear hown' hgrow)
          go_roundw
          case rel => exact .mk (k + 1) (xs ++ [65533]) (by omega) (by go_num) (by rw [List.length_append, List.length_singleton]; omega) HO.out R.out
          case measure => simp [intOf]; omega
        · rw [e] at R
          have y1 : (x == 10) = false := by simp [x1]
          have y2 : (x == 13) = false := by simp [x2]
          have y3 : (x == 12) = false := by simp [x3]
          have y4 : (x == 0) = false := by simp [x4]
          clear e CP p0 x1 x2 x3 x4
          go_wp2_with (at_builtin; refine wpList_append_own _ rfl _ _ 43 rfl w.heap.size 21 i0 (.int .i32 0) 1 4 Tryz.underlying43 hi hz0 hz1 hz2 rfl (by decide) _ _ _ rfl (HO.out.1.alloc _) ⟨_, 0, none⟩ 1 1 [.int .i32 x] rfl rfl (news1 _ _ _) (by intro u hu; simp at hu; subst hu; rfl) (by unfold maxLen; omega) (by omega) (by have := HO.out.2.size; simp; omega) ?_; intro v' w1 hown' hgrow _; replace HO := hide (HO.out.grow (ys := [x]) hown' hgrow); clear hown' hgrow)
          go_roundw
          case rel => exact .mk (k + 1) (xs ++ [x]) (by omega) (by go_num) (by rw [List.length_append, List.length_singleton]; omega) HO.out R.out
          case measure => simp [intOf]; omega
    · have R' := hide (lin_end R.out (by rw [← HN.out]; omega))
      have N := hide (HO.out.nums (by omega))
      go_wp2
      go_ret
      exact ⟨_, rfl, by rw [R'.out]; exact N.out, HO.out.2⟩
/-- A slice without its first three. -/
theorem Nums.three {k : IntKind} {w : World} {b o n c : Nat} {bs : List Int} (h : Nums k w (.slice (some ⟨b, o, none⟩) n c) bs) (h3 : 3 ≤ n) (hc : ¬ c = 3) : Nums k w (.slice (some ⟨b, o + 3, none⟩) (n - 3) (c - 3)) (bs.drop 3) := by
  rcases h with ⟨a, c', e, rfl⟩ | ⟨b', o', n', c', e, hn, h0, hbw, hl, hn9, hc9, hcc⟩
  · simp at e; omega
  · simp at e
    obtain ⟨⟨rfl, rfl⟩, rfl, rfl⟩ := e
    by_cases h : n = 3
    · exact .inl ⟨_, _, by rw [h], List.drop_of_length_le (by omega)⟩
    · exact .inr ⟨b, o + 3, n - 3, c - 3, rfl, by rw [List.length_drop]; omega, by omega, hbw, by omega, by omega, by omega, fun i hi => by rw [gt_drop, Nat.add_assoc]; exact hcc (3 + i) (by omega)⟩
theorem Nums.none3 {k : IntKind} {w : World} {a : Option Addr} {n c : Nat} {bs : List Int} (h : Nums k w (.slice a n c) bs) (h3 : 3 ≤ n) (hc : c = 3) : n = 3 ∧ bs.drop 3 = [] := by
  rcases h with ⟨a, c', e, rfl⟩ | ⟨b', o', n', c', e, hn, h0, hbw, hl, hn9, hc9, hcc⟩
  · simp at e; omega
  · simp at e
    obtain ⟨rfl, rfl, rfl⟩ := e
    exact ⟨by omega, List.drop_of_length_le (by omega)⟩
theorem mark_len {bs : List Int} (h : mark bs = true) : 3 ≤ bs.length := by unfold mark at h; simp at h; exact h.1
set_option maxRecDepth 100000 in
set_option maxHeartbeats 1000000 in
theorem dcdP_any (bs : List Int) (v : Value) (w : World) (hb : By bs) (hv : Nums .u8 w v bs) (hl9 : bs.length ≤ 1099511627776) :
    Calls Tryz.prog 32 #[v] w fun e w' => ∃ u, e = .returned u ∧ Nums .i32 w' u (dcd bs) ∧ Below w.heap.size w w' := by
  obtain ⟨a, n, c, rfl, hn, hn9, _, hc⟩ := hv.form
  have HV := hide hv
  have LC := cutm_len bs
  have LR := (raw_le (cut bs)).1
  have BC := hb.cut
  have D := hide (show dcd bs = lin 0 (raw (cut bs)) from rfl)
  by_cases hm : mark bs = true
  · have hlen := mark_len hm
    have h3 : 3 ≤ n := by omega
    obtain ⟨b, o, rfl, hbw, hcl, hc9, _⟩ := hc (by omega)
    have HM := hide hm
    have e1 : cut bs = bs.drop 3 := by unfold cut; rw [if_pos hm]
    rw [e1] at LC LR BC D
    by_cases hc3 : c = 3
    · obtain ⟨e2, e3⟩ := hv.none3 h3 hc3
      have NC := hide (show Nums .u8 w (.slice (some ⟨b, o, none⟩) 0 0) (bs.drop 3) from .inl ⟨_, _, rfl, e3⟩)
      clear hc hn hv hm e1 hlen e3
      subst hc3
      subst e2
      go_enter Tryz.func32, Tryz.ntmps32
      go_wp2_with (first
        | (go_at_call 61; refine (mark_any bs _ _ HV.out).mono ?_; rintro e w' ⟨rfl, rfl⟩; rw [HM.out])
        | (go_at_call 63; refine (rawP_any (bs.drop 3) _ _ BC NC.out (by omega)).mono ?_; rintro e w1 ⟨u1, rfl, N1, B1⟩; replace N1 := hide N1; replace B1 := hide B1)
        | (go_at_call 62; refine (line_any _ _ _ N1.out (by omega)).mono ?_; rintro e w2 ⟨u2, rfl, N2, B2⟩; replace N2 := hide N2; replace B1 := hide (bto B1.out B2); clear B2))
      go_ret
      exact ⟨_, rfl, by rw [D.out]; exact N2.out, B1.out⟩
    · have NC := hide (hv.three h3 hc3)
      clear hc hn hv hm e1 hlen
      go_enter Tryz.func32, Tryz.ntmps32
      go_wp2_with (first
        | (go_at_call 61; refine (mark_any bs _ _ HV.out).mono ?_; rintro e w' ⟨rfl, rfl⟩; rw [HM.out])
        | (go_at_call 63; refine (rawP_any (bs.drop 3) _ _ BC NC.out (by omega)).mono ?_; rintro e w1 ⟨u1, rfl, N1, B1⟩; replace N1 := hide N1; replace B1 := hide B1)
        | (go_at_call 62; refine (line_any _ _ _ N1.out (by omega)).mono ?_; rintro e w2 ⟨u2, rfl, N2, B2⟩; replace N2 := hide N2; replace B1 := hide (bto B1.out B2); clear B2))
      go_ret
      exact ⟨_, rfl, by rw [D.out]; exact N2.out, B1.out⟩
  · have hm' : mark bs = false := by simpa using hm
    have HM := hide hm'
    have e1 : cut bs = bs := by unfold cut; rw [if_neg hm]
    rw [e1] at LC LR BC D
    clear hc hn hv hm hm' e1
    go_enter Tryz.func32, Tryz.ntmps32
    go_wp2_with (first
      | (go_at_call 61; refine (mark_any bs _ _ HV.out).mono ?_; rintro e w' ⟨rfl, rfl⟩; rw [HM.out])
      | (go_at_call 63; refine (rawP_any bs _ _ BC HV.out (by omega)).mono ?_; rintro e w1 ⟨u1, rfl, N1, B1⟩; replace N1 := hide N1; replace B1 := hide B1)
      | (go_at_call 62; refine (line_any _ _ _ N1.out (by omega)).mono ?_; rintro e w2 ⟨u2, rfl, N2, B2⟩; replace N2 := hide N2; replace B1 := hide (bto B1.out B2); clear B2))
    go_ret
    exact ⟨_, rfl, by rw [D.out]; exact N2.out, B1.out⟩
end Go.Proofs.YtcclhdiphcfdfaaGreatDoor
set_option linter.unusedVariables false
set_option linter.unusedSimpArgs false
namespace Go.Proofs.YtcclhdiphcfdfaaGreatDoor
open Go.RowKit

theorem fol_no (m : Nat) : ∀ (c lo hi : Int) (k : Nat) (r : List Int), (fol m c lo hi k r).2.2 = false → (fol m c lo hi k r).1 = 65533 := by
  induction m with
  | zero => intro c lo hi k r h; simp [fol] at h
  | succ m ih =>
    intro c lo hi k r
    cases r with
    | nil => simp [fol]
    | cons b r =>
      simp only [fol]
      split
      · simp
      · exact ih _ _ _ _ _
theorem stp_no (bs : List Int) (h : (stp bs).2.2 = false) : (stp bs).1 = 65533 := by
  cases bs with
  | nil => rfl
  | cons a r =>
    simp only [stp] at h ⊢
    split at h
    · rename_i q; rw [if_pos q]
    · rename_i q; rw [if_neg q]; exact fol_no _ _ _ _ _ _ h
theorem stp_isC (bs : List Int) (hb : By bs) (hne : bs ≠ []) : isC (stp bs).1 = true := by
  by_cases h : (stp bs).2.2 = true
  · exact (stp_back bs hb hne h).1
  · rw [stp_no bs (by simpa using h)]; rfl
theorem raw_isC (n : Nat) : ∀ bs : List Int, bs.length ≤ n → By bs → ∀ x ∈ raw bs, isC x = true := by
  induction n with
  | zero => intro bs h _ x hx; obtain rfl : bs = [] := List.eq_nil_of_length_eq_zero (by omega); rw [raw_nil] at hx; simp at hx
  | succ n ih =>
    intro bs h hb x hx
    by_cases hne : bs = []
    · subst hne; rw [raw_nil] at hx; simp at hx
    · have hs := stp_len bs hne
      rw [raw_cut hne] at hx
      rcases List.mem_cons.1 hx with rfl | hx
      · exact stp_isC bs hb hne
      · exact ih _ (by rw [List.length_drop]; omega) (hb.drop _) x hx
/-- A character that a stylesheet may hold. -/
def Good (x : Int) : Prop := isC x = true ∧ x ≠ 0 ∧ x ≠ 12 ∧ x ≠ 13
theorem tr_good {x : Int} (h : isC x = true) : Good (tr x) := by
  unfold tr Good
  split
  · exact ⟨by decide, by decide, by decide, by decide⟩
  · split
    · exact ⟨by decide, by decide, by decide, by decide⟩
    · exact ⟨h, by omega, by omega, by omega⟩
theorem lin_good (l : List Int) : ∀ (p : Int), (∀ x ∈ l, isC x = true) → ∀ x ∈ lin p l, Good x := by
  induction l with
  | nil => intro p _ x hx; simp [lin] at hx
  | cons y l ih =>
    intro p h x hx
    simp only [lin] at hx
    rcases List.mem_append.1 hx with hx | hx
    · split at hx
      · simp at hx
      · simp at hx; subst hx; exact tr_good (h y (by simp))
    · exact ih y (fun z hz => h z (by simp [hz])) x hx
theorem dec_good (bs : List Int) (hb : By bs) : ∀ x ∈ dcd bs, Good x := lin_good _ 0 (raw_isC _ _ (Nat.le_refl _) hb.cut)
theorem lin_same (l : List Int) : ∀ (p : Int), p ≠ 13 → (∀ x ∈ l, Good x) → lin p l = l := by
  induction l with
  | nil => intro p _ _; rfl
  | cons y l ih =>
    intro p hp h
    obtain ⟨h0, h1, h2, h3⟩ := h y (by simp)
    simp only [lin]
    rw [if_neg (by omega), ih y h3 (fun z hz => h z (by simp [hz]))]
    have : tr y = y := by unfold tr; rw [if_neg (by omega), if_neg h1]
    rw [this]; rfl
theorem mark_form {bs : List Int} (h : mark bs = true) : ∃ r, bs = 239 :: 187 :: 191 :: r := by
  unfold mark at h
  simp only [Bool.and_eq_true, decide_eq_true_eq] at h
  obtain ⟨h, h0, h1, h2⟩ := h
  match bs, h with
  | a :: b :: c :: r, _ =>
    simp [gt] at h0 h1 h2
    exact ⟨r, by rw [h0, h1, h2]⟩
theorem mark_enc {l : List Int} (hg : ∀ x ∈ l, Good x) (h0 : gt l 0 ≠ 65279) : mark (enc l) = false := by
  by_cases hm : mark (enc l) = true
  · obtain ⟨r, e⟩ := mark_form hm
    cases l with
    | nil => simp [enc] at e
    | cons x l =>
      have hx := (hg x (by simp)).1
      have s1 : stp (enc (x :: l)) = (x, (enc1 x).length, true) := by rw [enc_cons, chr_yes hx]; exact stp_enc x _ hx
      rw [e] at s1
      have s2 : stp (239 :: 187 :: 191 :: r) = (65279, 3, true) := by simp [stp, szOf, fol, ldOf, loOf, hiOf]
      rw [s2] at s1
      have : (65279 : Int) = x := congrArg Prod.fst s1
      exact absurd (by simp [gt, this]) h0
  · simpa using hm
theorem dec_same {l : List Int} (hg : ∀ x ∈ l, Good x) (h0 : gt l 0 ≠ 65279) : dcd (enc l) = l := by
  have e1 : cut (enc l) = enc l := by unfold cut; rw [mark_enc hg h0]; rfl
  have e2 : allB l = true := by unfold allB; rw [List.all_eq_true]; exact fun x hx => (hg x hx).1
  unfold dcd
  rw [e1, raw_enc, (map_chr l).2 e2]
  exact lin_same l 0 (by decide) hg
theorem dec_len (bs : List Int) : (dcd bs).length ≤ bs.length := by
  have h : ∀ (l : List Int) (p : Int), (lin p l).length ≤ l.length := by
    intro l
    induction l with
    | nil => intro p; simp [lin]
    | cons x l ih =>
      intro p
      have := ih x
      simp only [lin]
      split <;> simp <;> omega
  have h1 := h (raw (cut bs)) 0
  have h2 := (raw_le (cut bs)).1
  have h3 := cutm_len bs
  unfold dcd
  omega
def RelK (n : Nat) (i : Value) : Prop := ∃ k : Nat, k ≤ n ∧ i = .int .i64 k
theorem RelK.mk {n : Nat} {i : Value} (k : Nat) (h1 : k ≤ n) (h2 : i = .int .i64 k) : RelK n i := ⟨k, h1, h2⟩
theorem gt_mem {l : List Int} {k : Nat} (h : k < l.length) : gt l k ∈ l := by rw [gt_eq h]; exact List.getElem_mem h
theorem good_bd {x : Int} (h : Good x) : 0 ≤ x ∧ x ≤ 1114111 := by have := (isC_iff x).1 h.1; omega
end Go.Proofs.YtcclhdiphcfdfaaGreatDoor
