/-
  Bytes of characters, by the reference; the law of both.
-/
import Derived.Test.YtklibbahbclekaaUtfI
set_option linter.unusedVariables false
set_option linter.unusedSimpArgs false
namespace Go.Proofs.Ytklibbahbclekaa
open Go.RowKit

set_option maxHeartbeats 4000000 in
theorem encR_any (ls : List Int) (v : Value) (w : World) (hv : Nums .i32 w v ls) (hl9 : ls.length ≤ 35184372088832) :
    Calls Try.prog 17 #[v] w fun e w' => ∃ u, e = .returned u ∧ Nums .u8 w' u (enc ls) ∧ Below w.heap.size w w' := by
  obtain ⟨i0, hi, hz0, hz1, hz2⟩ := info_parts info8
  rcases hv with ⟨a, c, rfl, rfl⟩ | ⟨b, o, n, c, rfl, hn, h0, hbw, hl, hn9, hc9, hc⟩
  · go_enter Try.func17, Try.ntmps17
    go_wp2
    refine wp_loop_rounds 1 ?_
    rw [rounds_succ]
    go_wp2
    go_ret
    exact ⟨_, rfl, .inl ⟨_, _, rfl, rfl⟩, Below.refl _ _⟩
  · have HN : Hid (n = ls.length) := hn
    have HC := hide hc
    have hnb : n ≤ 35184372088832 := by omega
    clear hc hn hl9
    go_enter Try.func17, Try.ntmps17
    go_wp2
    go_loopw [3, 8] (fun b i wr => RelEnc w n ls b i wr) (fun _ i _ => n - (intOf i).toNat)
    case atStart => exact .mk 0 (by omega) rfl (Own.nil _ _ _)
    case round =>
      obtain ⟨k, hk, rfl, HO⟩ := hrel
      replace HO := hide HO
      have hle := enc_take_len ls k
      by_cases hlt : k < n
      · have cx : wr.cell? ⟨b, o + k, none⟩ = some (.int .i32 (gt ls k)) := (HO.out.2.cell (p := ⟨b, o + k, none⟩) hbw).trans (HC.out k hlt)
        have R : Hid (enc (ls.take (k + 1)) = enc (ls.take k) ++ enc1 (chr (gt ls k))) := by rw [take_gt (by rw [← HN.out]; exact hlt)]; exact enc_snoc _ _
        generalize gt ls k = x at cx R
        by_cases hx : isC x = true
        · obtain ⟨x0, x1, x2⟩ := (isC_iff x).1 hx
          rw [chr_yes hx] at R
          have HX := hide hx
          clear hx x2
          rcases (show x ≤ 127 ∨ (127 < x ∧ x ≤ 2047) ∨ (2047 < x ∧ x ≤ 65535) ∨ 65535 < x by omega) with g | ⟨g, g'⟩ | ⟨g, g'⟩ | g
          · rw [enc1_1 g] at R
            go_wp2_with (first
              | (go_at_call 26; refine (isR_any x _).mono ?_; rintro e w' ⟨rfl, rfl⟩; rw [HX.out])
              | (at_builtin; refine wpList_append_own _ rfl _ _ 22 rfl w.heap.size 5 i0 (.int .u8 0) 1 1 Try.underlying22 hi hz0 hz1 hz2 rfl (by decide) _ _ _ rfl (HO.out.1.alloc _) ⟨_, 0, none⟩ 1 1 [.int .u8 (x)] rfl rfl (newsL _ _ _) (ints_oneCell .u8 [x]) (by unfold maxLen; omega) (by omega) (by have := HO.out.2.size; simp; omega) ?_; intro v' w1 hown' hgrow _; replace HO := hide (HO.out.grow (ys := [x]) hown' hgrow); clear hown' hgrow))
            go_roundw
            case rel => exact .mk (k + 1) (by omega) (by go_num) (by rw [R.out]; exact HO.out)
            case measure => simp [intOf]; omega
          · rw [enc1_2 g g'] at R
            have d0 : 0 ≤ x / 64 := by omega
            have d1 : x / 64 < 32 := by omega
            have e1 := i32_or192 (x / 64) d0 (by omega)
            have q1 := i32_and63 x (by omega) (by omega)
            have q2 := i32_or128 (x % 64) (by omega) (by omega)
            have q3 : 0 ≤ x % 64 := by omega
            have q4 : x % 64 < 64 := by omega
            go_wp2_with (first
              | (go_at_call 26; refine (isR_any x _).mono ?_; rintro e w' ⟨rfl, rfl⟩; rw [HX.out])
              | (at_builtin; refine wpList_append_own _ rfl _ _ 22 rfl w.heap.size 5 i0 (.int .u8 0) 1 1 Try.underlying22 hi hz0 hz1 hz2 rfl (by decide) _ _ _ rfl (HO.out.1.alloc _) ⟨_, 0, none⟩ 2 2 [.int .u8 (192 + x / 64), .int .u8 (128 + x % 64)] rfl rfl (newsL _ _ _) (ints_oneCell .u8 [192 + x / 64, 128 + x % 64]) (by unfold maxLen; omega) (by omega) (by have := HO.out.2.size; simp; omega) ?_; intro v' w1 hown' hgrow _; replace HO := hide (HO.out.grow (ys := [192 + x / 64, 128 + x % 64]) hown' hgrow); clear hown' hgrow))
            go_roundw
            case rel => exact .mk (k + 1) (by omega) (by go_num) (by rw [R.out]; exact HO.out)
            case measure => simp [intOf]; omega
          · rw [enc1_3 g g'] at R
            have d0 : 0 ≤ x / 4096 := by omega
            have d1 : x / 4096 < 16 := by omega
            have e1 := i32_or224 (x / 4096) d0 (by omega)
            have p1 := i32_and63 (x / 64) (by omega) (by omega)
            have p2 := i32_or128 (x / 64 % 64) (by omega) (by omega)
            have p3 : 0 ≤ x / 64 % 64 := by omega
            have p4 : x / 64 % 64 < 64 := by omega
            have q1 := i32_and63 x (by omega) (by omega)
            have q2 := i32_or128 (x % 64) (by omega) (by omega)
            have q3 : 0 ≤ x % 64 := by omega
            have q4 : x % 64 < 64 := by omega
            go_wp2_with (first
              | (go_at_call 26; refine (isR_any x _).mono ?_; rintro e w' ⟨rfl, rfl⟩; rw [HX.out])
              | (at_builtin; refine wpList_append_own _ rfl _ _ 22 rfl w.heap.size 5 i0 (.int .u8 0) 1 1 Try.underlying22 hi hz0 hz1 hz2 rfl (by decide) _ _ _ rfl (HO.out.1.alloc _) ⟨_, 0, none⟩ 3 3 [.int .u8 (224 + x / 4096), .int .u8 (128 + x / 64 % 64), .int .u8 (128 + x % 64)] rfl rfl (newsL _ _ _) (ints_oneCell .u8 [224 + x / 4096, 128 + x / 64 % 64, 128 + x % 64]) (by unfold maxLen; omega) (by omega) (by have := HO.out.2.size; simp; omega) ?_; intro v' w1 hown' hgrow _; replace HO := hide (HO.out.grow (ys := [224 + x / 4096, 128 + x / 64 % 64, 128 + x % 64]) hown' hgrow); clear hown' hgrow))
            go_roundw
            case rel => exact .mk (k + 1) (by omega) (by go_num) (by rw [R.out]; exact HO.out)
            case measure => simp [intOf]; omega
          · rw [enc1_4 g] at R
            have d0 : 0 ≤ x / 262144 := by omega
            have d1 : x / 262144 < 8 := by omega
            have e1 := i32_or240 (x / 262144) d0 (by omega)
            have p1 := i32_and63 (x / 64) (by omega) (by omega)
            have p2 := i32_or128 (x / 64 % 64) (by omega) (by omega)
            have p3 : 0 ≤ x / 64 % 64 := by omega
            have p4 : x / 64 % 64 < 64 := by omega
            have r1 := i32_and63 (x / 4096) (by omega) (by omega)
            have r2 := i32_or128 (x / 4096 % 64) (by omega) (by omega)
            have r3 : 0 ≤ x / 4096 % 64 := by omega
            have r4 : x / 4096 % 64 < 64 := by omega
            have q1 := i32_and63 x (by omega) (by omega)
            have q2 := i32_or128 (x % 64) (by omega) (by omega)
            have q3 : 0 ≤ x % 64 := by omega
            have q4 : x % 64 < 64 := by omega
            go_wp2_with (first
              | (go_at_call 26; refine (isR_any x _).mono ?_; rintro e w' ⟨rfl, rfl⟩; rw [HX.out])
              | (at_builtin; refine wpList_append_own _ rfl _ _ 22 rfl w.heap.size 5 i0 (.int .u8 0) 1 1 Try.underlying22 hi hz0 hz1 hz2 rfl (by decide) _ _ _ rfl (HO.out.1.alloc _) ⟨_, 0, none⟩ 4 4 [.int .u8 (240 + x / 262144), .int .u8 (128 + x / 4096 % 64), .int .u8 (128 + x / 64 % 64), .int .u8 (128 + x % 64)] rfl rfl (newsL _ _ _) (ints_oneCell .u8 [240 + x / 262144, 128 + x / 4096 % 64, 128 + x / 64 % 64, 128 + x % 64]) (by unfold maxLen; omega) (by omega) (by have := HO.out.2.size; simp; omega) ?_; intro v' w1 hown' hgrow _; replace HO := hide (HO.out.grow (ys := [240 + x / 262144, 128 + x / 4096 % 64, 128 + x / 64 % 64, 128 + x % 64]) hown' hgrow); clear hown' hgrow))
            go_roundw
            case rel => exact .mk (k + 1) (by omega) (by go_num) (by rw [R.out]; exact HO.out)
            case measure => simp [intOf]; omega
        · have hx' : isC x = false := by simpa using hx
          have e65 : enc1 65533 = [239, 191, 189] := by decide
          rw [chr_no hx', e65] at R
          have HX := hide hx'
          clear hx hx' e65
          have f1 : bits .or .i32 224 15 = 239 := by decide
          have f2 : bits .and .i32 1023 63 = 63 := by decide
          have f3 : bits .and .i32 65533 63 = 61 := by decide
          have f4 : bits .or .i32 128 63 = 191 := by decide
          have f5 : bits .or .i32 128 61 = 189 := by decide
          go_wp2_with (first
            | (go_at_call 26; refine (isR_any x _).mono ?_; rintro e w' ⟨rfl, rfl⟩; rw [HX.out])
            | (at_builtin; refine wpList_append_own _ rfl _ _ 22 rfl w.heap.size 5 i0 (.int .u8 0) 1 1 Try.underlying22 hi hz0 hz1 hz2 rfl (by decide) _ _ _ rfl (HO.out.1.alloc _) ⟨_, 0, none⟩ 3 3 [.int .u8 (239), .int .u8 (191), .int .u8 (189)] rfl rfl (newsL _ _ _) (ints_oneCell .u8 [239, 191, 189]) (by unfold maxLen; omega) (by omega) (by have := HO.out.2.size; simp; omega) ?_; intro v' w1 hown' hgrow _; replace HO := hide (HO.out.grow (ys := [239, 191, 189]) hown' hgrow); clear hown' hgrow))
          go_roundw
          case rel => exact .mk (k + 1) (by omega) (by go_num) (by rw [R.out]; exact HO.out)
          case measure => simp [intOf]; omega
      · have hkn : k = n := by omega
        subst hkn
        have R : Hid (ls.take k = ls) := List.take_of_length_le (by rw [← HN.out]; omega)
        rw [R.out] at HO hle
        have N := hide (HO.out.nums (by omega))
        go_wp2
        go_ret
        exact ⟨_, rfl, N.out, HO.out.2⟩
theorem enc_euro : enc [8364] = [226, 130, 172] := by decide
set_option maxHeartbeats 1000000 in
theorem law_encode (ls : List Int) (v : Value) (w : World) (h32 : ∀ x ∈ ls, -2147483648 ≤ x ∧ x ≤ 2147483647) (hv : Nums .i32 w v ls) (hl : ls.length ≤ 35184372088832) :
    Calls Try.prog 5 #[v] w fun e w' => e = .returned (.bool true) ∧ Below w.heap.size w w' := by
  replace hv := hide hv
  have h2 : ∀ u : World, Nums .i32 (u.alloc (.cells #[.int .i32 8364] 21)) (.slice (some ⟨u.heap.size, 0, none⟩) 1 1) [8364] := fun u => Nums.lit u 21 [8364] 1 rfl (by omega) (by omega)
  have h3 : ∀ u : World, Nums .u8 (u.alloc (.cells #[.int .u8 226, .int .u8 130, .int .u8 172] 5)) (.slice (some ⟨u.heap.size, 0, none⟩) 3 3) [226, 130, 172] := fun u => Nums.lit u 5 [226, 130, 172] 3 rfl (by omega) (by omega)
  have H2 := hide h2
  have H3 := hide h3
  clear h2 h3
  have B := hide (Below.refl w.heap.size w)
  go_enter Try.func5, Try.ntmps5
  go_wp2_with (first
    | (go_at_call_of 16 v; refine (encP_any ls v _ hv.out hl).mono ?_; rintro e w1 ⟨u, rfl, N, B1⟩; replace N := hide N; replace B := hide (bto B.out B1); clear B1)
    | (go_at_call 17; refine (encR_any ls v _ (hv.out.below B.out) hl).mono ?_; rintro e w2 ⟨u2, rfl, N2, B2⟩; replace N2 := hide N2; replace N := hide (N.out.below B2); replace B := hide (bto B.out B2); clear B2)
    | (go_at_call_of 15 u2; refine (bytes_any (enc ls) (enc ls) _ _ _ N.out N2.out).mono ?_; rintro e w3 ⟨rfl, B3⟩; rw [eqB_refl]; replace B := hide (bto B.out B3); clear B3 N N2)
    | (go_at_call 16; refine (encP_any [8364] _ _ (H2.out _) (by decide)).mono ?_; rintro e w4 ⟨u4, rfl, N4, B4⟩; rw [enc_euro] at N4; replace N4 := hide N4; replace B := hide (bto (bplus B.out _) B4); clear B4)
    | (go_at_call 15; refine (bytes_any [226, 130, 172] [226, 130, 172] _ _ _ (N4.out.below ((Below.refl _ _).alloc (Nat.le_refl _) _)) (H3.out _)).mono ?_; rintro e w5 ⟨rfl, B5⟩; rw [eqB_refl]; replace B := hide (bto (bplus B.out _) B5); clear B5))
  go_ret
  exact ⟨rfl, B.out⟩
end Go.Proofs.Ytklibbahbclekaa
