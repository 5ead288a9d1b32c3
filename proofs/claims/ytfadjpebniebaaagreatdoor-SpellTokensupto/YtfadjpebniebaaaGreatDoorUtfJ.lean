/-
  Bytes of characters, by the reference; the law of both.
-/
import Derived.Test.YtfadjpebniebaaaGreatDoorUtfI
set_option linter.unusedVariables false
set_option linter.unusedSimpArgs false
namespace Go.Proofs.YtfadjpebniebaaaGreatDoor
open Go.RowKit

set_option maxRecDepth 100000 in
set_option maxHeartbeats 4000000 in
theorem encR_any (ls : List Int) (v : Value) (w : World) (hv : Nums .i32 w v ls) (hl9 : ls.length ≤ 35184372088832) :
    Calls Tryz.prog 74 #[v] w fun e w' => ∃ u, e = .returned u ∧ Nums .u8 w' u (enc ls) ∧ Below w.heap.size w w' := by
  obtain ⟨i0, hi, hz0, hz1, hz2⟩ := info_parts info8
  rcases hv with ⟨a, c, rfl, rfl⟩ | ⟨b, o, n, c, rfl, hn, h0, hbw, hl, hn9, hc9, hc⟩
  · go_enter Tryz.func74, Tryz.ntmps74
    go_wp2
    refine wp_loop_rounds 1 ?_
    rw [rounds_succ]
    go_wp2
    go_ret
    exact ⟨_, rfl, .inl ⟨_, _, rfl, rfl⟩, Below.refl _ _⟩
  · have HN : Hid (n = ls.length) := hn
    have HC := hide hc
    have hnb : n ≤ 35184372088832 := by omega
    clear hc hn hl9
    go_enter Tryz.func74, Tryz.ntmps74
    go_wp2
    go_loopw [3, 8] (fun b i wr => RelEnc w n ls b i wr) (fun _ i _ => n - (intOf i).toNat)
    case atStart => exact .mk 0 (by omega) rfl (Own.nil _ _ _)
    case round =>
      obtain ⟨k, hk, rfl, HO⟩ := hrel
      replace HO := hide HO
      have hle := enc_take_len ls k
      by_cases hlt : k < n
      · have cx : wr.cell? ⟨b, o + k, none⟩ = some (.int .i32 (gt ls k)) := (HO.out.2.cell (p := ⟨b, o + k, none⟩) hbw).trans (HC.out k hlt)
        have R : Hid (enc (ls.take (k + 1)) = enc (ls.take k) ++ enc1 (chr (gt ls k))) := by rw [take_gt (by rw [← HN.out]; exact hlt)]; exact enc_snoc _ _
        generalize gt ls k = x at cx R
        by_cases hx : isC x = true
        · obtain ⟨x0, x1, x2⟩ := (isC_iff x).1 hx
          rw [chr_yes hx] at R
          have HX := hide hx
          clear hx x2
          rcases (show x ≤ 127 ∨ (127 < x ∧ x ≤ 2047) ∨ (2047 < x ∧ x ≤ 65535) ∨ 65535 < x by omega) with g | ⟨g, g'⟩ | ⟨g, g'⟩ | g
          · rw [enc1_1 g] at R
            go_wp2_with (first
              | (go_at_call 114; refine (isR_any x _).mono ?_; rintro e w' ⟨rfl, rfl⟩; rw [HX.out])
              | (at_builtin; refine wpList_append_own _ rfl _ _ 36 rfl w.heap.size 5 i0 (.int .u8 0) 1 1 Tryz.underlying36 hi hz0 hz1 hz2 rfl (by decide) _ _ _ rfl (HO.out.1.alloc _) ⟨_, 0, none⟩ 1 1 [.int .u8 (x)] rfl rfl (newsL _ _ _) (ints_oneCell .u8 [x]) (by unfold maxLen; omega) (by omega) (by have := HO.out.2.size; simp; omega) ?_; intro v' w1 hown' hgrow _; replace HO := hide (HO.out.grow (ys := [x]) hown' hgrow); clear hown' hgrow))
            go_roundw
            case rel => exact .mk (k + 1) (by omega) (by go_num) (by rw [R.out]; exact HO.out)
            case measure => simp [intOf]; omega
          · rw [enc1_2 g g'] at R
            have d0 : 0 ≤ x / 64 := by omega
            have d1 : x / 64 < 32 := by omega
            have e1 := i32_or192 (x / 64) d0 (by omega)
            have q1 := i32_and63 x (by omega) (by omega)
            have q2 := i32_or128 (x % 64) (by omega) (by omega)
            have q3 : 0 ≤ x % 64 := by omega
            have q4 : x % 64 < 64 := by omega
            go_wp2_with (first
              | (go_at_call 114; refine (isR_any x _).mono ?_; rintro e w' ⟨rfl, rfl⟩; rw [HX.out])
              | (at_builtin; refine wpList_append_own _ rfl _ _ 36 rfl w.heap.size 5 i0 (.int .u8 0) 1 1 Tryz.underlying36 hi hz0 hz1 hz2 rfl (by decide) _ _ _ rfl (HO.out.1.alloc _) ⟨_, 0, none⟩ 2 2 [.int .u8 (192 + x / 64), .int .u8 (128 + x % 64)] rfl rfl (newsL _ _ _) (ints_oneCell .u8 [192 + x / 64, 128 + x % 64]) (by unfold maxLen; omega) (by omega) (by have := HO.out.2.size; simp; omega) ?_; intro v' w1 hown' hgrow _; replace HO := hide (HO.out.grow (ys := [192 + x / 64, 128 + x % 64]) hown' hgrow); clear hown' hgrow))
            go_roundw
            case rel => exact .mk (k + 1) (by omega) (by go_num) (by rw [R.out]; exact HO.out)
            case measure => simp [intOf]; omega
          · rw [enc1_3 g g'] at R
            have d0 : 0 ≤ x / 4096 := by omega
            have d1 : x / 4096 < 16 := by omega
            have e1 := i32_or224 (x / 4096) d0 (by omega)
            have p1 := i32_and63 (x / 64) (by omega) (by omega)
            have p2 := i32_or128 (x / 64 % 64) (by omega) (by omega)
            have p3 : 0 ≤ x / 64 % 64 := by omega
            have p4 : x / 64 % 64 < 64 := by omega
            have q1 := i32_and63 x (by omega) (by omega)
            have q2 := i32_or128 (x % 64) (by omega) (by omega)
            have q3 : 0 ≤ x % 64 := by omega
            have q4 : x % 64 < 64 := by omega
            go_wp2_with (first
              | (go_at_call 114; refine (isR_any x _).mono ?_; rintro e w' ⟨rfl, rfl⟩; rw [HX.out])
              | (at_builtin; refine wpList_append_own _ rfl _ _ 36 rfl w.heap.size 5 i0 (.int .u8 0) 1 1 Tryz.underlying36 hi hz0 hz1 hz2 rfl (by decide) _ _ _ rfl (HO.out.1.alloc _) ⟨_, 0, none⟩ 3 3 [.int .u8 (224 + x / 4096), .int .u8 (128 + x / 64 % 64), .int .u8 (128 + x % 64)] rfl rfl (newsL _ _ _) (ints_oneCell .u8 [224 + x / 4096, 128 + x / 64 % 64, 128 + x % 64]) (by unfold maxLen; omega) (by omega) (by have := HO.out.2.size; simp; omega) ?_; intro v' w1 hown' hgrow _; replace HO := hide (HO.out.grow (ys := [224 + x / 4096, 128 + x / 64 % 64, 128 + x % 64]) hown' hgrow); clear hown' hgrow))
            go_roundw
            case rel => exact .mk (k + 1) (by omega) (by go_num) (by rw [R.out]; exact HO.out)
            case measure => simp [intOf]; omega
          · rw [enc1_4 g] at R
            have d0 : 0 ≤ x / 262144 := by omega
            have d1 : x / 262144 < 8 := by omega
            have e1 := i32_or240 (x / 262144) d0 (by omega)
            have p1 := i32_and63 (x / 64) (by omega) (by omega)
            have p2 := i32_or128 (x / 64 % 64) (by omega) (by omega)
            have p3 : 0 ≤ x / 64 % 64 := by omega
            have p4 : x / 64 % 64 < 64 := by omega
            have r1 := i32_and63 (x / 4096) (by omega) (by omega)
            have r2 := i32_or128 (x / 4096 % 64) (by omega) (by omega)
            have r3 : 0 ≤ x / 4096 % 64 := by omega
            have r4 : x / 4096 % 64 < 64 := by omega
            have q1 := i32_and63 x (by omega) (by omega)
            have q2 := i32_or128 (x % 64) (by omega) (by omega)
            have q3 : 0 ≤ x % 64 := by omega
            have q4 : x % 64 < 64 := by omega
            go_wp2_with (first
              | (go_at_call 114; refine (isR_any x _).mono ?_; rintro e w' ⟨rfl, rfl⟩; rw [HX.out])
              | (at_builtin; refine wpList_append_own _ rfl _ _ 36 rfl w.heap.size 5 i0 (.int .u8 0) 1 1 Tryz.underlying36 hi hz0 hz1 hz2 rfl (by decide) _ _ _ rfl (HO.out.1.alloc _) ⟨_, 0, none⟩ 4 4 [.int .u8 (240 + x / 262144), .int .u8 (128 + x / 4096 % 64), .int .u8 (128 + x / 64 % 64), .int .u8 (128 + x % 64)] rfl rfl (newsL _ _ _) (ints_oneCell .u8 [240 + x / 262144, 128 + x / 4096 % 64, 128 + x / 64 % 64, 128 + x % 64]) (by unfold maxLen; omega) (by omega) (by have := HO.out.2.size; simp; omega) ?_; intro v' w1 hown' hgrow _; replace HO := hide (HO.out.grow (ys := [240 + x / 262144, 128 + x / 4096 % 64, 128 + x / 64 % 64, 128 + x % 64]) hown' hgrow); clear hown' hgrow))
            go_roundw
            case rel => exact .mk (k + 1) (by omega) (by go_num) (by rw [R.out]; exact HO.out)
            case measure => simp [intOf]; omega
        · have hx' : isC x = false := by simpa using hx
          have e65 : enc1 65533 = [239, 191, 189] := by decide
          rw [chr_no hx', e65] at R
          have HX := hide hx'
          clear hx hx' e65
          have f1 : bits .or .i32 224 15 = 239 := by decide
          have f2 : bits .and .i32 1023 63 = 63 := by decide
          have f3 : bits .and .i32 65533 63 = 61 := by decide
          have f4 : bits .or .i32 128 63 = 191 := by decide
          have f5 : bits .or .i32 128 61 = 189 := by decide
          go_wp2_with (first
            | (go_at_call 114; refine (isR_any x _).mono ?_; rintro e w' ⟨rfl, rfl⟩; rw [HX.out])
            | (at_builtin; refine wpList_append_own _ rfl _ _ 36 rfl w.heap.size 5 i0 (.int .u8 0) 1 1 Tryz.underlying36 hi hz0 hz1 hz2 rfl (by decide) _ _ _ rfl (HO.out.1.alloc _) ⟨_, 0, none⟩ 3 3 [.int .u8 (239), .int .u8 (191), .int .u8 (189)] rfl rfl (newsL _ _ _) (ints_oneCell .u8 [239, 191, 189]) (by unfold maxLen; omega) (by omega) (by have := HO.out.2.size; simp; omega) ?_; intro v' w1 hown' hgrow _; replace HO := hide (HO.out.grow (ys := [239, 191, 189]) hown' hgrow); clear hown' hgrow))
          go_roundw
          case rel => exact .mk (k + 1) (by omega) (by go_num) (by rw [R.out]; exact HO.out)
          case measure => simp [intOf]; omega
      · have hkn : k = n := by omega
        subst hkn
        have R : Hid (ls.take k = ls) := List.take_of_length_le (by rw [← HN.out]; omega)
        rw [R.out] at HO hle
        have N := hide (HO.out.nums (by omega))
        go_wp2
        go_ret
        exact ⟨_, rfl, N.out, HO.out.2⟩
theorem enc_euro : enc [8364] = [226, 130, 172] := by decide
end Go.Proofs.YtfadjpebniebaaaGreatDoor
