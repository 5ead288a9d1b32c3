/-
  Bytes of characters, by the reference; the law of both.
  The characters of a stylesheet, by the reference; the law of both.
-/
import Derived.Test.YtckefmhleklciaaGreatDoorMc
set_option linter.unusedVariables false
set_option linter.unusedSimpArgs false
namespace Go.Proofs.YtckefmhleklciaaGreatDoor
open Go.RowKit

set_option maxRecDepth 100000 in
set_option maxHeartbeats 4000000 in
theorem encR_any (ls : List Int) (v : Value) (w : World) (hv : Nums .i32 w v ls) (hl9 : ls.length ≤ 35184372088832) :
    Calls Tryz.prog 75 #[v] w fun e w' => ∃ u, e = .returned u ∧ Nums .u8 w' u (enc ls) ∧ Below w.heap.size w w' := by
  obtain ⟨i0, hi, hz0, hz1, hz2⟩ := info_parts info8
  rcases hv with ⟨a, c, rfl, rfl⟩ | ⟨b, o, n, c, rfl, hn, h0, hbw, hl, hn9, hc9, hc⟩
  · go_enter Tryz.func75, Tryz.ntmps75
    go_wp2
    refine wp_loop_rounds 1 ?_
    rw [rounds_succ]
    go_wp2
    go_ret
    exact ⟨_, rfl, .inl ⟨_, _, rfl, rfl⟩, Below.refl _ _⟩
  · have HN : Hid (n = ls.length) := hn
    have HC := hide hc
    have hnb : n ≤ 35184372088832 := by omega
    clear hc hn hl9
    go_enter Tryz.func75, Tryz.ntmps75
    go_wp2
    go_loopw [3, 8] (fun b i wr => RelEnc w n ls b i wr) (fun _ i _ => n - (intOf i).toNat)
    case atStart => exact .mk 0 (by omega) rfl (Own.nil _ _ _)
    case round =>
      obtain ⟨k, hk, rfl, HO⟩ := hrel
      replace HO := hide HO
      have hle := enc_take_len ls k
      by_cases hlt : k < n
      · have cx : wr.cell? ⟨b, o + k, none⟩ = some (.int .i32 (gt ls k)) := (HO.out.2.cell (p := ⟨b, o + k, none⟩) hbw).trans (HC.out k hlt)
        have R : Hid (enc (ls.take (k + 1)) = enc (ls.take k) ++ enc1 (chr (gt ls k))) := by rw [take_gt (by rw [← HN.out]; exact hlt)]; exact enc_snoc _ _
        generalize gt ls k = x at cx R
        by_cases hx : isC x = true
        · obtain ⟨x0, x1, x2⟩ := (isC_iff x).1 hx
          rw [chr_yes hx] at R
          have HX := hide hx
          clear hx x2
          rcases (show x ≤ 127 ∨ (127 < x ∧ x ≤ 2047) ∨ (2047 < x ∧ x ≤ 65535) ∨ 65535 < x by omega) with g | ⟨g, g'⟩ | ⟨g, g'⟩ | g
          · rw [enc1_1 g] at R
            go_wp2_with (first
              | (go_at_call 34; refine (isR_any x _).mono ?_; rintro e w' ⟨rfl, rfl⟩; rw [HX.out])
              | (at_builtin; refine wpList_append_own _ rfl _ _ 28 rfl w.heap.size 5 i0 (.int .u8 0) 1 1 Tryz.underlying28 hi hz0 hz1 hz2 rfl (by decide) _ _ _ rfl (HO.out.1.alloc _) ⟨_, 0, none⟩ 1 1 [.int .u8 (x)] rfl rfl (newsL _ _ _) (ints_oneCell .u8 [x]) (by unfold maxLen; omega) (by omega) (by have := HO.out.2.size; simp; omega) ?_; intro v' w1 hown' hgrow _; replace HO := hide (HO.out.grow (ys := [x]) hown' hgrow); clear hown' hgrow))
            go_roundw
            case rel => exact .mk (k + 1) (by omega) (by go_num) (by rw [R.out]; exact HO.out)
            case measure => simp [intOf]; omega
          · rw [enc1_2 g g'] at R
            have d0 : 0 ≤ x / 64 := by omega
            have d1 : x / 64 < 32 := by omega
            have e1 := i32_or192 (x / 64) d0 (by omega)
            have q1 := i32_and63 x (by omega) (by omega)
            have q2 := i32_or128 (x % 64) (by omega) (by omega)
            have q3 : 0 ≤ x % 64 := by omega
            have q4 : x % 64 < 64 := by omega
            go_wp2_with (first
              | (go_at_call 34; refine (isR_any x _).mono ?_; rintro e w' ⟨rfl, rfl⟩; rw [HX.out])
              | (at_builtin; refine wpList_append_own _ rfl _ _ 28 rfl w.heap.size 5 i0 (.int .u8 0) 1 1 Tryz.underlying28 hi hz0 hz1 hz2 rfl (by decide) _ _ _ rfl (HO.out.1.alloc _) ⟨_, 0, none⟩ 2 2 [.int .u8 (192 + x / 64), .int .u8 (128 + x % 64)] rfl rfl (newsL _ _ _) (ints_oneCell .u8 [192 + x / 64, 128 + x % 64]) (by unfold maxLen; omega) (by omega) (by have := HO.out.2.size; simp; omega) ?_; intro v' w1 hown' hgrow _; replace HO := hide (HO.out.grow (ys := [192 + x / 64, 128 + x % 64]) hown' hgrow); clear hown' hgrow))
            go_roundw
            case rel => exact .mk (k + 1) (by omega) (by go_num) (by rw [R.out]; exact HO.out)
            case measure => simp [intOf]; omega
          · rw [enc1_3 g g'] at R
            have d0 : 0 ≤ x / 4096 := by omega
            have d1 : x / 4096 < 16 := by omega
            have e1 := i32_or224 (x / 4096) d0 (by omega)
            have p1 := i32_and63 (x / 64) (by omega) (by omega)
            have p2 := i32_or128 (x / 64 % 64) (by omega) (by omega)
            have p3 : 0 ≤ x / 64 % 64 := by omega
            have p4 : x / 64 % 64 < 64 := by omega
            have q1 := i32_and63 x (by omega) (by omega)
            have q2 := i32_or128 (x % 64) (by omega) (by omega)
            have q3 : 0 ≤ x % 64 := by omega
            have q4 : x % 64 < 64 := by omega
            go_wp2_with (first
              | (go_at_call 34; refine (isR_any x _).mono ?_; rintro e w' ⟨rfl, rfl⟩; rw [HX.out])
              | (at_builtin; refine wpList_append_own _ rfl _ _ 28 rfl w.heap.size 5 i0 (.int .u8 0) 1 1 Tryz.underlying28 hi hz0 hz1 hz2 rfl (by decide) _ _ _ rfl (HO.out.1.alloc _) ⟨_, 0, none⟩ 3 3 [.int .u8 (224 + x / 4096), .int .u8 (128 + x / 64 % 64), .int .u8 (128 + x % 64)] rfl rfl (newsL _ _ _) (ints_oneCell .u8 [224 + x / 4096, 128 + x / 64 % 64, 128 + x % 64]) (by unfold maxLen; omega) (by omega) (by have := HO.out.2.size; simp; omega) ?_; intro v' w1 hown' hgrow _; replace HO := hide (HO.out.grow (ys := [224 + x / 4096, 128 + x / 64 % 64, 128 + x % 64]) hown' hgrow); clear hown' hgrow))
            go_roundw
            case rel => exact .mk (k + 1) (by omega) (by go_num) (by rw [R.out]; exact HO.out)
            case measure => simp [intOf]; omega
          · rw [enc1_4 g] at R
            have d0 : 0 ≤ x / 262144 := by omega
            have d1 : x / 262144 < 8 := by omega
            have e1 := i32_or240 (x / 262144) d0 (by omega)
            have p1 := i32_and63 (x / 64) (by omega) (by omega)
            have p2 := i32_or128 (x / 64 % 64) (by omega) (by omega)
            have p3 : 0 ≤ x / 64 % 64 := by omega
            have p4 : x / 64 % 64 < 64 := by omega
            have r1 := i32_and63 (x / 4096) (by omega) (by omega)
            have r2 := i32_or128 (x / 4096 % 64) (by omega) (by omega)
            have r3 : 0 ≤ x / 4096 % 64 := by omega
            have r4 : x / 4096 % 64 < 64 := by omega
            have q1 := i32_and63 x (by omega) (by omega)
            have q2 := i32_or128 (x % 64) (by omega) (by omega)
            have q3 : 0 ≤ x % 64 := by omega
            have q4 : x % 64 < 64 := by omega
            go_wp2_with (first
              | (go_at_call 34; refine (isR_any x _).mono ?_; rintro e w' ⟨rfl, rfl⟩; rw [HX.out])
              | (at_builtin; refine wpList_append_own _ rfl _ _ 28 rfl w.heap.size 5 i0 (.int .u8 0) 1 1 Tryz.underlying28 hi hz0 hz1 hz2 rfl (by decide) _ _ _ rfl (HO.out.1.alloc _) ⟨_, 0, none⟩ 4 4 [.int .u8 (240 + x / 262144), .int .u8 (128 + x / 4096 % 64), .int .u8 (128 + x / 64 % 64), .int .u8 (128 + x % 64)] rfl rfl (newsL _ _ _) (ints_oneCell .u8 [240 + x / 262144, 128 + x / 4096 % 64, 128 + x / 64 % 64, 128 + x % 64]) (by unfold maxLen; omega) (by omega) (by have := HO.out.2.size; simp; omega) ?_; intro v' w1 hown' hgrow _; replace HO := hide (HO.out.grow (ys := [240 + x / 262144, 128 + x / 4096 % 64, 128 + x / 64 % 64, 128 + x % 64]) hown' hgrow); clear hown' hgrow))
            go_roundw
            case rel => exact .mk (k + 1) (by omega) (by go_num) (by rw [R.out]; exact HO.out)
            case measure => simp [intOf]; omega
        · have hx' : isC x = false := by simpa using hx
          have e65 : enc1 65533 = [239, 191, 189] := by decide
          rw [chr_no hx', e65] at R
          have HX := hide hx'
          clear hx hx' e65
          have f1 : bits .or .i32 224 15 = 239 := by decide
          have f2 : bits .and .i32 1023 63 = 63 := by decide
          have f3 : bits .and .i32 65533 63 = 61 := by decide
          have f4 : bits .or .i32 128 63 = 191 := by decide
          have f5 : bits .or .i32 128 61 = 189 := by decide
          go_wp2_with (first
            | (go_at_call 34; refine (isR_any x _).mono ?_; rintro e w' ⟨rfl, rfl⟩; rw [HX.out])
            | (at_builtin; refine wpList_append_own _ rfl _ _ 28 rfl w.heap.size 5 i0 (.int .u8 0) 1 1 Tryz.underlying28 hi hz0 hz1 hz2 rfl (by decide) _ _ _ rfl (HO.out.1.alloc _) ⟨_, 0, none⟩ 3 3 [.int .u8 (239), .int .u8 (191), .int .u8 (189)] rfl rfl (newsL _ _ _) (ints_oneCell .u8 [239, 191, 189]) (by unfold maxLen; omega) (by omega) (by have := HO.out.2.size; simp; omega) ?_; intro v' w1 hown' hgrow _; replace HO := hide (HO.out.grow (ys := [239, 191, 189]) hown' hgrow); clear hown' hgrow))
          go_roundw
          case rel => exact .mk (k + 1) (by omega) (by go_num) (by rw [R.out]; exact HO.out)
          case measure => simp [intOf]; omega
      · have hkn : k = n := by omega
        subst hkn
        have R : Hid (ls.take k = ls) := List.take_of_length_le (by rw [← HN.out]; omega)
        rw [R.out] at HO hle
        have N := hide (HO.out.nums (by omega))
        go_wp2
        go_ret
        exact ⟨_, rfl, N.out, HO.out.2⟩
theorem enc_euro : enc [8364] = [226, 130, 172] := by decide
end Go.Proofs.YtckefmhleklciaaGreatDoor
set_option linter.unusedVariables false
set_option linter.unusedSimpArgs false
namespace Go.Proofs.YtckefmhleklciaaGreatDoor
open Go.RowKit

def RelLi2 (W : World) (n : Nat) (ls : List Int) (l la i : Value) (wr : World) : Prop :=
  ∃ (k : Nat) (xs : List Int), k ≤ n ∧ i = .int .i64 k ∧ la = .int .i32 (pv ls k) ∧ xs.length ≤ k ∧ Own W .i32 21 wr l xs ∧ Hid (lin 0 ls = xs ++ lin (pv ls k) (ls.drop k))
theorem RelLi2.mk {W : World} {n : Nat} {ls : List Int} {l la i : Value} {wr : World} (k : Nat) (xs : List Int) (h1 : k ≤ n) (h2 : i = .int .i64 k) (h2' : la = .int .i32 (pv ls k)) (h3 : xs.length ≤ k) (h4 : Own W .i32 21 wr l xs) (h5 : lin 0 ls = xs ++ lin (pv ls k) (ls.drop k)) : RelLi2 W n ls l la i wr :=
  ⟨k, xs, h1, h2, h2', h3, h4, h5⟩
theorem pv_succ (ls : List Int) (k : Nat) : pv ls (k + 1) = gt ls k := rfl

set_option maxRecDepth 100000 in
set_option maxHeartbeats 4000000 in
theorem decR_short (bs ds : List Int) (a : Option Addr) (n c : Nat) (w : World) (hn9 : n ≤ 4611686018427387904) (hc9 : True) (hs : n < 3)
    (BC : By ds) (NC : Hid (Nums .u8 w (.slice a n c) ds)) (LR : (raw ds).length ≤ 1099511627776) (LD : ds.length ≤ 1099511627776) (D : Hid (dcd bs = lin 0 (raw ds))) :
    Calls Tryz.prog 21 #[.slice a n c] w fun e w' => ∃ u, e = .returned u ∧ Nums .i32 w' u (dcd bs) ∧ Below w.heap.size w w' := by
  obtain ⟨i0, hi, hz0, hz1, hz2⟩ := info_parts info32
  go_enter Tryz.func21, Tryz.ntmps21
  go_wp2_with (go_at_call 49; refine (rawR_any ds _ _ BC NC.out (by omega)).mono ?_; rintro e w1 ⟨u1, rfl, N1, B1⟩; obtain ⟨a1, n1, c1, rfl, hn1, hn19, _, hc1⟩ := N1.form; replace N1 := hide N1; replace B1 := hide B1; have HN1 := hide hn1; have HC1 := hide hc1; have hnb : n1 ≤ 1099511627776 := (by omega); clear hn1 hc1)
  go_loopw [3, 4, 34] (fun l la i wr => RelLi2 w1 n1 (raw ds) l la i wr) (fun _ _ i _ => n1 - (intOf i).toNat)
  case atStart => exact .mk 0 [] (by omega) rfl rfl (by simp) (Own.nil _ _ _) rfl
  case round =>
    obtain ⟨k, xs, hk, rfl, rfl, hxs, HO, R⟩ := hrel
    replace HO := hide HO
    by_cases hlt : k < n1
    · obtain ⟨b1, o1, rfl, hbw1, hcl1, hc91, hcc1⟩ := HC1.out (by omega)
      have cx : wr.cell? ⟨b1, o1 + k, none⟩ = some (.int .i32 (gt (raw ds) k)) := (HO.out.2.cell (p := ⟨b1, o1 + k, none⟩) hbw1).trans (hcc1 k hlt)
      have R1 := hide (lin_in R.out (by rw [← HN1.out]; exact hlt))
      have R2 := hide (lin_out R.out (by rw [← HN1.out]; exact hlt))
      have PS := hide (pv_succ (raw ds) k)
      clear hcc1 R
      generalize gt (raw ds) k = x at *
      generalize pv (raw ds) k = p at *
      rcases tr_cases x p with ⟨rfl, rfl⟩ | ⟨hno, q⟩
      · have R := hide (R2.out ⟨rfl, rfl⟩)
        clear R1 R2
        go_wp2
        go_roundw
        case rel => exact .mk (k + 1) xs (by omega) (by go_num) (by rw [PS.out]) (by omega) HO.out R.out
        case measure => simp [intOf]; omega
      · have R := hide (R1.out hno)
        clear R1 R2 hno
        rcases q with ⟨rfl, hp, e⟩ | ⟨rfl, e⟩ | ⟨rfl, e⟩ | ⟨rfl, e⟩ | ⟨x1, x2, x3, x4, e⟩
        · rw [e] at R
          have hp' : (p != 13) = true := by simp [hp]
          clear hp
          clear e
          go_wp2_with (at_builtin; refine wpList_append_own _ rfl _ _ 22 rfl w1.heap.size 21 i0 (.int .i32 0) 1 4 Tryz.underlying22 hi hz0 hz1 hz2 rfl (by decide) _ _ _ rfl (HO.out.1.alloc _) ⟨_, 0, none⟩ 1 1 [.int .i32 10] rfl rfl (news1 _ _ _) (by intro u hu; simp at hu; subst hu; rfl) (by unfold maxLen; omega) (by omega) (by have := HO.out.2.size; simp; omega) ?_; intro v' w2 hown' hgrow _; replace HO := hide (HO.out.grow (ys := [10]) hown' hgrow); clear hown' hgrow)
          go_roundw
          case rel => exact .mk (k + 1) (xs ++ [10]) (by omega) (by go_num) (by rw [PS.out]) (by rw [List.length_append, List.length_singleton]; omega) HO.out R.out
          case measure => simp [intOf]; omega
        · rw [e] at R
          clear e
          go_wp2_with (at_builtin; refine wpList_append_own _ rfl _ _ 22 rfl w1.heap.size 21 i0 (.int .i32 0) 1 4 Tryz.underlying22 hi hz0 hz1 hz2 rfl (by decide) _ _ _ rfl (HO.out.1.alloc _) ⟨_, 0, none⟩ 1 1 [.int .i32 10] rfl rfl (news1 _ _ _) (by intro u hu; simp at hu; subst hu; rfl) (by unfold maxLen; omega) (by omega) (by have := HO.out.2.size; simp; omega) ?_; intro v' w2 hown' hgrow _; replace HO := hide (HO.out.grow (ys := [10]) hown' hgrow); clear hown' hgrow)
          go_roundw
          case rel => exact .mk (k + 1) (xs ++ [10]) (by omega) (by go_num) (by rw [PS.out]) (by rw [List.length_append, List.length_singleton]; omega) HO.out R.out
          case measure => simp [intOf]; omega
        · rw [e] at R
          clear e
          go_wp2_with (at_builtin; refine wpList_append_own _ rfl _ _ 22 rfl w1.heap.size 21 i0 (.int .i32 0) 1 4 Tryz.underlying22 hi hz0 hz1 hz2 rfl (by decide) _ _ _ rfl (HO.out.1.alloc _) ⟨_, 0, none⟩ 1 1 [.int .i32 10] rfl rfl (news1 _ _ _) (by intro u hu; simp at hu; subst hu; rfl) (by unfold maxLen; omega) (by omega) (by have := HO.out.2.size; simp; omega) ?_; intro v' w2 hown' hgrow _; replace HO := hide (HO.out.grow (ys := [10]) hown' hgrow); clear hown' hgrow)
          go_roundw
          case rel => exact .mk (k + 1) (xs ++ [10]) (by omega) (by go_num) (by rw [PS.out]) (by rw [List.length_append, List.length_singleton]; omega) HO.out R.out
          case measure => simp [intOf]; omega
        · rw [e] at R
          clear e
          go_wp2_with (at_builtin; refine wpList_append_own _ rfl _ _ 22 rfl w1.heap.size 21 i0 (.int .i32 0) 1 4 Tryz.underlying22 hi hz0 hz1 hz2 rfl (by decide) _ _ _ rfl (HO.out.1.alloc _) ⟨_, 0, none⟩ 1 1 [.int .i32 65533] rfl rfl (news1 _ _ _) (by intro u hu; simp at hu; subst hu; rfl) (by unfold maxLen; omega) (by omega) (by have := HO.out.2.size; simp; omega) ?_; intro v' w2 hown' hgrow _; replace HO := hide (HO.out.grow (ys := [65533]) hown' hgrow); clear hown' hgrow)
          go_roundw
          case rel => exact .mk (k + 1) (xs ++ [65533]) (by omega) (by go_num) (by rw [PS.out]) (by rw [List.length_append, List.length_singleton]; omega) HO.out R.out
          case measure => simp [intOf]; omega
        · rw [e] at R
          have y1 : (x == 10) = false := by simp [x1]
          have y5 : (x != 10) = true := by simp [x1]
          have y2 : (x == 13) = false := by simp [x2]
          have y3 : (x == 12) = false := by simp [x3]
          have y4 : (x == 0) = false := by simp [x4]
          clear x1 x2 x3 x4
          clear e
          go_wp2_with (at_builtin; refine wpList_append_own _ rfl _ _ 22 rfl w1.heap.size 21 i0 (.int .i32 0) 1 4 Tryz.underlying22 hi hz0 hz1 hz2 rfl (by decide) _ _ _ rfl (HO.out.1.alloc _) ⟨_, 0, none⟩ 1 1 [.int .i32 x] rfl rfl (news1 _ _ _) (by intro u hu; simp at hu; subst hu; rfl) (by unfold maxLen; omega) (by omega) (by have := HO.out.2.size; simp; omega) ?_; intro v' w2 hown' hgrow _; replace HO := hide (HO.out.grow (ys := [x]) hown' hgrow); clear hown' hgrow)
          go_roundw
          case rel => exact .mk (k + 1) (xs ++ [x]) (by omega) (by go_num) (by rw [PS.out]) (by rw [List.length_append, List.length_singleton]; omega) HO.out R.out
          case measure => simp [intOf]; omega
    · have R' := hide (lin_end R.out (by rw [← HN1.out]; omega))
      have N := hide (HO.out.nums (by omega))
      go_wp2
      go_ret
      exact ⟨_, rfl, by rw [D.out, R'.out]; exact N.out, bto B1.out HO.out.2⟩
set_option maxRecDepth 100000 in
set_option maxHeartbeats 4000000 in
theorem decR_no0 (bs ds : List Int) (b o n c : Nat) (w : World) (hn9 : n ≤ 4611686018427387904) (hc9 : c ≤ 9223372036854775807) (hs : 3 ≤ n) (y0 : Int) (c0 : w.cell? ⟨b, o, none⟩ = some (.int .u8 y0)) (g0 : (y0 == 239) = false)
    (BC : By ds) (NC : Hid (Nums .u8 w (.slice (some ⟨b, o, none⟩) n c) ds)) (LR : (raw ds).length ≤ 1099511627776) (LD : ds.length ≤ 1099511627776) (D : Hid (dcd bs = lin 0 (raw ds))) :
    Calls Tryz.prog 21 #[.slice (some ⟨b, o, none⟩) n c] w fun e w' => ∃ u, e = .returned u ∧ Nums .i32 w' u (dcd bs) ∧ Below w.heap.size w w' := by
  obtain ⟨i0, hi, hz0, hz1, hz2⟩ := info_parts info32
  go_enter Tryz.func21, Tryz.ntmps21
  go_wp2_with (go_at_call 49; refine (rawR_any ds _ _ BC NC.out (by omega)).mono ?_; rintro e w1 ⟨u1, rfl, N1, B1⟩; obtain ⟨a1, n1, c1, rfl, hn1, hn19, _, hc1⟩ := N1.form; replace N1 := hide N1; replace B1 := hide B1; have HN1 := hide hn1; have HC1 := hide hc1; have hnb : n1 ≤ 1099511627776 := (by omega); clear hn1 hc1)
  go_loopw [3, 4, 34] (fun l la i wr => RelLi2 w1 n1 (raw ds) l la i wr) (fun _ _ i _ => n1 - (intOf i).toNat)
  case atStart => exact .mk 0 [] (by omega) rfl rfl (by simp) (Own.nil _ _ _) rfl
  case round =>
    obtain ⟨k, xs, hk, rfl, rfl, hxs, HO, R⟩ := hrel
    replace HO := hide HO
    by_cases hlt : k < n1
    · obtain ⟨b1, o1, rfl, hbw1, hcl1, hc91, hcc1⟩ := HC1.out (by omega)
      have cx : wr.cell? ⟨b1, o1 + k, none⟩ = some (.int .i32 (gt (raw ds) k)) := (HO.out.2.cell (p := ⟨b1, o1 + k, none⟩) hbw1).trans (hcc1 k hlt)
      have R1 := hide (lin_in R.out (by rw [← HN1.out]; exact hlt))
      have R2 := hide (lin_out R.out (by rw [← HN1.out]; exact hlt))
      have PS := hide (pv_succ (raw ds) k)
      clear hcc1 R
      generalize gt (raw ds) k = x at *
      generalize pv (raw ds) k = p at *
      rcases tr_cases x p with ⟨rfl, rfl⟩ | ⟨hno, q⟩
      · have R := hide (R2.out ⟨rfl, rfl⟩)
        clear R1 R2
        go_wp2
        go_roundw
        case rel => exact .mk (k + 1) xs (by omega) (by go_num) (by rw [PS.out]) (by omega) HO.out R.out
        case measure => simp [intOf]; omega
      · have R := hide (R1.out hno)
        clear R1 R2 hno
        rcases q with ⟨rfl, hp, e⟩ | ⟨rfl, e⟩ | ⟨rfl, e⟩ | ⟨rfl, e⟩ | ⟨x1, x2, x3, x4, e⟩
        · rw [e] at R
          have hp' : (p != 13) = true := by simp [hp]
          clear hp
          clear e
          go_wp2_with (at_builtin; refine wpList_append_own _ rfl _ _ 22 rfl w1.heap.size 21 i0 (.int .i32 0) 1 4 Tryz.underlying22 hi hz0 hz1 hz2 rfl (by decide) _ _ _ rfl (HO.out.1.alloc _) ⟨_, 0, none⟩ 1 1 [.int .i32 10] rfl rfl (news1 _ _ _) (by intro u hu; simp at hu; subst hu; rfl) (by unfold maxLen; omega) (by omega) (by have := HO.out.2.size; simp; omega) ?_; intro v' w2 hown' hgrow _; replace HO := hide (HO.out.grow (ys := [10]) hown' hgrow); clear hown' hgrow)
          go_roundw
          case rel => exact .mk (k + 1) (xs ++ [10]) (by omega) (by go_num) (by rw [PS.out]) (by rw [List.length_append, List.length_singleton]; omega) HO.out R.out
          case measure => simp [intOf]; omega
        · rw [e] at R
          clear e
          go_wp2_with (at_builtin; refine wpList_append_own _ rfl _ _ 22 rfl w1.heap.size 21 i0 (.int .i32 0) 1 4 Tryz.underlying22 hi hz0 hz1 hz2 rfl (by decide) _ _ _ rfl (HO.out.1.alloc _) ⟨_, 0, none⟩ 1 1 [.int .i32 10] rfl rfl (news1 _ _ _) (by intro u hu; simp at hu; subst hu; rfl) (by unfold maxLen; omega) (by omega) (by have := HO.out.2.size; simp; omega) ?_; intro v' w2 hown' hgrow _; replace HO := hide (HO.out.grow (ys := [10]) hown' hgrow); clear hown' hgrow)
          go_roundw
          case rel => exact .mk (k + 1) (xs ++ [10]) (by omega) (by go_num) (by rw [PS.out]) (by rw [List.length_append, List.length_singleton]; omega) HO.out R.out
          case measure => simp [intOf]; omega
        · rw [e] at R
          clear e
          go_wp2_with (at_builtin; refine wpList_append_own _ rfl _ _ 22 rfl w1.heap.size 21 i0 (.int .i32 0) 1 4 Tryz.underlying22 hi hz0 hz1 hz2 rfl (by decide) _ _ _ rfl (HO.out.1.alloc _) ⟨_, 0, none⟩ 1 1 [.int .i32 10] rfl rfl (news1 _ _ _) (by intro u hu; simp at hu; subst hu; rfl) (by unfold maxLen; omega) (by omega) (by have := HO.out.2.size; simp; omega) ?_; intro v' w2 hown' hgrow _; replace HO := hide (HO.out.grow (ys := [10]) hown' hgrow); clear hown' hgrow)
          go_roundw
          case rel => exact .mk (k + 1) (xs ++ [10]) (by omega) (by go_num) (by rw [PS.out]) (by rw [List.length_append, List.length_singleton]; omega) HO.out R.out
          case measure => simp [intOf]; omega
        · rw [e] at R
          clear e
          go_wp2_with (at_builtin; refine wpList_append_own _ rfl _ _ 22 rfl w1.heap.size 21 i0 (.int .i32 0) 1 4 Tryz.underlying22 hi hz0 hz1 hz2 rfl (by decide) _ _ _ rfl (HO.out.1.alloc _) ⟨_, 0, none⟩ 1 1 [.int .i32 65533] rfl rfl (news1 _ _ _) (by intro u hu; simp at hu; subst hu; rfl) (by unfold maxLen; omega) (by omega) (by have := HO.out.2.size; simp; omega) ?_; intro v' w2 hown' hgrow _; replace HO := hide (HO.out.grow (ys := [65533]) hown' hgrow); clear hown' hgrow)
          go_roundw
          case rel => exact .mk (k + 1) (xs ++ [65533]) (by omega) (by go_num) (by rw [PS.out]) (by rw [List.length_append, List.length_singleton]; omega) HO.out R.out
          case measure => simp [intOf]; omega
        · rw [e] at R
          have y1 : (x == 10) = false := by simp [x1]
          have y5 : (x != 10) = true := by simp [x1]
          have y2 : (x == 13) = false := by simp [x2]
          have y3 : (x == 12) = false := by simp [x3]
          have y4 : (x == 0) = false := by simp [x4]
          clear x1 x2 x3 x4
          clear e
          go_wp2_with (at_builtin; refine wpList_append_own _ rfl _ _ 22 rfl w1.heap.size 21 i0 (.int .i32 0) 1 4 Tryz.underlying22 hi hz0 hz1 hz2 rfl (by decide) _ _ _ rfl (HO.out.1.alloc _) ⟨_, 0, none⟩ 1 1 [.int .i32 x] rfl rfl (news1 _ _ _) (by intro u hu; simp at hu; subst hu; rfl) (by unfold maxLen; omega) (by omega) (by have := HO.out.2.size; simp; omega) ?_; intro v' w2 hown' hgrow _; replace HO := hide (HO.out.grow (ys := [x]) hown' hgrow); clear hown' hgrow)
          go_roundw
          case rel => exact .mk (k + 1) (xs ++ [x]) (by omega) (by go_num) (by rw [PS.out]) (by rw [List.length_append, List.length_singleton]; omega) HO.out R.out
          case measure => simp [intOf]; omega
    · have R' := hide (lin_end R.out (by rw [← HN1.out]; omega))
      have N := hide (HO.out.nums (by omega))
      go_wp2
      go_ret
      exact ⟨_, rfl, by rw [D.out, R'.out]; exact N.out, bto B1.out HO.out.2⟩
set_option maxRecDepth 100000 in
set_option maxHeartbeats 4000000 in
theorem decR_no1 (bs ds : List Int) (b o n c : Nat) (w : World) (hn9 : n ≤ 4611686018427387904) (hc9 : c ≤ 9223372036854775807) (hs : 3 ≤ n) (y1 : Int) (c0 : w.cell? ⟨b, o, none⟩ = some (.int .u8 239)) (c1 : w.cell? ⟨b, o + 1, none⟩ = some (.int .u8 y1)) (g1 : (y1 == 187) = false)
    (BC : By ds) (NC : Hid (Nums .u8 w (.slice (some ⟨b, o, none⟩) n c) ds)) (LR : (raw ds).length ≤ 1099511627776) (LD : ds.length ≤ 1099511627776) (D : Hid (dcd bs = lin 0 (raw ds))) :
    Calls Tryz.prog 21 #[.slice (some ⟨b, o, none⟩) n c] w fun e w' => ∃ u, e = .returned u ∧ Nums .i32 w' u (dcd bs) ∧ Below w.heap.size w w' := by
  obtain ⟨i0, hi, hz0, hz1, hz2⟩ := info_parts info32
  go_enter Tryz.func21, Tryz.ntmps21
  go_wp2_with (go_at_call 49; refine (rawR_any ds _ _ BC NC.out (by omega)).mono ?_; rintro e w1 ⟨u1, rfl, N1, B1⟩; obtain ⟨a1, n1, c1, rfl, hn1, hn19, _, hc1⟩ := N1.form; replace N1 := hide N1; replace B1 := hide B1; have HN1 := hide hn1; have HC1 := hide hc1; have hnb : n1 ≤ 1099511627776 := (by omega); clear hn1 hc1)
  go_loopw [3, 4, 34] (fun l la i wr => RelLi2 w1 n1 (raw ds) l la i wr) (fun _ _ i _ => n1 - (intOf i).toNat)
  case atStart => exact .mk 0 [] (by omega) rfl rfl (by simp) (Own.nil _ _ _) rfl
  case round =>
    obtain ⟨k, xs, hk, rfl, rfl, hxs, HO, R⟩ := hrel
    replace HO := hide HO
    by_cases hlt : k < n1
    · obtain ⟨b1, o1, rfl, hbw1, hcl1, hc91, hcc1⟩ := HC1.out (by omega)
      have cx : wr.cell? ⟨b1, o1 + k, none⟩ = some (.int .i32 (gt (raw ds) k)) := (HO.out.2.cell (p := ⟨b1, o1 + k, none⟩) hbw1).trans (hcc1 k hlt)
      have R1 := hide (lin_in R.out (by rw [← HN1.out]; exact hlt))
      have R2 := hide (lin_out R.out (by rw [← HN1.out]; exact hlt))
      have PS := hide (pv_succ (raw ds) k)
      clear hcc1 R
      generalize gt (raw ds) k = x at *
      generalize pv (raw ds) k = p at *
      rcases tr_cases x p with ⟨rfl, rfl⟩ | ⟨hno, q⟩
      · have R := hide (R2.out ⟨rfl, rfl⟩)
        clear R1 R2
        go_wp2
        go_roundw
        case rel => exact .mk (k + 1) xs (by omega) (by go_num) (by rw [PS.out]) (by omega) HO.out R.out
        case measure => simp [intOf]; omega
      · have R := hide (R1.out hno)
        clear R1 R2 hno
        rcases q with ⟨rfl, hp, e⟩ | ⟨rfl, e⟩ | ⟨rfl, e⟩ | ⟨rfl, e⟩ | ⟨x1, x2, x3, x4, e⟩
        · rw [e] at R
          have hp' : (p != 13) = true := by simp [hp]
          clear hp
          clear e
          go_wp2_with (at_builtin; refine wpList_append_own _ rfl _ _ 22 rfl w1.heap.size 21 i0 (.int .i32 0) 1 4 Tryz.underlying22 hi hz0 hz1 hz2 rfl (by decide) _ _ _ rfl (HO.out.1.alloc _) ⟨_, 0, none⟩ 1 1 [.int .i32 10] rfl rfl (news1 _ _ _) (by intro u hu; simp at hu; subst hu; rfl) (by unfold maxLen; omega) (by omega) (by have := HO.out.2.size; simp; omega) ?_; intro v' w2 hown' hgrow _; replace HO := hide (HO.out.grow (ys := [10]) hown' hgrow); clear hown' hgrow)
          go_roundw
          case rel => exact .mk (k + 1) (xs ++ [10]) (by omega) (by go_num) (by rw [PS.out]) (by rw [List.length_append, List.length_singleton]; omega) HO.out R.out
          case measure => simp [intOf]; omega
        · rw [e] at R
          clear e
          go_wp2_with (at_builtin; refine wpList_append_own _ rfl _ _ 22 rfl w1.heap.size 21 i0 (.int .i32 0) 1 4 Tryz.underlying22 hi hz0 hz1 hz2 rfl (by decide) _ _ _ rfl (HO.out.1.alloc _) ⟨_, 0, none⟩ 1 1 [.int .i32 10] rfl rfl (news1 _ _ _) (by intro u hu; simp at hu; subst hu; rfl) (by unfold maxLen; omega) (by omega) (by have := HO.out.2.size; simp; omega) ?_; intro v' w2 hown' hgrow _; replace HO := hide (HO.out.grow (ys := [10]) hown' hgrow); clear hown' hgrow)
          go_roundw
          case rel => exact .mk (k + 1) (xs ++ [10]) (by omega) (by go_num) (by rw [PS.out]) (by rw [List.length_append, List.length_singleton]; omega) HO.out R.out
          case measure => simp [intOf]; omega
        · rw [e] at R
          clear e
          go_wp2_with (at_builtin; refine wpList_append_own _ rfl _ _ 22 rfl w1.heap.size 21 i0 (.int .i32 0) 1 4 Tryz.underlying22 hi hz0 hz1 hz2 rfl (by decide) _ _ _ rfl (HO.out.1.alloc _) ⟨_, 0, none⟩ 1 1 [.int .i32 10] rfl rfl (news1 _ _ _) (by intro u hu; simp at hu; subst hu; rfl) (by unfold maxLen; omega) (by omega) (by have := HO.out.2.size; simp; omega) ?_; intro v' w2 hown' hgrow _; replace HO := hide (HO.out.grow (ys := [10]) hown' hgrow); clear hown' hgrow)
          go_roundw
          case rel => exact .mk (k + 1) (xs ++ [10]) (by omega) (by go_num) (by rw [PS.out]) (by rw [List.length_append, List.length_singleton]; omega) HO.out R.out
          case measure => simp [intOf]; omega
        · rw [e] at R
          clear e
          go_wp2_with (at_builtin; refine wpList_append_own _ rfl _ _ 22 rfl w1.heap.size 21 i0 (.int .i32 0) 1 4 Tryz.underlying22 hi hz0 hz1 hz2 rfl (by decide) _ _ _ rfl (HO.out.1.alloc _) ⟨_, 0, none⟩ 1 1 [.int .i32 65533] rfl rfl (news1 _ _ _) (by intro u hu; simp at hu; subst hu; rfl) (by unfold maxLen; omega) (by omega) (by have := HO.out.2.size; simp; omega) ?_; intro v' w2 hown' hgrow _; replace HO := hide (HO.out.grow (ys := [65533]) hown' hgrow); clear hown' hgrow)
          go_roundw
          case rel => exact .mk (k + 1) (xs ++ [65533]) (by omega) (by go_num) (by rw [PS.out]) (by rw [List.length_append, List.length_singleton]; omega) HO.out R.out
          case measure => simp [intOf]; omega
        · rw [e] at R
          have y1 : (x == 10) = false := by simp [x1]
          have y5 : (x != 10) = true := by simp [x1]
          have y2 : (x == 13) = false := by simp [x2]
          have y3 : (x == 12) = false := by simp [x3]
          have y4 : (x == 0) = false := by simp [x4]
          clear x1 x2 x3 x4
          clear e
          go_wp2_with (at_builtin; refine wpList_append_own _ rfl _ _ 22 rfl w1.heap.size 21 i0 (.int .i32 0) 1 4 Tryz.underlying22 hi hz0 hz1 hz2 rfl (by decide) _ _ _ rfl (HO.out.1.alloc _) ⟨_, 0, none⟩ 1 1 [.int .i32 x] rfl rfl (news1 _ _ _) (by intro u hu; simp at hu; subst hu; rfl) (by unfold maxLen; omega) (by omega) (by have := HO.out.2.size; simp; omega) ?_; intro v' w2 hown' hgrow _; replace HO := hide (HO.out.grow (ys := [x]) hown' hgrow); clear hown' hgrow)
          go_roundw
          case rel => exact .mk (k + 1) (xs ++ [x]) (by omega) (by go_num) (by rw [PS.out]) (by rw [List.length_append, List.length_singleton]; omega) HO.out R.out
          case measure => simp [intOf]; omega
    · have R' := hide (lin_end R.out (by rw [← HN1.out]; omega))
      have N := hide (HO.out.nums (by omega))
      go_wp2
      go_ret
      exact ⟨_, rfl, by rw [D.out, R'.out]; exact N.out, bto B1.out HO.out.2⟩
set_option maxRecDepth 100000 in
set_option maxHeartbeats 4000000 in
theorem decR_no2 (bs ds : List Int) (b o n c : Nat) (w : World) (hn9 : n ≤ 4611686018427387904) (hc9 : c ≤ 9223372036854775807) (hs : 3 ≤ n) (y2 : Int) (c0 : w.cell? ⟨b, o, none⟩ = some (.int .u8 239)) (c1 : w.cell? ⟨b, o + 1, none⟩ = some (.int .u8 187)) (c2 : w.cell? ⟨b, o + 2, none⟩ = some (.int .u8 y2)) (g2 : (y2 == 191) = false)
    (BC : By ds) (NC : Hid (Nums .u8 w (.slice (some ⟨b, o, none⟩) n c) ds)) (LR : (raw ds).length ≤ 1099511627776) (LD : ds.length ≤ 1099511627776) (D : Hid (dcd bs = lin 0 (raw ds))) :
    Calls Tryz.prog 21 #[.slice (some ⟨b, o, none⟩) n c] w fun e w' => ∃ u, e = .returned u ∧ Nums .i32 w' u (dcd bs) ∧ Below w.heap.size w w' := by
  obtain ⟨i0, hi, hz0, hz1, hz2⟩ := info_parts info32
  go_enter Tryz.func21, Tryz.ntmps21
  go_wp2_with (go_at_call 49; refine (rawR_any ds _ _ BC NC.out (by omega)).mono ?_; rintro e w1 ⟨u1, rfl, N1, B1⟩; obtain ⟨a1, n1, c1, rfl, hn1, hn19, _, hc1⟩ := N1.form; replace N1 := hide N1; replace B1 := hide B1; have HN1 := hide hn1; have HC1 := hide hc1; have hnb : n1 ≤ 1099511627776 := (by omega); clear hn1 hc1)
  go_loopw [3, 4, 34] (fun l la i wr => RelLi2 w1 n1 (raw ds) l la i wr) (fun _ _ i _ => n1 - (intOf i).toNat)
  case atStart => exact .mk 0 [] (by omega) rfl rfl (by simp) (Own.nil _ _ _) rfl
  case round =>
    obtain ⟨k, xs, hk, rfl, rfl, hxs, HO, R⟩ := hrel
    replace HO := hide HO
    by_cases hlt : k < n1
    · obtain ⟨b1, o1, rfl, hbw1, hcl1, hc91, hcc1⟩ := HC1.out (by omega)
      have cx : wr.cell? ⟨b1, o1 + k, none⟩ = some (.int .i32 (gt (raw ds) k)) := (HO.out.2.cell (p := ⟨b1, o1 + k, none⟩) hbw1).trans (hcc1 k hlt)
      have R1 := hide (lin_in R.out (by rw [← HN1.out]; exact hlt))
      have R2 := hide (lin_out R.out (by rw [← HN1.out]; exact hlt))
      have PS := hide (pv_succ (raw ds) k)
      clear hcc1 R
      generalize gt (raw ds) k = x at *
      generalize pv (raw ds) k = p at *
      rcases tr_cases x p with ⟨rfl, rfl⟩ | ⟨hno, q⟩
      · have R := hide (R2.out ⟨rfl, rfl⟩)
        clear R1 R2
        go_wp2
        go_roundw
        case rel => exact .mk (k + 1) xs (by omega) (by go_num) (by rw [PS.out]) (by omega) HO.out R.out
        case measure => simp [intOf]; omega
      · have R := hide (R1.out hno)
        clear R1 R2 hno
        rcases q with ⟨rfl, hp, e⟩ | ⟨rfl, e⟩ | ⟨rfl, e⟩ | ⟨rfl, e⟩ | ⟨x1, x2, x3, x4, e⟩
        · rw [e] at R
          have hp' : (p != 13) = true := by simp [hp]
          clear hp
          clear e
          go_wp2_with (at_builtin; refine wpList_append_own _ rfl _ _ 22 rfl w1.heap.size 21 i0 (.int .i32 0) 1 4 Tryz.underlying22 hi hz0 hz1 hz2 rfl (by decide) _ _ _ rfl (HO.out.1.alloc _) ⟨_, 0, none⟩ 1 1 [.int .i32 10] rfl rfl (news1 _ _ _) (by intro u hu; simp at hu; subst hu; rfl) (by unfold maxLen; omega) (by omega) (by have := HO.out.2.size; simp; omega) ?_; intro v' w2 hown' hgrow _; replace HO := hide (HO.out.grow (ys := [10]) hown' hgrow); clear hown' hgrow)
          go_roundw
          case rel => exact .mk (k + 1) (xs ++ [10]) (by omega) (by go_num) (by rw [PS.out]) (by rw [List.length_append, List.length_singleton]; omega) HO.out R.out
          case measure => simp [intOf]; omega
        · rw [e] at R
          clear e
          go_wp2_with (at_builtin; refine wpList_append_own _ rfl _ _ 22 rfl w1.heap.size 21 i0 (.int .i32 0) 1 4 Tryz.underlying22 hi hz0 hz1 hz2 rfl (by decide) _ _ _ rfl (HO.out.1.alloc _) ⟨_, 0, none⟩ 1 1 [.int .i32 10] rfl rfl (news1 _ _ _) (by intro u hu; simp at hu; subst hu; rfl) (by unfold maxLen; omega) (by omega) (by have := HO.out.2.size; simp; omega) ?_; intro v' w2 hown' hgrow _; replace HO := hide (HO.out.grow (ys := [10]) hown' hgrow); clear hown' hgrow)
          go_roundw
          case rel => exact .mk (k + 1) (xs ++ [10]) (by omega) (by go_num) (by rw [PS.out]) (by rw [List.length_append, List.length_singleton]; omega) HO.out R.out
          case measure => simp [intOf]; omega
        · rw [e] at R
          clear e
          go_wp2_with (at_builtin; refine wpList_append_own _ rfl _ _ 22 rfl w1.heap.size 21 i0 (.int .i32 0) 1 4 Tryz.underlying22 hi hz0 hz1 hz2 rfl (by decide) _ _ _ rfl (HO.out.1.alloc _) ⟨_, 0, none⟩ 1 1 [.int .i32 10] rfl rfl (news1 _ _ _) (by intro u hu; simp at hu; subst hu; rfl) (by unfold maxLen; omega) (by omega) (by have := HO.out.2.size; simp; omega) ?_; intro v' w2 hown' hgrow _; replace HO := hide (HO.out.grow (ys := [10]) hown' hgrow); clear hown' hgrow)
          go_roundw
          case rel => exact .mk (k + 1) (xs ++ [10]) (by omega) (by go_num) (by rw [PS.out]) (by rw [List.length_append, List.length_singleton]; omega) HO.out R.out
          case measure => simp [intOf]; omega
        · rw [e] at R
          clear e
          go_wp2_with (at_builtin; refine wpList_append_own _ rfl _ _ 22 rfl w1.heap.size 21 i0 (.int .i32 0) 1 4 Tryz.underlying22 hi hz0 hz1 hz2 rfl (by decide) _ _ _ rfl (HO.out.1.alloc _) ⟨_, 0, none⟩ 1 1 [.int .i32 65533] rfl rfl (news1 _ _ _) (by intro u hu; simp at hu; subst hu; rfl) (by unfold maxLen; omega) (by omega) (by have := HO.out.2.size; simp; omega) ?_; intro v' w2 hown' hgrow _; replace HO := hide (HO.out.grow (ys := [65533]) hown' hgrow); clear hown' hgrow)
          go_roundw
          case rel => exact .mk (k + 1) (xs ++ [65533]) (by omega) (by go_num) (by rw [PS.out]) (by rw [List.length_append, List.length_singleton]; omega) HO.out R.out
          case measure => simp [intOf]; omega
        · rw [e] at R
          have y1 : (x == 10) = false := by simp [x1]
          have y5 : (x != 10) = true := by simp [x1]
          have y2 : (x == 13) = false := by simp [x2]
          have y3 : (x == 12) = false := by simp [x3]
          have y4 : (x == 0) = false := by simp [x4]
          clear x1 x2 x3 x4
          clear e
          go_wp2_with (at_builtin; refine wpList_append_own _ rfl _ _ 22 rfl w1.heap.size 21 i0 (.int .i32 0) 1 4 Tryz.underlying22 hi hz0 hz1 hz2 rfl (by decide) _ _ _ rfl (HO.out.1.alloc _) ⟨_, 0, none⟩ 1 1 [.int .i32 x] rfl rfl (news1 _ _ _) (by intro u hu; simp at hu; subst hu; rfl) (by unfold maxLen; omega) (by omega) (by have := HO.out.2.size; simp; omega) ?_; intro v' w2 hown' hgrow _; replace HO := hide (HO.out.grow (ys := [x]) hown' hgrow); clear hown' hgrow)
          go_roundw
          case rel => exact .mk (k + 1) (xs ++ [x]) (by omega) (by go_num) (by rw [PS.out]) (by rw [List.length_append, List.length_singleton]; omega) HO.out R.out
          case measure => simp [intOf]; omega
    · have R' := hide (lin_end R.out (by rw [← HN1.out]; omega))
      have N := hide (HO.out.nums (by omega))
      go_wp2
      go_ret
      exact ⟨_, rfl, by rw [D.out, R'.out]; exact N.out, bto B1.out HO.out.2⟩
set_option maxRecDepth 100000 in
set_option maxHeartbeats 4000000 in
theorem decR_yes3 (bs ds : List Int) (b o : Nat) (w : World) (hn9 : True) (hc9 : True) (c0 : w.cell? ⟨b, o, none⟩ = some (.int .u8 239)) (c1 : w.cell? ⟨b, o + 1, none⟩ = some (.int .u8 187)) (c2 : w.cell? ⟨b, o + 2, none⟩ = some (.int .u8 191))
    (BC : By ds) (NC : Hid (Nums .u8 w (.slice (some ⟨b, o, none⟩) 0 0) ds)) (LR : (raw ds).length ≤ 1099511627776) (LD : ds.length ≤ 1099511627776) (D : Hid (dcd bs = lin 0 (raw ds))) :
    Calls Tryz.prog 21 #[.slice (some ⟨b, o, none⟩) 3 3] w fun e w' => ∃ u, e = .returned u ∧ Nums .i32 w' u (dcd bs) ∧ Below w.heap.size w w' := by
  obtain ⟨i0, hi, hz0, hz1, hz2⟩ := info_parts info32
  go_enter Tryz.func21, Tryz.ntmps21
  go_wp2_with (go_at_call 49; refine (rawR_any ds _ _ BC NC.out (by omega)).mono ?_; rintro e w1 ⟨u1, rfl, N1, B1⟩; obtain ⟨a1, n1, c1, rfl, hn1, hn19, _, hc1⟩ := N1.form; replace N1 := hide N1; replace B1 := hide B1; have HN1 := hide hn1; have HC1 := hide hc1; have hnb : n1 ≤ 1099511627776 := (by omega); clear hn1 hc1)
  go_loopw [3, 4, 34] (fun l la i wr => RelLi2 w1 n1 (raw ds) l la i wr) (fun _ _ i _ => n1 - (intOf i).toNat)
  case atStart => exact .mk 0 [] (by omega) rfl rfl (by simp) (Own.nil _ _ _) rfl
  case round =>
    obtain ⟨k, xs, hk, rfl, rfl, hxs, HO, R⟩ := hrel
    replace HO := hide HO
    by_cases hlt : k < n1
    · obtain ⟨b1, o1, rfl, hbw1, hcl1, hc91, hcc1⟩ := HC1.out (by omega)
      have cx : wr.cell? ⟨b1, o1 + k, none⟩ = some (.int .i32 (gt (raw ds) k)) := (HO.out.2.cell (p := ⟨b1, o1 + k, none⟩) hbw1).trans (hcc1 k hlt)
      have R1 := hide (lin_in R.out (by rw [← HN1.out]; exact hlt))
      have R2 := hide (lin_out R.out (by rw [← HN1.out]; exact hlt))
      have PS := hide (pv_succ (raw ds) k)
      clear hcc1 R
      generalize gt (raw ds) k = x at *
      generalize pv (raw ds) k = p at *
      rcases tr_cases x p with ⟨rfl, rfl⟩ | ⟨hno, q⟩
      · have R := hide (R2.out ⟨rfl, rfl⟩)
        clear R1 R2
        go_wp2
        go_roundw
        case rel => exact .mk (k + 1) xs (by omega) (by go_num) (by rw [PS.out]) (by omega) HO.out R.out
        case measure => simp [intOf]; omega
      · have R := hide (R1.out hno)
        clear R1 R2 hno
        rcases q with ⟨rfl, hp, e⟩ | ⟨rfl, e⟩ | ⟨rfl, e⟩ | ⟨rfl, e⟩ | ⟨x1, x2, x3, x4, e⟩
        · rw [e] at R
          have hp' : (p != 13) = true := by simp [hp]
          clear hp
          clear e
          go_wp2_with (at_builtin; refine wpList_append_own _ rfl _ _ 22 rfl w1.heap.size 21 i0 (.int .i32 0) 1 4 Tryz.underlying22 hi hz0 hz1 hz2 rfl (by decide) _ _ _ rfl (HO.out.1.alloc _) ⟨_, 0, none⟩ 1 1 [.int .i32 10] rfl rfl (news1 _ _ _) (by intro u hu; simp at hu; subst hu; rfl) (by unfold maxLen; omega) (by omega) (by have := HO.out.2.size; simp; omega) ?_; intro v' w2 hown' hgrow _; replace HO := hide (HO.out.grow (ys := [10]) hown' hgrow); clear hown' hgrow)
          go_roundw
          case rel => exact .mk (k + 1) (xs ++ [10]) (by omega) (by go_num) (by rw [PS.out]) (by rw [List.length_append, List.length_singleton]; omega) HO.out R.out
          case measure => simp [intOf]; omega
        · rw [e] at R
          clear e
          go_wp2_with (at_builtin; refine wpList_append_own _ rfl _ _ 22 rfl w1.heap.size 21 i0 (.int .i32 0) 1 4 Tryz.underlying22 hi hz0 hz1 hz2 rfl (by decide) _ _ _ rfl (HO.out.1.alloc _) ⟨_, 0, none⟩ 1 1 [.int .i32 10] rfl rfl (news1 _ _ _) (by intro u hu; simp at hu; subst hu; rfl) (by unfold maxLen; omega) (by omega) (by have := HO.out.2.size; simp; omega) ?_; intro v' w2 hown' hgrow _; replace HO := hide (HO.out.grow (ys := [10]) hown' hgrow); clear hown' hgrow)
          go_roundw
          case rel => exact .mk (k + 1) (xs ++ [10]) (by omega) (by go_num) (by rw [PS.out]) (by rw [List.length_append, List.length_singleton]; omega) HO.out R.out
          case measure => simp [intOf]; omega
        · rw [e] at R
          clear e
          go_wp2_with (at_builtin; refine wpList_append_own _ rfl _ _ 22 rfl w1.heap.size 21 i0 (.int .i32 0) 1 4 Tryz.underlying22 hi hz0 hz1 hz2 rfl (by decide) _ _ _ rfl (HO.out.1.alloc _) ⟨_, 0, none⟩ 1 1 [.int .i32 10] rfl rfl (news1 _ _ _) (by intro u hu; simp at hu; subst hu; rfl) (by unfold maxLen; omega) (by omega) (by have := HO.out.2.size; simp; omega) ?_; intro v' w2 hown' hgrow _; replace HO := hide (HO.out.grow (ys := [10]) hown' hgrow); clear hown' hgrow)
          go_roundw
          case rel => exact .mk (k + 1) (xs ++ [10]) (by omega) (by go_num) (by rw [PS.out]) (by rw [List.length_append, List.length_singleton]; omega) HO.out R.out
          case measure => simp [intOf]; omega
        · rw [e] at R
          clear e
          go_wp2_with (at_builtin; refine wpList_append_own _ rfl _ _ 22 rfl w1.heap.size 21 i0 (.int .i32 0) 1 4 Tryz.underlying22 hi hz0 hz1 hz2 rfl (by decide) _ _ _ rfl (HO.out.1.alloc _) ⟨_, 0, none⟩ 1 1 [.int .i32 65533] rfl rfl (news1 _ _ _) (by intro u hu; simp at hu; subst hu; rfl) (by unfold maxLen; omega) (by omega) (by have := HO.out.2.size; simp; omega) ?_; intro v' w2 hown' hgrow _; replace HO := hide (HO.out.grow (ys := [65533]) hown' hgrow); clear hown' hgrow)
          go_roundw
          case rel => exact .mk (k + 1) (xs ++ [65533]) (by omega) (by go_num) (by rw [PS.out]) (by rw [List.length_append, List.length_singleton]; omega) HO.out R.out
          case measure => simp [intOf]; omega
        · rw [e] at R
          have y1 : (x == 10) = false := by simp [x1]
          have y5 : (x != 10) = true := by simp [x1]
          have y2 : (x == 13) = false := by simp [x2]
          have y3 : (x == 12) = false := by simp [x3]
          have y4 : (x == 0) = false := by simp [x4]
          clear x1 x2 x3 x4
          clear e
          go_wp2_with (at_builtin; refine wpList_append_own _ rfl _ _ 22 rfl w1.heap.size 21 i0 (.int .i32 0) 1 4 Tryz.underlying22 hi hz0 hz1 hz2 rfl (by decide) _ _ _ rfl (HO.out.1.alloc _) ⟨_, 0, none⟩ 1 1 [.int .i32 x] rfl rfl (news1 _ _ _) (by intro u hu; simp at hu; subst hu; rfl) (by unfold maxLen; omega) (by omega) (by have := HO.out.2.size; simp; omega) ?_; intro v' w2 hown' hgrow _; replace HO := hide (HO.out.grow (ys := [x]) hown' hgrow); clear hown' hgrow)
          go_roundw
          case rel => exact .mk (k + 1) (xs ++ [x]) (by omega) (by go_num) (by rw [PS.out]) (by rw [List.length_append, List.length_singleton]; omega) HO.out R.out
          case measure => simp [intOf]; omega
    · have R' := hide (lin_end R.out (by rw [← HN1.out]; omega))
      have N := hide (HO.out.nums (by omega))
      go_wp2
      go_ret
      exact ⟨_, rfl, by rw [D.out, R'.out]; exact N.out, bto B1.out HO.out.2⟩
set_option maxRecDepth 100000 in
set_option maxHeartbeats 4000000 in
theorem decR_yes (bs ds : List Int) (b o n c : Nat) (w : World) (hn9 : n ≤ 4611686018427387904) (hc9 : c ≤ 9223372036854775807) (hs : 3 ≤ n) (hnc : n ≤ c) (hc3 : ¬ c = 3) (c0 : w.cell? ⟨b, o, none⟩ = some (.int .u8 239)) (c1 : w.cell? ⟨b, o + 1, none⟩ = some (.int .u8 187)) (c2 : w.cell? ⟨b, o + 2, none⟩ = some (.int .u8 191))
    (BC : By ds) (NC : Hid (Nums .u8 w (.slice (some ⟨b, o + 3, none⟩) (n - 3) (c - 3)) ds)) (LR : (raw ds).length ≤ 1099511627776) (LD : ds.length ≤ 1099511627776) (D : Hid (dcd bs = lin 0 (raw ds))) :
    Calls Tryz.prog 21 #[.slice (some ⟨b, o, none⟩) n c] w fun e w' => ∃ u, e = .returned u ∧ Nums .i32 w' u (dcd bs) ∧ Below w.heap.size w w' := by
  obtain ⟨i0, hi, hz0, hz1, hz2⟩ := info_parts info32
  go_enter Tryz.func21, Tryz.ntmps21
  go_wp2_with (go_at_call 49; refine (rawR_any ds _ _ BC NC.out (by omega)).mono ?_; rintro e w1 ⟨u1, rfl, N1, B1⟩; obtain ⟨a1, n1, c1, rfl, hn1, hn19, _, hc1⟩ := N1.form; replace N1 := hide N1; replace B1 := hide B1; have HN1 := hide hn1; have HC1 := hide hc1; have hnb : n1 ≤ 1099511627776 := (by omega); clear hn1 hc1)
  go_loopw [3, 4, 34] (fun l la i wr => RelLi2 w1 n1 (raw ds) l la i wr) (fun _ _ i _ => n1 - (intOf i).toNat)
  case atStart => exact .mk 0 [] (by omega) rfl rfl (by simp) (Own.nil _ _ _) rfl
  case round =>
    obtain ⟨k, xs, hk, rfl, rfl, hxs, HO, R⟩ := hrel
    replace HO := hide HO
    by_cases hlt : k < n1
    · obtain ⟨b1, o1, rfl, hbw1, hcl1, hc91, hcc1⟩ := HC1.out (by omega)
      have cx : wr.cell? ⟨b1, o1 + k, none⟩ = some (.int .i32 (gt (raw ds) k)) := (HO.out.2.cell (p := ⟨b1, o1 + k, none⟩) hbw1).trans (hcc1 k hlt)
      have R1 := hide (lin_in R.out (by rw [← HN1.out]; exact hlt))
      have R2 := hide (lin_out R.out (by rw [← HN1.out]; exact hlt))
      have PS := hide (pv_succ (raw ds) k)
      clear hcc1 R
      generalize gt (raw ds) k = x at *
      generalize pv (raw ds) k = p at *
      rcases tr_cases x p with ⟨rfl, rfl⟩ | ⟨hno, q⟩
      · have R := hide (R2.out ⟨rfl, rfl⟩)
        clear R1 R2
        go_wp2
        go_roundw
        case rel => exact .mk (k + 1) xs (by omega) (by go_num) (by rw [PS.out]) (by omega) HO.out R.out
        case measure => simp [intOf]; omega
      · have R := hide (R1.out hno)
        clear R1 R2 hno
        rcases q with ⟨rfl, hp, e⟩ | ⟨rfl, e⟩ | ⟨rfl, e⟩ | ⟨rfl, e⟩ | ⟨x1, x2, x3, x4, e⟩
        · rw [e] at R
          have hp' : (p != 13) = true := by simp [hp]
          clear hp
          clear e
          go_wp2_with (at_builtin; refine wpList_append_own _ rfl _ _ 22 rfl w1.heap.size 21 i0 (.int .i32 0) 1 4 Tryz.underlying22 hi hz0 hz1 hz2 rfl (by decide) _ _ _ rfl (HO.out.1.alloc _) ⟨_, 0, none⟩ 1 1 [.int .i32 10] rfl rfl (news1 _ _ _) (by intro u hu; simp at hu; subst hu; rfl) (by unfold maxLen; omega) (by omega) (by have := HO.out.2.size; simp; omega) ?_; intro v' w2 hown' hgrow _; replace HO := hide (HO.out.grow (ys := [10]) hown' hgrow); clear hown' hgrow)
          go_roundw
          case rel => exact .mk (k + 1) (xs ++ [10]) (by omega) (by go_num) (by rw [PS.out]) (by rw [List.length_append, List.length_singleton]; omega) HO.out R.out
          case measure => simp [intOf]; omega
        · rw [e] at R
          clear e
          go_wp2_with (at_builtin; refine wpList_append_own _ rfl _ _ 22 rfl w1.heap.size 21 i0 (.int .i32 0) 1 4 Tryz.underlying22 hi hz0 hz1 hz2 rfl (by decide) _ _ _ rfl (HO.out.1.alloc _) ⟨_, 0, none⟩ 1 1 [.int .i32 10] rfl rfl (news1 _ _ _) (by intro u hu; simp at hu; subst hu; rfl) (by unfold maxLen; omega) (by omega) (by have := HO.out.2.size; simp; omega) ?_; intro v' w2 hown' hgrow _; replace HO := hide (HO.out.grow (ys := [10]) hown' hgrow); clear hown' hgrow)
          go_roundw
          case rel => exact .mk (k + 1) (xs ++ [10]) (by omega) (by go_num) (by rw [PS.out]) (by rw [List.length_append, List.length_singleton]; omega) HO.out R.out
          case measure => simp [intOf]; omega
        · rw [e] at R
          clear e
          go_wp2_with (at_builtin; refine wpList_append_own _ rfl _ _ 22 rfl w1.heap.size 21 i0 (.int .i32 0) 1 4 Tryz.underlying22 hi hz0 hz1 hz2 rfl (by decide) _ _ _ rfl (HO.out.1.alloc _) ⟨_, 0, none⟩ 1 1 [.int .i32 10] rfl rfl (news1 _ _ _) (by intro u hu; simp at hu; subst hu; rfl) (by unfold maxLen; omega) (by omega) (by have := HO.out.2.size; simp; omega) ?_; intro v' w2 hown' hgrow _; replace HO := hide (HO.out.grow (ys := [10]) hown' hgrow); clear hown' hgrow)
          go_roundw
          case rel => exact .mk (k + 1) (xs ++ [10]) (by omega) (by go_num) (by rw [PS.out]) (by rw [List.length_append, List.length_singleton]; omega) HO.out R.out
          case measure => simp [intOf]; omega
        · rw [e] at R
          clear e
          go_wp2_with (at_builtin; refine wpList_append_own _ rfl _ _ 22 rfl w1.heap.size 21 i0 (.int .i32 0) 1 4 Tryz.underlying22 hi hz0 hz1 hz2 rfl (by decide) _ _ _ rfl (HO.out.1.alloc _) ⟨_, 0, none⟩ 1 1 [.int .i32 65533] rfl rfl (news1 _ _ _) (by intro u hu; simp at hu; subst hu; rfl) (by unfold maxLen; omega) (by omega) (by have := HO.out.2.size; simp; omega) ?_; intro v' w2 hown' hgrow _; replace HO := hide (HO.out.grow (ys := [65533]) hown' hgrow); clear hown' hgrow)
          go_roundw
          case rel => exact .mk (k + 1) (xs ++ [65533]) (by omega) (by go_num) (by rw [PS.out]) (by rw [List.length_append, List.length_singleton]; omega) HO.out R.out
          case measure => simp [intOf]; omega
        · rw [e] at R
          have y1 : (x == 10) = false := by simp [x1]
          have y5 : (x != 10) = true := by simp [x1]
          have y2 : (x == 13) = false := by simp [x2]
          have y3 : (x == 12) = false := by simp [x3]
          have y4 : (x == 0) = false := by simp [x4]
          clear x1 x2 x3 x4
          clear e
          go_wp2_with (at_builtin; refine wpList_append_own _ rfl _ _ 22 rfl w1.heap.size 21 i0 (.int .i32 0) 1 4 Tryz.underlying22 hi hz0 hz1 hz2 rfl (by decide) _ _ _ rfl (HO.out.1.alloc _) ⟨_, 0, none⟩ 1 1 [.int .i32 x] rfl rfl (news1 _ _ _) (by intro u hu; simp at hu; subst hu; rfl) (by unfold maxLen; omega) (by omega) (by have := HO.out.2.size; simp; omega) ?_; intro v' w2 hown' hgrow _; replace HO := hide (HO.out.grow (ys := [x]) hown' hgrow); clear hown' hgrow)
          go_roundw
          case rel => exact .mk (k + 1) (xs ++ [x]) (by omega) (by go_num) (by rw [PS.out]) (by rw [List.length_append, List.length_singleton]; omega) HO.out R.out
          case measure => simp [intOf]; omega
    · have R' := hide (lin_end R.out (by rw [← HN1.out]; omega))
      have N := hide (HO.out.nums (by omega))
      go_wp2
      go_ret
      exact ⟨_, rfl, by rw [D.out, R'.out]; exact N.out, bto B1.out HO.out.2⟩
theorem dcdR_any (bs : List Int) (v : Value) (w : World) (hb : By bs) (hv : Nums .u8 w v bs) (hl9 : bs.length ≤ 1099511627776) :
    Calls Tryz.prog 21 #[v] w fun e w' => ∃ u, e = .returned u ∧ Nums .i32 w' u (dcd bs) ∧ Below w.heap.size w w' := by
  obtain ⟨a, n, c, rfl, hn, hn9, _, hc⟩ := hv.form
  have LC := cutm_len bs
  have LR := (raw_le (cut bs)).1
  have BC := hb.cut
  have D : dcd bs = lin 0 (raw (cut bs)) := rfl
  rcases mark_cases bs with ⟨h, e⟩ | ⟨h, h0, e⟩ | ⟨h, h0, h1, e⟩ | ⟨h, h0, h1, h2, e⟩ | ⟨h, h0, h1, h2, e⟩
  · have e1 : cut bs = bs := by unfold cut; rw [e]; rfl
    rw [e1] at LC LR BC D
    exact decR_short bs bs a n c w hn9 trivial (by omega) BC hv (by omega) (by omega) D
  all_goals
    obtain ⟨b, o, rfl, hbw, hl, hc9, hcc⟩ := hc (by omega)
    have c0 : w.cell? ⟨b, o, none⟩ = some (.int .u8 (gt bs 0)) := hcc 0 (by omega)
    have c1 : w.cell? ⟨b, o + 1, none⟩ = some (.int .u8 (gt bs 1)) := hcc 1 (by omega)
    have c2 : w.cell? ⟨b, o + 2, none⟩ = some (.int .u8 (gt bs 2)) := hcc 2 (by omega)
  · have e1 : cut bs = bs := by unfold cut; rw [e]; rfl
    rw [e1] at LC LR BC D
    exact decR_no0 bs bs b o n c w hn9 hc9 (by omega) _ c0 (by simp [h0]) BC hv (by omega) (by omega) D
  · have e1 : cut bs = bs := by unfold cut; rw [e]; rfl
    rw [e1] at LC LR BC D
    rw [h0] at c0
    exact decR_no1 bs bs b o n c w hn9 hc9 (by omega) _ c0 c1 (by simp [h1]) BC hv (by omega) (by omega) D
  · have e1 : cut bs = bs := by unfold cut; rw [e]; rfl
    rw [e1] at LC LR BC D
    rw [h0] at c0
    rw [h1] at c1
    exact decR_no2 bs bs b o n c w hn9 hc9 (by omega) _ c0 c1 c2 (by simp [h2]) BC hv (by omega) (by omega) D
  · have e1 : cut bs = bs.drop 3 := by unfold cut; rw [e]; rfl
    rw [e1] at LC LR BC D
    rw [h0] at c0
    rw [h1] at c1
    rw [h2] at c2
    by_cases hc3 : c = 3
    · obtain ⟨e2, e3⟩ := hv.none3 (by omega) hc3
      subst hc3
      subst e2
      exact decR_yes3 bs (bs.drop 3) b o w trivial trivial c0 c1 c2 BC (.inl ⟨_, _, rfl, e3⟩) (by omega) (by omega) D
    · exact decR_yes bs (bs.drop 3) b o n c w hn9 hc9 (by omega) hl hc3 c0 c1 c2 BC (hv.three (by omega) hc3) (by omega) (by omega) D
theorem dec_three : dcd [97, 13, 10] = [97, 10] := by
  have e1 : cut [97, 13, 10] = [97, 13, 10] := by decide
  have e2 : raw [97, 13, 10] = [97, 13, 10] := by
    rw [raw_cut (by simp)]
    show (97 : Int) :: raw [13, 10] = _
    rw [raw_cut (by simp)]
    show (97 : Int) :: 13 :: raw [10] = _
    rw [raw_cut (by simp)]
    show (97 : Int) :: 13 :: 10 :: raw [] = _
    rw [raw_nil]
  unfold dcd
  rw [e1, e2]
  decide
theorem By.three : By [97, 13, 10] := by intro x hx; simp at hx; omega
end Go.Proofs.YtckefmhleklciaaGreatDoor
