/-
  Tokens of bytes, by the program; tokens that every program must know.
  The same tokens are the same.
  Bytes of characters, by the reference; the law of both.
  The reference's small tests, its texts, its reader.
-/
import Derived.Test.YtlkocepoohhglaaDoorA18
import Derived.Test.YtlkocepoohhglaaDoorA19
import Derived.Lib.SlBytesConst
import Derived.Outline
import Derived.Test.YtlkocepoohhglaaDoorA11
set_option linter.unusedVariables false
set_option linter.unusedSimpArgs false
namespace Go.Proofs.YtlkocepoohhglaaDoor
open Go.RowKit

theorem lin_len : ∀ (a : List Int) (l : Int), (lin l a).length ≤ a.length := by
  intro a
  induction a with
  | nil => intro l; simp [lin]
  | cons x r ih =>
    intro l
    have := ih x
    simp only [lin, List.length_append, List.length_cons]
    split <;> simp <;> omega
theorem dcd_len (bs : List Int) : (dcd bs).length ≤ bs.length := by
  unfold dcd
  have h1 := lin_len (raw (cut bs)) 0
  have h2 := (raw_le (cut bs)).1
  have h3 := cutm_len bs
  omega
theorem nam_a : nam [] [97, 58, 49] = ([97], [58, 49]) := by
  rw [nam_let (by decide)]
  show nam [97] [58, 49] = _
  rw [nam_end (by decide) (by decide)]
theorem word_a : word [97, 58, 49] = (tkt 1 [97], [58, 49]) := by
  unfold word
  rw [nam_a, if_pos (by decide)]
theorem tokn_1 : tokn [49] = (⟨10, [], 1, 1, true, false⟩, []) := by
  have d : dcT (enc (nmT [49])) = ((1, 1), true) := by decide
  show numb [49] = _
  unfold numb
  rw [d]
  rfl
theorem toks_a : toks (chs (dcd [97, 58, 49])) = [tkt 1 [97], tk 16, ⟨10, [], 1, 1, true, false⟩] := by
  have e : chs (dcd [97, 58, 49]) = [97, 58, 49] := by
    rw [dcd_asc (by intro c hc; simp at hc; omega)]
    decide
  rw [e]
  have r1 : rmk [97, 58, 49] = [97, 58, 49] := rmk_end (by decide)
  have t1 : tokn [97, 58, 49] = (tkt 1 [97], [58, 49]) := (show tokn [97, 58, 49] = word [97, 58, 49] from rfl).trans word_a
  have r2 : rmk [58, 49] = [58, 49] := rmk_end (by decide)
  have t2 : tokn [58, 49] = (tk 16, [49]) := rfl
  have r3 : rmk [49] = [49] := rmk_end (by decide)
  have r4 : rmk [] = [] := rmk_end (by decide)
  rw [toks_go (by rw [r1]; decide), r1, t1]
  show _ :: toks [58, 49] = _
  rw [toks_go (by rw [r2]; decide), r2, t2]
  show _ :: _ :: toks [49] = _
  rw [toks_go (by rw [r3]; decide), r3, tokn_1]
  show _ :: _ :: _ :: toks [] = _
  rw [toks_end (by rw [r4]; decide)]
theorem Nums.litq {k : IntKind} (w : World) (t : TypeId) (bs : List Int) (n : Nat) (q : Nat × Nat) (hn : n = bs.length) (h0 : 0 < n) (hl : n ≤ 1000) :
    Nums k (w.alloc (.cells (bs.map (Value.int k)).toArray t q)) (.slice (some ⟨w.heap.size, 0, none⟩) n n) bs :=
  .inr ⟨w.heap.size, 0, n, n, rfl, hn, h0, by simp, Nat.le_refl _, by omega, by omega, fun i hi => by
    rw [cell_of_row _ w.heap.size (0 + i) _ t q (heap_alloc_new w _)]
    simp [gt, List.getD_eq_getElem?_getD, List.getElem?_eq_getElem (show i < bs.length by omega)]⟩
theorem By.a : By [97, 58, 49] := by intro x hx; simp at hx; omega
end Go.Proofs.YtlkocepoohhglaaDoor
set_option linter.unusedVariables false
set_option linter.unusedSimpArgs false
namespace Go.Proofs.YtlkocepoohhglaaDoor
open Go.RowKit

def RelSm (n : Nat) (i : Value) : Prop := ∃ k : Nat, k ≤ n ∧ i = .int .i64 k
theorem RelSm.mk {n : Nat} (k : Nat) {i : Value} (h1 : k ≤ n) (h2 : i = .int .i64 k) : RelSm n i := ⟨k, h1, h2⟩
structure Six (w : World) (b o : Nat) (k : Int) (t : ByteArray) (n d : Int) (wh i : Bool) : Prop where
  c0 : w.cell? ⟨b, o, none⟩ = some (.int .i64 k)
  c1 : w.cell? ⟨b, o + 1, none⟩ = some (.string t)
  c2 : w.cell? ⟨b, o + 2, none⟩ = some (.int .i64 n)
  c3 : w.cell? ⟨b, o + 3, none⟩ = some (.int .i64 d)
  c4 : w.cell? ⟨b, o + 4, none⟩ = some (.bool wh)
  c5 : w.cell? ⟨b, o + 5, none⟩ = some (.bool i)
theorem Six.of {w : World} {b o : Nat} {τ : Tk} (h : ∀ j, j < 6 → w.cell? ⟨b, o + j, none⟩ = (tkC τ)[j]?) : Six w b o τ.kind (tb τ.text) τ.num τ.den τ.whole τ.id :=
  ⟨h 0 (by decide), h 1 (by decide), h 2 (by decide), h 3 (by decide), h 4 (by decide), h 5 (by decide)⟩
end Go.Proofs.YtlkocepoohhglaaDoor
set_option linter.unusedVariables false
set_option linter.unusedSimpArgs false
namespace Go.Proofs.YtlkocepoohhglaaDoor
open Go.RowKit

set_option maxRecDepth 100000 in
set_option maxHeartbeats 4000000 in
theorem encR_any (ls : List Int) (v : Value) (w : World) (hv : Nums .i32 w v ls) (hl9 : ls.length ≤ 35184372088832) :
    Calls Tryd.prog 80 #[v] w fun e w' => ∃ u, e = .returned u ∧ Nums .u8 w' u (enc ls) ∧ Below w.heap.size w w' := by
  obtain ⟨i0, hi, hz0, hz1, hz2⟩ := info_parts info8
  rcases hv with ⟨a, c, rfl, rfl⟩ | ⟨b, o, n, c, rfl, hn, h0, hbw, hl, hn9, hc9, hc⟩
  · go_enter Tryd.func80, Tryd.ntmps80
    go_wp2
    refine wp_loop_rounds 1 ?_
    rw [rounds_succ]
    go_wp2
    go_ret
    exact ⟨_, rfl, .inl ⟨_, _, rfl, rfl⟩, Below.refl _ _⟩
  · have HN : Hid (n = ls.length) := hn
    have HC := hide hc
    have hnb : n ≤ 35184372088832 := by omega
    clear hc hn hl9
    go_enter Tryd.func80, Tryd.ntmps80
    go_wp2
    go_loopw [3, 8] (fun b i wr => RelEnc w n ls b i wr) (fun _ i _ => n - (intOf i).toNat)
    case atStart => exact .mk 0 (by omega) rfl (Own.nil _ _ _)
    case round =>
      obtain ⟨k, hk, rfl, HO⟩ := hrel
      replace HO := hide HO
      have hle := enc_take_len ls k
      by_cases hlt : k < n
      · have cx : wr.cell? ⟨b, o + k, none⟩ = some (.int .i32 (gt ls k)) := (HO.out.2.cell (p := ⟨b, o + k, none⟩) hbw).trans (HC.out k hlt)
        have R : Hid (enc (ls.take (k + 1)) = enc (ls.take k) ++ enc1 (chr (gt ls k))) := by rw [take_gt (by rw [← HN.out]; exact hlt)]; exact enc_snoc _ _
        generalize gt ls k = x at cx R
        by_cases hx : isC x = true
        · obtain ⟨x0, x1, x2⟩ := (isC_iff x).1 hx
          rw [chr_yes hx] at R
          have HX := hide hx
          clear hx x2
          rcases (show x ≤ 127 ∨ (127 < x ∧ x ≤ 2047) ∨ (2047 < x ∧ x ≤ 65535) ∨ 65535 < x by omega) with g | ⟨g, g'⟩ | ⟨g, g'⟩ | g
          · rw [enc1_1 g] at R
            go_wp2_with (first
              | (go_at_call 60; refine (isR_any x _).mono ?_; rintro e w' ⟨rfl, rfl⟩; rw [HX.out])
              | (at_builtin; refine wpList_append_own _ rfl _ _ 55 rfl w.heap.size 5 i0 (.int .u8 0) 1 1 Tryd.underlying55 hi hz0 hz1 hz2 rfl (by decide) _ _ _ rfl (HO.out.1.alloc _) ⟨_, 0, none⟩ 1 1 [.int .u8 (x)] rfl rfl (newsL _ _ _) (ints_oneCell .u8 [x]) (by unfold maxLen; omega) (by omega) (by have := HO.out.2.size; simp; omega) ?_; intro v' w1 hown' hgrow _; replace HO := hide (HO.out.grow (ys := [x]) hown' hgrow); clear hown' hgrow))
            go_roundw
            case rel => exact .mk (k + 1) (by omega) (by go_num) (by rw [R.out]; exact HO.out)
            case measure => simp [intOf]; omega
          · rw [enc1_2 g g'] at R
            have d0 : 0 ≤ x / 64 := by omega
            have d1 : x / 64 < 32 := by omega
            have e1 := i32_or192 (x / 64) d0 (by omega)
            have q1 := i32_and63 x (by omega) (by omega)
            have q2 := i32_or128 (x % 64) (by omega) (by omega)
            have q3 : 0 ≤ x % 64 := by omega
            have q4 : x % 64 < 64 := by omega
            go_wp2_with (first
              | (go_at_call 60; refine (isR_any x _).mono ?_; rintro e w' ⟨rfl, rfl⟩; rw [HX.out])
              | (at_builtin; refine wpList_append_own _ rfl _ _ 55 rfl w.heap.size 5 i0 (.int .u8 0) 1 1 Tryd.underlying55 hi hz0 hz1 hz2 rfl (by decide) _ _ _ rfl (HO.out.1.alloc _) ⟨_, 0, none⟩ 2 2 [.int .u8 (192 + x / 64), .int .u8 (128 + x % 64)] rfl rfl (newsL _ _ _) (ints_oneCell .u8 [192 + x / 64, 128 + x % 64]) (by unfold maxLen; omega) (by omega) (by have := HO.out.2.size; simp; omega) ?_; intro v' w1 hown' hgrow _; replace HO := hide (HO.out.grow (ys := [192 + x / 64, 128 + x % 64]) hown' hgrow); clear hown' hgrow))
            go_roundw
            case rel => exact .mk (k + 1) (by omega) (by go_num) (by rw [R.out]; exact HO.out)
            case measure => simp [intOf]; omega
          · rw [enc1_3 g g'] at R
            have d0 : 0 ≤ x / 4096 := by omega
            have d1 : x / 4096 < 16 := by omega
            have e1 := i32_or224 (x / 4096) d0 (by omega)
            have p1 := i32_and63 (x / 64) (by omega) (by omega)
            have p2 := i32_or128 (x / 64 % 64) (by omega) (by omega)
            have p3 : 0 ≤ x / 64 % 64 := by omega
            have p4 : x / 64 % 64 < 64 := by omega
            have q1 := i32_and63 x (by omega) (by omega)
            have q2 := i32_or128 (x % 64) (by omega) (by omega)
            have q3 : 0 ≤ x % 64 := by omega
            have q4 : x % 64 < 64 := by omega
            go_wp2_with (first
              | (go_at_call 60; refine (isR_any x _).mono ?_; rintro e w' ⟨rfl, rfl⟩; rw [HX.out])
              | (at_builtin; refine wpList_append_own _ rfl _ _ 55 rfl w.heap.size 5 i0 (.int .u8 0) 1 1 Tryd.underlying55 hi hz0 hz1 hz2 rfl (by decide) _ _ _ rfl (HO.out.1.alloc _) ⟨_, 0, none⟩ 3 3 [.int .u8 (224 + x / 4096), .int .u8 (128 + x / 64 % 64), .int .u8 (128 + x % 64)] rfl rfl (newsL _ _ _) (ints_oneCell .u8 [224 + x / 4096, 128 + x / 64 % 64, 128 + x % 64]) (by unfold maxLen; omega) (by omega) (by have := HO.out.2.size; simp; omega) ?_; intro v' w1 hown' hgrow _; replace HO := hide (HO.out.grow (ys := [224 + x / 4096, 128 + x / 64 % 64, 128 + x % 64]) hown' hgrow); clear hown' hgrow))
            go_roundw
            case rel => exact .mk (k + 1) (by omega) (by go_num) (by rw [R.out]; exact HO.out)
            case measure => simp [intOf]; omega
          · rw [enc1_4 g] at R
            have d0 : 0 ≤ x / 262144 := by omega
            have d1 : x / 262144 < 8 := by omega
            have e1 := i32_or240 (x / 262144) d0 (by omega)
            have p1 := i32_and63 (x / 64) (by omega) (by omega)
            have p2 := i32_or128 (x / 64 % 64) (by omega) (by omega)
            have p3 : 0 ≤ x / 64 % 64 := by omega
            have p4 : x / 64 % 64 < 64 := by omega
            have r1 := i32_and63 (x / 4096) (by omega) (by omega)
            have r2 := i32_or128 (x / 4096 % 64) (by omega) (by omega)
            have r3 : 0 ≤ x / 4096 % 64 := by omega
            have r4 : x / 4096 % 64 < 64 := by omega
            have q1 := i32_and63 x (by omega) (by omega)
            have q2 := i32_or128 (x % 64) (by omega) (by omega)
            have q3 : 0 ≤ x % 64 := by omega
            have q4 : x % 64 < 64 := by omega
            go_wp2_with (first
              | (go_at_call 60; refine (isR_any x _).mono ?_; rintro e w' ⟨rfl, rfl⟩; rw [HX.out])
              | (at_builtin; refine wpList_append_own _ rfl _ _ 55 rfl w.heap.size 5 i0 (.int .u8 0) 1 1 Tryd.underlying55 hi hz0 hz1 hz2 rfl (by decide) _ _ _ rfl (HO.out.1.alloc _) ⟨_, 0, none⟩ 4 4 [.int .u8 (240 + x / 262144), .int .u8 (128 + x / 4096 % 64), .int .u8 (128 + x / 64 % 64), .int .u8 (128 + x % 64)] rfl rfl (newsL _ _ _) (ints_oneCell .u8 [240 + x / 262144, 128 + x / 4096 % 64, 128 + x / 64 % 64, 128 + x % 64]) (by unfold maxLen; omega) (by omega) (by have := HO.out.2.size; simp; omega) ?_; intro v' w1 hown' hgrow _; replace HO := hide (HO.out.grow (ys := [240 + x / 262144, 128 + x / 4096 % 64, 128 + x / 64 % 64, 128 + x % 64]) hown' hgrow); clear hown' hgrow))
            go_roundw
            case rel => exact .mk (k + 1) (by omega) (by go_num) (by rw [R.out]; exact HO.out)
            case measure => simp [intOf]; omega
        · have hx' : isC x = false := by simpa using hx
          have e65 : enc1 65533 = [239, 191, 189] := by decide
          rw [chr_no hx', e65] at R
          have HX := hide hx'
          clear hx hx' e65
          have f1 : bits .or .i32 224 15 = 239 := by decide
          have f2 : bits .and .i32 1023 63 = 63 := by decide
          have f3 : bits .and .i32 65533 63 = 61 := by decide
          have f4 : bits .or .i32 128 63 = 191 := by decide
          have f5 : bits .or .i32 128 61 = 189 := by decide
          go_wp2_with (first
            | (go_at_call 60; refine (isR_any x _).mono ?_; rintro e w' ⟨rfl, rfl⟩; rw [HX.out])
            | (at_builtin; refine wpList_append_own _ rfl _ _ 55 rfl w.heap.size 5 i0 (.int .u8 0) 1 1 Tryd.underlying55 hi hz0 hz1 hz2 rfl (by decide) _ _ _ rfl (HO.out.1.alloc _) ⟨_, 0, none⟩ 3 3 [.int .u8 (239), .int .u8 (191), .int .u8 (189)] rfl rfl (newsL _ _ _) (ints_oneCell .u8 [239, 191, 189]) (by unfold maxLen; omega) (by omega) (by have := HO.out.2.size; simp; omega) ?_; intro v' w1 hown' hgrow _; replace HO := hide (HO.out.grow (ys := [239, 191, 189]) hown' hgrow); clear hown' hgrow))
          go_roundw
          case rel => exact .mk (k + 1) (by omega) (by go_num) (by rw [R.out]; exact HO.out)
          case measure => simp [intOf]; omega
      · have hkn : k = n := by omega
        subst hkn
        have R : Hid (ls.take k = ls) := List.take_of_length_le (by rw [← HN.out]; omega)
        rw [R.out] at HO hle
        have N := hide (HO.out.nums (by omega))
        go_wp2
        go_ret
        exact ⟨_, rfl, N.out, HO.out.2⟩
theorem enc_euro : enc [8364] = [226, 130, 172] := by decide
end Go.Proofs.YtlkocepoohhglaaDoor
set_option linter.unusedVariables false
set_option linter.unusedSimpArgs false
namespace Go.Proofs.YtlkocepoohhglaaDoor
open Go.RowKit

theorem isBlR_any (c : Int) (w : World) : Calls Tryd.prog 61 #[.int .i32 c] w fun e w' => e = .returned (.bool (isBl c)) ∧ w' = w := by
  rcases (show c = 10 ∨ c = 9 ∨ c = 32 ∨ (c ≠ 10 ∧ c ≠ 9 ∧ c ≠ 32) by omega) with rfl | rfl | rfl | ⟨h1, h2, h3⟩
  · go_enter Tryd.func61, Tryd.ntmps61
    go_wp2
    go_ret
    exact ⟨rfl, rfl⟩
  · go_enter Tryd.func61, Tryd.ntmps61
    go_wp2
    go_ret
    exact ⟨rfl, rfl⟩
  · go_enter Tryd.func61, Tryd.ntmps61
    go_wp2
    go_ret
    exact ⟨rfl, rfl⟩
  · have e1 : (c == 10) = false := by simpa using h1
    have e2 : (c == 9) = false := by simpa using h2
    have e3 : (c == 32) = false := by simpa using h3
    go_enter Tryd.func61, Tryd.ntmps61
    go_wp2
    go_ret
    exact ⟨ret_bool (by simp [isBl, h1, h2, h3]), rfl⟩
theorem isLetR_any (c : Int) (w : World) : Calls Tryd.prog 64 #[.int .i32 c] w fun e w' => e = .returned (.bool (isLet c)) ∧ w' = w := by
  cases hf : isFst c
  · cases hd : isDig c
    · by_cases h : c = 45
      · subst h
        have F := hide hf
        have D := hide hd
        clear hf hd
        go_enter Tryd.func64, Tryd.ntmps64
        go_wp2_with (first
          | (go_at_call 75; refine (isFstR_any _ _).mono ?_; rintro e w' ⟨rfl, rfl⟩; rw [F.out])
          | (go_at_call 76; refine (isDigR_any _ _).mono ?_; rintro e w' ⟨rfl, rfl⟩; rw [D.out]))
        go_ret
        exact ⟨rfl, rfl⟩
      · have e1 : (c == 45) = false := by simpa using h
        have F := hide hf
        have D := hide hd
        clear hf hd
        go_enter Tryd.func64, Tryd.ntmps64
        go_wp2_with (first
          | (go_at_call 75; refine (isFstR_any _ _).mono ?_; rintro e w' ⟨rfl, rfl⟩; rw [F.out])
          | (go_at_call 76; refine (isDigR_any _ _).mono ?_; rintro e w' ⟨rfl, rfl⟩; rw [D.out]))
        go_ret
        exact ⟨ret_bool (by unfold isLet; rw [F.out, D.out, e1]; rfl), rfl⟩
    · have F := hide hf
      have D := hide hd
      clear hf hd
      go_enter Tryd.func64, Tryd.ntmps64
      go_wp2_with (first
        | (go_at_call 75; refine (isFstR_any _ _).mono ?_; rintro e w' ⟨rfl, rfl⟩; rw [F.out])
        | (go_at_call 76; refine (isDigR_any _ _).mono ?_; rintro e w' ⟨rfl, rfl⟩; rw [D.out]))
      go_ret
      exact ⟨ret_bool (by unfold isLet; rw [F.out, D.out]; rfl), rfl⟩
  · have F := hide hf
    clear hf
    go_enter Tryd.func64, Tryd.ntmps64
    go_wp2_with (go_at_call 75; refine (isFstR_any _ _).mono ?_; rintro e w' ⟨rfl, rfl⟩; rw [F.out])
    go_ret
    exact ⟨ret_bool (by unfold isLet; rw [F.out]; rfl), rfl⟩
set_option maxHeartbeats 1000000 in
theorem isUnR_any (c : Int) (w : World) : Calls Tryd.prog 88 #[.int .i32 c] w fun e w' => e = .returned (.bool (isUn c)) ∧ w' = w := by
  rcases un_cases c with ⟨h, e⟩ | ⟨h, g, e⟩ | ⟨h, g, e⟩ | ⟨rfl, e⟩ | ⟨h, g, e⟩ | ⟨h, g, e⟩ | ⟨h, g, e⟩ | ⟨rfl, e⟩ | ⟨h, e⟩
  all_goals
    have E := hide e
    clear e
    try (have n1 : (c == 11) = false := by simp; omega)
    try (have n2 : (c == 127) = false := by simp; omega)
    go_enter Tryd.func88, Tryd.ntmps88
    go_wp2
    go_ret
    exact ⟨ret_bool (by rw [E.out]; first | done | rfl | (simp; omega)), rfl⟩
set_option maxHeartbeats 1000000 in
theorem hexR_any (c : Int) (w : World) : Calls Tryd.prog 83 #[.int .i32 c] w fun e w' => e = .returned (.tuple #[.int .i32 (hxN c), .bool (hxB c)]) ∧ w' = w := by
  rcases hexv_cases c with ⟨h, d, e⟩ | ⟨h, g, d, e⟩ | ⟨h, g, d, e⟩ | ⟨h, g, d, e⟩ | ⟨h, g, d, e⟩ | ⟨h, g, d, e⟩ | ⟨h, d, e⟩
  · have D := hide d
    have X := hide (hx_no (c := c) (by omega))
    clear d e
    go_enter Tryd.func83, Tryd.ntmps83
    go_wp2_with (go_at_call 76; refine (isDigR_any _ _).mono ?_; rintro e w' ⟨rfl, rfl⟩; rw [D.out])
    go_ret2
    exact ⟨by rw [X.out.1, X.out.2]; rfl, rfl⟩
  · have D := hide d
    have X := hide (hx_yes (c := c) (by omega))
    rw [e] at X
    clear d e
    go_enter Tryd.func83, Tryd.ntmps83
    go_wp2_with (go_at_call 76; refine (isDigR_any _ _).mono ?_; rintro e w' ⟨rfl, rfl⟩; rw [D.out])
    go_ret2
    exact ⟨by rw [X.out.1, X.out.2]; first | rfl | (exact tup2 (by omega) rfl), rfl⟩
  · have D := hide d
    have X := hide (hx_no (c := c) (by omega))
    clear d e
    go_enter Tryd.func83, Tryd.ntmps83
    go_wp2_with (go_at_call 76; refine (isDigR_any _ _).mono ?_; rintro e w' ⟨rfl, rfl⟩; rw [D.out])
    go_ret2
    exact ⟨by rw [X.out.1, X.out.2]; rfl, rfl⟩
  · have D := hide d
    have X := hide (hx_yes (c := c) (by omega))
    rw [e] at X
    clear d e
    go_enter Tryd.func83, Tryd.ntmps83
    go_wp2_with (go_at_call 76; refine (isDigR_any _ _).mono ?_; rintro e w' ⟨rfl, rfl⟩; rw [D.out])
    go_ret2
    exact ⟨by rw [X.out.1, X.out.2]; first | rfl | (exact tup2 (by omega) rfl), rfl⟩
  · have D := hide d
    have X := hide (hx_no (c := c) (by omega))
    clear d e
    go_enter Tryd.func83, Tryd.ntmps83
    go_wp2_with (go_at_call 76; refine (isDigR_any _ _).mono ?_; rintro e w' ⟨rfl, rfl⟩; rw [D.out])
    go_ret2
    exact ⟨by rw [X.out.1, X.out.2]; rfl, rfl⟩
  · have D := hide d
    have X := hide (hx_yes (c := c) (by omega))
    rw [e] at X
    clear d e
    go_enter Tryd.func83, Tryd.ntmps83
    go_wp2_with (go_at_call 76; refine (isDigR_any _ _).mono ?_; rintro e w' ⟨rfl, rfl⟩; rw [D.out])
    go_ret2
    exact ⟨by rw [X.out.1, X.out.2]; first | rfl | (exact tup2 (by omega) rfl), rfl⟩
  · have D := hide d
    have X := hide (hx_no (c := c) (by omega))
    clear d e
    go_enter Tryd.func83, Tryd.ntmps83
    go_wp2_with (go_at_call 76; refine (isDigR_any _ _).mono ?_; rintro e w' ⟨rfl, rfl⟩; rw [D.out])
    go_ret2
    exact ⟨by rw [X.out.1, X.out.2]; rfl, rfl⟩
theorem textR_any (ls : List Int) (v : Value) (w : World) (hv : Nums .i32 w v ls) (hl : ls.length ≤ 35184372088832) :
    Calls Tryd.prog 71 #[v] w fun e w' => ∃ t, e = .returned (.string t) ∧ bl t = enc ls ∧ Below w.heap.size w w' := by
  have C := hide (encR_any ls v w hv hl)
  have R := hide (enc_rng ls)
  clear hv
  go_enter Tryd.func71, Tryd.ntmps71
  go_wp2_with (go_at_call 80; refine C.out.mono ?_; rintro e w1 ⟨u, rfl, N, B⟩; replace B := hide B; obtain ⟨t, ht, hcv⟩ := conv_anyT w1 u _ N R.out; replace ht := hide ht; clear N)
  go_ret
  exact ⟨_, rfl, ht.out, B.out⟩
/-- Where the reference's reader stands: behind the end, too. -/
structure AtR (T : TypeId) (W w : World) (b : Nat) (v : Value) (l : List Int) (s : List Int) : Prop where
  ex : ∃ p, Rd T W w b v l p ∧ p ≤ l.length + 2 ∧ s = (chs l).drop p
theorem At.r {T : TypeId} {W w : World} {b : Nat} {v : Value} {l s : List Int} (h : At T W w b v l s) : AtR T W w b v l s := by
  obtain ⟨p, h1, h2, h3⟩ := h.ex
  exact ⟨p, h1, by omega, h3⟩
theorem AtR.in {T : TypeId} {W w : World} {b : Nat} {v : Value} {l s : List Int} (h : AtR T W w b v l s) (hs : nx s 0 ≠ -1) : At T W w b v l s := by
  obtain ⟨p, h1, h2, rfl⟩ := h.ex
  have := nx_pos hs
  rw [List.length_drop, chs_len] at this
  exact ⟨p, h1, by omega, rfl⟩
theorem AtR.below {T : TypeId} {W w w' : World} {b : Nat} {v : Value} {l s : List Int} (h : AtR T W w b v l s) (hw : Below w.heap.size w w') : AtR T W w' b v l s := by
  obtain ⟨p, h1, h2, h3⟩ := h.ex
  exact ⟨p, h1.below hw, h2, h3⟩
theorem AtR.lt {T : TypeId} {W w : World} {b : Nat} {v : Value} {l s : List Int} (h : AtR T W w b v l s) : b < w.heap.size := by
  obtain ⟨p, h1, _⟩ := h.ex; exact h1.lt
theorem AtR.put {T : TypeId} {W w : World} {b r : Nat} {v : Value} {l s : List Int} (h : AtR T W w b v l s) (hr : b < r) (i : Nat) (x : Value) : AtR T W (w.setCell ⟨r, i, none⟩ x) b v l s := by
  obtain ⟨p, h1, h2, h3⟩ := h.ex
  have := h1.ge
  exact ⟨p, ⟨h1.bel.setCell (p := ⟨r, i, none⟩) (by simp; omega) _, h1.ge, (Below.heap_setCell _ _ _ _ (by simp; omega)).trans h1.blk, h1.nums, h1.len, h1.le⟩, h2, h3⟩
theorem atR_any (T : TypeId) (W w : World) (b : Nat) (v : Value) (l s : List Int) (k : Int) (h : AtR T W w b v l s) (k0 : 0 ≤ k) (k1 : k ≤ 9) :
    Calls Tryd.prog 55 #[.pointer (some ⟨b, 0, none⟩), .int .i64 k] w fun e w' => e = .returned (.int .i32 (nx s k.toNat)) ∧ Below w.heap.size w w' := by
  obtain ⟨p, h1, _, rfl⟩ := h.ex
  exact at_any T W w b v l p k h1 k0 k1
/-- What is known of a reader at a place, for the walk. -/
structure Stand (T : TypeId) (W w : World) (b : Nat) (v : Value) (l s : List Int) (p : Nat) : Prop where
  rd : Rd T W w b v l p
  eq : s = (chs l).drop p
theorem Stand.below {T : TypeId} {W w w' : World} {b : Nat} {v : Value} {l s : List Int} {p : Nat} (h : Stand T W w b v l s p) (hw : Below w.heap.size w w') : Stand T W w' b v l s p := ⟨h.rd.below hw, h.eq⟩
theorem Stand.c1 {T : TypeId} {W w : World} {b : Nat} {v : Value} {l s : List Int} {p : Nat} (h : Stand T W w b v l s p) : w.cell? ⟨b, 1, none⟩ = some (.int .i64 p) := h.rd.c1
theorem Stand.f1 {T : TypeId} {W w : World} {b : Nat} {v : Value} {l s : List Int} {p : Nat} (h : Stand T W w b v l s p) : w.frozen? ⟨b, 1, none⟩ = false := by simp [World.frozen?, h.rd.blk]
theorem Stand.len {T : TypeId} {W w : World} {b : Nat} {v : Value} {l s : List Int} {p : Nat} (h : Stand T W w b v l s p) (hp : p ≤ l.length) : p + s.length = l.length ∧ l.length ≤ 140737488355328 := by
  have e := h.eq
  have := h.rd.len
  rw [e, List.length_drop, chs_len]; omega
theorem Stand.at {T : TypeId} {W w : World} {b : Nat} {v : Value} {l s : List Int} {p : Nat} (h : Stand T W w b v l s p) (hp : p ≤ l.length) : At T W w b v l s := ⟨p, h.rd, hp, h.eq⟩
theorem Stand.atR {T : TypeId} {W w : World} {b : Nat} {v : Value} {l s : List Int} {p : Nat} (h : Stand T W w b v l s p) (hp : p ≤ l.length + 2) : AtR T W w b v l s := ⟨p, h.rd, hp, h.eq⟩
theorem At.stand {T : TypeId} {W w : World} {b : Nat} {v : Value} {l s : List Int} (h : At T W w b v l s) : ∃ p, Stand T W w b v l s p ∧ p + s.length = l.length ∧ l.length ≤ 140737488355328 := by
  obtain ⟨p, h1, h2, h3⟩ := h.ex
  exact ⟨p, ⟨h1, h3⟩, Stand.len ⟨h1, h3⟩ h2⟩
/-- So many places on. -/
theorem Stand.inc {T : TypeId} {W w : World} {b : Nat} {v : Value} {l s : List Int} {p : Nat} (h : Stand T W w b v l s p) (k : Nat) (q : Int) (hq : q = (p : Int) + k) (hp : p + k ≤ l.length + 4) : Stand T W (w.setCell ⟨b, 1, none⟩ (.int .i64 q)) b v l (s.drop k) (p + k) := by
  have := (h.rd.set (p + k) hp).1
  rw [show ((p + k : Nat) : Int) = q by omega] at this
  exact ⟨this, by rw [h.eq, List.drop_drop]⟩
theorem Stand.mod {T : TypeId} {W w : World} {b : Nat} {v : Value} {l s : List Int} {p : Nat} (h : Stand T W w b v l s p) (q : Int) : w.grownBy (w.setCell ⟨b, 1, none⟩ (.int .i64 q)) (some b) :=
  ⟨rfl, rfl, rfl, by simp, fun k _ hk => Below.heap_setCell _ _ _ _ (by intro e; exact hk (by rw [e]))⟩
theorem standAt_any (T : TypeId) (W w : World) (b : Nat) (v : Value) (l s : List Int) (p : Nat) (k : Int) (h : Stand T W w b v l s p) (k0 : 0 ≤ k) (k1 : k ≤ 9) :
    Calls Tryd.prog 55 #[.pointer (some ⟨b, 0, none⟩), .int .i64 k] w fun e w' => e = .returned (.int .i32 (nx s k.toNat)) ∧ Below w.heap.size w w' := by
  rw [h.eq]
  exact at_any T W w b v l p k h.rd k0 k1
end Go.Proofs.YtlkocepoohhglaaDoor
