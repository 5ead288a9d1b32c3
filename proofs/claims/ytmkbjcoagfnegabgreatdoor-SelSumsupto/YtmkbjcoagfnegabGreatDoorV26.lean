/-
  Line ends, and the characters of a stylesheet, by the program.
  Tokens of bytes, by the program; tokens that every program must know.
  The same tokens are the same.
  Bytes of characters, by the reference; the law of both.
-/
import Derived.Test.YtmkbjcoagfnegabGreatDoorV25
import Derived.Test.YtmkbjcoagfnegabGreatDoorV24
import Derived.Lib.SlBytesConst
import Derived.Outline
import Derived.Test.YtmkbjcoagfnegabGreatDoorV06
set_option linter.unusedVariables false
set_option linter.unusedSimpArgs false
namespace Go.Proofs.YtmkbjcoagfnegabGreatDoor
open Go.RowKit

/-- A slice without its first three. -/
theorem Nums.three {k : IntKind} {w : World} {b o n c : Nat} {bs : List Int} (h : Nums k w (.slice (some ⟨b, o, none⟩) n c) bs) (h3 : 3 ≤ n) (hc : ¬ c = 3) : Nums k w (.slice (some ⟨b, o + 3, none⟩) (n - 3) (c - 3)) (bs.drop 3) := by
  rcases h with ⟨a, c', e, rfl⟩ | ⟨b', o', n', c', e, hn, h0, hbw, hl, hn9, hc9, hcc⟩
  · simp at e; omega
  · simp at e
    obtain ⟨⟨rfl, rfl⟩, rfl, rfl⟩ := e
    by_cases h : n = 3
    · exact .inl ⟨_, _, by rw [h], List.drop_of_length_le (by omega)⟩
    · exact .inr ⟨b, o + 3, n - 3, c - 3, rfl, by rw [List.length_drop]; omega, by omega, hbw, by omega, by omega, by omega, fun i hi => by rw [gt_drop, Nat.add_assoc]; exact hcc (3 + i) (by omega)⟩
theorem Nums.none3 {k : IntKind} {w : World} {a : Option Addr} {n c : Nat} {bs : List Int} (h : Nums k w (.slice a n c) bs) (h3 : 3 ≤ n) (hc : c = 3) : n = 3 ∧ bs.drop 3 = [] := by
  rcases h with ⟨a, c', e, rfl⟩ | ⟨b', o', n', c', e, hn, h0, hbw, hl, hn9, hc9, hcc⟩
  · simp at e; omega
  · simp at e
    obtain ⟨rfl, rfl, rfl⟩ := e
    exact ⟨by omega, List.drop_of_length_le (by omega)⟩
theorem mark_len {bs : List Int} (h : mark bs = true) : 3 ≤ bs.length := by unfold mark at h; simp at h; exact h.1
end Go.Proofs.YtmkbjcoagfnegabGreatDoor
set_option linter.unusedVariables false
set_option linter.unusedSimpArgs false
namespace Go.Proofs.YtmkbjcoagfnegabGreatDoor
open Go.RowKit

theorem lin_len : ∀ (a : List Int) (l : Int), (lin l a).length ≤ a.length := by
  intro a
  induction a with
  | nil => intro l; simp [lin]
  | cons x r ih =>
    intro l
    have := ih x
    simp only [lin, List.length_append, List.length_cons]
    split <;> simp <;> omega
theorem dcd_len (bs : List Int) : (dcd bs).length ≤ bs.length := by
  unfold dcd
  have h1 := lin_len (raw (cut bs)) 0
  have h2 := (raw_le (cut bs)).1
  have h3 := cutm_len bs
  omega
theorem nam_a : nam [] [97, 58, 49] = ([97], [58, 49]) := by
  rw [nam_let (by decide)]
  show nam [97] [58, 49] = _
  rw [nam_end (by decide) (by decide)]
theorem word_a : word [97, 58, 49] = (tkt 1 [97], [58, 49]) := by
  unfold word
  rw [nam_a, if_pos (by decide)]
theorem tokn_1 : tokn [49] = (⟨10, [], 1, 1, true, false⟩, []) := by
  have d : dcT (enc (nmT [49])) = ((1, 1), true) := by decide
  show numb [49] = _
  unfold numb
  rw [d]
  rfl
theorem toks_a : toks (chs (dcd [97, 58, 49])) = [tkt 1 [97], tk 16, ⟨10, [], 1, 1, true, false⟩] := by
  have e : chs (dcd [97, 58, 49]) = [97, 58, 49] := by
    rw [dcd_asc (by intro c hc; simp at hc; omega)]
    decide
  rw [e]
  have r1 : rmk [97, 58, 49] = [97, 58, 49] := rmk_end (by decide)
  have t1 : tokn [97, 58, 49] = (tkt 1 [97], [58, 49]) := (show tokn [97, 58, 49] = word [97, 58, 49] from rfl).trans word_a
  have r2 : rmk [58, 49] = [58, 49] := rmk_end (by decide)
  have t2 : tokn [58, 49] = (tk 16, [49]) := rfl
  have r3 : rmk [49] = [49] := rmk_end (by decide)
  have r4 : rmk [] = [] := rmk_end (by decide)
  rw [toks_go (by rw [r1]; decide), r1, t1]
  show _ :: toks [58, 49] = _
  rw [toks_go (by rw [r2]; decide), r2, t2]
  show _ :: _ :: toks [49] = _
  rw [toks_go (by rw [r3]; decide), r3, tokn_1]
  show _ :: _ :: _ :: toks [] = _
  rw [toks_end (by rw [r4]; decide)]
theorem Nums.litq {k : IntKind} (w : World) (t : TypeId) (bs : List Int) (n : Nat) (q : Nat × Nat) (hn : n = bs.length) (h0 : 0 < n) (hl : n ≤ 1000) :
    Nums k (w.alloc (.cells (bs.map (Value.int k)).toArray t q)) (.slice (some ⟨w.heap.size, 0, none⟩) n n) bs :=
  .inr ⟨w.heap.size, 0, n, n, rfl, hn, h0, by simp, Nat.le_refl _, by omega, by omega, fun i hi => by
    rw [cell_of_row _ w.heap.size (0 + i) _ t q (heap_alloc_new w _)]
    simp [gt, List.getD_eq_getElem?_getD, List.getElem?_eq_getElem (show i < bs.length by omega)]⟩
theorem By.a : By [97, 58, 49] := by intro x hx; simp at hx; omega
end Go.Proofs.YtmkbjcoagfnegabGreatDoor
set_option linter.unusedVariables false
set_option linter.unusedSimpArgs false
namespace Go.Proofs.YtmkbjcoagfnegabGreatDoor
open Go.RowKit

def RelSm (n : Nat) (i : Value) : Prop := ∃ k : Nat, k ≤ n ∧ i = .int .i64 k
theorem RelSm.mk {n : Nat} (k : Nat) {i : Value} (h1 : k ≤ n) (h2 : i = .int .i64 k) : RelSm n i := ⟨k, h1, h2⟩
structure Six (w : World) (b o : Nat) (k : Int) (t : ByteArray) (n d : Int) (wh i : Bool) : Prop where
  c0 : w.cell? ⟨b, o, none⟩ = some (.int .i64 k)
  c1 : w.cell? ⟨b, o + 1, none⟩ = some (.string t)
  c2 : w.cell? ⟨b, o + 2, none⟩ = some (.int .i64 n)
  c3 : w.cell? ⟨b, o + 3, none⟩ = some (.int .i64 d)
  c4 : w.cell? ⟨b, o + 4, none⟩ = some (.bool wh)
  c5 : w.cell? ⟨b, o + 5, none⟩ = some (.bool i)
theorem Six.of {w : World} {b o : Nat} {τ : Tk} (h : ∀ j, j < 6 → w.cell? ⟨b, o + j, none⟩ = (tkC τ)[j]?) : Six w b o τ.kind (tb τ.text) τ.num τ.den τ.whole τ.id :=
  ⟨h 0 (by decide), h 1 (by decide), h 2 (by decide), h 3 (by decide), h 4 (by decide), h 5 (by decide)⟩
end Go.Proofs.YtmkbjcoagfnegabGreatDoor
set_option linter.unusedVariables false
set_option linter.unusedSimpArgs false
namespace Go.Proofs.YtmkbjcoagfnegabGreatDoor
open Go.RowKit

set_option maxRecDepth 100000 in
set_option maxHeartbeats 4000000 in
theorem encR_any (ls : List Int) (v : Value) (w : World) (hv : Nums .i32 w v ls) (hl9 : ls.length ≤ 35184372088832) :
    Calls Tryz.prog 84 #[v] w fun e w' => ∃ u, e = .returned u ∧ Nums .u8 w' u (enc ls) ∧ Below w.heap.size w w' := by
  obtain ⟨i0, hi, hz0, hz1, hz2⟩ := info_parts info8
  rcases hv with ⟨a, c, rfl, rfl⟩ | ⟨b, o, n, c, rfl, hn, h0, hbw, hl, hn9, hc9, hc⟩
  · go_enter Tryz.func84, Tryz.ntmps84
    go_wp2
    refine wp_loop_rounds 1 ?_
    rw [rounds_succ]
    go_wp2
    go_ret
    exact ⟨_, rfl, .inl ⟨_, _, rfl, rfl⟩, Below.refl _ _⟩
  · have HN : Hid (n = ls.length) := hn
    have HC := hide hc
    have hnb : n ≤ 35184372088832 := by omega
    clear hc hn hl9
    go_enter Tryz.func84, Tryz.ntmps84
    go_wp2
    go_loopw [3, 8] (fun b i wr => RelEnc w n ls b i wr) (fun _ i _ => n - (intOf i).toNat)
    case atStart => exact .mk 0 (by omega) rfl (Own.nil _ _ _)
    case round =>
      obtain ⟨k, hk, rfl, HO⟩ := hrel
      replace HO := hide HO
      have hle := enc_take_len ls k
      by_cases hlt : k < n
      · have cx : wr.cell? ⟨b, o + k, none⟩ = some (.int .i32 (gt ls k)) := (HO.out.2.cell (p := ⟨b, o + k, none⟩) hbw).trans (HC.out k hlt)
        have R : Hid (enc (ls.take (k + 1)) = enc (ls.take k) ++ enc1 (chr (gt ls k))) := by rw [take_gt (by rw [← HN.out]; exact hlt)]; exact enc_snoc _ _
        generalize gt ls k = x at cx R
        by_cases hx : isC x = true
        · obtain ⟨x0, x1, x2⟩ := (isC_iff x).1 hx
          rw [chr_yes hx] at R
          have HX := hide hx
          clear hx x2
          rcases (show x ≤ 127 ∨ (127 < x ∧ x ≤ 2047) ∨ (2047 < x ∧ x ≤ 65535) ∨ 65535 < x by omega) with g | ⟨g, g'⟩ | ⟨g, g'⟩ | g
          · rw [enc1_1 g] at R
            go_wp2_with (first
              | (go_at_call 57; refine (isR_any x _).mono ?_; rintro e w' ⟨rfl, rfl⟩; rw [HX.out])
              | (at_builtin; refine wpList_append_own _ rfl _ _ 72 rfl w.heap.size 5 i0 (.int .u8 0) 1 1 Tryz.underlying72 hi hz0 hz1 hz2 rfl (by decide) _ _ _ rfl (HO.out.1.alloc _) ⟨_, 0, none⟩ 1 1 [.int .u8 (x)] rfl rfl (newsL _ _ _) (ints_oneCell .u8 [x]) (by unfold maxLen; omega) (by omega) (by have := HO.out.2.size; simp; omega) ?_; intro v' w1 hown' hgrow _; replace HO := hide (HO.out.grow (ys := [x]) hown' hgrow); clear hown' hgrow))
            go_roundw
            case rel => exact .mk (k + 1) (by omega) (by go_num) (by rw [R.out]; exact HO.out)
            case measure => simp [intOf]; omega
          · rw [enc1_2 g g'] at R
            have d0 : 0 ≤ x / 64 := by omega
            have d1 : x / 64 < 32 := by omega
            have e1 := i32_or192 (x / 64) d0 (by omega)
            have q1 := i32_and63 x (by omega) (by omega)
            have q2 := i32_or128 (x % 64) (by omega) (by omega)
            have q3 : 0 ≤ x % 64 := by omega
            have q4 : x % 64 < 64 := by omega
            go_wp2_with (first
              | (go_at_call 57; refine (isR_any x _).mono ?_; rintro e w' ⟨rfl, rfl⟩; rw [HX.out])
              | (at_builtin; refine wpList_append_own _ rfl _ _ 72 rfl w.heap.size 5 i0 (.int .u8 0) 1 1 Tryz.underlying72 hi hz0 hz1 hz2 rfl (by decide) _ _ _ rfl (HO.out.1.alloc _) ⟨_, 0, none⟩ 2 2 [.int .u8 (192 + x / 64), .int .u8 (128 + x % 64)] rfl rfl (newsL _ _ _) (ints_oneCell .u8 [192 + x / 64, 128 + x % 64]) (by unfold maxLen; omega) (by omega) (by have := HO.out.2.size; simp; omega) ?_; intro v' w1 hown' hgrow _; replace HO := hide (HO.out.grow (ys := [192 + x / 64, 128 + x % 64]) hown' hgrow); clear hown' hgrow))
            go_roundw
            case rel => exact .mk (k + 1) (by omega) (by go_num) (by rw [R.out]; exact HO.out)
            case measure => simp [intOf]; omega
          · rw [enc1_3 g g'] at R
            have d0 : 0 ≤ x / 4096 := by omega
            have d1 : x / 4096 < 16 := by omega
            have e1 := i32_or224 (x / 4096) d0 (by omega)
            have p1 := i32_and63 (x / 64) (by omega) (by omega)
            have p2 := i32_or128 (x / 64 % 64) (by omega) (by omega)
            have p3 : 0 ≤ x / 64 % 64 := by omega
            have p4 : x / 64 % 64 < 64 := by omega
            have q1 := i32_and63 x (by omega) (by omega)
            have q2 := i32_or128 (x % 64) (by omega) (by omega)
            have q3 : 0 ≤ x % 64 := by omega
            have q4 : x % 64 < 64 := by omega
            go_wp2_with (first
              | (go_at_call 57; refine (isR_any x _).mono ?_; rintro e w' ⟨rfl, rfl⟩; rw [HX.out])
              | (at_builtin; refine wpList_append_own _ rfl _ _ 72 rfl w.heap.size 5 i0 (.int .u8 0) 1 1 Tryz.underlying72 hi hz0 hz1 hz2 rfl (by decide) _ _ _ rfl (HO.out.1.alloc _) ⟨_, 0, none⟩ 3 3 [.int .u8 (224 + x / 4096), .int .u8 (128 + x / 64 % 64), .int .u8 (128 + x % 64)] rfl rfl (newsL _ _ _) (ints_oneCell .u8 [224 + x / 4096, 128 + x / 64 % 64, 128 + x % 64]) (by unfold maxLen; omega) (by omega) (by have := HO.out.2.size; simp; omega) ?_; intro v' w1 hown' hgrow _; replace HO := hide (HO.out.grow (ys := [224 + x / 4096, 128 + x / 64 % 64, 128 + x % 64]) hown' hgrow); clear hown' hgrow))
            go_roundw
            case rel => exact .mk (k + 1) (by omega) (by go_num) (by rw [R.out]; exact HO.out)
            case measure => simp [intOf]; omega
          · rw [enc1_4 g] at R
            have d0 : 0 ≤ x / 262144 := by omega
            have d1 : x / 262144 < 8 := by omega
            have e1 := i32_or240 (x / 262144) d0 (by omega)
            have p1 := i32_and63 (x / 64) (by omega) (by omega)
            have p2 := i32_or128 (x / 64 % 64) (by omega) (by omega)
            have p3 : 0 ≤ x / 64 % 64 := by omega
            have p4 : x / 64 % 64 < 64 := by omega
            have r1 := i32_and63 (x / 4096) (by omega) (by omega)
            have r2 := i32_or128 (x / 4096 % 64) (by omega) (by omega)
            have r3 : 0 ≤ x / 4096 % 64 := by omega
            have r4 : x / 4096 % 64 < 64 := by omega
            have q1 := i32_and63 x (by omega) (by omega)
            have q2 := i32_or128 (x % 64) (by omega) (by omega)
            have q3 : 0 ≤ x % 64 := by omega
            have q4 : x % 64 < 64 := by omega
            go_wp2_with (first
              | (go_at_call 57; refine (isR_any x _).mono ?_; rintro e w' ⟨rfl, rfl⟩; rw [HX.out])
              | (at_builtin; refine wpList_append_own _ rfl _ _ 72 rfl w.heap.size 5 i0 (.int .u8 0) 1 1 Tryz.underlying72 hi hz0 hz1 hz2 rfl (by decide) _ _ _ rfl (HO.out.1.alloc _) ⟨_, 0, none⟩ 4 4 [.int .u8 (240 + x / 262144), .int .u8 (128 + x / 4096 % 64), .int .u8 (128 + x / 64 % 64), .int .u8 (128 + x % 64)] rfl rfl (newsL _ _ _) (ints_oneCell .u8 [240 + x / 262144, 128 + x / 4096 % 64, 128 + x / 64 % 64, 128 + x % 64]) (by unfold maxLen; omega) (by omega) (by have := HO.out.2.size; simp; omega) ?_; intro v' w1 hown' hgrow _; replace HO := hide (HO.out.grow (ys := [240 + x / 262144, 128 + x / 4096 % 64, 128 + x / 64 % 64, 128 + x % 64]) hown' hgrow); clear hown' hgrow))
            go_roundw
            case rel => exact .mk (k + 1) (by omega) (by go_num) (by rw [R.out]; exact HO.out)
            case measure => simp [intOf]; omega
        · have hx' : isC x = false := by simpa using hx
          have e65 : enc1 65533 = [239, 191, 189] := by decide
          rw [chr_no hx', e65] at R
          have HX := hide hx'
          clear hx hx' e65
          have f1 : bits .or .i32 224 15 = 239 := by decide
          have f2 : bits .and .i32 1023 63 = 63 := by decide
          have f3 : bits .and .i32 65533 63 = 61 := by decide
          have f4 : bits .or .i32 128 63 = 191 := by decide
          have f5 : bits .or .i32 128 61 = 189 := by decide
          go_wp2_with (first
            | (go_at_call 57; refine (isR_any x _).mono ?_; rintro e w' ⟨rfl, rfl⟩; rw [HX.out])
            | (at_builtin; refine wpList_append_own _ rfl _ _ 72 rfl w.heap.size 5 i0 (.int .u8 0) 1 1 Tryz.underlying72 hi hz0 hz1 hz2 rfl (by decide) _ _ _ rfl (HO.out.1.alloc _) ⟨_, 0, none⟩ 3 3 [.int .u8 (239), .int .u8 (191), .int .u8 (189)] rfl rfl (newsL _ _ _) (ints_oneCell .u8 [239, 191, 189]) (by unfold maxLen; omega) (by omega) (by have := HO.out.2.size; simp; omega) ?_; intro v' w1 hown' hgrow _; replace HO := hide (HO.out.grow (ys := [239, 191, 189]) hown' hgrow); clear hown' hgrow))
          go_roundw
          case rel => exact .mk (k + 1) (by omega) (by go_num) (by rw [R.out]; exact HO.out)
          case measure => simp [intOf]; omega
      · have hkn : k = n := by omega
        subst hkn
        have R : Hid (ls.take k = ls) := List.take_of_length_le (by rw [← HN.out]; omega)
        rw [R.out] at HO hle
        have N := hide (HO.out.nums (by omega))
        go_wp2
        go_ret
        exact ⟨_, rfl, N.out, HO.out.2⟩
theorem enc_euro : enc [8364] = [226, 130, 172] := by decide
end Go.Proofs.YtmkbjcoagfnegabGreatDoor
