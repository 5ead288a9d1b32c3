/-
  Bytes of characters, by the program.
  Bytes of characters, by the reference; the law of both.
  Plain: there and back; how many come out; what goes on behind whole bytes.
  The law: what goes on behind whole bytes.
-/
import Derived.Test.YtbdacepomdlcbaaGreatDoorJa
import Derived.Laws.AppendOwnNone
set_option linter.unusedVariables false
set_option linter.unusedSimpArgs false
namespace Go.Proofs.YtbdacepomdlcbaaGreatDoor
open Go.RowKit

theorem isC_cases (x : Int) : (x < 0 ∧ isC x = false) ∨ (1114111 < x ∧ isC x = false) ∨ (55296 ≤ x ∧ x ≤ 57343 ∧ isC x = false) ∨ (0 ≤ x ∧ x < 55296 ∧ isC x = true) ∨ (57343 < x ∧ x ≤ 1114111 ∧ isC x = true) := by
  have := isC_iff x
  by_cases h : isC x = true
  · have := this.1 h; rcases this with ⟨h1, h2, h3 | h3⟩
    · right; right; right; left; exact ⟨h1, h3, h⟩
    · right; right; right; right; exact ⟨h3, h2, h⟩
  · have h' : isC x = false := by simpa using h
    have : ¬ (0 ≤ x ∧ x ≤ 1114111 ∧ (x < 55296 ∨ 57343 < x)) := fun k => h (this.2 k)
    simp only [h', and_true]; omega
set_option maxRecDepth 100000 in
set_option maxHeartbeats 1000000 in
theorem isR_any (x : Int) (w : World) : Calls Tryz.prog 131 #[.int .i32 x] w fun e w' => e = .returned (.bool (isC x)) ∧ w' = w := by
  rcases isC_cases x with ⟨h, e⟩ | ⟨h, e⟩ | ⟨h, g, e⟩ | ⟨h, g, e⟩ | ⟨h, g, e⟩
  all_goals
    have E := hide e
    clear e
    go_enter Tryz.func131, Tryz.ntmps131
    go_wp2
    go_ret
    exact ⟨ret_bool (by first | (rw [E.out]; done) | (rw [E.out]; simp; omega)), rfl⟩
theorem newsL (w : World) (l : List Value) (t : TypeId) : ∀ j x, l[j]? = some x → (w.alloc (.cells l.toArray t)).cell? ((⟨w.heap.size, 0, none⟩ : Addr).add j) = some x := fun j x hx => by
  rw [Addr.add_lit, cell_of_row _ w.heap.size (0 + j) _ t (0, 0) (heap_alloc_new w _)]
  simpa using hx
theorem info8 : (Tryz.prog.info? 5).map (fun i => (i.zero, i.size, i.bytes)) = some (some (.int .u8 0), 1, 1) := by kernel_rfl
theorem enc1_1 {x : Int} (h : x ≤ 127) : enc1 x = [x] := by unfold enc1; rw [if_pos h]
theorem enc1_2 {x : Int} (h : 127 < x) (h2 : x ≤ 2047) : enc1 x = [192 + x / 64, 128 + x % 64] := by unfold enc1; rw [if_neg (by omega), if_pos h2]
theorem enc1_3 {x : Int} (h : 2047 < x) (h2 : x ≤ 65535) : enc1 x = [224 + x / 4096, 128 + x / 64 % 64, 128 + x % 64] := by unfold enc1; rw [if_neg (by omega), if_neg (by omega), if_pos h2]
theorem enc1_4 {x : Int} (h : 65535 < x) : enc1 x = [240 + x / 262144, 128 + x / 4096 % 64, 128 + x / 64 % 64, 128 + x % 64] := by unfold enc1; rw [if_neg (by omega), if_neg (by omega), if_neg (by omega)]
/-- The state of a loop that writes characters. -/
def RelEnc (W : World) (n : Nat) (ls : List Int) (b i : Value) (wr : World) : Prop :=
  ∃ k : Nat, k ≤ n ∧ i = .int .i64 k ∧ Own W .u8 5 wr b (enc (ls.take k))
theorem RelEnc.mk {W : World} {n : Nat} {ls : List Int} {b i : Value} {wr : World} (k : Nat) (h1 : k ≤ n) (h2 : i = .int .i64 k) (h3 : Own W .u8 5 wr b (enc (ls.take k))) : RelEnc W n ls b i wr := ⟨k, h1, h2, h3⟩
theorem take_gt {bs : List Int} {i : Nat} (h : i < bs.length) : bs.take (i + 1) = bs.take i ++ [gt bs i] := by
  rw [gt_eq h]; exact List.take_succ_eq_append_getElem h
theorem enc_take_len (ls : List Int) (k : Nat) : (enc (ls.take k)).length ≤ 4 * k := by
  have h1 := (enc_len (ls.take k)).2
  have h2 : (ls.take k).length ≤ k := List.length_take_le _ _
  omega
theorem chr_yes {x : Int} (h : isC x = true) : chr x = x := by unfold chr; rw [if_pos h]
theorem chr_no {x : Int} (h : isC x = false) : chr x = 65533 := by unfold chr; rw [h]; rfl
end Go.Proofs.YtbdacepomdlcbaaGreatDoor
set_option linter.unusedVariables false
set_option linter.unusedSimpArgs false
namespace Go.Proofs.YtbdacepomdlcbaaGreatDoor
open Go.RowKit

set_option maxRecDepth 100000 in
set_option maxHeartbeats 4000000 in
theorem encR_any (ls : List Int) (v : Value) (w : World) (hv : Nums .i32 w v ls) (hl9 : ls.length ≤ 35184372088832) :
    Calls Tryz.prog 111 #[v] w fun e w' => ∃ u, e = .returned u ∧ Nums .u8 w' u (enc ls) ∧ Below w.heap.size w w' := by
  obtain ⟨i0, hi, hz0, hz1, hz2⟩ := info_parts info8
  rcases hv with ⟨a, c, rfl, rfl⟩ | ⟨b, o, n, c, rfl, hn, h0, hbw, hl, hn9, hc9, hc⟩
  · go_enter Tryz.func111, Tryz.ntmps111
    go_wp2
    refine wp_loop_rounds 1 ?_
    rw [rounds_succ]
    go_wp2
    go_ret
    exact ⟨_, rfl, .inl ⟨_, _, rfl, rfl⟩, Below.refl _ _⟩
  · have HN : Hid (n = ls.length) := hn
    have HC := hide hc
    have hnb : n ≤ 35184372088832 := by omega
    clear hc hn hl9
    go_enter Tryz.func111, Tryz.ntmps111
    go_wp2
    go_loopw [3, 8] (fun b i wr => RelEnc w n ls b i wr) (fun _ i _ => n - (intOf i).toNat)
    case atStart => exact .mk 0 (by omega) rfl (Own.nil _ _ _)
    case round =>
      obtain ⟨k, hk, rfl, HO⟩ := hrel
      replace HO := hide HO
      have hle := enc_take_len ls k
      by_cases hlt : k < n
      · have cx : wr.cell? ⟨b, o + k, none⟩ = some (.int .i32 (gt ls k)) := (HO.out.2.cell (p := ⟨b, o + k, none⟩) hbw).trans (HC.out k hlt)
        have R : Hid (enc (ls.take (k + 1)) = enc (ls.take k) ++ enc1 (chr (gt ls k))) := by rw [take_gt (by rw [← HN.out]; exact hlt)]; exact enc_snoc _ _
        generalize gt ls k = x at cx R
        by_cases hx : isC x = true
        · obtain ⟨x0, x1, x2⟩ := (isC_iff x).1 hx
          rw [chr_yes hx] at R
          have HX := hide hx
          clear hx x2
          rcases (show x ≤ 127 ∨ (127 < x ∧ x ≤ 2047) ∨ (2047 < x ∧ x ≤ 65535) ∨ 65535 < x by omega) with g | ⟨g, g'⟩ | ⟨g, g'⟩ | g
          · rw [enc1_1 g] at R
            go_wp2_with (first
              | (go_at_call 131; refine (isR_any x _).mono ?_; rintro e w' ⟨rfl, rfl⟩; rw [HX.out])
              | (at_builtin; refine wpList_append_own _ rfl _ _ 47 rfl w.heap.size 5 i0 (.int .u8 0) 1 1 Tryz.underlying47 hi hz0 hz1 hz2 rfl (by decide) _ _ _ rfl (HO.out.1.alloc _) ⟨_, 0, none⟩ 1 1 [.int .u8 (x)] rfl rfl (newsL _ _ _) (ints_oneCell .u8 [x]) (by unfold maxLen; omega) (by omega) (by have := HO.out.2.size; simp; omega) ?_; intro v' w1 hown' hgrow _; replace HO := hide (HO.out.grow (ys := [x]) hown' hgrow); clear hown' hgrow))
            go_roundw
            case rel => exact .mk (k + 1) (by omega) (by go_num) (by rw [R.out]; exact HO.out)
            case measure => simp [intOf]; omega
          · rw [enc1_2 g g'] at R
            have d0 : 0 ≤ x / 64 := by omega
            have d1 : x / 64 < 32 := by omega
            have e1 := i32_or192 (x / 64) d0 (by omega)
            have q1 := i32_and63 x (by omega) (by omega)
            have q2 := i32_or128 (x % 64) (by omega) (by omega)
            have q3 : 0 ≤ x % 64 := by omega
            have q4 : x % 64 < 64 := by omega
            go_wp2_with (first
              | (go_at_call 131; refine (isR_any x _).mono ?_; rintro e w' ⟨rfl, rfl⟩; rw [HX.out])
              | (at_builtin; refine wpList_append_own _ rfl _ _ 47 rfl w.heap.size 5 i0 (.int .u8 0) 1 1 Tryz.underlying47 hi hz0 hz1 hz2 rfl (by decide) _ _ _ rfl (HO.out.1.alloc _) ⟨_, 0, none⟩ 2 2 [.int .u8 (192 + x / 64), .int .u8 (128 + x % 64)] rfl rfl (newsL _ _ _) (ints_oneCell .u8 [192 + x / 64, 128 + x % 64]) (by unfold maxLen; omega) (by omega) (by have := HO.out.2.size; simp; omega) ?_; intro v' w1 hown' hgrow _; replace HO := hide (HO.out.grow (ys := [192 + x / 64, 128 + x % 64]) hown' hgrow); clear hown' hgrow))
            go_roundw
            case rel => exact .mk (k + 1) (by omega) (by go_num) (by rw [R.out]; exact HO.out)
            case measure => simp [intOf]; omega
          · rw [enc1_3 g g'] at R
            have d0 : 0 ≤ x / 4096 := by omega
            have d1 : x / 4096 < 16 := by omega
            have e1 := i32_or224 (x / 4096) d0 (by omega)
            have p1 := i32_and63 (x / 64) (by omega) (by omega)
            have p2 := i32_or128 (x / 64 % 64) (by omega) (by omega)
            have p3 : 0 ≤ x / 64 % 64 := by omega
            have p4 : x / 64 % 64 < 64 := by omega
            have q1 := i32_and63 x (by omega) (by omega)
            have q2 := i32_or128 (x % 64) (by omega) (by omega)
            have q3 : 0 ≤ x % 64 := by omega
            have q4 : x % 64 < 64 := by omega
            go_wp2_with (first
              | (go_at_call 131; refine (isR_any x _).mono ?_; rintro e w' ⟨rfl, rfl⟩; rw [HX.out])
              | (at_builtin; refine wpList_append_own _ rfl _ _ 47 rfl w.heap.size 5 i0 (.int .u8 0) 1 1 Tryz.underlying47 hi hz0 hz1 hz2 rfl (by decide) _ _ _ rfl (HO.out.1.alloc _) ⟨_, 0, none⟩ 3 3 [.int .u8 (224 + x / 4096), .int .u8 (128 + x / 64 % 64), .int .u8 (128 + x % 64)] rfl rfl (newsL _ _ _) (ints_oneCell .u8 [224 + x / 4096, 128 + x / 64 % 64, 128 + x % 64]) (by unfold maxLen; omega) (by omega) (by have := HO.out.2.size; simp; omega) ?_; intro v' w1 hown' hgrow _; replace HO := hide (HO.out.grow (ys := [224 + x / 4096, 128 + x / 64 % 64, 128 + x % 64]) hown' hgrow); clear hown' hgrow))
            go_roundw
            case rel => exact .mk (k + 1) (by omega) (by go_num) (by rw [R.out]; exact HO.out)
            case measure => simp [intOf]; omega
          · rw [enc1_4 g] at R
            have d0 : 0 ≤ x / 262144 := by omega
            have d1 : x / 262144 < 8 := by omega
            have e1 := i32_or240 (x / 262144) d0 (by omega)
            have p1 := i32_and63 (x / 64) (by omega) (by omega)
            have p2 := i32_or128 (x / 64 % 64) (by omega) (by omega)
            have p3 : 0 ≤ x / 64 % 64 := by omega
            have p4 : x / 64 % 64 < 64 := by omega
            have r1 := i32_and63 (x / 4096) (by omega) (by omega)
            have r2 := i32_or128 (x / 4096 % 64) (by omega) (by omega)
            have r3 : 0 ≤ x / 4096 % 64 := by omega
            have r4 : x / 4096 % 64 < 64 := by omega
            have q1 := i32_and63 x (by omega) (by omega)
            have q2 := i32_or128 (x % 64) (by omega) (by omega)
            have q3 : 0 ≤ x % 64 := by omega
            have q4 : x % 64 < 64 := by omega
            go_wp2_with (first
              | (go_at_call 131; refine (isR_any x _).mono ?_; rintro e w' ⟨rfl, rfl⟩; rw [HX.out])
              | (at_builtin; refine wpList_append_own _ rfl _ _ 47 rfl w.heap.size 5 i0 (.int .u8 0) 1 1 Tryz.underlying47 hi hz0 hz1 hz2 rfl (by decide) _ _ _ rfl (HO.out.1.alloc _) ⟨_, 0, none⟩ 4 4 [.int .u8 (240 + x / 262144), .int .u8 (128 + x / 4096 % 64), .int .u8 (128 + x / 64 % 64), .int .u8 (128 + x % 64)] rfl rfl (newsL _ _ _) (ints_oneCell .u8 [240 + x / 262144, 128 + x / 4096 % 64, 128 + x / 64 % 64, 128 + x % 64]) (by unfold maxLen; omega) (by omega) (by have := HO.out.2.size; simp; omega) ?_; intro v' w1 hown' hgrow _; replace HO := hide (HO.out.grow (ys := [240 + x / 262144, 128 + x / 4096 % 64, 128 + x / 64 % 64, 128 + x % 64]) hown' hgrow); clear hown' hgrow))
            go_roundw
            case rel => exact .mk (k + 1) (by omega) (by go_num) (by rw [R.out]; exact HO.out)
            case measure => simp [intOf]; omega
        · have hx' : isC x = false := by simpa using hx
          have e65 : enc1 65533 = [239, 191, 189] := by decide
          rw [chr_no hx', e65] at R
          have HX := hide hx'
          clear hx hx' e65
          have f1 : bits .or .i32 224 15 = 239 := by decide
          have f2 : bits .and .i32 1023 63 = 63 := by decide
          have f3 : bits .and .i32 65533 63 = 61 := by decide
          have f4 : bits .or .i32 128 63 = 191 := by decide
          have f5 : bits .or .i32 128 61 = 189 := by decide
          go_wp2_with (first
            | (go_at_call 131; refine (isR_any x _).mono ?_; rintro e w' ⟨rfl, rfl⟩; rw [HX.out])
            | (at_builtin; refine wpList_append_own _ rfl _ _ 47 rfl w.heap.size 5 i0 (.int .u8 0) 1 1 Tryz.underlying47 hi hz0 hz1 hz2 rfl (by decide) _ _ _ rfl (HO.out.1.alloc _) ⟨_, 0, none⟩ 3 3 [.int .u8 (239), .int .u8 (191), .int .u8 (189)] rfl rfl (newsL _ _ _) (ints_oneCell .u8 [239, 191, 189]) (by unfold maxLen; omega) (by omega) (by have := HO.out.2.size; simp; omega) ?_; intro v' w1 hown' hgrow _; replace HO := hide (HO.out.grow (ys := [239, 191, 189]) hown' hgrow); clear hown' hgrow))
          go_roundw
          case rel => exact .mk (k + 1) (by omega) (by go_num) (by rw [R.out]; exact HO.out)
          case measure => simp [intOf]; omega
      · have hkn : k = n := by omega
        subst hkn
        have R : Hid (ls.take k = ls) := List.take_of_length_le (by rw [← HN.out]; omega)
        rw [R.out] at HO hle
        have N := hide (HO.out.nums (by omega))
        go_wp2
        go_ret
        exact ⟨_, rfl, N.out, HO.out.2⟩
theorem enc_euro : enc [8364] = [226, 130, 172] := by decide
end Go.Proofs.YtbdacepomdlcbaaGreatDoor
set_option linter.unusedVariables false
set_option linter.unusedSimpArgs false
namespace Go.Proofs.YtbdacepomdlcbaaGreatDoor
open Go.RowKit

theorem enc_cons (x : Int) (l : List Int) : enc (x :: l) = enc1 (chr x) ++ enc l := by simp [enc]
theorem enc1_ne (x : Int) (r : List Int) : enc1 x ++ r ≠ [] := by
  intro e
  have h1 := congrArg List.length e
  have := (enc1_len x).1
  simp at h1; simp [h1.1] at this
theorem raw_enc1 (x : Int) (r : List Int) (h : isC x = true) : raw (enc1 x ++ r) = x :: raw r := by
  rw [raw_cut (enc1_ne x r), stp_enc x r h]; simp
theorem whole_enc1 (x : Int) (r : List Int) (h : isC x = true) : whole (enc1 x ++ r) = whole r := by
  rw [whole_cut (enc1_ne x r), stp_enc x r h]; simp
theorem raw_enc (l : List Int) : raw (enc l) = l.map chr := by
  induction l with
  | nil => exact raw_nil
  | cons x l ih => rw [enc_cons, raw_enc1 _ _ (isC_chr x), ih]; rfl
theorem whole_enc (l : List Int) : whole (enc l) = true := by
  induction l with
  | nil => exact whole_nil
  | cons x l ih => rw [enc_cons, whole_enc1 _ _ (isC_chr x), ih]
theorem by_enc1 (x : Int) (h : isC x = true) : By (enc1 x) := by
  rw [isC_iff] at h
  intro y hy
  rcases (show x ≤ 127 ∨ (127 < x ∧ x ≤ 2047) ∨ (2047 < x ∧ x ≤ 65535) ∨ 65535 < x by omega) with g | ⟨g, g'⟩ | ⟨g, g'⟩ | g
  · rw [enc1_1 g] at hy; simp at hy; omega
  · rw [enc1_2 g g'] at hy; simp at hy; omega
  · rw [enc1_3 g g'] at hy; simp at hy; omega
  · rw [enc1_4 g] at hy; simp at hy; omega
theorem by_enc (l : List Int) : By (enc l) := by
  intro y hy
  simp only [enc, List.mem_flatMap] at hy
  obtain ⟨x, _, hx⟩ := hy
  exact by_enc1 _ (isC_chr x) y hx
def allB (l : List Int) : Bool := l.all isC
theorem allB_snoc (l : List Int) (x : Int) : allB (l ++ [x]) = (allB l && isC x) := by simp [allB]
theorem map_chr (l : List Int) : (l.map chr = l) ↔ allB l = true := by
  induction l with
  | nil => simp [allB]
  | cons x l ih =>
    simp only [List.map_cons, List.cons.injEq, allB, List.all_cons, Bool.and_eq_true] at ih ⊢
    rw [ih]
    constructor
    · rintro ⟨h, k⟩
      exact ⟨h ▸ isC_chr x, k⟩
    · rintro ⟨h, k⟩
      exact ⟨chr_yes h, k⟩
theorem back_chars (l : List Int) : eqB (raw (enc l)) l = allB l := by
  rw [raw_enc]
  have := map_chr l
  by_cases h : allB l = true
  · rw [h]; unfold eqB; simp [this.2 h]
  · have h' : allB l = false := by simpa using h
    rw [h']; unfold eqB; simp [this, h']
theorem enc_raw (n : Nat) : ∀ bs : List Int, bs.length ≤ n → By bs → whole bs = true → enc (raw bs) = bs := by
  induction n with
  | zero => intro bs h _ _; obtain rfl : bs = [] := List.eq_nil_of_length_eq_zero (by omega); rw [raw_nil]; rfl
  | succ n ih =>
    intro bs h hb hw
    by_cases hne : bs = []
    · subst hne; rw [raw_nil]; rfl
    · rw [whole_cut hne] at hw
      simp only [Bool.and_eq_true] at hw
      obtain ⟨h1, h2⟩ := stp_back bs hb hne hw.1
      have hs := stp_len bs hne
      rw [raw_cut hne, enc_cons, chr_yes h1, ih _ (by rw [List.length_drop]; omega) (hb.drop _) hw.2]
      exact h2.symm
theorem back_bytes (bs : List Int) (hb : By bs) : eqB (enc (raw bs)) bs = whole bs := by
  by_cases h : whole bs = true
  · rw [h]; unfold eqB; simp [enc_raw bs.length bs (Nat.le_refl _) hb h]
  · have h' : whole bs = false := by simpa using h
    rw [h']; unfold eqB; simp
    intro e
    have := whole_enc (raw bs)
    rw [e] at this
    exact h this
theorem raw_len (n : Nat) : ∀ bs : List Int, bs.length ≤ n → (raw bs).length ≤ bs.length ∧ bs.length ≤ 4 * (raw bs).length := by
  induction n with
  | zero => intro bs h; obtain rfl : bs = [] := List.eq_nil_of_length_eq_zero (by omega); rw [raw_nil]; simp
  | succ n ih =>
    intro bs h
    by_cases hne : bs = []
    · subst hne; rw [raw_nil]; simp
    · have hs := stp_len bs hne
      have := ih (bs.drop (stp bs).2.1) (by rw [List.length_drop]; omega)
      rw [raw_cut hne, List.length_cons]
      rw [List.length_drop] at this
      omega
theorem raw_le (bs : List Int) : (raw bs).length ≤ bs.length ∧ bs.length ≤ 4 * (raw bs).length := raw_len bs.length bs (Nat.le_refl _)
theorem raw_append (n : Nat) (b : List Int) : ∀ a : List Int, a.length ≤ n → By a → whole a = true → raw (a ++ b) = raw a ++ raw b := by
  induction n with
  | zero => intro a h _ _; obtain rfl : a = [] := List.eq_nil_of_length_eq_zero (by omega); rw [raw_nil]; rfl
  | succ n ih =>
    intro a h hb hw
    by_cases hne : a = []
    · subst hne; rw [raw_nil]; rfl
    · rw [whole_cut hne] at hw
      simp only [Bool.and_eq_true] at hw
      obtain ⟨h1, h2⟩ := stp_back a hb hne hw.1
      have hs := stp_len a hne
      have e := ih (a.drop (stp a).2.1) (by rw [List.length_drop]; omega) (hb.drop _) hw.2
      rw [raw_cut hne]
      conv => lhs; rw [h2, List.append_assoc, raw_enc1 _ _ h1, e]
      rfl
theorem By.app {a b : List Int} (ha : By a) (hb : By b) : By (a ++ b) := fun x hx => by
  rcases List.mem_append.1 hx with h | h
  · exact ha x h
  · exact hb x h
/-- A slice in memory, empty or not. -/
theorem Nums.form {k : IntKind} {w : World} {v : Value} {bs : List Int} (h : Nums k w v bs) :
    ∃ a n c, v = .slice a n c ∧ n = bs.length ∧ n ≤ 4611686018427387904 ∧ n ≤ c + 0 + n ∧ (0 < n → ∃ b o, a = some ⟨b, o, none⟩ ∧ b < w.heap.size ∧ n ≤ c ∧ c ≤ 9223372036854775807 ∧ ∀ i, i < n → w.cell? ⟨b, o + i, none⟩ = some (.int k (gt bs i))) := by
  rcases h with ⟨a, c, rfl, rfl⟩ | ⟨b, o, n, c, rfl, hn, h0, hbw, hl, hn9, hc9, hc⟩
  · exact ⟨a, 0, c, rfl, rfl, by omega, by omega, fun h => by omega⟩
  · exact ⟨_, n, c, rfl, hn, hn9, by omega, fun _ => ⟨b, o, rfl, hbw, hl, hc9, hc⟩⟩
end Go.Proofs.YtbdacepomdlcbaaGreatDoor
set_option linter.unusedVariables false
set_option linter.unusedSimpArgs false
namespace Go.Proofs.YtbdacepomdlcbaaGreatDoor
open Go.RowKit

/-- A slice without an address is nil. -/
def Nil0 (v : Value) : Prop := ∀ n c, v = .slice none n c → n = 0 ∧ c = 0
theorem Nil0.some (a : Addr) (n c : Nat) : Nil0 (.slice (some a) n c) := fun n c h => by simp at h
theorem Own.nil0 {W wr : World} {k : IntKind} {e : TypeId} {v : Value} {xs : List Int} (h : Own W k e wr v xs) : Nil0 v := by
  rcases h.1.2 with ⟨rfl, h0⟩ | ⟨g, cap, cur, rfl, _⟩
  · intro n c h; simp at h; omega
  · exact Nil0.some _ _ _
theorem Own.fresh (W : World) (k : IntKind) (e : TypeId) : Own W k e (W.alloc (.cells #[] e)) (.slice (some ⟨W.heap.size, 0, none⟩) 0 0) [] :=
  ⟨World.ownsRow_lit W #[] 0 (Nat.le_refl _) (by unfold maxLen; omega) rfl, (Below.refl _ _).alloc (Nat.le_refl _) _⟩
theorem Own.grow' {W wr w1 : World} {k : IntKind} {e : TypeId} {v v' : Value} {xs ys : List Int} (h : Own W k e wr v xs)
    (h1 : w1.ownsRow W.heap.size e 1 v' (xs.length + ys.length) (xs.map (Value.int k) ++ ys.map (Value.int k))) (hg : wr.grownBy w1 v.ownBlock) : Own W k e w1 v' (xs ++ ys) := by
  refine ⟨by rw [List.length_append, List.map_append]; exact h1, ?_⟩
  exact h.2.grown hg h.2.size (fun k hk => (h.1.lt k hk).1)
theorem wpList_append_nums {W wr : World} {ops : Array Oper} {rest : List Oper} {o : Oper} {a : Act} {Q : Exit → Act → World → Prop} (hgd : o.guard = none) (s x : Operand) (t : TypeId)
    (ho : o.op = .call { callee := .builtin .append, args := #[s, x], argTypes := #[t, t] })
    (k : IntKind) (e : TypeId) (i : TypeInfo) (bytes : Nat) (ht : Tryz.prog.underlying t = some (.slice e)) (hi : Tryz.prog.info? e = some i) (hz : i.zero = some (.int k 0)) (hsize : i.size = 1) (hby : i.bytes = bytes)
    (v : Value) (xs : List Int) (hs : a.eval s = v) (hown : Own W k e wr v xs) (u : Value) (ys : List Int) (hx : a.eval x = u) (hN : Nums k wr u ys) (hnil : Nil0 u)
    (h63 : xs.length + ys.length ≤ 9223372036854775807) (hb : (xs.length + ys.length) * bytes ≤ 140737488355328)
    (h : ∀ v' w', Own W k e w' v' (xs ++ ys) → wpList Tryz.prog ops Q rest (a.put o.dst v') w') : wpList Tryz.prog ops Q (o :: rest) a wr := by
  rcases hN with ⟨ao, c, rfl, rfl⟩ | ⟨b, of, n, c, rfl, hn, h0, hbw, hl, hn9, hc9, hc⟩
  · cases ao with
    | none =>
      obtain ⟨_, rfl⟩ := hnil _ _ rfl
      exact wpList_append_own_none hgd s x t ho W.heap.size e i 1 ht hi v xs.length (xs.map (Value.int k)) hs hown.1 hx (h v wr (by simpa using hown))
    | some ad =>
      refine wpList_append_own wr hgd s x t ho W.heap.size e i (.int k 0) 1 bytes ht hi hz hsize hby rfl (by decide) v xs.length (xs.map (Value.int k)) hs hown.1 ad 0 c [] hx rfl (by intro j u h; simp at h) (by intro u h; simp at h) (by unfold maxLen; simp at h63; omega) (by simpa using hb) hown.2.size ?_
      intro v' w' h1 h2 _
      exact h v' w' (hown.grow' (ys := []) h1 h2)
  · subst hn
    refine wpList_append_own wr hgd s x t ho W.heap.size e i (.int k 0) 1 bytes ht hi hz hsize hby rfl (by decide) v xs.length (xs.map (Value.int k)) hs hown.1 ⟨b, of, none⟩ ys.length c (ys.map (Value.int k)) hx (by simp) (fun j u hu => ?_) (ints_oneCell k ys) (by unfold maxLen; exact h63) hb hown.2.size ?_
    · have hj : j < ys.length := by have := (List.getElem?_eq_some_iff.1 hu).1; simpa using this
      rw [Addr.add_lit, hc j hj]
      rw [← hu]
      simp [gt, List.getD_eq_getElem?_getD, List.getElem?_eq_getElem hj]
    · intro v' w' h1 h2 _
      exact h v' w' (hown.grow' (ys := ys) h1 h2)
end Go.Proofs.YtbdacepomdlcbaaGreatDoor
