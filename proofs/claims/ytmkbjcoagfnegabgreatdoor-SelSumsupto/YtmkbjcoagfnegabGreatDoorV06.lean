/-
  The characters of some bytes, by the reference; the law of both.
  Bytes of characters, by the program.
  Plain: there and back; how many come out; what goes on behind whole bytes.
  Magnitudes, greatest common divisors, which fractions may be: by the program and by the reference (beside the texts on bytes and decimals).
-/
import Derived.Test.YtmkbjcoagfnegabGreatDoorV05
import Derived.Test.YtmkbjcoagfnegabGreatDoorV02
set_option linter.unusedVariables false
set_option linter.unusedSimpArgs false
namespace Go.Proofs.YtmkbjcoagfnegabGreatDoor
open Go.RowKit

set_option maxRecDepth 100000 in
set_option maxHeartbeats 1000000 in
theorem rawR_any (bs : List Int) (v : Value) (w : World) (hb : By bs) (hv : Nums .u8 w v bs) (hl9 : bs.length ≤ 1099511627776) :
    Calls Tryz.prog 50 #[v] w fun e w' => ∃ u, e = .returned u ∧ Nums .i32 w' u (raw bs) ∧ Below w.heap.size w w' := by
  obtain ⟨i0, hi, hz0, hz1, hz2⟩ := info_parts info32
  rcases hv with ⟨a, c, rfl, rfl⟩ | ⟨b, o, n, c, rfl, hn, h0, hbw, hl, hn9, hc9, hc⟩
  · go_enter Tryz.func50, Tryz.ntmps50
    go_wp2
    refine wp_loop_rounds 1 ?_
    rw [rounds_succ]
    go_wp2
    go_ret
    exact ⟨_, rfl, by rw [raw_nil]; exact .inl ⟨_, _, rfl, rfl⟩, Below.refl _ _⟩
  · have HN : Hid (n = bs.length) := hn
    have HC := hide hc
    have hnb : n ≤ 1099511627776 := by omega
    clear hc hn hl9
    go_enter Tryz.func50, Tryz.ntmps50
    go_wp2
    go_loopw [3, 4] (fun l a wr => RelRaw w n bs l a wr) (fun _ a _ => n - (intOf a).toNat)
    case atStart => exact .mk 0 [] (by omega) rfl (by simp) (Own.nil _ _ _) rfl
    case round =>
      obtain ⟨i, xs, hin, rfl, hxs, HO, R⟩ := hrel
      replace HO := hide HO
      by_cases hlt : i < n
      · obtain ⟨s1, s2, s3⟩ := stp_drop (bs := bs) (i := i) (by rw [← HN.out]; exact hlt)
        rw [← HN.out] at s3
        have R' : Hid _ := raw_go R.out (by rw [← HN.out]; exact hlt)
        have FH := hide (one_any bs n b o c i wr HN.out hb hl hn9 hc9 hlt (fun j hj => (HO.out.2.cell (p := ⟨b, o + j, none⟩) hbw).trans (HC.out j hj)))
        generalize hr : stp (bs.drop i) = r at *
        obtain ⟨x, g, t⟩ := r
        replace FH := FH.out; dsimp only at s1 s2 s3 R'
        clear hr
        go_wp2_with (first
          | (go_at_call 69; refine FH.mono ?_; rintro e w' ⟨rfl, rfl⟩; clear FH)
          | (at_builtin; refine wpList_append_own _ rfl _ _ 93 rfl w.heap.size 21 i0 (.int .i32 0) 1 4 Tryz.underlying93 hi hz0 hz1 hz2 rfl (by decide) _ _ _ rfl (HO.out.1.alloc _) ⟨_, 0, none⟩ 1 1 [.int .i32 x] rfl rfl (news1 _ _ _) (by intro u hu; simp at hu; subst hu; rfl) (by unfold maxLen; omega) (by omega) (by have := HO.out.2.size; simp; omega) ?_; intro v' w1 hown' hgrow _; replace HO := hide (HO.out.grow (ys := [x]) hown' hgrow); clear hown' hgrow))
        go_roundw
        case rel => exact .mk (i + g) (xs ++ [x]) (by omega) (by go_num) (by simp; omega) HO.out R'.out
        case measure => simp [intOf]; omega
      · have R' : Hid _ := raw_end R.out (by rw [← HN.out]; omega)
        have N := hide (HO.out.nums (by omega))
        go_wp2
        go_ret
        exact ⟨_, rfl, by rw [R'.out]; exact N.out, HO.out.2⟩
theorem raw_four : raw [65, 195, 164, 195] = [65, 228, 65533] := by
  rw [raw_cut (by simp)]
  show (65 : Int) :: raw [195, 164, 195] = _
  rw [raw_cut (by simp)]
  show (65 : Int) :: 228 :: raw [195] = _
  rw [raw_cut (by simp)]
  show (65 : Int) :: 228 :: 65533 :: raw [] = _
  rw [raw_nil]
theorem By.four : By [65, 195, 164, 195] := by intro x hx; simp at hx; omega
theorem eqB_refl (a : List Int) : eqB a a = true := by simp [eqB]
end Go.Proofs.YtmkbjcoagfnegabGreatDoor
set_option linter.unusedVariables false
set_option linter.unusedSimpArgs false
namespace Go.Proofs.YtmkbjcoagfnegabGreatDoor
open Go.RowKit

theorem isC_cases (x : Int) : (x < 0 ∧ isC x = false) ∨ (1114111 < x ∧ isC x = false) ∨ (55296 ≤ x ∧ x ≤ 57343 ∧ isC x = false) ∨ (0 ≤ x ∧ x < 55296 ∧ isC x = true) ∨ (57343 < x ∧ x ≤ 1114111 ∧ isC x = true) := by
  have := isC_iff x
  by_cases h : isC x = true
  · have := this.1 h; rcases this with ⟨h1, h2, h3 | h3⟩
    · right; right; right; left; exact ⟨h1, h3, h⟩
    · right; right; right; right; exact ⟨h3, h2, h⟩
  · have h' : isC x = false := by simpa using h
    have : ¬ (0 ≤ x ∧ x ≤ 1114111 ∧ (x < 55296 ∨ 57343 < x)) := fun k => h (this.2 k)
    simp only [h', and_true]; omega
set_option maxRecDepth 100000 in
set_option maxHeartbeats 1000000 in
theorem isR_any (x : Int) (w : World) : Calls Tryz.prog 57 #[.int .i32 x] w fun e w' => e = .returned (.bool (isC x)) ∧ w' = w := by
  rcases isC_cases x with ⟨h, e⟩ | ⟨h, e⟩ | ⟨h, g, e⟩ | ⟨h, g, e⟩ | ⟨h, g, e⟩
  all_goals
    have E := hide e
    clear e
    go_enter Tryz.func57, Tryz.ntmps57
    go_wp2
    go_ret
    exact ⟨ret_bool (by first | (rw [E.out]; done) | (rw [E.out]; simp; omega)), rfl⟩
theorem newsL (w : World) (l : List Value) (t : TypeId) : ∀ j x, l[j]? = some x → (w.alloc (.cells l.toArray t)).cell? ((⟨w.heap.size, 0, none⟩ : Addr).add j) = some x := fun j x hx => by
  rw [Addr.add_lit, cell_of_row _ w.heap.size (0 + j) _ t (0, 0) (heap_alloc_new w _)]
  simpa using hx
theorem info8 : (Tryz.prog.info? 5).map (fun i => (i.zero, i.size, i.bytes)) = some (some (.int .u8 0), 1, 1) := by kernel_rfl
theorem enc1_1 {x : Int} (h : x ≤ 127) : enc1 x = [x] := by unfold enc1; rw [if_pos h]
theorem enc1_2 {x : Int} (h : 127 < x) (h2 : x ≤ 2047) : enc1 x = [192 + x / 64, 128 + x % 64] := by unfold enc1; rw [if_neg (by omega), if_pos h2]
theorem enc1_3 {x : Int} (h : 2047 < x) (h2 : x ≤ 65535) : enc1 x = [224 + x / 4096, 128 + x / 64 % 64, 128 + x % 64] := by unfold enc1; rw [if_neg (by omega), if_neg (by omega), if_pos h2]
theorem enc1_4 {x : Int} (h : 65535 < x) : enc1 x = [240 + x / 262144, 128 + x / 4096 % 64, 128 + x / 64 % 64, 128 + x % 64] := by unfold enc1; rw [if_neg (by omega), if_neg (by omega), if_neg (by omega)]
/-- The state of a loop that writes characters. -/
def RelEnc (W : World) (n : Nat) (ls : List Int) (b i : Value) (wr : World) : Prop :=
  ∃ k : Nat, k ≤ n ∧ i = .int .i64 k ∧ Own W .u8 5 wr b (enc (ls.take k))
theorem RelEnc.mk {W : World} {n : Nat} {ls : List Int} {b i : Value} {wr : World} (k : Nat) (h1 : k ≤ n) (h2 : i = .int .i64 k) (h3 : Own W .u8 5 wr b (enc (ls.take k))) : RelEnc W n ls b i wr := ⟨k, h1, h2, h3⟩
theorem take_gt {bs : List Int} {i : Nat} (h : i < bs.length) : bs.take (i + 1) = bs.take i ++ [gt bs i] := by
  rw [gt_eq h]; exact List.take_succ_eq_append_getElem h
theorem enc_take_len (ls : List Int) (k : Nat) : (enc (ls.take k)).length ≤ 4 * k := by
  have h1 := (enc_len (ls.take k)).2
  have h2 : (ls.take k).length ≤ k := List.length_take_le _ _
  omega
theorem chr_yes {x : Int} (h : isC x = true) : chr x = x := by unfold chr; rw [if_pos h]
theorem chr_no {x : Int} (h : isC x = false) : chr x = 65533 := by unfold chr; rw [h]; rfl
end Go.Proofs.YtmkbjcoagfnegabGreatDoor
set_option linter.unusedVariables false
set_option linter.unusedSimpArgs false
namespace Go.Proofs.YtmkbjcoagfnegabGreatDoor
open Go.RowKit

theorem enc_cons (x : Int) (l : List Int) : enc (x :: l) = enc1 (chr x) ++ enc l := by simp [enc]
theorem enc1_ne (x : Int) (r : List Int) : enc1 x ++ r ≠ [] := by
  intro e
  have h1 := congrArg List.length e
  have := (enc1_len x).1
  simp at h1; simp [h1.1] at this
theorem raw_enc1 (x : Int) (r : List Int) (h : isC x = true) : raw (enc1 x ++ r) = x :: raw r := by
  rw [raw_cut (enc1_ne x r), stp_enc x r h]; simp
theorem whole_enc1 (x : Int) (r : List Int) (h : isC x = true) : whole (enc1 x ++ r) = whole r := by
  rw [whole_cut (enc1_ne x r), stp_enc x r h]; simp
theorem raw_enc (l : List Int) : raw (enc l) = l.map chr := by
  induction l with
  | nil => exact raw_nil
  | cons x l ih => rw [enc_cons, raw_enc1 _ _ (isC_chr x), ih]; rfl
theorem whole_enc (l : List Int) : whole (enc l) = true := by
  induction l with
  | nil => exact whole_nil
  | cons x l ih => rw [enc_cons, whole_enc1 _ _ (isC_chr x), ih]
theorem by_enc1 (x : Int) (h : isC x = true) : By (enc1 x) := by
  rw [isC_iff] at h
  intro y hy
  rcases (show x ≤ 127 ∨ (127 < x ∧ x ≤ 2047) ∨ (2047 < x ∧ x ≤ 65535) ∨ 65535 < x by omega) with g | ⟨g, g'⟩ | ⟨g, g'⟩ | g
  · rw [enc1_1 g] at hy; simp at hy; omega
  · rw [enc1_2 g g'] at hy; simp at hy; omega
  · rw [enc1_3 g g'] at hy; simp at hy; omega
  · rw [enc1_4 g] at hy; simp at hy; omega
theorem by_enc (l : List Int) : By (enc l) := by
  intro y hy
  simp only [enc, List.mem_flatMap] at hy
  obtain ⟨x, _, hx⟩ := hy
  exact by_enc1 _ (isC_chr x) y hx
def allB (l : List Int) : Bool := l.all isC
theorem allB_snoc (l : List Int) (x : Int) : allB (l ++ [x]) = (allB l && isC x) := by simp [allB]
theorem map_chr (l : List Int) : (l.map chr = l) ↔ allB l = true := by
  induction l with
  | nil => simp [allB]
  | cons x l ih =>
    simp only [List.map_cons, List.cons.injEq, allB, List.all_cons, Bool.and_eq_true] at ih ⊢
    rw [ih]
    constructor
    · rintro ⟨h, k⟩
      exact ⟨h ▸ isC_chr x, k⟩
    · rintro ⟨h, k⟩
      exact ⟨chr_yes h, k⟩
theorem back_chars (l : List Int) : eqB (raw (enc l)) l = allB l := by
  rw [raw_enc]
  have := map_chr l
  by_cases h : allB l = true
  · rw [h]; unfold eqB; simp [this.2 h]
  · have h' : allB l = false := by simpa using h
    rw [h']; unfold eqB; simp [this, h']
theorem enc_raw (n : Nat) : ∀ bs : List Int, bs.length ≤ n → By bs → whole bs = true → enc (raw bs) = bs := by
  induction n with
  | zero => intro bs h _ _; obtain rfl : bs = [] := List.eq_nil_of_length_eq_zero (by omega); rw [raw_nil]; rfl
  | succ n ih =>
    intro bs h hb hw
    by_cases hne : bs = []
    · subst hne; rw [raw_nil]; rfl
    · rw [whole_cut hne] at hw
      simp only [Bool.and_eq_true] at hw
      obtain ⟨h1, h2⟩ := stp_back bs hb hne hw.1
      have hs := stp_len bs hne
      rw [raw_cut hne, enc_cons, chr_yes h1, ih _ (by rw [List.length_drop]; omega) (hb.drop _) hw.2]
      exact h2.symm
theorem back_bytes (bs : List Int) (hb : By bs) : eqB (enc (raw bs)) bs = whole bs := by
  by_cases h : whole bs = true
  · rw [h]; unfold eqB; simp [enc_raw bs.length bs (Nat.le_refl _) hb h]
  · have h' : whole bs = false := by simpa using h
    rw [h']; unfold eqB; simp
    intro e
    have := whole_enc (raw bs)
    rw [e] at this
    exact h this
theorem raw_len (n : Nat) : ∀ bs : List Int, bs.length ≤ n → (raw bs).length ≤ bs.length ∧ bs.length ≤ 4 * (raw bs).length := by
  induction n with
  | zero => intro bs h; obtain rfl : bs = [] := List.eq_nil_of_length_eq_zero (by omega); rw [raw_nil]; simp
  | succ n ih =>
    intro bs h
    by_cases hne : bs = []
    · subst hne; rw [raw_nil]; simp
    · have hs := stp_len bs hne
      have := ih (bs.drop (stp bs).2.1) (by rw [List.length_drop]; omega)
      rw [raw_cut hne, List.length_cons]
      rw [List.length_drop] at this
      omega
theorem raw_le (bs : List Int) : (raw bs).length ≤ bs.length ∧ bs.length ≤ 4 * (raw bs).length := raw_len bs.length bs (Nat.le_refl _)
theorem raw_append (n : Nat) (b : List Int) : ∀ a : List Int, a.length ≤ n → By a → whole a = true → raw (a ++ b) = raw a ++ raw b := by
  induction n with
  | zero => intro a h _ _; obtain rfl : a = [] := List.eq_nil_of_length_eq_zero (by omega); rw [raw_nil]; rfl
  | succ n ih =>
    intro a h hb hw
    by_cases hne : a = []
    · subst hne; rw [raw_nil]; rfl
    · rw [whole_cut hne] at hw
      simp only [Bool.and_eq_true] at hw
      obtain ⟨h1, h2⟩ := stp_back a hb hne hw.1
      have hs := stp_len a hne
      have e := ih (a.drop (stp a).2.1) (by rw [List.length_drop]; omega) (hb.drop _) hw.2
      rw [raw_cut hne]
      conv => lhs; rw [h2, List.append_assoc, raw_enc1 _ _ h1, e]
      rfl
theorem By.app {a b : List Int} (ha : By a) (hb : By b) : By (a ++ b) := fun x hx => by
  rcases List.mem_append.1 hx with h | h
  · exact ha x h
  · exact hb x h
/-- A slice in memory, empty or not. -/
theorem Nums.form {k : IntKind} {w : World} {v : Value} {bs : List Int} (h : Nums k w v bs) :
    ∃ a n c, v = .slice a n c ∧ n = bs.length ∧ n ≤ 4611686018427387904 ∧ n ≤ c + 0 + n ∧ (0 < n → ∃ b o, a = some ⟨b, o, none⟩ ∧ b < w.heap.size ∧ n ≤ c ∧ c ≤ 9223372036854775807 ∧ ∀ i, i < n → w.cell? ⟨b, o + i, none⟩ = some (.int k (gt bs i))) := by
  rcases h with ⟨a, c, rfl, rfl⟩ | ⟨b, o, n, c, rfl, hn, h0, hbw, hl, hn9, hc9, hc⟩
  · exact ⟨a, 0, c, rfl, rfl, by omega, by omega, fun h => by omega⟩
  · exact ⟨_, n, c, rfl, hn, hn9, by omega, fun _ => ⟨b, o, rfl, hbw, hl, hc9, hc⟩⟩
end Go.Proofs.YtmkbjcoagfnegabGreatDoor
set_option linter.unusedVariables false
namespace Go.Proofs.YtmkbjcoagfnegabGreatDoor
open Go.RowKit

/-- The magnitude. -/
def ab (n : Int) : Int := if n < 0 then -n else n

theorem wrap_neg (n : Int) (h1 : -9223372036854775808 ≤ n) (h : n < 0) : IntKind.u64.wrap (-IntKind.u64.wrap n) = ab n := by
  simp only [ab, if_pos h, IntKind.wrap]
  simp [IntKind.bits, IntKind.signed]
  omega
theorem ab_neg {n : Int} (h : n < 0) : ab n = -n := if_pos h
theorem ab_pos {n : Int} (h : 0 ≤ n) : ab n = n := if_neg (by omega)
theorem gcd_step (p q : Int) (h0 : 0 ≤ p) (h : 0 < q) : Int.gcd q (p % q) = Int.gcd p q := by
  obtain ⟨p, rfl⟩ := Int.eq_ofNat_of_zero_le h0
  obtain ⟨q, rfl⟩ := Int.eq_ofNat_of_zero_le (Int.le_of_lt h)
  rw [← Int.natCast_emod]
  simp only [Int.gcd_natCast_natCast]
  rw [Nat.gcd_comm p q, Nat.gcd_rec q p, Nat.gcd_comm]

theorem magnitude_any (n : Int) (w : World) (h1 : -9223372036854775808 ≤ n) (h2 : n ≤ 9223372036854775807) :
    Calls Tryz.prog 136 #[.int .i64 n] w fun e w' => e = .returned (.int .u64 (ab n)) ∧ w' = w := by
  by_cases h : n < 0
  · go_enter Tryz.func136, Tryz.ntmps136
    go_wp2
    go_ret
    exact ⟨ret_int (wrap_neg n h1 h), rfl⟩
  · go_enter Tryz.func136, Tryz.ntmps136
    go_wp2
    go_ret
    exact ⟨ret_int (ab_pos h).symm, rfl⟩
def gc (a b : Int) : Int := (Int.gcd a b : Nat)
theorem divisor_any (a b : Int) (w : World) (h1 : 0 ≤ a) (h2 : a < 18446744073709551616) (h3 : 0 ≤ b) (h4 : b < 18446744073709551616) :
    Calls Tryz.prog 135 #[.int .u64 a, .int .u64 b] w fun e w' => e = .returned (.int .u64 (gc a b)) ∧ ∃ n, w' = w.drewN n := by
  go_enter Tryz.func135, Tryz.ntmps135
  go_wp2
  go_loopw [0, 1] (fun x y wr => ∃ p q : Int, x = .int .u64 p ∧ y = .int .u64 q ∧ 0 ≤ p ∧ p < 18446744073709551616 ∧ 0 ≤ q ∧ q < 18446744073709551616 ∧ Hid (Int.gcd p q = Int.gcd a b) ∧ ∃ n, wr = w.drewN n) (fun _ y _ => (intOf y).toNat)
  case atStart => exact ⟨a, b, rfl, rfl, h1, h2, h3, h4, rfl, 0, rfl⟩
  case round =>
    obtain ⟨p, q, rfl, rfl, p0, p1, q0, q1, hg, n, rfl⟩ := hrel
    by_cases hq : 0 < q
    · have hq' : (q != 0) = true := by simp; omega
      have hq2 : ¬ q = 0 := by omega
      have hm0 : 0 ≤ p % q := Int.emod_nonneg _ hq2
      have hm1 : p % q < q := Int.emod_lt_of_pos _ hq
      go_wp2
      go_quiet (fail)
      go_wp2
      exact ⟨⟨q, p % q, rfl, rfl, by omega, by omega, by omega, by omega, (gcd_step p q p0 hq).trans hg, n + nq, World.drewN_drewN _ _ _⟩, by simp [intOf]; omega⟩
    · have : q = 0 := by omega
      subst this
      go_wp2
      go_ret
      exact ⟨ret_int (by unfold gc; rw [← hg.out]; simp; omega), n, rfl⟩
/-! ### What a call leaves: new blocks alone. -/
def Up (w w' : World) : Prop := Below w.heap.size w w' ∧ ∀ a, w'.frozen? a = w.frozen? a
theorem Up.refl (w : World) : Up w w := ⟨Below.refl _ _, fun _ => rfl⟩
theorem Up.size {w w' : World} (h : Up w w') : w.heap.size ≤ w'.heap.size := h.1.size
theorem Up.trans {a b c : World} (h : Up a b) (k : Up b c) : Up a c := ⟨h.1.trans (k.1.mono h.1.size), fun x => (k.2 x).trans (h.2 x)⟩
theorem Up.alloc {w w' : World} (h : Up w w') (c : Array Value) (t : TypeId) : Up w (w'.alloc (.cells c t)) :=
  ⟨h.1.alloc h.1.size _, fun a => (frozen?_alloc_cells _ _ _ _).trans (h.2 a)⟩
theorem Up.drewN {w w' : World} (h : Up w w') (n : Nat) : Up w (w'.drewN n) := ⟨below_drewN h.1 n, h.2⟩
theorem Up.drew {w w' : World} (h : Up w w') : Up w w'.drew := ⟨h.1.drew, h.2⟩
theorem Up.setCell {w w' : World} (h : Up w w') {p : Addr} (hp : w.heap.size ≤ p.block) (u : Value) : Up w (w'.setCell p u) :=
  ⟨h.1.setCell hp u, fun a => by rw [World.frozen?_setCell]; exact h.2 a⟩
theorem Up.cell {w w' : World} (h : Up w w') (b o : Nat) (hb : b < w.heap.size) : w'.cell? ⟨b, o, none⟩ = w.cell? ⟨b, o, none⟩ := h.1.cell (p := ⟨b, o, none⟩) hb
theorem Up.grown {w w' : World} (h : Up w w') : Grown w w' := ⟨h.1.frame _, h.2, h.1.size⟩

theorem isOver_any (n d : Int) (w : World) :
    Calls Tryz.prog 124 #[.agg #[.int .i64 n, .int .i64 d]] w fun e w' => e = .returned (.bool (n == 0 && d == 0)) ∧ ∃ c, w' = w.alloc (.cells c 60) := by
  by_cases hn : n = 0
  · by_cases hd : d = 0
    all_goals
      go_enter Tryz.func124, Tryz.ntmps124
      go_wp2
      go_ret
      exact ⟨by simp [hn, hd], _, rfl⟩
  · go_enter Tryz.func124, Tryz.ntmps124
    go_wp2
    go_ret
    exact ⟨by simp [hn], _, rfl⟩

/-- A fraction that is not over. -/
def isV (n d : Int) : Bool := decide (1 ≤ d) && (n != -9223372036854775808) && gc (ab n) d == 1
/-- A fraction that may be. -/
def mayB (n d : Int) : Bool := (n == 0 && d == 0) || isV n d
theorem ab_bd {n : Int} (h1 : -9223372036854775808 ≤ n) (h2 : n ≤ 9223372036854775807) : 0 ≤ ab n ∧ ab n < 18446744073709551616 := by
  unfold ab; split <;> omega

theorem may_any (n d : Int) (w : World) (n1 : -9223372036854775808 ≤ n) (n2 : n ≤ 9223372036854775807) (d1 : -9223372036854775808 ≤ d) (d2 : d ≤ 9223372036854775807) :
    Calls Tryz.prog 123 #[.agg #[.int .i64 n, .int .i64 d]] w fun e w' => e = .returned (.bool (mayB n d)) ∧ Up w w' := by
  obtain ⟨m1, m2⟩ := ab_bd n1 n2
  by_cases hd : d < 1
  · have e1 : mayB n d = (n == 0 && d == 0) := by
      have : decide (1 ≤ d) = false := by simp; omega
      simp [mayB, isV, this]
    rw [e1]; clear e1
    go_enter Tryz.func123, Tryz.ntmps123
    go_wp2_with (go_at_call 124; refine (isOver_any _ _ _).mono ?_; rintro e w' ⟨rfl, c, rfl⟩)
    go_ret
    exact ⟨rfl, ((Up.refl _).alloc _ _).alloc _ _⟩
  · have hd' : 1 ≤ d := by omega
    by_cases hn : n = -9223372036854775808
    · subst hn
      have e1 : mayB (-9223372036854775808) d = false := by
        have : (d == 0) = false := by simp; omega
        simp [mayB, isV]
      rw [e1]; clear e1
      go_enter Tryz.func123, Tryz.ntmps123
      go_wp2_with (go_at_call 124; refine (isOver_any _ _ _).mono ?_; rintro e w' ⟨rfl, c, rfl⟩)
      go_ret
      exact ⟨rfl, ((Up.refl _).alloc _ _).alloc _ _⟩
    · have e1 : mayB n d = (gc (ab n) d == 1) := by
        have a1 : (d == 0) = false := by simp; omega
        have a2 : (n != -9223372036854775808) = true := by simpa using hn
        simp [mayB, isV, a1, a2, hd']
      rw [e1]; clear e1
      have hn' : (n == -9223372036854775808) = false := by simpa using hn
      go_enter Tryz.func123, Tryz.ntmps123
      go_wp2_with fail
      go_quiet (first | (go_at_call 136; exact Calls.quiet_of_same (magnitude_any _ _ n1 n2)) | (go_at_call 135; exact Calls.quiet_of (divisor_any _ _ _ m1 m2 (by omega) (by omega))))
      go_wp2
      go_ret
      exact ⟨rfl, ((Up.refl _).alloc _ _).drewN _⟩
theorem isV_of_may {n d : Int} (h : mayB n d = true) : isV n d = !(n == 0 && d == 0) := by
  unfold mayB at h
  by_cases hz : (n == 0 && d == 0) = true
  · simp at hz; obtain ⟨rfl, rfl⟩ := hz; decide
  · simp only [Bool.not_eq_true] at hz; rw [hz] at h ⊢; simpa using h
theorem isV_of_not {n d : Int} (h : mayB n d = false) : isV n d = false := by
  unfold mayB at h; simp only [Bool.or_eq_false_iff] at h; exact h.2
theorem isV_of_may' {n d : Int} (h : mayB n d = true) : isV n d = decide (0 < d) := by
  rw [isV_of_may h]
  unfold mayB isV at h
  by_cases hd : 0 < d
  · have : (d == 0) = false := by simp; omega
    simp [this, hd]
  · have h1 : decide (1 ≤ d) = false := by simp; omega
    simp [h1] at h
    simp [h]
end Go.Proofs.YtmkbjcoagfnegabGreatDoor
