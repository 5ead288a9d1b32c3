/-
  Tokens of two texts with a semicolon between: the law.
-/
import Derived.Test.YtckefmhleklciaaGreatDoorMr
import Derived.Test.YtckefmhleklciaaGreatDoorMe
import Derived.Test.YtckefmhleklciaaGreatDoorMc
import Derived.Outline
set_option linter.unusedVariables false
set_option linter.unusedSimpArgs false
namespace Go.Proofs.YtckefmhleklciaaGreatDoor
open Go.RowKit

theorem chs_dcd {bs : List Int} (h : By bs) : chs (dcd bs) = dcd bs := by
  unfold chs
  conv => rhs; rw [← List.map_id (dcd bs)]
  refine List.map_congr_left fun x hx => ?_
  have := (dec_good bs h x hx).1
  unfold chr
  rw [if_pos this]; rfl
/-- The front of a slice of tokens. -/
theorem Toks.pre {w : World} {b o n c : Nat} {xs ys : List Tk} (h : Toks w (.slice (some ⟨b, o, none⟩) n c) (xs ++ ys)) : Toks w (.slice (some ⟨b, o, none⟩) xs.length c) xs := by
  by_cases h0 : xs.length = 0
  · obtain rfl : xs = [] := List.eq_nil_of_length_eq_zero h0
    exact .inl ⟨_, _, rfl, rfl⟩
  · rcases h with ⟨a, c', e, h⟩ | ⟨b', o', n', c', e, h2, h3, h4, h5, h6, h7, h8⟩
    · rw [List.append_eq_nil_iff] at h; rw [h.1] at h0; simp at h0
    · simp at e
      obtain ⟨⟨rfl, rfl⟩, rfl, rfl⟩ := e
      rw [List.length_append] at h2
      exact .inr ⟨b, o, xs.length, c, rfl, rfl, by omega, h4, by omega, by omega, h7, fun i τ hi => h8 i τ (by rw [List.getElem?_append_left (List.getElem?_eq_some_iff.1 hi).1]; exact hi)⟩
/-- The rest of a slice of tokens. -/
theorem Toks.suf {w : World} {b o n c : Nat} {xs ys : List Tk} (h : Toks w (.slice (some ⟨b, o, none⟩) n c) (xs ++ ys)) (m : Nat) (hm : m = xs.length) : Toks w (.slice (some ⟨b, o + m * 6, none⟩) ys.length (c - m)) ys := by
  subst hm
  by_cases h0 : ys.length = 0
  · obtain rfl : ys = [] := List.eq_nil_of_length_eq_zero h0
    exact .inl ⟨_, _, rfl, rfl⟩
  · rcases h with ⟨a, c', e, h⟩ | ⟨b', o', n', c', e, h2, h3, h4, h5, h6, h7, h8⟩
    · rw [List.append_eq_nil_iff] at h; rw [h.2] at h0; simp at h0
    · simp at e
      obtain ⟨⟨rfl, rfl⟩, rfl, rfl⟩ := e
      rw [List.length_append] at h2
      refine .inr ⟨b, o + xs.length * 6, ys.length, c - xs.length, rfl, rfl, by omega, h4, by omega, by omega, by omega, fun i τ hi j hj => ?_⟩
      have := h8 (xs.length + i) τ (by rw [List.getElem?_append_right (by omega)]; rw [Nat.add_sub_cancel_left]; exact hi) j hj
      rw [← this]
      congr 2
      omega
theorem Toks.form {w : World} {v : Value} {ts : List Tk} (h : Toks w v ts) : ∃ a n c, v = .slice a n c ∧ n = ts.length ∧ (0 < n → ∃ b o, a = some ⟨b, o, none⟩ ∧ n ≤ c ∧ n ≤ 1000000000 ∧ c ≤ 9223372036854775807 ∧ b < w.heap.size) := by
  rcases h with ⟨a, c, rfl, rfl⟩ | ⟨b, o, n, c, rfl, h2, h3, h4, h5, h6, h7, h8⟩
  · exact ⟨a, 0, c, rfl, rfl, fun h => absurd h (by decide)⟩
  · exact ⟨_, n, c, rfl, h2, fun _ => ⟨b, o, rfl, h5, h6, h7, h4⟩⟩
theorem Toks.six {w : World} {b o n c : Nat} {ts : List Tk} (h : Toks w (.slice (some ⟨b, o, none⟩) n c) ts) (i : Nat) (τ : Tk) (hi : ts[i]? = some τ) : Six w b (o + i * 6) τ.kind (tb τ.text) τ.num τ.den τ.whole τ.id := by
  rcases h with ⟨a, c', e, h⟩ | ⟨b', o', n', c', e, h2, h3, h4, h5, h6, h7, h8⟩
  · rw [h] at hi; cases hi
  · simp at e
    obtain ⟨⟨rfl, rfl⟩, rfl, rfl⟩ := e
    exact Six.of (h8 i τ hi)
theorem tail_len {w : World} {a : Option Addr} {n1 n2 c : Nat} {Y : List Tk} (h : n2 = Y.length) (k : Toks w (.slice a Y.length c) Y) : Toks w (.slice a (n1 + (n2 + 1) - (n1 + 1)) c) Y := by
  rw [show n1 + (n2 + 1) - (n1 + 1) = Y.length by omega]; exact k
theorem tail_end (b o n1 n2 c : Nat) (Y : List Tk) (h : n2 = Y.length) (hc : n1 + (n2 + 1) ≤ c) : c = n1 + 1 → ∀ w : World, Toks w (.slice (some ⟨b, o, none⟩) (n1 + (n2 + 1) - (n1 + 1)) 0) Y := fun e w => by
  obtain rfl : Y = [] := List.eq_nil_of_length_eq_zero (by omega)
  rw [show n1 + (n2 + 1) - (n1 + 1) = 0 by omega]
  exact .inl ⟨_, _, rfl, rfl⟩
/-- A byte that holds nothing open. -/
def OkA (a : List Int) (i : Nat) : Prop := gt a i ≠ 34 ∧ gt a i ≠ 39 ∧ gt a i ≠ 92 ∧ gt a i ≠ 40 ∧ ¬ (gt a i = 47 ∧ i + 1 < a.length ∧ gt a (i + 1) = 42) ∧ gt a i < 128
theorem gt_get {a : List Int} {i : Nat} (h : i < a.length) : gt a i = a[i] := by simp [gt, List.getD_eq_getElem?_getD, h]
theorem nx_gt {a : List Int} {i : Nat} (h : i < a.length) : nx a i = gt a i := by simp [gt, nx, List.getD_eq_getElem?_getD, h]
theorem OkA.asc {a : List Int} (hb : By a) (h : ∀ i, i < a.length → OkA a i) : Asc a := fun c hc => by
  obtain ⟨i, hi, rfl⟩ := List.getElem_of_mem hc
  have := h i hi
  have h2 := hb _ hc
  rw [← gt_get hi] at h2 ⊢
  exact ⟨h2.1, this.2.2.2.2.2⟩
theorem OkA.cln {a : List Int} (hb : By a) (h : ∀ i, i < a.length → OkA a i) : Cln a := fun c hc => by
  obtain ⟨i, hi, rfl⟩ := List.getElem_of_mem hc
  have := h i hi
  have h2 := hb _ hc
  rw [← gt_get hi] at h2 ⊢
  exact ⟨this.1, this.2.1, this.2.2.1, this.2.2.2.1, by omega⟩
theorem OkA.nor {a : List Int} (h : ∀ i, i < a.length → OkA a i) : NoR a := fun k ⟨h1, h2⟩ => by
  have k1 := nx_len (s := a) (k := k) (by omega)
  have k2 := nx_len (s := a) (k := k + 1) (by omega)
  rw [nx_gt k1] at h1
  rw [nx_gt k2] at h2
  exact (h k k1).2.2.2.2.1 ⟨h1, k2, h2⟩
def RelPa (n : Nat) (a : List Int) (i : Value) : Prop := ∃ k : Nat, k ≤ n ∧ i = .int .i64 k ∧ Hid (∀ j, j < k → OkA a j)
theorem RelPa.mk {n : Nat} {a : List Int} (k : Nat) {i : Value} (h1 : k ≤ n) (h2 : i = .int .i64 k) (h3 : ∀ j, j < k → OkA a j) : RelPa n a i := ⟨k, h1, h2, h3⟩
theorem OkA.step {a : List Int} {k : Nat} (h : ∀ j, j < k → OkA a j) (hk : OkA a k) : ∀ j, j < k + 1 → OkA a j := fun j hj => by
  by_cases e : j < k
  · exact h j e
  · obtain rfl : j = k := by omega
    exact hk
set_option maxRecDepth 100000 in
set_option maxHeartbeats 4000000 in
theorem law_parts (xs : List Int) (v : Value) (ys : List Int) (u : Value) (w : World) (hx : By xs) (hv : Nums .u8 w v xs) (hv0 : Nil0 v) (hl : xs.length ≤ 1048576)
    (hy : By ys) (hu : Nums .u8 w u ys) (hu0 : Nil0 u) (hl2 : ys.length ≤ 1048576) :
    Calls Tryz.prog 6 #[v, u] w fun e w' => e = .returned (.bool true) ∧ Below w.heap.size w w' := by
  obtain ⟨i8, hi8, hz8, hs8, hb8⟩ := info_parts info8
  have HV := hide hv
  have HU := hide hu
  obtain ⟨a, n, c, rfl, hn, hn9, _, hcell⟩ := hv.form
  obtain ⟨a', n', c', rfl, hn', hn9', _, hcell'⟩ := hu.form
  clear hv hu
  replace hv0 := hide hv0
  replace hu0 := hide hu0
  have HN := hide hn
  have HN' := hide hn'
  have HC := hide hcell
  have HC' := hide hcell'
  have hnb : n ≤ 1048576 := by omega
  have hnb' : n' ≤ 1048576 := by omega
  clear hn hn' hl hl2 hcell hcell' hn9 hn9'
  have HX := hide hx
  have HY := hide hy
  clear hx hy
  go_enter Tryz.func6, Tryz.ntmps6
  go_wp2_with fail
  go_loopw [5] (fun i wr => RelPa n xs i ∧ wr = w) (fun i _ => n - (intOf i).toNat)
  case atStart => exact ⟨.mk 0 (by omega) rfl (fun j hj => absurd hj (by omega)), rfl⟩
  case round =>
    obtain ⟨⟨k, hk, rfl, R⟩, rfl⟩ := hrel
    by_cases hlt : k < n
    · obtain ⟨b, o, rfl, hbw, hnc, hc9, hcell⟩ := HC.out (by omega)
      have p0 := hcell k hlt
      have p1 : k + 1 < n → wr.cell? ⟨b, o + (k + 1), none⟩ = some (.int .u8 (gt xs (k + 1))) := hcell (k + 1)
      have hkx : k < xs.length := by rw [← HN.out]; exact hlt
      have bx := HX.out.at hkx
      clear hcell
      by_cases hok : OkA xs k
      · have R' := hide (OkA.step R.out hok)
        obtain ⟨o1, o2, o3, o4, o5, o6⟩ := hok
        rw [← HN.out] at o5
        generalize gt xs k = x at *
        have e1 : (x == 34) = false := by simpa using o1
        have e2 : (x == 39) = false := by simpa using o2
        have e3 : (x == 92) = false := by simpa using o3
        have e4 : (x == 40) = false := by simpa using o4
        have e6 : ¬ 128 ≤ x := by omega
        by_cases h47 : x = 47
        · subst h47
          by_cases hk1 : k + 1 < n
          · have p2 := p1 hk1
            have o5' : gt xs (k + 1) ≠ 42 := fun e => o5 ⟨rfl, hk1, e⟩
            clear o5 p1
            generalize gt xs (k + 1) = y at *
            have e5 : (y == 42) = false := by simpa using o5'
            have q1 : (k : Int) + 1 < n := by omega
            as_aux_lemma =>
              go_wp2
              exact ⟨⟨.mk (k + 1) (by omega) (by go_num) R'.out, trivial⟩, by simp [intOf]; omega⟩
          · have q1 : ¬ (k : Int) + 1 < n := by omega
            clear o5 p1
            as_aux_lemma =>
              go_wp2
              exact ⟨⟨.mk (k + 1) (by omega) (by go_num) R'.out, trivial⟩, by simp [intOf]; omega⟩
        · have e5 : (x == 47) = false := by simpa using h47
          clear o5 p1
          as_aux_lemma =>
            go_wp2
            exact ⟨⟨.mk (k + 1) (by omega) (by go_num) R'.out, trivial⟩, by simp [intOf]; omega⟩
      · have hbad : gt xs k = 34 ∨ gt xs k = 39 ∨ gt xs k = 92 ∨ gt xs k = 40 ∨ (gt xs k = 47 ∧ k + 1 < n ∧ gt xs (k + 1) = 42) ∨ 128 ≤ gt xs k := by
          unfold OkA at hok
          rw [← HN.out] at hok
          omega
        clear hok
        generalize gt xs k = x at *
        rcases hbad with rfl | rfl | rfl | rfl | ⟨rfl, hk1, h42⟩ | h128
        iterate 4
          clear p1
          as_aux_lemma =>
            go_wp2_with (go_at_call 11; refine (awakeT_any _).mono ?_; rintro e w2 ⟨rfl, B2⟩)
            go_ret
            exact ⟨rfl, B2⟩
        · have p2 := p1 hk1
          rw [h42] at p2
          have q1 : (k : Int) + 1 < n := by omega
          clear p1 h42
          as_aux_lemma =>
            go_wp2_with (go_at_call 11; refine (awakeT_any _).mono ?_; rintro e w2 ⟨rfl, B2⟩)
            go_ret
            exact ⟨rfl, B2⟩
        · have e1 : (x == 34) = false := by simp; omega
          have e2 : (x == 39) = false := by simp; omega
          have e3 : (x == 92) = false := by simp; omega
          have e4 : (x == 40) = false := by simp; omega
          have e5 : (x == 47) = false := by simp; omega
          clear p1
          as_aux_lemma =>
            go_wp2_with (go_at_call 11; refine (awakeT_any _).mono ?_; rintro e w2 ⟨rfl, B2⟩)
            go_ret
            exact ⟨rfl, B2⟩
    · have OK := fun i (hi : i < xs.length) => R.out i (by have := HN.out; omega)
      have AS := OkA.asc HX.out OK
      have CL := OkA.cln HX.out OK
      have NR := OkA.nor OK
      clear OK R
      obtain ⟨X, hX⟩ : ∃ X, toks (chs (dcd xs)) = X := ⟨_, rfl⟩
      obtain ⟨Y, hY⟩ : ∃ Y, toks (chs (dcd ys)) = Y := ⟨_, rfl⟩
      have TX := hide hX
      have TY := hide hY
      have BB := hide (show By (xs ++ [59] ++ ys) from (HX.out.app (by intro x hx; simp at hx; omega)).app HY.out)
      have TZ' : mark ys = false → toks (chs (dcd (xs ++ [59] ++ ys))) = X ++ tk 17 :: Y := fun hm => by
        rw [chs_dcd BB.out, List.append_assoc]
        show toks (dcd (xs ++ 59 :: ys)) = _
        rw [toks_parts AS CL NR hm, ← hX, ← hY, chs_dcd HX.out, chs_dcd HY.out]
      have LX := hide (show X.length ≤ 1048576 by
        have h := (toks_few (chs (dcd xs)).length (chs (dcd xs)) (Nat.le_refl _)).1
        rw [hX, chs_len] at h
        have := dcd_len xs; have := HN.out; omega)
      have LY := hide (show Y.length ≤ 1048576 by
        have h := (toks_few (chs (dcd ys)).length (chs (dcd ys)) (Nat.le_refl _)).1
        rw [hY, chs_len] at h
        have := dcd_len ys; have := HN'.out; omega)
      have B := hide (Below.refl wr.heap.size wr)
      clear hX hY AS CL NR
      rcases mark_cases ys with ⟨m1, hm⟩ | ⟨m1, m2, hm⟩ | ⟨m1, m2, m3, hm⟩ | ⟨m1, m2, m3, m4, hm⟩ | ⟨m1, m2, m3, m4, hm⟩
      · have TZ := hide (TZ' hm)
        rw [← HN'.out] at m1
        have mm : ¬ 2 < n' := by omega
        have mi : ¬ (2 : Int) < (n' : Int) := by omega
        clear TZ' hm hk
        as_aux_lemma =>
          go_wp2_with (first
            | (at_builtin; refine wpList_append_nums rfl (.tmp 94) (.tmp 95) 28 rfl .u8 5 i8 1 Tryz.underlying28 hi8 hz8 hs8 hb8 _ [] rfl (Own.fresh wr _ _) _ xs rfl (HV.out.below (bplus (Below.refl _ _) _)) hv0.out (by have := HN.out; simp; omega) (by have := HN.out; simp; omega) ?_; intro v3 w3 O3; rw [List.nil_append] at O3; replace O3 := hide O3)
            | (at_builtin; refine wpList_append_own _ rfl (.tmp 96) (.tmp 97) 28 rfl wr.heap.size 5 i8 (.int .u8 0) 1 1 Tryz.underlying28 hi8 hz8 hs8 hb8 rfl (by decide) _ _ _ rfl (O3.out.1.alloc _) ⟨_, 0, none⟩ 1 1 [.int .u8 59] rfl rfl (news1 _ _ _) (by intro u hu; simp at hu; subst hu; rfl) (by unfold maxLen; have := HN.out; omega) (by have := HN.out; omega) (by have := O3.out.2.size; simp; omega) ?_; intro v4 w4 hown hgrow _; have O4 := hide (O3.out.grow (ys := [59]) hown hgrow); clear hown hgrow O3)
            | (at_builtin; refine wpList_append_nums rfl (.tmp 98) (.tmp 99) 28 rfl .u8 5 i8 1 Tryz.underlying28 hi8 hz8 hs8 hb8 _ (xs ++ [59]) rfl O4.out _ ys rfl (HU.out.below O4.out.2) hu0.out (by have := HN.out; have := HN'.out; simp; omega) (by have := HN.out; have := HN'.out; simp; omega) ?_; intro v5 w5 O5; have N5 := hide (O5.nums (by have := HN.out; have := HN'.out; simp; omega)); replace B := hide O5.2; clear O4 O5)
            | (go_at_call_of 12 (Value.slice a n c); refine (tbytesP_any xs _ _ HX.out (HV.out.below B.out) (by have := HN.out; omega)).mono ?_; rintro e w6 ⟨u1, rfl, N1, B1⟩; rw [TX.out] at N1; obtain ⟨a1, n1, c1, rfl, hn1, _⟩ := N1.form; replace N1 := hide N1; replace hn1 := hide hn1; replace N5 := hide (N5.out.below B1); replace B := hide (bto B.out B1); clear B1)
            | (go_at_call_of 12 (Value.slice a' n' c'); refine (tbytesP_any ys _ _ HY.out (HU.out.below B.out) (by have := HN'.out; omega)).mono ?_; rintro e w7 ⟨u2, rfl, N2, B2⟩; rw [TY.out] at N2; obtain ⟨a2, n2, c2, rfl, hn2, _⟩ := N2.form; replace N2 := hide N2; replace hn2 := hide hn2; replace N5 := hide (N5.out.below B2); replace N1 := hide (N1.out.below B2); replace B := hide (bto B.out B2); clear B2)
            | (go_at_call 12; refine (tbytesP_any (xs ++ [59] ++ ys) _ _ BB.out N5.out (by have := HN.out; have := HN'.out; simp; omega)).mono ?_; rintro e w8 ⟨u3, rfl, N3, B3⟩; rw [TZ.out] at N3; obtain ⟨a3, n3, c3, rfl, hn3, hf3⟩ := N3.form; have l1 := LX.out; have l2 := LY.out; rw [List.length_append, List.length_cons, ← hn1.out, ← hn2.out] at hn3; rw [← hn1.out] at l1; rw [← hn2.out] at l2; obtain ⟨b3, o3, rfl, hnc3, _, hc93, hb3⟩ := hf3 (by omega); obtain ⟨g0, g1, g2, g3, g4, g5⟩ := N3.six n1 (tk 17) (by rw [hn1.out]; simp); replace g0 : _ = some (Value.int .i64 17) := g0; replace g1 : _ = some (Value.string ⟨#[]⟩) := g1; replace g2 : _ = some (Value.int .i64 0) := g2; replace g3 : _ = some (Value.int .i64 0) := g3; replace g4 : _ = some (Value.bool false) := g4; replace g5 : _ = some (Value.bool false) := g5; have P1 := N3.pre; rw [← hn1.out] at P1; replace P1 := hide P1; have P2 := Toks.suf (xs := X ++ [tk 17]) (ys := Y) (by rw [List.append_assoc]; exact N3) (n1 + 1) (by simp [hn1.out]); replace P2 := hide (tail_len (n1 := n1) hn2.out P2); have P3 := hide (tail_end b3 o3 n1 n2 c3 Y hn2.out (by omega)); replace N3 := hide N3; replace N1 := hide (N1.out.below B3); replace N2 := hide (N2.out.below B3); replace B := hide (bto B.out B3); have e3 : ((n3 : Int) != (n1 : Int) + 1 + (n2 : Int)) = false := (by simp; omega); have e5 : (n1 : Int) + ((n2 : Int) + 1) = (n1 : Int) + 1 + n2 := (by omega); have q1 : n1 < n3 := (by omega); have q2 : n1 + 1 ≤ n3 := (by omega); have q3 : n1 ≤ c3 := (by omega); have q4 : (n1 : Int) + 1 ≤ n3 := (by omega); clear B3 hf3)
            | (go_at_call_of 8 (Value.slice (some ⟨b3, o3, none⟩) n1 c3); refine (sameT_any X _ _ _ P1.out N1.out).mono ?_; rintro e w10 ⟨rfl, B9⟩; replace P2 := hide (P2.out.below B9); replace N2 := hide (N2.out.below B9); replace B := hide (bto B.out B9); clear B9 P1 N1)
            | (go_at_call_of 8 (Value.slice a2 n2 c2); (first | (with_reducible refine (sameT_any Y _ _ _ P2.out N2.out).mono ?_) | (with_reducible refine (sameT_any Y _ _ _ (P3.out (by omega) _) N2.out).mono ?_)); rintro e w11 ⟨rfl, B9⟩; replace B := hide (bto B.out B9); clear B9)
            | (go_at_call 11; refine (awakeT_any _).mono ?_; rintro e w9 ⟨rfl, B9⟩; replace B := hide (bto B.out B9); clear B9))
          all_goals go_ret
          all_goals exact ⟨rfl, B.out⟩
      · have TZ := hide (TZ' hm)
        rw [← HN'.out] at m1
        obtain ⟨b', o', rfl, hbw', hnc', hc9', hcell'⟩ := HC'.out (by omega)
        have d0 := hcell' 0 (by omega)
        have d1 := hcell' 1 (by omega)
        have d2 := hcell' 2 (by omega)
        rw [Nat.add_zero] at d0
        have mm : 2 < n' := by omega
        have mi : (2 : Int) < (n' : Int) := by omega
        clear hcell'
        generalize gt ys 0 = x0 at *
        have f0 : (x0 == 239) = false := by simpa using m2
        clear TZ' hm hk m2 d1 d2
        as_aux_lemma =>
          go_wp2_with (first
            | (at_builtin; refine wpList_append_nums rfl (.tmp 94) (.tmp 95) 28 rfl .u8 5 i8 1 Tryz.underlying28 hi8 hz8 hs8 hb8 _ [] rfl (Own.fresh wr _ _) _ xs rfl (HV.out.below (bplus (Below.refl _ _) _)) hv0.out (by have := HN.out; simp; omega) (by have := HN.out; simp; omega) ?_; intro v3 w3 O3; rw [List.nil_append] at O3; replace O3 := hide O3)
            | (at_builtin; refine wpList_append_own _ rfl (.tmp 96) (.tmp 97) 28 rfl wr.heap.size 5 i8 (.int .u8 0) 1 1 Tryz.underlying28 hi8 hz8 hs8 hb8 rfl (by decide) _ _ _ rfl (O3.out.1.alloc _) ⟨_, 0, none⟩ 1 1 [.int .u8 59] rfl rfl (news1 _ _ _) (by intro u hu; simp at hu; subst hu; rfl) (by unfold maxLen; have := HN.out; omega) (by have := HN.out; omega) (by have := O3.out.2.size; simp; omega) ?_; intro v4 w4 hown hgrow _; have O4 := hide (O3.out.grow (ys := [59]) hown hgrow); clear hown hgrow O3)
            | (at_builtin; refine wpList_append_nums rfl (.tmp 98) (.tmp 99) 28 rfl .u8 5 i8 1 Tryz.underlying28 hi8 hz8 hs8 hb8 _ (xs ++ [59]) rfl O4.out _ ys rfl (HU.out.below O4.out.2) hu0.out (by have := HN.out; have := HN'.out; simp; omega) (by have := HN.out; have := HN'.out; simp; omega) ?_; intro v5 w5 O5; have N5 := hide (O5.nums (by have := HN.out; have := HN'.out; simp; omega)); replace B := hide O5.2; clear O4 O5)
            | (go_at_call_of 12 (Value.slice a n c); refine (tbytesP_any xs _ _ HX.out (HV.out.below B.out) (by have := HN.out; omega)).mono ?_; rintro e w6 ⟨u1, rfl, N1, B1⟩; rw [TX.out] at N1; obtain ⟨a1, n1, c1, rfl, hn1, _⟩ := N1.form; replace N1 := hide N1; replace hn1 := hide hn1; replace N5 := hide (N5.out.below B1); replace B := hide (bto B.out B1); clear B1)
            | (go_at_call_of 12 (Value.slice (some ⟨b', o', none⟩) n' c'); refine (tbytesP_any ys _ _ HY.out (HU.out.below B.out) (by have := HN'.out; omega)).mono ?_; rintro e w7 ⟨u2, rfl, N2, B2⟩; rw [TY.out] at N2; obtain ⟨a2, n2, c2, rfl, hn2, _⟩ := N2.form; replace N2 := hide N2; replace hn2 := hide hn2; replace N5 := hide (N5.out.below B2); replace N1 := hide (N1.out.below B2); replace B := hide (bto B.out B2); clear B2)
            | (go_at_call 12; refine (tbytesP_any (xs ++ [59] ++ ys) _ _ BB.out N5.out (by have := HN.out; have := HN'.out; simp; omega)).mono ?_; rintro e w8 ⟨u3, rfl, N3, B3⟩; rw [TZ.out] at N3; obtain ⟨a3, n3, c3, rfl, hn3, hf3⟩ := N3.form; have l1 := LX.out; have l2 := LY.out; rw [List.length_append, List.length_cons, ← hn1.out, ← hn2.out] at hn3; rw [← hn1.out] at l1; rw [← hn2.out] at l2; obtain ⟨b3, o3, rfl, hnc3, _, hc93, hb3⟩ := hf3 (by omega); obtain ⟨g0, g1, g2, g3, g4, g5⟩ := N3.six n1 (tk 17) (by rw [hn1.out]; simp); replace g0 : _ = some (Value.int .i64 17) := g0; replace g1 : _ = some (Value.string ⟨#[]⟩) := g1; replace g2 : _ = some (Value.int .i64 0) := g2; replace g3 : _ = some (Value.int .i64 0) := g3; replace g4 : _ = some (Value.bool false) := g4; replace g5 : _ = some (Value.bool false) := g5; have P1 := N3.pre; rw [← hn1.out] at P1; replace P1 := hide P1; have P2 := Toks.suf (xs := X ++ [tk 17]) (ys := Y) (by rw [List.append_assoc]; exact N3) (n1 + 1) (by simp [hn1.out]); replace P2 := hide (tail_len (n1 := n1) hn2.out P2); have P3 := hide (tail_end b3 o3 n1 n2 c3 Y hn2.out (by omega)); replace N3 := hide N3; replace N1 := hide (N1.out.below B3); replace N2 := hide (N2.out.below B3); replace B := hide (bto B.out B3); have e3 : ((n3 : Int) != (n1 : Int) + 1 + (n2 : Int)) = false := (by simp; omega); have e5 : (n1 : Int) + ((n2 : Int) + 1) = (n1 : Int) + 1 + n2 := (by omega); have q1 : n1 < n3 := (by omega); have q2 : n1 + 1 ≤ n3 := (by omega); have q3 : n1 ≤ c3 := (by omega); have q4 : (n1 : Int) + 1 ≤ n3 := (by omega); clear B3 hf3)
            | (go_at_call_of 8 (Value.slice (some ⟨b3, o3, none⟩) n1 c3); refine (sameT_any X _ _ _ P1.out N1.out).mono ?_; rintro e w10 ⟨rfl, B9⟩; replace P2 := hide (P2.out.below B9); replace N2 := hide (N2.out.below B9); replace B := hide (bto B.out B9); clear B9 P1 N1)
            | (go_at_call_of 8 (Value.slice a2 n2 c2); (first | (with_reducible refine (sameT_any Y _ _ _ P2.out N2.out).mono ?_) | (with_reducible refine (sameT_any Y _ _ _ (P3.out (by omega) _) N2.out).mono ?_)); rintro e w11 ⟨rfl, B9⟩; replace B := hide (bto B.out B9); clear B9)
            | (go_at_call 11; refine (awakeT_any _).mono ?_; rintro e w9 ⟨rfl, B9⟩; replace B := hide (bto B.out B9); clear B9))
          all_goals go_ret
          all_goals exact ⟨rfl, B.out⟩
      · have TZ := hide (TZ' hm)
        rw [← HN'.out] at m1
        obtain ⟨b', o', rfl, hbw', hnc', hc9', hcell'⟩ := HC'.out (by omega)
        have d0 := hcell' 0 (by omega)
        have d1 := hcell' 1 (by omega)
        have d2 := hcell' 2 (by omega)
        rw [Nat.add_zero] at d0
        have mm : 2 < n' := by omega
        have mi : (2 : Int) < (n' : Int) := by omega
        clear hcell'
        rw [m2] at d0
        generalize gt ys 1 = x1 at *
        have f0 : (x1 == 187) = false := by simpa using m3
        clear TZ' hm hk m2 m3 d2
        as_aux_lemma =>
          go_wp2_with (first
            | (at_builtin; refine wpList_append_nums rfl (.tmp 94) (.tmp 95) 28 rfl .u8 5 i8 1 Tryz.underlying28 hi8 hz8 hs8 hb8 _ [] rfl (Own.fresh wr _ _) _ xs rfl (HV.out.below (bplus (Below.refl _ _) _)) hv0.out (by have := HN.out; simp; omega) (by have := HN.out; simp; omega) ?_; intro v3 w3 O3; rw [List.nil_append] at O3; replace O3 := hide O3)
            | (at_builtin; refine wpList_append_own _ rfl (.tmp 96) (.tmp 97) 28 rfl wr.heap.size 5 i8 (.int .u8 0) 1 1 Tryz.underlying28 hi8 hz8 hs8 hb8 rfl (by decide) _ _ _ rfl (O3.out.1.alloc _) ⟨_, 0, none⟩ 1 1 [.int .u8 59] rfl rfl (news1 _ _ _) (by intro u hu; simp at hu; subst hu; rfl) (by unfold maxLen; have := HN.out; omega) (by have := HN.out; omega) (by have := O3.out.2.size; simp; omega) ?_; intro v4 w4 hown hgrow _; have O4 := hide (O3.out.grow (ys := [59]) hown hgrow); clear hown hgrow O3)
            | (at_builtin; refine wpList_append_nums rfl (.tmp 98) (.tmp 99) 28 rfl .u8 5 i8 1 Tryz.underlying28 hi8 hz8 hs8 hb8 _ (xs ++ [59]) rfl O4.out _ ys rfl (HU.out.below O4.out.2) hu0.out (by have := HN.out; have := HN'.out; simp; omega) (by have := HN.out; have := HN'.out; simp; omega) ?_; intro v5 w5 O5; have N5 := hide (O5.nums (by have := HN.out; have := HN'.out; simp; omega)); replace B := hide O5.2; clear O4 O5)
            | (go_at_call_of 12 (Value.slice a n c); refine (tbytesP_any xs _ _ HX.out (HV.out.below B.out) (by have := HN.out; omega)).mono ?_; rintro e w6 ⟨u1, rfl, N1, B1⟩; rw [TX.out] at N1; obtain ⟨a1, n1, c1, rfl, hn1, _⟩ := N1.form; replace N1 := hide N1; replace hn1 := hide hn1; replace N5 := hide (N5.out.below B1); replace B := hide (bto B.out B1); clear B1)
            | (go_at_call_of 12 (Value.slice (some ⟨b', o', none⟩) n' c'); refine (tbytesP_any ys _ _ HY.out (HU.out.below B.out) (by have := HN'.out; omega)).mono ?_; rintro e w7 ⟨u2, rfl, N2, B2⟩; rw [TY.out] at N2; obtain ⟨a2, n2, c2, rfl, hn2, _⟩ := N2.form; replace N2 := hide N2; replace hn2 := hide hn2; replace N5 := hide (N5.out.below B2); replace N1 := hide (N1.out.below B2); replace B := hide (bto B.out B2); clear B2)
            | (go_at_call 12; refine (tbytesP_any (xs ++ [59] ++ ys) _ _ BB.out N5.out (by have := HN.out; have := HN'.out; simp; omega)).mono ?_; rintro e w8 ⟨u3, rfl, N3, B3⟩; rw [TZ.out] at N3; obtain ⟨a3, n3, c3, rfl, hn3, hf3⟩ := N3.form; have l1 := LX.out; have l2 := LY.out; rw [List.length_append, List.length_cons, ← hn1.out, ← hn2.out] at hn3; rw [← hn1.out] at l1; rw [← hn2.out] at l2; obtain ⟨b3, o3, rfl, hnc3, _, hc93, hb3⟩ := hf3 (by omega); obtain ⟨g0, g1, g2, g3, g4, g5⟩ := N3.six n1 (tk 17) (by rw [hn1.out]; simp); replace g0 : _ = some (Value.int .i64 17) := g0; replace g1 : _ = some (Value.string ⟨#[]⟩) := g1; replace g2 : _ = some (Value.int .i64 0) := g2; replace g3 : _ = some (Value.int .i64 0) := g3; replace g4 : _ = some (Value.bool false) := g4; replace g5 : _ = some (Value.bool false) := g5; have P1 := N3.pre; rw [← hn1.out] at P1; replace P1 := hide P1; have P2 := Toks.suf (xs := X ++ [tk 17]) (ys := Y) (by rw [List.append_assoc]; exact N3) (n1 + 1) (by simp [hn1.out]); replace P2 := hide (tail_len (n1 := n1) hn2.out P2); have P3 := hide (tail_end b3 o3 n1 n2 c3 Y hn2.out (by omega)); replace N3 := hide N3; replace N1 := hide (N1.out.below B3); replace N2 := hide (N2.out.below B3); replace B := hide (bto B.out B3); have e3 : ((n3 : Int) != (n1 : Int) + 1 + (n2 : Int)) = false := (by simp; omega); have e5 : (n1 : Int) + ((n2 : Int) + 1) = (n1 : Int) + 1 + n2 := (by omega); have q1 : n1 < n3 := (by omega); have q2 : n1 + 1 ≤ n3 := (by omega); have q3 : n1 ≤ c3 := (by omega); have q4 : (n1 : Int) + 1 ≤ n3 := (by omega); clear B3 hf3)
            | (go_at_call_of 8 (Value.slice (some ⟨b3, o3, none⟩) n1 c3); refine (sameT_any X _ _ _ P1.out N1.out).mono ?_; rintro e w10 ⟨rfl, B9⟩; replace P2 := hide (P2.out.below B9); replace N2 := hide (N2.out.below B9); replace B := hide (bto B.out B9); clear B9 P1 N1)
            | (go_at_call_of 8 (Value.slice a2 n2 c2); (first | (with_reducible refine (sameT_any Y _ _ _ P2.out N2.out).mono ?_) | (with_reducible refine (sameT_any Y _ _ _ (P3.out (by omega) _) N2.out).mono ?_)); rintro e w11 ⟨rfl, B9⟩; replace B := hide (bto B.out B9); clear B9)
            | (go_at_call 11; refine (awakeT_any _).mono ?_; rintro e w9 ⟨rfl, B9⟩; replace B := hide (bto B.out B9); clear B9))
          all_goals go_ret
          all_goals exact ⟨rfl, B.out⟩
      · have TZ := hide (TZ' hm)
        rw [← HN'.out] at m1
        obtain ⟨b', o', rfl, hbw', hnc', hc9', hcell'⟩ := HC'.out (by omega)
        have d0 := hcell' 0 (by omega)
        have d1 := hcell' 1 (by omega)
        have d2 := hcell' 2 (by omega)
        rw [Nat.add_zero] at d0
        have mm : 2 < n' := by omega
        have mi : (2 : Int) < (n' : Int) := by omega
        clear hcell'
        rw [m2] at d0
        rw [m3] at d1
        generalize gt ys 2 = x2 at *
        have f0 : (x2 == 191) = false := by simpa using m4
        clear TZ' hm hk m2 m3 m4
        as_aux_lemma =>
          go_wp2_with (first
            | (at_builtin; refine wpList_append_nums rfl (.tmp 94) (.tmp 95) 28 rfl .u8 5 i8 1 Tryz.underlying28 hi8 hz8 hs8 hb8 _ [] rfl (Own.fresh wr _ _) _ xs rfl (HV.out.below (bplus (Below.refl _ _) _)) hv0.out (by have := HN.out; simp; omega) (by have := HN.out; simp; omega) ?_; intro v3 w3 O3; rw [List.nil_append] at O3; replace O3 := hide O3)
            | (at_builtin; refine wpList_append_own _ rfl (.tmp 96) (.tmp 97) 28 rfl wr.heap.size 5 i8 (.int .u8 0) 1 1 Tryz.underlying28 hi8 hz8 hs8 hb8 rfl (by decide) _ _ _ rfl (O3.out.1.alloc _) ⟨_, 0, none⟩ 1 1 [.int .u8 59] rfl rfl (news1 _ _ _) (by intro u hu; simp at hu; subst hu; rfl) (by unfold maxLen; have := HN.out; omega) (by have := HN.out; omega) (by have := O3.out.2.size; simp; omega) ?_; intro v4 w4 hown hgrow _; have O4 := hide (O3.out.grow (ys := [59]) hown hgrow); clear hown hgrow O3)
            | (at_builtin; refine wpList_append_nums rfl (.tmp 98) (.tmp 99) 28 rfl .u8 5 i8 1 Tryz.underlying28 hi8 hz8 hs8 hb8 _ (xs ++ [59]) rfl O4.out _ ys rfl (HU.out.below O4.out.2) hu0.out (by have := HN.out; have := HN'.out; simp; omega) (by have := HN.out; have := HN'.out; simp; omega) ?_; intro v5 w5 O5; have N5 := hide (O5.nums (by have := HN.out; have := HN'.out; simp; omega)); replace B := hide O5.2; clear O4 O5)
            | (go_at_call_of 12 (Value.slice a n c); refine (tbytesP_any xs _ _ HX.out (HV.out.below B.out) (by have := HN.out; omega)).mono ?_; rintro e w6 ⟨u1, rfl, N1, B1⟩; rw [TX.out] at N1; obtain ⟨a1, n1, c1, rfl, hn1, _⟩ := N1.form; replace N1 := hide N1; replace hn1 := hide hn1; replace N5 := hide (N5.out.below B1); replace B := hide (bto B.out B1); clear B1)
            | (go_at_call_of 12 (Value.slice (some ⟨b', o', none⟩) n' c'); refine (tbytesP_any ys _ _ HY.out (HU.out.below B.out) (by have := HN'.out; omega)).mono ?_; rintro e w7 ⟨u2, rfl, N2, B2⟩; rw [TY.out] at N2; obtain ⟨a2, n2, c2, rfl, hn2, _⟩ := N2.form; replace N2 := hide N2; replace hn2 := hide hn2; replace N5 := hide (N5.out.below B2); replace N1 := hide (N1.out.below B2); replace B := hide (bto B.out B2); clear B2)
            | (go_at_call 12; refine (tbytesP_any (xs ++ [59] ++ ys) _ _ BB.out N5.out (by have := HN.out; have := HN'.out; simp; omega)).mono ?_; rintro e w8 ⟨u3, rfl, N3, B3⟩; rw [TZ.out] at N3; obtain ⟨a3, n3, c3, rfl, hn3, hf3⟩ := N3.form; have l1 := LX.out; have l2 := LY.out; rw [List.length_append, List.length_cons, ← hn1.out, ← hn2.out] at hn3; rw [← hn1.out] at l1; rw [← hn2.out] at l2; obtain ⟨b3, o3, rfl, hnc3, _, hc93, hb3⟩ := hf3 (by omega); obtain ⟨g0, g1, g2, g3, g4, g5⟩ := N3.six n1 (tk 17) (by rw [hn1.out]; simp); replace g0 : _ = some (Value.int .i64 17) := g0; replace g1 : _ = some (Value.string ⟨#[]⟩) := g1; replace g2 : _ = some (Value.int .i64 0) := g2; replace g3 : _ = some (Value.int .i64 0) := g3; replace g4 : _ = some (Value.bool false) := g4; replace g5 : _ = some (Value.bool false) := g5; have P1 := N3.pre; rw [← hn1.out] at P1; replace P1 := hide P1; have P2 := Toks.suf (xs := X ++ [tk 17]) (ys := Y) (by rw [List.append_assoc]; exact N3) (n1 + 1) (by simp [hn1.out]); replace P2 := hide (tail_len (n1 := n1) hn2.out P2); have P3 := hide (tail_end b3 o3 n1 n2 c3 Y hn2.out (by omega)); replace N3 := hide N3; replace N1 := hide (N1.out.below B3); replace N2 := hide (N2.out.below B3); replace B := hide (bto B.out B3); have e3 : ((n3 : Int) != (n1 : Int) + 1 + (n2 : Int)) = false := (by simp; omega); have e5 : (n1 : Int) + ((n2 : Int) + 1) = (n1 : Int) + 1 + n2 := (by omega); have q1 : n1 < n3 := (by omega); have q2 : n1 + 1 ≤ n3 := (by omega); have q3 : n1 ≤ c3 := (by omega); have q4 : (n1 : Int) + 1 ≤ n3 := (by omega); clear B3 hf3)
            | (go_at_call_of 8 (Value.slice (some ⟨b3, o3, none⟩) n1 c3); refine (sameT_any X _ _ _ P1.out N1.out).mono ?_; rintro e w10 ⟨rfl, B9⟩; replace P2 := hide (P2.out.below B9); replace N2 := hide (N2.out.below B9); replace B := hide (bto B.out B9); clear B9 P1 N1)
            | (go_at_call_of 8 (Value.slice a2 n2 c2); (first | (with_reducible refine (sameT_any Y _ _ _ P2.out N2.out).mono ?_) | (with_reducible refine (sameT_any Y _ _ _ (P3.out (by omega) _) N2.out).mono ?_)); rintro e w11 ⟨rfl, B9⟩; replace B := hide (bto B.out B9); clear B9)
            | (go_at_call 11; refine (awakeT_any _).mono ?_; rintro e w9 ⟨rfl, B9⟩; replace B := hide (bto B.out B9); clear B9))
          all_goals go_ret
          all_goals exact ⟨rfl, B.out⟩
      · rw [← HN'.out] at m1
        obtain ⟨b', o', rfl, hbw', hnc', hc9', hcell'⟩ := HC'.out (by omega)
        have d0 := hcell' 0 (by omega)
        have d1 := hcell' 1 (by omega)
        have d2 := hcell' 2 (by omega)
        rw [Nat.add_zero] at d0
        have mm : 2 < n' := by omega
        have mi : (2 : Int) < (n' : Int) := by omega
        clear hcell'
        rw [m2] at d0
        rw [m3] at d1
        rw [m4] at d2
        clear TZ' hm hk m2 m3 m4
        as_aux_lemma =>
          go_wp2_with (go_at_call 11; refine (awakeT_any _).mono ?_; rintro e w9 ⟨rfl, B9⟩; replace B := hide (bto B.out B9); clear B9)
          go_ret
          exact ⟨rfl, B.out⟩
end Go.Proofs.YtckefmhleklciaaGreatDoor
