/-
  The law: what is decoded is decoded again as it is.
-/
import Derived.Test.YtklibbahbclekabUtfO
set_option linter.unusedVariables false
set_option linter.unusedSimpArgs false
namespace Go.Proofs.Ytklibbahbclekab
open Go.RowKit

theorem fol_no (m : Nat) : ∀ (c lo hi : Int) (k : Nat) (r : List Int), (fol m c lo hi k r).2.2 = false → (fol m c lo hi k r).1 = 65533 := by
  induction m with
  | zero => intro c lo hi k r h; simp [fol] at h
  | succ m ih =>
    intro c lo hi k r
    cases r with
    | nil => simp [fol]
    | cons b r =>
      simp only [fol]
      split
      · simp
      · exact ih _ _ _ _ _
theorem stp_no (bs : List Int) (h : (stp bs).2.2 = false) : (stp bs).1 = 65533 := by
  cases bs with
  | nil => rfl
  | cons a r =>
    simp only [stp] at h ⊢
    split at h
    · rename_i q; rw [if_pos q]
    · rename_i q; rw [if_neg q]; exact fol_no _ _ _ _ _ _ h
theorem stp_isC (bs : List Int) (hb : By bs) (hne : bs ≠ []) : isC (stp bs).1 = true := by
  by_cases h : (stp bs).2.2 = true
  · exact (stp_back bs hb hne h).1
  · rw [stp_no bs (by simpa using h)]; rfl
theorem raw_isC (n : Nat) : ∀ bs : List Int, bs.length ≤ n → By bs → ∀ x ∈ raw bs, isC x = true := by
  induction n with
  | zero => intro bs h _ x hx; obtain rfl : bs = [] := List.eq_nil_of_length_eq_zero (by omega); rw [raw_nil] at hx; simp at hx
  | succ n ih =>
    intro bs h hb x hx
    by_cases hne : bs = []
    · subst hne; rw [raw_nil] at hx; simp at hx
    · have hs := stp_len bs hne
      rw [raw_cut hne] at hx
      rcases List.mem_cons.1 hx with rfl | hx
      · exact stp_isC bs hb hne
      · exact ih _ (by rw [List.length_drop]; omega) (hb.drop _) x hx
/-- A character that a stylesheet may hold. -/
def Good (x : Int) : Prop := isC x = true ∧ x ≠ 0 ∧ x ≠ 12 ∧ x ≠ 13
theorem tr_good {x : Int} (h : isC x = true) : Good (tr x) := by
  unfold tr Good
  split
  · exact ⟨by decide, by decide, by decide, by decide⟩
  · split
    · exact ⟨by decide, by decide, by decide, by decide⟩
    · exact ⟨h, by omega, by omega, by omega⟩
theorem lin_good (l : List Int) : ∀ (p : Int), (∀ x ∈ l, isC x = true) → ∀ x ∈ lin p l, Good x := by
  induction l with
  | nil => intro p _ x hx; simp [lin] at hx
  | cons y l ih =>
    intro p h x hx
    simp only [lin] at hx
    rcases List.mem_append.1 hx with hx | hx
    · split at hx
      · simp at hx
      · simp at hx; subst hx; exact tr_good (h y (by simp))
    · exact ih y (fun z hz => h z (by simp [hz])) x hx
theorem dec_good (bs : List Int) (hb : By bs) : ∀ x ∈ dec bs, Good x := lin_good _ 0 (raw_isC _ _ (Nat.le_refl _) hb.cut)
theorem lin_same (l : List Int) : ∀ (p : Int), p ≠ 13 → (∀ x ∈ l, Good x) → lin p l = l := by
  induction l with
  | nil => intro p _ _; rfl
  | cons y l ih =>
    intro p hp h
    obtain ⟨h0, h1, h2, h3⟩ := h y (by simp)
    simp only [lin]
    rw [if_neg (by omega), ih y h3 (fun z hz => h z (by simp [hz]))]
    have : tr y = y := by unfold tr; rw [if_neg (by omega), if_neg h1]
    rw [this]; rfl
theorem mark_form {bs : List Int} (h : mark bs = true) : ∃ r, bs = 239 :: 187 :: 191 :: r := by
  unfold mark at h
  simp only [Bool.and_eq_true, decide_eq_true_eq] at h
  obtain ⟨h, h0, h1, h2⟩ := h
  match bs, h with
  | a :: b :: c :: r, _ =>
    simp [gt] at h0 h1 h2
    exact ⟨r, by rw [h0, h1, h2]⟩
theorem mark_enc {l : List Int} (hg : ∀ x ∈ l, Good x) (h0 : gt l 0 ≠ 65279) : mark (enc l) = false := by
  by_cases hm : mark (enc l) = true
  · obtain ⟨r, e⟩ := mark_form hm
    cases l with
    | nil => simp [enc] at e
    | cons x l =>
      have hx := (hg x (by simp)).1
      have s1 : stp (enc (x :: l)) = (x, (enc1 x).length, true) := by rw [enc_cons, chr_yes hx]; exact stp_enc x _ hx
      rw [e] at s1
      have s2 : stp (239 :: 187 :: 191 :: r) = (65279, 3, true) := by simp [stp, szOf, fol, ldOf, loOf, hiOf]
      rw [s2] at s1
      have : (65279 : Int) = x := congrArg Prod.fst s1
      exact absurd (by simp [gt, this]) h0
  · simpa using hm
theorem dec_same {l : List Int} (hg : ∀ x ∈ l, Good x) (h0 : gt l 0 ≠ 65279) : dec (enc l) = l := by
  have e1 : cut (enc l) = enc l := by unfold cut; rw [mark_enc hg h0]; rfl
  have e2 : allB l = true := by unfold allB; rw [List.all_eq_true]; exact fun x hx => (hg x hx).1
  unfold dec
  rw [e1, raw_enc, (map_chr l).2 e2]
  exact lin_same l 0 (by decide) hg
theorem dec_len (bs : List Int) : (dec bs).length ≤ bs.length := by
  have h : ∀ (l : List Int) (p : Int), (lin p l).length ≤ l.length := by
    intro l
    induction l with
    | nil => intro p; simp [lin]
    | cons x l ih =>
      intro p
      have := ih x
      simp only [lin]
      split <;> simp <;> omega
  have h1 := h (raw (cut bs)) 0
  have h2 := (raw_le (cut bs)).1
  have h3 := cut_len bs
  unfold dec
  omega
def RelK (n : Nat) (i : Value) : Prop := ∃ k : Nat, k ≤ n ∧ i = .int .i64 k
theorem RelK.mk {n : Nat} {i : Value} (k : Nat) (h1 : k ≤ n) (h2 : i = .int .i64 k) : RelK n i := ⟨k, h1, h2⟩
theorem gt_mem {l : List Int} {k : Nat} (h : k < l.length) : gt l k ∈ l := by rw [gt_eq h]; exact List.getElem_mem h
theorem good_bd {x : Int} (h : Good x) : 0 ≤ x ∧ x ≤ 1114111 := by have := (isC_iff x).1 h.1; omega
set_option maxHeartbeats 2000000 in
theorem law_once (bs : List Int) (v : Value) (w : World) (hb : By bs) (hv : Nums .u8 w v bs) (hl : bs.length ≤ 1048576) :
    Calls Try.prog 3 #[v] w fun e w' => e = .returned (.bool true) ∧ Below w.heap.size w w' := by
  replace hv := hide hv
  have L1 := dec_len bs
  have L2 := (enc_len (dec bs)).2
  have G := hide (dec_good bs hb)
  have B := hide (Below.refl w.heap.size w)
  go_enter Try.func3, Try.ntmps3
  go_wp2_with (go_at_call 4; refine (decP_any bs v _ hb hv.out (by omega)).mono ?_; rintro e w1 ⟨u1, rfl, N1, B1⟩; obtain ⟨a1, n1, c1, rfl, hn1, hn19, _, hc1⟩ := N1.form; replace N1 := hide N1; replace B := hide (bto B.out B1); have HN1 := hide hn1; have HC1 := hide hc1; have hnb : n1 ≤ 1048576 := (by omega); clear hn1 hc1 B1)
  go_loop [10] (fun i => RelK n1 i) (fun i => n1 - (intOf i).toNat)
  case atStart => exact .mk 0 (by omega) rfl
  case round =>
    obtain ⟨k, hk, rfl⟩ := hrel
    by_cases hlt : k < n1
    · obtain ⟨b1, o1, rfl, hbw1, hcl1, hc91, hcc1⟩ := HC1.out (by omega)
      have cx := hcc1 k hlt
      have g := G.out _ (gt_mem (l := dec bs) (k := k) (by rw [← HN1.out]; exact hlt))
      obtain ⟨x0, x1⟩ := good_bd g
      obtain ⟨_, q1, q2, q3⟩ := g
      clear hcc1
      generalize gt (dec bs) k = x at *
      have y1 : (x == 0) = false := by simp [q1]
      have y2 : (x == 12) = false := by simp [q2]
      have y3 : (x == 13) = false := by simp [q3]
      clear q1 q2 q3
      go_wp2
      go_round
      case rel => exact .mk (k + 1) (by omega) (by go_num)
      case measure => simp [intOf]; omega
    · have hkn : k = n1 := by omega
      subst hkn
      by_cases h0 : k = 0
      · have E := hide (show dec bs = [] from List.eq_nil_of_length_eq_zero (by rw [← HN1.out]; exact h0))
        have D := hide (show dec (enc (dec bs)) = dec bs from dec_same G.out (by rw [E.out]; decide))
        subst h0
        go_wp2_with (first
          | (go_at_call 7; refine (encP_any (dec bs) _ _ N1.out (by omega)).mono ?_; rintro e w2 ⟨u2, rfl, N2, B2⟩; replace N2 := hide N2; replace N1 := hide (N1.out.below B2); replace B := hide (bto B.out B2); clear B2)
          | (go_at_call 4; refine (decP_any (enc (dec bs)) _ _ (by_enc _) N2.out (by omega)).mono ?_; rintro e w3 ⟨u3, rfl, N3, B3⟩; rw [D.out] at N3; replace N3 := hide N3; replace N1 := hide (N1.out.below B3); replace B := hide (bto B.out B3); clear B3)
          | (go_at_call 6; refine (same_any (dec bs) (dec bs) _ _ _ N3.out N1.out).mono ?_; rintro e w4 ⟨rfl, B4⟩; rw [eqB_refl]; replace B := hide (bto B.out B4); clear B4)
          | (go_at_call 5; refine (awake_any _).mono ?_; rintro e w5 ⟨rfl, B5⟩; replace B := hide (bto B.out B5); clear B5))
        go_ret
        exact ⟨rfl, B.out⟩
      · obtain ⟨b1, o1, rfl, hbw1, hcl1, hc91, hcc1⟩ := HC1.out (by omega)
        have cx : w1.cell? ⟨b1, o1, none⟩ = some (.int .i32 (gt (dec bs) 0)) := hcc1 0 (by omega)
        have hpos : 0 < k := by omega
        clear hcc1 HC1
        by_cases hf : gt (dec bs) 0 = 65279
        · rw [hf] at cx
          clear hf
          go_wp2_with (go_at_call 5; refine (awake_any _).mono ?_; rintro e w5 ⟨rfl, B5⟩; replace B := hide (bto B.out B5); clear B5)
          go_ret
          exact ⟨rfl, B.out⟩
        · have D := hide (show dec (enc (dec bs)) = dec bs from dec_same G.out hf)
          generalize gt (dec bs) 0 = y at *
          have hy : (y == 65279) = false := by simp [hf]
          clear hf
          go_wp2_with (first
            | (go_at_call 7; refine (encP_any (dec bs) _ _ N1.out (by omega)).mono ?_; rintro e w2 ⟨u2, rfl, N2, B2⟩; replace N2 := hide N2; replace N1 := hide (N1.out.below B2); replace B := hide (bto B.out B2); clear B2)
            | (go_at_call 4; refine (decP_any (enc (dec bs)) _ _ (by_enc _) N2.out (by omega)).mono ?_; rintro e w3 ⟨u3, rfl, N3, B3⟩; rw [D.out] at N3; replace N3 := hide N3; replace N1 := hide (N1.out.below B3); replace B := hide (bto B.out B3); clear B3)
            | (go_at_call 6; refine (same_any (dec bs) (dec bs) _ _ _ N3.out N1.out).mono ?_; rintro e w4 ⟨rfl, B4⟩; rw [eqB_refl]; replace B := hide (bto B.out B4); clear B4)
            | (go_at_call 5; refine (awake_any _).mono ?_; rintro e w5 ⟨rfl, B5⟩; replace B := hide (bto B.out B5); clear B5))
          go_ret
          exact ⟨rfl, B.out⟩
end Go.Proofs.Ytklibbahbclekab
