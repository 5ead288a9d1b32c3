/-
  No more tokens than characters; what a token may be: the law.
-/
import Derived.Test.YtckefmhleklciaaGreatDoorMr
import Derived.Test.YtckefmhleklciaaGreatDoorMd
import Derived.Outline
set_option linter.unusedVariables false
set_option linter.unusedSimpArgs false
namespace Go.Proofs.YtckefmhleklciaaGreatDoor
open Go.RowKit

theorem tb_nil : tb [] = ⟨#[]⟩ := rfl
theorem tb_ne {l : List Int} (h : l ≠ []) : ¬ tb l = ⟨#[]⟩ := by
  intro e
  have : (tb l).data.toList = [] := by rw [e]
  simp [tb] at this
  exact h this
theorem tb_ne2 {l : List Int} (h : l ≠ []) : (¬ tb l = ⟨#[]⟩) ∧ (¬ (tb l).toList = []) ∧ (tb l).toList.isEmpty = false := by
  have e : ¬ (tb l).toList = [] := by
    intro g
    have : (tb l).data.toList = [] := by rw [← Lib.toList_data]; exact g
    simp [tb] at this
    exact h this
  refine ⟨tb_ne h, e, ?_⟩
  cases hh : (tb l).toList with
  | nil => exact absurd hh e
  | cons x r => rfl
/-- A number's fraction, in three cases. -/
def Num3 (n d : Int) (wh : Bool) : Prop := (d = 0 ∧ n = 0) ∨ (0 < d ∧ wh = false) ∨ (d = 1 ∧ wh = true)
theorem num3 {n d : Int} {wh : Bool} (h1 : 0 ≤ d) (h2 : d = 0 → n = 0) (h3 : wh = true → d ≤ 1) : Num3 n d wh := by
  unfold Num3
  by_cases h : d = 0
  · exact .inl ⟨h, h2 h⟩
  · cases wh
    · exact .inr (.inl ⟨by omega, rfl⟩)
    · exact .inr (.inr ⟨by have := h3 rfl; omega, rfl⟩)
theorem few_cases {k : Int} {tx : List Int} {n d : Int} {wh id : Bool} (h : Few ⟨k, tx, n, d, wh, id⟩) :
    ((k = 1 ∨ k = 2 ∨ k = 3 ∨ k = 9) ∧ tx ≠ [] ∧ n = 0 ∧ d = 0 ∧ wh = false ∧ id = false) ∨
    (k = 4 ∧ tx ≠ [] ∧ n = 0 ∧ d = 0 ∧ wh = false) ∨
    (k = 12 ∧ tx ≠ [] ∧ Num3 n d wh ∧ id = false) ∨
    ((k = 10 ∨ k = 11) ∧ tx = [] ∧ Num3 n d wh ∧ id = false) ∨
    ((k = 5 ∨ k = 7) ∧ n = 0 ∧ d = 0 ∧ wh = false ∧ id = false) ∨
    ((1 ≤ k ∧ k ≤ 24 ∧ k ≠ 1 ∧ k ≠ 2 ∧ k ≠ 3 ∧ k ≠ 9 ∧ k ≠ 4 ∧ k ≠ 12 ∧ k ≠ 10 ∧ k ≠ 11 ∧ k ≠ 5 ∧ k ≠ 7) ∧ tx = [] ∧ n = 0 ∧ d = 0 ∧ wh = false ∧ id = false) := by
  obtain ⟨lo, hi, nam, txt, num, hid, den⟩ := h
  simp only at lo hi nam txt num hid den
  have hid' : k ≠ 4 → id = false := fun h => by
    cases id
    · rfl
    · exact absurd (hid rfl) h
  by_cases h1 : k = 1 ∨ k = 2 ∨ k = 3 ∨ k = 9
  · refine .inl ⟨h1, ?_⟩
    have e : kNam k = true ∧ kNum k = false := by rcases h1 with rfl | rfl | rfl | rfl <;> exact ⟨by decide, by decide⟩
    obtain ⟨a, b, c⟩ := num e.2
    exact ⟨nam e.1, a, b, c, hid' (by omega)⟩
  by_cases h4 : k = 4
  · subst h4
    obtain ⟨a, b, c⟩ := num (by decide)
    exact .inr (.inl ⟨rfl, nam (by decide), a, b, c⟩)
  by_cases h12 : k = 12
  · subst h12
    obtain ⟨a, b, c⟩ := den (by decide)
    exact .inr (.inr (.inl ⟨rfl, nam (by decide), num3 a b c, hid' h4⟩))
  by_cases h10 : k = 10 ∨ k = 11
  · have e : kNum k = true ∧ kTxt k = false := by rcases h10 with rfl | rfl <;> exact ⟨by decide, by decide⟩
    obtain ⟨a, b, c⟩ := den e.1
    exact .inr (.inr (.inr (.inl ⟨h10, txt e.2, num3 a b c, hid' h4⟩)))
  by_cases h5 : k = 5 ∨ k = 7
  · have e : kNum k = false := by rcases h5 with rfl | rfl <;> decide
    obtain ⟨a, b, c⟩ := num e
    exact .inr (.inr (.inr (.inr (.inl ⟨h5, a, b, c, hid' h4⟩))))
  · have e1 : kNum k = false := by
      simp only [kNum, Bool.or_eq_false_iff, beq_eq_false_iff_ne]; omega
    have e2 : kTxt k = false := by
      simp only [kTxt, kNam, Bool.or_eq_false_iff, beq_eq_false_iff_ne]; omega
    obtain ⟨a, b, c⟩ := num e1
    exact .inr (.inr (.inr (.inr (.inr ⟨by omega, txt e2, a, b, c, hid' h4⟩))))
def RelFw (w1 : World) (n : Nat) (i : Value) (wr : World) : Prop := RelSm n i ∧ Below w1.heap.size w1 wr
theorem RelFw.mk {w1 : World} {n : Nat} (k : Nat) {i : Value} {wr : World} (h1 : k ≤ n) (h2 : i = .int .i64 k) (h3 : Below w1.heap.size w1 wr) : RelFw w1 n i wr := ⟨⟨k, h1, h2⟩, h3⟩
theorem Six.below {w w' : World} {b o : Nat} {k : Int} {t : ByteArray} {n d : Int} {wh i : Bool} (h : Six w b o k t n d wh i) (hb : b < w.heap.size) (hw : Below w.heap.size w w') : Six w' b o k t n d wh i :=
  ⟨(hw.cell (p := ⟨b, o, none⟩) hb).trans h.c0, (hw.cell (p := ⟨b, o + 1, none⟩) hb).trans h.c1, (hw.cell (p := ⟨b, o + 2, none⟩) hb).trans h.c2, (hw.cell (p := ⟨b, o + 3, none⟩) hb).trans h.c3, (hw.cell (p := ⟨b, o + 4, none⟩) hb).trans h.c4, (hw.cell (p := ⟨b, o + 5, none⟩) hb).trans h.c5⟩
set_option maxRecDepth 100000 in
set_option maxHeartbeats 4000000 in
theorem law_few (l : List Int) (v : Value) (w : World) (hv : Nums .i32 w v l) (hl : l.length ≤ 250000000) :
    Calls Tryz.prog 5 #[v] w fun e w' => e = .returned (.bool true) ∧ Below w.heap.size w w' := by
  obtain ⟨a0, n0, c0, rfl, hn0, _⟩ := hv.form
  have HV := hide hv
  have HL := hide hl
  obtain ⟨fw1, fw2⟩ := toks_few (chs l).length (chs l) (Nat.le_refl _)
  rw [chs_len] at fw1
  obtain ⟨ts, hts⟩ : ∃ x, toks (chs l) = x := ⟨_, rfl⟩
  have TS := hide hts
  rw [hts] at fw1 fw2
  have FW := hide fw2
  clear fw2 hts hv
  have hln : ts.length ≤ n0 := by omega
  have hn0b : n0 ≤ 250000000 := by omega
  clear hn0 fw1 hl
  go_enter Tryz.func5, Tryz.ntmps5
  go_wp2_with (go_at_call 9; refine (toksP_any l _ _ HV.out HL.out).mono ?_; rintro e w1 ⟨u, rfl, N, B⟩; rw [TS.out] at N; replace B := hide B; obtain ⟨m, hm, tu, cu, rfl⟩ : ∃ m, m = ts.length ∧ ∃ tu cu, u = .slice tu m cu := (by rcases N with ⟨a, c, rfl, rfl⟩ | ⟨b, o, n, c, rfl, hn, _⟩; exact ⟨0, rfl, a, c, rfl⟩; exact ⟨n, hn, _, c, rfl⟩); have hmn : m ≤ n0 := (by omega); have hgt : ¬ n0 < m := (by omega); have hgd : decide (n0 < m) = false := (by simpa using hmn); replace N := hide N; replace hm := hide hm; clear hln)
  go_loopw [18] (fun i wr => RelFw w1 m i wr) (fun i _ => m - (intOf i).toNat)
  case atStart => exact .mk 0 (by omega) rfl (Below.refl _ _)
  case round =>
    obtain ⟨⟨k, hk, rfl⟩, BR⟩ := hrel
    replace BR := hide BR
    by_cases hlt : k < m
    · obtain ⟨τ, hτ⟩ : ∃ τ, ts[k]? = some τ := ⟨_, List.getElem?_eq_getElem (by rw [← hm.out]; exact hlt)⟩
      have hf := FW.out τ (List.mem_of_getElem? hτ)
      rcases N.out with ⟨_, _, _, hN⟩ | ⟨b, o, n, c, hsl, hn, _, hbw, hc, _, hc9, hcell⟩
      · rw [hN] at hτ; cases hτ
      · have h6 := (Six.of (hcell k τ hτ)).below hbw BR.out
        obtain ⟨rfl, rfl, rfl⟩ : tu = some ⟨b, o, none⟩ ∧ m = n ∧ cu = c := by simpa using hsl
        clear hcell hsl hn hτ
        obtain ⟨kk, tx, nu, de, wh, id⟩ := τ
        obtain ⟨p0, p1, p2, p3, p4, p5⟩ := h6
        simp only at p0 p1 p2 p3 p4 p5
        rcases few_cases hf with ⟨h1, h2, rfl, rfl, rfl, rfl⟩ | ⟨rfl, h2, rfl, rfl, rfl⟩ | ⟨rfl, h2, h3, rfl⟩ | ⟨h1, rfl, h3, rfl⟩ | ⟨h1, rfl, rfl, rfl, rfl⟩ | ⟨⟨q1, q2, q3, q4, q5, q6, q7, q8, q9, q10, q11, q12⟩, rfl, rfl, rfl, rfl, rfl⟩
        · obtain ⟨e2, e2', e2''⟩ := tb_ne2 h2
          clear hf h2
          generalize tb tx = tt at *
          rcases h1 with rfl | rfl | rfl | rfl
          all_goals
            as_aux_lemma =>
              go_wp2
              exact ⟨.mk (k + 1) (by omega) (by go_num) (bplus BR.out _), by simp [intOf]; omega⟩
        · obtain ⟨e2, e2', e2''⟩ := tb_ne2 h2
          clear hf h2
          generalize tb tx = tt at *
          cases id
          all_goals
            as_aux_lemma =>
              go_wp2
              exact ⟨.mk (k + 1) (by omega) (by go_num) (bplus BR.out _), by simp [intOf]; omega⟩
        · obtain ⟨e2, e2', e2''⟩ := tb_ne2 h2
          clear hf h2
          generalize tb tx = tt at *
          rcases h3 with ⟨rfl, rfl⟩ | ⟨h3, rfl⟩ | ⟨rfl, rfl⟩
          · cases wh
            all_goals
              as_aux_lemma =>
                go_wp2
                exact ⟨.mk (k + 1) (by omega) (by go_num) (bplus BR.out _), by simp [intOf]; omega⟩
          · have e3 : ¬ de < 0 := by omega
            have e4 : ¬ de = 0 := by omega
            as_aux_lemma =>
              go_wp2
              exact ⟨.mk (k + 1) (by omega) (by go_num) (bplus BR.out _), by simp [intOf]; omega⟩
          · as_aux_lemma =>
              go_wp2
              exact ⟨.mk (k + 1) (by omega) (by go_num) (bplus BR.out _), by simp [intOf]; omega⟩
        · rw [tb_nil] at p1
          clear hf
          rcases h1 with rfl | rfl
          all_goals
            rcases h3 with ⟨rfl, rfl⟩ | ⟨h3, rfl⟩ | ⟨rfl, rfl⟩
            · cases wh
              all_goals
                as_aux_lemma =>
                  go_wp2
                  exact ⟨.mk (k + 1) (by omega) (by go_num) (bplus BR.out _), by simp [intOf]; omega⟩
            · have e3 : ¬ de < 0 := by omega
              have e4 : ¬ de = 0 := by omega
              as_aux_lemma =>
                go_wp2
                exact ⟨.mk (k + 1) (by omega) (by go_num) (bplus BR.out _), by simp [intOf]; omega⟩
            · as_aux_lemma =>
                go_wp2
                exact ⟨.mk (k + 1) (by omega) (by go_num) (bplus BR.out _), by simp [intOf]; omega⟩
        · clear hf
          generalize tb tx = tt at *
          rcases h1 with rfl | rfl
          all_goals
            as_aux_lemma =>
              go_wp2
              exact ⟨.mk (k + 1) (by omega) (by go_num) (bplus BR.out _), by simp [intOf]; omega⟩
        · rw [tb_nil] at p1
          have s1 : ¬ kk < 1 := by omega
          have s2 : ¬ 24 < kk := by omega
          clear hf
          as_aux_lemma =>
            go_wp2
            exact ⟨.mk (k + 1) (by omega) (by go_num) (bplus BR.out _), by simp [intOf]; omega⟩
    · go_wp2_with (go_at_call 11; refine (awakeT_any _).mono ?_; rintro e w2 ⟨rfl, B2⟩; replace B := hide (bto B.out (bto BR.out B2)); clear B2)
      go_ret
      exact ⟨rfl, B.out⟩
end Go.Proofs.YtckefmhleklciaaGreatDoor
