/-
  What is read: the tokens of characters; plain.
  What is read: what stands side by side; plain.
  The tokens of characters, written, are read as they were; plain.
  The tokens of characters, written, are read as they were: the list; plain.
  The tokens of characters, written, are read as they were: the theorem; plain.
-/
import Derived.Test.YtcclhdiphcfdfaaGreatDoorKyb
set_option linter.unusedVariables false
set_option linter.unusedSimpArgs false
namespace Go.Proofs.YtcclhdiphcfdfaaGreatDoor

theorem map_chrT {l : List Int} (h : Tx l) : l.map chr = l := by
  conv => rhs; rw [← List.map_id l]
  refine List.map_congr_left fun x hx => ?_
  unfold chr
  rw [if_pos (h x hx).1]; rfl
theorem let_dig {c : Int} (h : isLet c = true) (h1 : isFst c = false) (h2 : c ≠ 45) : isDig c = true := by
  unfold isLet at h
  rw [h1] at h
  simpa [h2] using h
theorem gB_nam {u : List Int} (h : isLet (nx u 0) = true ∨ es2 (nx u 0) (nx u 1) = true) (hn : nmB (nx u 0) (nx u 1) (nx u 2) = false) : gB (nam [] u).1 = true := by
  unfold nmB at hn
  by_cases h45 : nx u 0 = 45
  · rw [if_pos h45] at hn
    simp only [Bool.or_eq_false_iff] at hn
    obtain ⟨⟨f1, f2⟩, f3⟩ := hn
    have f2' : nx u 1 ≠ 45 := by simpa using f2
    have hl : isLet (nx u 0) = true := by rw [h45]; decide
    rw [nam_let hl, h45, nam_pre _ _ _ (Nat.le_refl _)]
    have e0 : nx (u.drop 1) 0 = nx u 1 := by rw [nx_drop]
    have e1 : nx (u.drop 1) 1 = nx u 2 := by rw [nx_drop]
    by_cases h1 : isLet (nx u 1) = true
    · rw [nam_let (s := u.drop 1) (by rw [e0]; exact h1), e0, nam_pre _ _ _ (Nat.le_refl _)]
      have hd := let_dig h1 f1 f2'
      generalize (nam [] ((u.drop 1).drop 1)).1 = q
      show gB (45 :: nx u 1 :: q) = true
      unfold gB
      have a : nx (45 :: nx u 1 :: q) 0 = 45 := rfl
      have b : nx (45 :: nx u 1 :: q) 1 = nx u 1 := rfl
      rw [a, b, hd]
      simp
    · rw [nam_end (s := u.drop 1) (by rw [e0]; simpa using h1) (by rw [e0, e1]; exact f3)]
      show gB [45] = true
      decide
  · rw [if_neg h45] at hn
    simp only [Bool.or_eq_false_iff] at hn
    obtain ⟨f1, f2⟩ := hn
    rw [f2] at h
    have hl : isLet (nx u 0) = true := by simpa using h
    have hd := let_dig hl f1 h45
    rw [nam_let hl, nam_pre _ _ _ (Nat.le_refl _)]
    generalize (nam [] (u.drop 1)).1 = q
    show gB (nx u 0 :: q) = true
    unfold gB
    have a : nx (nx u 0 :: q) 0 = nx u 0 := rfl
    rw [a, hd]
    rfl
theorem hash_out {s : List Int} (h : Tx s) (hc : (isLet (nx s 1) || es2 (nx s 1) (nx s 2)) = true) : Ot s (hash s) := by
  have e0 : nx (s.drop 1) 0 = nx s 1 := by rw [nx_drop]
  have e1 : nx (s.drop 1) 1 = nx s 2 := by rw [nx_drop]
  have e2 : nx (s.drop 1) 2 = nx s 3 := by rw [nx_drop]
  have d := List.drop_suffix 1 s
  have ld := d.length_le
  have hu : isLet (nx (s.drop 1) 0) = true ∨ es2 (nx (s.drop 1) 0) (nx (s.drop 1) 1) = true := by rw [e0, e1]; simpa using hc
  have hn := nam_ne hu
  obtain ⟨n1, n2, n3⟩ := nam_out (h.suf d)
  have G := gB_nam hu
  rw [e0, e1, e2] at G
  unfold hash
  generalize nmB (nx s 1) (nx s 2) (nx s 3) = b at G ⊢
  generalize nam [] (s.drop 1) = p at n1 n2 n3 hn G ⊢
  obtain ⟨l, r⟩ := p
  simp only at n1 n2 n3 hn G ⊢
  refine ⟨n1.trans d, by show (enc l).length + 4 * r.length ≤ _; omega, ?_, by simp, by_enc l, fun g => ?_, fun g => ?_⟩
  · show mayT 4 (enc l) 0 0 false b = true
    rw [may_hash, chB_enc n3, emp_enc hn]
    cases b with
    | true => rfl
    | false =>
      have := hash_raw (enc l) (by_enc l) (enc_ne hn) (whole_enc l)
      rw [raw_enc, map_chrT n3, G rfl] at this
      rw [← this]; rfl
  · simp only at g; omega
  · simp only at g; omega
theorem sgnT_out {s : List Int} (h : Gs s) (h0 : nx s 0 ≠ -1) (b1 : isBl (nx s 0) = false) (b2 : isQ (nx s 0) = false) (b3 : isDig (nx s 0) = false) (b4 : isFst (nx s 0) = false) : Ot s (sgnT s) := by
  have O : (nx s 0 = 92 → nx s 1 = 10) → Ot s (one s) := fun b5 => one_out h h0 b1 b2 b3 b4 b5
  have tx := h.tx
  unfold sgnT
  by_cases a1 : nx s 0 = 35
  · rw [if_pos a1]
    split
    · rename_i g; exact hash_out tx g
    · exact O (by omega)
  rw [if_neg a1]
  by_cases a2 : nx s 0 = 43 ∨ nx s 0 = 46
  · rw [if_pos a2]
    split
    · exact numb_out tx
    · exact O (by omega)
  rw [if_neg a2]
  by_cases a3 : nx s 0 = 45
  · rw [if_pos a3]
    split
    · exact numb_out tx
    · split
      · exact .fix (by omega) (List.drop_suffix 3 s)
      · split
        · rename_i g; exact word_out tx (nmB_ne g)
        · exact O (by omega)
  rw [if_neg a3]
  by_cases a4 : nx s 0 = 60
  · rw [if_pos a4]
    split
    · exact .fix (by omega) (List.drop_suffix 4 s)
    · exact O (by omega)
  rw [if_neg a4]
  by_cases a5 : nx s 0 = 64
  · rw [if_pos a5]
    split
    · rename_i g
      have d := List.drop_suffix 1 s
      have ld := d.length_le
      obtain ⟨n1, n2, n3⟩ := nam_out (tx.suf d)
      refine .name (.inr (.inr rfl)) (n1.trans d) (by omega) n3 ?_ (by omega)
      refine nmB_ne (s := s.drop 1) ?_
      have e0 : nx (s.drop 1) 0 = nx s 1 := by rw [nx_drop]
      have e1 : nx (s.drop 1) 1 = nx s 2 := by rw [nx_drop]
      have e2 : nx (s.drop 1) 2 = nx s 3 := by rw [nx_drop]
      rw [e0, e1, e2]; exact g
    · exact O (by omega)
  rw [if_neg a5]
  by_cases a6 : nx s 0 = 92
  · rw [if_pos a6]
    split
    · rename_i g; exact word_out tx (nam_ne (.inr g))
    · rename_i g
      refine O (fun _ => ?_)
      unfold es2 at g
      rw [a6] at g
      simpa using g
  · rw [if_neg a6]
    exact O (by omega)
theorem str_out {s : List Int} {q : Int} (h : Tx s) : Ot s (str q [] (s.drop 1)) := by
  have d := List.drop_suffix 1 s
  have ld := d.length_le
  obtain ⟨u1, u2⟩ := str_suf _ q [] (s.drop 1) (Nat.le_refl _)
  have u3 := (str_tx _ q [] (s.drop 1) (Nat.le_refl _) Tx.nil (h.suf d)).1
  generalize str q [] (s.drop 1) = p at u1 u2 u3 ⊢
  obtain ⟨τ, r⟩ := p
  rcases u3 with ⟨l, hl, e⟩ | ⟨e, g⟩
  · simp only at e; subst e
    refine .text (.inl rfl) (u1.trans d) ?_ hl
    have : (tkt 5 l).text = enc l := rfl
    rw [this] at u2
    simp only [List.length_nil, Nat.zero_add] at u2
    omega
  · simp only at e; subst e
    exact .six (u1.trans d) g
theorem tokn_out {s : List Int} (h : Gs s) (h0 : nx s 0 ≠ -1) : Ot s (tokn s) := by
  unfold tokn
  by_cases b1 : isBl (nx s 0) = true
  · rw [if_pos b1]
    exact .fix (by omega) (List.dropWhile_suffix _)
  rw [if_neg b1]
  by_cases b2 : isQ (nx s 0) = true
  · rw [if_pos b2]
    exact str_out h.tx
  rw [if_neg b2]
  by_cases b3 : isDig (nx s 0) = true
  · rw [if_pos b3]
    exact numb_out h.tx
  rw [if_neg b3]
  by_cases b4 : isFst (nx s 0) = true
  · rw [if_pos b4]
    exact word_out h.tx (nam_ne (.inl (isFst_let b4)))
  rw [if_neg b4]
  exact sgnT_out h h0 (by simpa using b1) (by simpa using b2) (by simpa using b3) (by simpa using b4)
end Go.Proofs.YtcclhdiphcfdfaaGreatDoor
set_option linter.unusedVariables false
set_option linter.unusedSimpArgs false
namespace Go.Proofs.YtcclhdiphcfdfaaGreatDoor

def Sx (τ : Tk) : Prop := τ.kind = 6 ∨ (τ.kind = 9 ∧ τ.text = [92])
def Ux (τ : Tk) : Prop := τ.kind = 2 ∧ isUrlB τ.text = true
def Qx (τ : Tk) : Prop := τ.kind = 5 ∨ τ.kind = 6
/-- What stands behind what. -/
def Nb : List Tk → Prop
  | [] => True
  | τ :: r => (Sx τ → ∃ q, r = tk 13 :: q) ∧ (Ux τ → (∃ x q, r = x :: q ∧ Qx x) ∨ ∃ x q, r = tk 13 :: x :: q ∧ Qx x) ∧ Nb r
theorem toks_bl {r : List Int} (h : isBl (nx r 0) = true) : toks r = tk 13 :: toks (bls r) := by
  have h1 : nx r 0 ≠ -1 := by intro e; rw [e] at h; exact absurd h (by decide)
  have h2 : nx r 0 ≠ 47 := by intro e; rw [e] at h; exact absurd h (by decide)
  refine toks_on h1 h2 ?_
  unfold tokn
  rw [if_pos h]
theorem toks_q {r : List Int} (t : Tx r) (h : isQ (nx r 0) = true) : ∃ x q, toks r = x :: q ∧ Qx x := by
  have h1 : nx r 0 ≠ -1 := by intro e; rw [e] at h; exact absurd h (by decide)
  have h2 : nx r 0 ≠ 47 := by intro e; rw [e] at h; exact absurd h (by decide)
  have h3 : isBl (nx r 0) = false := by unfold isQ at h; unfold isBl; simp at h ⊢; omega
  have e : tokn r = str (nx r 0) [] (r.drop 1) := by unfold tokn; rw [h3, h]; rfl
  refine ⟨(tokn r).1, toks (tokn r).2, toks_on h1 h2 rfl, ?_⟩
  rw [e]
  rcases (str_tx _ (nx r 0) [] (r.drop 1) (Nat.le_refl _) Tx.nil (t.drop 1)).1 with ⟨l, _, e⟩ | ⟨e, _⟩
  · rw [e]; exact .inl rfl
  · rw [e]; exact .inr rfl
theorem toks_qut {r : List Int} (t : Tx r) (h : qut r = true) : (∃ x q, toks r = x :: q ∧ Qx x) ∨ ∃ x q, toks r = tk 13 :: x :: q ∧ Qx x := by
  unfold qut at h
  rw [Bool.or_eq_true, Bool.and_eq_true] at h
  rcases h with h | ⟨h1, h2⟩
  · exact .inl (toks_q t h)
  · right
    have hb : bls r = r.drop 1 := by
      cases r with
      | nil => exact absurd h1 (by decide)
      | cons x q =>
        have hx : isBl x = true := h1
        have hq : isQ (nx q 0) = true := h2
        show (x :: q).dropWhile isBl = q
        rw [List.dropWhile_cons_of_pos hx]
        refine bls_of ?_
        unfold isQ at hq; unfold isBl; simp at hq ⊢; omega
    obtain ⟨x, q, e, k⟩ := toks_q (t.drop 1) (show isQ (nx (r.drop 1) 0) = true by rw [nx_drop]; exact h2)
    exact ⟨x, q, by rw [toks_bl h1, hb, e], k⟩
def szT (l : List Tk) : Nat := (l.map fun τ => τ.text.length).sum
structure Mk (τ : Tk) : Prop where
  may : mayK τ = true
  nb : (-9223372036854775808 ≤ τ.num ∧ τ.num ≤ 9223372036854775807) ∧ 0 ≤ τ.den ∧ τ.den ≤ 9223372036854775807
  byt : By τ.text
theorem toks_out (n : Nat) : ∀ s : List Int, s.length ≤ n → Gs s → Nb (toks s) ∧ (∀ τ ∈ toks s, Mk τ) ∧ szT (toks s) ≤ 4 * s.length := by
  induction n with
  | zero =>
    intro s h g
    obtain rfl : s = [] := List.eq_nil_of_length_eq_zero (by omega)
    rw [toks_end (by rw [rmk_end (by rw [nx_nil]; omega), nx_nil])]
    exact ⟨trivial, (fun τ h => by cases h), Nat.zero_le _⟩
  | succ n ih =>
    intro s h g
    by_cases h0 : nx (rmk s) 0 = -1
    · rw [toks_end h0]
      exact ⟨trivial, (fun τ h => by cases h), Nat.zero_le _⟩
    · have rs := rmk_suf _ s (Nat.le_refl _)
      have rl := rs.length_le
      have O := tokn_out (g.suf rs) h0
      have lt := tokn_lt h0
      rw [toks_go h0]
      generalize tokn (rmk s) = p at O lt ⊢
      obtain ⟨τ, r⟩ := p
      simp only at lt ⊢
      have gr : Gs r := (g.suf rs).suf O.suf
      obtain ⟨i1, i2, i3⟩ := ih r (by omega) gr
      refine ⟨⟨fun x => ?_, fun x => ?_, i1⟩, ?_, ?_⟩
      · exact ⟨_, toks_bl (by rw [show nx r 0 = 10 from O.bad x]; decide)⟩
      · exact toks_qut gr.tx (O.ur x.1 x.2).1
      · intro x hx
        rcases List.mem_cons.1 hx with rfl | hx
        · exact ⟨O.may, O.nb, O.byt⟩
        · exact i2 x hx
      · have := O.len
        unfold szT at i3 ⊢
        rw [List.map_cons, List.sum_cons]
        simp only at this
        omega
end Go.Proofs.YtcclhdiphcfdfaaGreatDoor
set_option linter.unusedVariables false
set_option linter.unusedSimpArgs false
namespace Go.Proofs.YtcclhdiphcfdfaaGreatDoor

theorem Fx.fw {r : List Int} (h : Fx r) : Fw r := h
theorem Fx.bl {r : List Int} (h : Fw r) : Fx r := h
/-- How a token is written, with something behind it. -/
structure Wx (t : TS) (cs : List Int) : Prop where
  en : wtA t = enc cs
  gd : ∀ x ∈ cs, Gd x
  on : ∀ r, (ro t.k = true → Fx r) → (t.k = 13 → isBl (nx r 0) = false) → toks (cs ++ r) = tkOf t :: toks r
  fw : jo t.k = false → ∀ r, Fx (cs ++ r)
theorem Wr.wx {t : TS} {cs : List Int} (h : Wr t cs) : Wx t cs := ⟨h.en, h.gd, fun r a _ => h.on r a, h.fw⟩
theorem gd10 : Gd 10 := ⟨⟨by decide, by decide, by decide, by decide⟩, by decide⟩
theorem wx_all (t : TS) (ho : t.Ok) (hm : t.may = true) (h6 : ¬ Sx (tkOf t)) (h2 : ¬ Ux (tkOf t)) : ∃ cs, Wx t cs := by
  by_cases hk : inK t.k
  · obtain ⟨cs, w⟩ := wr_all t ho hm hk
    exact ⟨cs, w.wx⟩
  obtain ⟨k, s, n, d, i, h⟩ := t
  obtain ⟨k1, k2, hs, n1, n2, d1, d2⟩ := ho
  have hm' : mayT k (bl s) n d i h = true := hm
  simp only at k1 k2 hs n1 n2 d1 d2 hk
  have hb := bl_by s
  unfold inK at hk
  unfold Sx at h6
  unfold Ux at h2
  have h6' : ¬ (k = 6 ∨ k = 9 ∧ bl s = [92]) := h6
  have h2' : ¬ (k = 2 ∧ isUrlB (bl s) = true) := h2
  clear h6 h2
  by_cases e1 : k = 2
  · subst e1
    rw [may_name (.inr (.inl rfl))] at hm'
    simp only [Bool.and_eq_true] at hm'
    obtain ⟨⟨hz, hh⟩, hc, hn⟩ := hm'
    obtain ⟨rfl, rfl, rfl⟩ := zB_out hz
    obtain rfl : h = false := by simpa using hh
    obtain ⟨tx, hw, he⟩ := tx_raw hb hc
    have hr : raw (bl s) ≠ [] := fun e => ne_emp hn ((raw_empty (bl s)).1 (by rw [e]; rfl))
    refine ⟨cId (raw (bl s)) ++ [40], ?_, gd_app (gd_cId tx) (gd1 (by omega)), fun r _ _ => ?_, fun j => nojo (show jo 2 = true by decide) j⟩
    · show wId (bl s) ++ [40] = _; rw [enc_app, cId_enc hb hw tx.c]; rfl
    · rw [List.append_assoc]
      show toks (cId (raw (bl s)) ++ 40 :: r) = _
      rw [on_func tx.one hr (by rw [he]; simpa using h2') r]
      unfold tkt tkOf; rw [he]
  by_cases e9 : k = 9
  · subst e9
    rw [may_delim] at hm'
    simp only [Bool.and_eq_true] at hm'
    obtain ⟨⟨hz, hh⟩, hdl⟩ := hm'
    obtain ⟨rfl, rfl, rfl⟩ := zB_out hz
    obtain rfl : h = false := by simpa using hh
    have h92 : bl s ≠ [92] := fun e => h6' (.inr ⟨rfl, e⟩)
    have hw : wtA ⟨9, s, 0, 0, false, false⟩ = dlmT (bl s) := rfl
    unfold dlB at hdl
    rw [Bool.and_eq_true] at hdl
    have hl : (bl s).length = 1 := by simpa using hdl.1
    obtain ⟨c, ec⟩ := List.length_eq_one_iff.1 hl
    have hc : (isDl c || isCt c) = true := by have := hdl.2; rw [ec] at this; exact this
    have hne : c ≠ 92 := fun e => h92 (by rw [ec, e])
    have hg : Gd c ∧ 0 ≤ c ∧ c < 128 := by
      unfold isDl isCt at hc
      simp at hc
      refine ⟨⟨⟨?_, by omega, by omega, by omega⟩, by omega⟩, by omega, by omega⟩
      unfold isC; simp; omega
    have en : enc [c] = [c] := enc_asc _ (by intro x hx; simp at hx; subst hx; exact hg.2)
    refine ⟨[c], ?_, gd_one hg.1, fun r f _ => ?_, fun j => nojo (show jo 9 = true by decide) j⟩
    · rw [hw]; unfold dlmT; rw [if_neg h92, ec, en]
    · show toks (c :: r) = _
      rw [on_delim hc hne (f (show ro 9 = true by decide))]
      unfold tkt tkOf; rw [en, ec]
  have hkk : ¬ (k = 1 ∨ k = 2 ∨ k = 3 ∨ k = 4 ∨ k = 5 ∨ k = 7 ∨ k = 9 ∨ k = 10 ∨ k = 11 ∨ k = 12) := by omega
  rw [may_rest hkk] at hm'
  simp only [Bool.and_eq_true] at hm'
  obtain ⟨⟨q1, q2⟩, he, hz, hh⟩ := hm'
  obtain ⟨rfl, rfl, rfl⟩ := zB_out hz
  obtain rfl : h = false := by simpa using hh
  have hbs : bl s = [] := by simpa using he
  have e : wtA ⟨k, s, 0, 0, false, false⟩ = bl (fx k) := by
    unfold wtA
    simp only
    repeat rw [if_neg (by omega)]
  have ek : tkOf ⟨k, s, 0, 0, false, false⟩ = tk k := by unfold tkOf tk; simp only [hbs]
  rw [decide_eq_true_eq] at q1 q2
  have hc : k = 8 ∨ k = 13 ∨ k = 14 ∨ k = 16 ∨ k = 17 ∨ k = 19 ∨ k = 20 ∨ k = 21 ∨ k = 22 ∨ k = 23 ∨ k = 24 := by omega
  have go : ∀ cs : List Int, bl (fx k) = cs → enc cs = cs → (∀ x ∈ cs, 14 ≤ x ∧ x < 128) → (∀ r, (ro k = true → Fx r) → (k = 13 → isBl (nx r 0) = false) → toks (cs ++ r) = tk k :: toks r) → (jo k = false → ∀ r, Fx (cs ++ r)) → ∃ cs, Wx ⟨k, s, 0, 0, false, false⟩ cs := by
    intro cs a1 a2 a3 a4 a5
    exact ⟨cs, by rw [e, a1, a2], fun x hx => gd_asc (a3 x hx), fun r f g => by rw [ek]; exact a4 r f g, a5⟩
  clear ek e he hbs h2' h6' hkk e9 e1 hk hm
  rcases hc with rfl | rfl | rfl | rfl | rfl | rfl | rfl | rfl | rfl | rfl | rfl
  · exact go [117, 114, 108, 40, 40, 41] (by decide) (by decide) (by decide) (fun r _ _ => on_badurl r) (fun j => absurd j (by decide))
  · exact go [32] (by decide) (by decide) (by decide) (fun r _ g => on_blank (g rfl)) (fun _ r => by unfold Fx; have : nx ([32] ++ r) 0 = 32 := rfl; omega)
  · exact go [60, 33, 45, 45] (by decide) (by decide) (by decide) (fun r _ _ => on_cdo r) (fun _ r => by unfold Fx; have : nx ([60, 33, 45, 45] ++ r) 0 = 60 := rfl; omega)
  · exact go [58] (by decide) (by decide) (by decide) (fun r _ _ => on_brk (by decide) (by decide) r) (fun _ r => by unfold Fx; have : nx ([58] ++ r) 0 = 58 := rfl; omega)
  · exact go [59] (by decide) (by decide) (by decide) (fun r _ _ => on_brk (by decide) (by decide) r) (fun _ r => by unfold Fx; have : nx ([59] ++ r) 0 = 59 := rfl; omega)
  · exact go [91] (by decide) (by decide) (by decide) (fun r _ _ => on_brk (by decide) (by decide) r) (fun _ r => by unfold Fx; have : nx ([91] ++ r) 0 = 91 := rfl; omega)
  · exact go [93] (by decide) (by decide) (by decide) (fun r _ _ => on_brk (by decide) (by decide) r) (fun _ r => by unfold Fx; have : nx ([93] ++ r) 0 = 93 := rfl; omega)
  · exact go [40] (by decide) (by decide) (by decide) (fun r _ _ => on_brk (by decide) (by decide) r) (fun j => absurd j (by decide))
  · exact go [41] (by decide) (by decide) (by decide) (fun r _ _ => on_brk (by decide) (by decide) r) (fun _ r => by unfold Fx; have : nx ([41] ++ r) 0 = 41 := rfl; omega)
  · exact go [123] (by decide) (by decide) (by decide) (fun r _ _ => on_brk (by decide) (by decide) r) (fun _ r => by unfold Fx; have : nx ([123] ++ r) 0 = 123 := rfl; omega)
  · exact go [125] (by decide) (by decide) (by decide) (fun r _ _ => on_brk (by decide) (by decide) r) (fun _ r => by unfold Fx; have : nx ([125] ++ r) 0 = 125 := rfl; omega)
end Go.Proofs.YtcclhdiphcfdfaaGreatDoor
set_option linter.unusedVariables false
set_option linter.unusedSimpArgs false
namespace Go.Proofs.YtcclhdiphcfdfaaGreatDoor

/-- A row's text, and what is read. -/
structure RB (ts : List TS) (cs : List Int) : Prop where
  en : spK wtA ts ts.length = enc cs
  gd : ∀ x ∈ cs, Gd x
  tk : toks cs = ts.map tkOf
  fw : ∀ t q, ts = t :: q → jo t.k = false → Fx cs
  h13 : ∀ t q, ts = t :: q → t.k = 13 → ∃ r, cs = 32 :: r ∧ (∀ u q', q = u :: q' → Qx (tkOf u) → nx r 0 = 34)
  hq : ∀ t q, ts = t :: q → Qx (tkOf t) → nx cs 0 = 34
theorem toks_nl2 (r : List Int) : toks (10 :: 32 :: r) = toks (32 :: r) := by
  rw [toks_bl (show isBl (nx (10 :: 32 :: r) 0) = true by rw [nxc0]; decide), toks_bl (show isBl (nx (32 :: r) 0) = true by rw [nxc0]; decide)]
  have : bls (10 :: 32 :: r) = bls (32 :: r) := by unfold bls; rw [List.dropWhile_cons_of_pos (by decide)]
  rw [this]
theorem nobl_of {r : List Int} {τ : Tk} {q : List Tk} (h : toks r = τ :: q) (hk : τ.kind ≠ 13) : isBl (nx r 0) = false := by
  cases e : isBl (nx r 0) with
  | false => rfl
  | true =>
    rw [toks_bl e] at h
    injection h with h1 h2
    exact absurd (by rw [← h1]; rfl) hk
/-- What is written begins with a byte below 128: so does the text. -/
theorem head_of {cs x : List Int} {c : Int} (hg : ∀ y ∈ cs, Gd y) (hc : c < 128) (h : enc cs = c :: x) : nx cs 0 = c := by
  cases cs with
  | nil => exact absurd h (by show ¬ ([] = c :: x); simp)
  | cons y r =>
    have gy := (hg y (by simp)).1.1
    have ec : chr y = y := by unfold chr; rw [if_pos gy]
    have e : enc (y :: r) = enc1 y ++ enc r := by unfold enc; rw [List.flatMap_cons, ec]
    rw [e] at h
    rw [isC_iff] at gy
    unfold enc1 at h
    show y = c
    split at h
    · simp at h; exact h.1
    · split at h
      · simp at h; omega
      · split at h
        · simp at h; omega
        · simp at h; omega
theorem spK_two (t u : TS) (q : List TS) : spK wtA (t :: u :: q) (t :: u :: q).length = wtA t ++ (sep t.k u.k ++ spK wtA (u :: q) (u :: q).length) :=
  spK_cons (wt := wtA) t (u :: q) (u :: q).length (by simp) (Nat.le_refl _)
theorem enc_sep (a b : Int) : enc (sep a b) = sep a b ∧ ∀ x ∈ sep a b, Gd x := by
  unfold sep
  split
  · exact ⟨by decide, fun x hx => by simp at hx; exact gd_asc (by omega)⟩
  · exact ⟨rfl, fun x hx => by cases hx⟩
theorem wt_q {t : TS} (h : Qx (tkOf t)) : ∃ x, wtA t = 34 :: x := by
  obtain ⟨k, s, n, d, i, hh⟩ := t
  rcases h with h | h
  · have h' : k = 5 := h
    subst h'
    exact ⟨_, rfl⟩
  · have h' : k = 6 := h
    subst h'
    exact ⟨[10], by show bl (fx 6) = _; decide⟩
theorem tk13_k {t : TS} (h : tkOf t = tk 13) : t.k = 13 := by have := congrArg Tk.kind h; exact this
theorem cs32 {t : TS} {cs : List Int} (k : t.k = 13) (en : wtA t = enc cs) (gd : ∀ x ∈ cs, Gd x) : cs = [32] := by
  have ew : wtA t = [32] := by
    obtain ⟨k0, s, n, d, i, hh⟩ := t
    have : k0 = 13 := k
    subst this
    show bl (fx 13) = _
    decide
  have h1 : nx cs 0 = 32 := head_of (x := []) gd (by decide) (by rw [← en, ew])
  cases cs with
  | nil => exact absurd h1 (by decide)
  | cons y ys =>
    have hy : y = 32 := h1
    subst hy
    have : enc (32 :: ys) = [32] ++ enc ys := enc_app [32] ys
    rw [ew, this] at en
    have l0 : enc ys = [] := by simpa using en.symm
    have := (enc_len ys).1
    rw [l0] at this
    have : ys = [] := List.eq_nil_of_length_eq_zero (by simpa using this)
    rw [this]
/-- Put a token ahead. -/
theorem RB.cons {t u : TS} {q : List TS} {cs r : List Int} (g : RB (u :: q) r) (en : wtA t = enc cs) (gd : ∀ x ∈ cs, Gd x) (ht : toks (cs ++ (sep t.k u.k ++ r)) = tkOf t :: toks r) (fw : jo t.k = false → ∀ r, Fx (cs ++ r)) : RB (t :: u :: q) (cs ++ (sep t.k u.k ++ r)) := by
  have es := enc_sep t.k u.k
  have en' : spK wtA (t :: u :: q) (t :: u :: q).length = enc (cs ++ (sep t.k u.k ++ r)) := by rw [spK_two, en, g.en, enc_app, enc_app, es.1]
  have gd' : ∀ x ∈ cs ++ (sep t.k u.k ++ r), Gd x := gd_app gd (gd_app es.2 g.gd)
  refine ⟨en', gd', by rw [ht, g.tk]; rfl, ?_, ?_, ?_⟩
  · intro t' q' e j
    injection e with e1 e2
    subst e1
    exact fw j _
  · intro t' q' e k
    injection e with e1 e2
    subst e1 e2
    have ec : cs = [32] := cs32 k en gd
    refine ⟨sep t.k u.k ++ r, by rw [ec]; rfl, ?_⟩
    intro u' q'' e hq
    injection e with e1 e2
    subst e1 e2
    have hs : sep t.k u.k = [] := by
      unfold sep apB
      rw [k]
      rcases hq with hq | hq
      · rw [show u.k = 5 from hq]; decide
      · rw [show u.k = 6 from hq]; decide
    rw [hs]
    exact g.hq u q rfl hq
  · intro t' q' e hq
    injection e with e1 e2
    subst e1 e2
    obtain ⟨x, hx⟩ := wt_q hq
    refine head_of (x := x ++ (sep t.k u.k ++ enc r)) gd' (by decide) ?_
    rw [enc_app, enc_app, es.1, ← en, hx]
    rfl
/-- One alone. -/
theorem RB.one {t : TS} {cs : List Int} (en : wtA t = enc cs) (gd : ∀ x ∈ cs, Gd x) (ht : toks cs = [tkOf t]) (fw : jo t.k = false → ∀ r, Fx (cs ++ r)) : RB [t] cs := by
  refine ⟨by rw [← en]; exact spK_one wtA t, gd, ht, ?_, ?_, ?_⟩
  · intro t' q' e j
    injection e with e1 e2
    subst e1
    have := fw j []
    rwa [List.append_nil] at this
  · intro t' q' e k
    injection e with e1 e2
    subst e1 e2
    exact ⟨[], cs32 k en gd, fun u q' e => by cases e⟩
  · intro t' q' e hq
    injection e with e1 e2
    subst e1 e2
    obtain ⟨x, hx⟩ := wt_q hq
    exact head_of (x := x) gd (by decide) (by rw [← en, hx])
end Go.Proofs.YtcclhdiphcfdfaaGreatDoor
set_option linter.unusedVariables false
set_option linter.unusedSimpArgs false
namespace Go.Proofs.YtcclhdiphcfdfaaGreatDoor

theorem may_of {t : TS} (h : t.may = true) : mayT t.k (bl t.s) t.n t.d t.i t.h = true := h
/-- A bad text: its token. -/
theorem six_of {t : TS} (hm : t.may = true) (h : t.k = 6) : tkOf t = tk 6 ∧ wtA t = enc [34, 10] := by
  have hm' := may_of hm
  obtain ⟨k, s, n, d, i, h'⟩ := t
  have : k = 6 := h
  subst this
  simp only at hm'
  rw [may_rest (by omega)] at hm'
  simp only [Bool.and_eq_true] at hm'
  obtain ⟨_, he, hz, hh⟩ := hm'
  obtain ⟨rfl, rfl, rfl⟩ := zB_out hz
  obtain rfl : h' = false := by simpa using hh
  have hbs : bl s = [] := by simpa using he
  refine ⟨by unfold tkOf tk; simp only [hbs], ?_⟩
  show bl (fx 6) = _
  decide
/-- A lone backslash. -/
theorem slash_of {t : TS} (hm : t.may = true) (h : t.k = 9) (h2 : bl t.s = [92]) : tkOf t = tkt 9 [92] ∧ wtA t = enc [92, 10] := by
  have hm' := may_of hm
  obtain ⟨k, s, n, d, i, h'⟩ := t
  have : k = 9 := h
  subst this
  simp only at hm' h2
  rw [may_delim] at hm'
  simp only [Bool.and_eq_true] at hm'
  obtain ⟨⟨hz, hh⟩, _⟩ := hm'
  obtain ⟨rfl, rfl, rfl⟩ := zB_out hz
  obtain rfl : h' = false := by simpa using hh
  refine ⟨?_, ?_⟩
  · unfold tkOf tkt; simp only [h2]; rfl
  · show dlmT (bl s) = _
    unfold dlmT
    rw [if_pos h2]
    decide
/-- A function url. -/
theorem func_of {t : TS} (hm : t.may = true) (h : t.k = 2) : ∃ l, Tx l ∧ l ≠ [] ∧ tkOf t = tkt 2 l ∧ wtA t = enc (cId l ++ [40]) ∧ bl t.s = enc l := by
  have hm' := may_of hm
  obtain ⟨k, s, n, d, i, h'⟩ := t
  have : k = 2 := h
  subst this
  simp only at hm'
  have hb := bl_by s
  rw [may_name (.inr (.inl rfl))] at hm'
  simp only [Bool.and_eq_true] at hm'
  obtain ⟨⟨hz, hh⟩, hc, hn⟩ := hm'
  obtain ⟨rfl, rfl, rfl⟩ := zB_out hz
  obtain rfl : h' = false := by simpa using hh
  obtain ⟨tx, hw, he⟩ := tx_raw hb hc
  have hr : raw (bl s) ≠ [] := fun e => ne_emp hn ((raw_empty (bl s)).1 (by rw [e]; rfl))
  refine ⟨raw (bl s), tx, hr, ?_, ?_, he.symm⟩
  · unfold tkOf tkt; rw [he]
  · show wId (bl s) ++ [40] = _; rw [enc_app, cId_enc hb hw tx.c]; rfl
theorem gd34 : ∀ x ∈ [(34 : Int), 10], Gd x := by
  intro x hx
  simp at hx
  rcases hx with rfl | rfl
  · exact gd_asc (by omega)
  · exact gd10
theorem gd92 : ∀ x ∈ [(92 : Int), 10], Gd x := by
  intro x hx
  simp at hx
  rcases hx with rfl | rfl
  · exact gd_asc (by omega)
  · exact gd10
theorem bl_tb {l : List Int} (h : By l) : bl (tb l) = l := by
  unfold tb bl
  simp only [List.map_map]
  conv => rhs; rw [← List.map_id l]
  refine List.map_congr_left fun x hx => ?_
  have := h x hx
  simp only [Function.comp_apply, UInt8.toNat_ofNat', id]
  omega
theorem sep_no {a b : Int} (h : apB a b = false) : sep a b = [] := by unfold sep; rw [h]; rfl
theorem rb_all : ∀ (ts : List TS), (∀ t ∈ ts, t.Ok ∧ t.may = true) → Nb (ts.map tkOf) → ∃ cs, RB ts cs
  | [], _, _ => ⟨[], rfl, (fun x hx => by cases hx), toks_nil, (fun t q e => by cases e), (fun t q e => by cases e), (fun t q e => by cases e)⟩
  | [t], h, nb => by
    obtain ⟨ho, hm⟩ := h t (by simp)
    have h6 : ¬ Sx (tkOf t) := fun x => by obtain ⟨q, e⟩ := nb.1 x; cases e
    have h2 : ¬ Ux (tkOf t) := fun x => by
      rcases nb.2.1 x with ⟨x, q, e, _⟩ | ⟨x, q, e, _⟩ <;> cases e
    obtain ⟨cs, w⟩ := wx_all t ho hm h6 h2
    refine ⟨cs, .one w.en w.gd ?_ w.fw⟩
    have := w.on [] (fun _ => .inl rfl) (fun _ => by decide)
    rwa [List.append_nil, toks_nil] at this
  | t :: u :: q, h, nb => by
    obtain ⟨ho, hm⟩ := h t (by simp)
    obtain ⟨r, g⟩ := rb_all (u :: q) (fun x hx => h x (by simp at hx ⊢; exact .inr hx)) nb.2.2
    by_cases h6 : Sx (tkOf t)
    · obtain ⟨q', e⟩ := nb.1 h6
      have e1 : tkOf u = tk 13 := by injection e
      have uk := tk13_k e1
      obtain ⟨r', er, _⟩ := g.h13 u q rfl uk
      rcases h6 with h6 | ⟨h6, h7⟩
      · have k6 : t.k = 6 := h6
        obtain ⟨a, b⟩ := six_of hm k6
        refine ⟨_, g.cons b gd34 ?_ (fun _ r => by unfold Fx; have : nx ([34, 10] ++ r) 0 = 34 := rfl; omega)⟩
        rw [k6, uk, sep_no (by decide), a, er]
        show toks (34 :: 10 :: 32 :: r') = _
        rw [on_bad, toks_nl2]
      · have k9 : t.k = 9 := h6
        obtain ⟨a, b⟩ := slash_of hm k9 h7
        refine ⟨_, g.cons b gd92 ?_ (fun j => nojo (show jo t.k = true by rw [k9]; decide) j)⟩
        rw [k9, uk, sep_no (by decide), a, er]
        show toks (92 :: 10 :: 32 :: r') = _
        rw [on_slash, toks_nl2]
    by_cases h2 : Ux (tkOf t)
    · have k2 : t.k = 2 := h2.1
      obtain ⟨l, tx, hl, a, b, c⟩ := func_of hm k2
      have hu : isUrlB (enc l) = true := by rw [← c]; exact h2.2
      have hqs : qut r = true ∧ sbl r = r := by
        rcases nb.2.1 h2 with ⟨x, q', e, hx⟩ | ⟨x, q', e, hx⟩
        · have e1 : tkOf u = x := by injection e
          have r0 := g.hq u q rfl (by rw [e1]; exact hx)
          refine ⟨by unfold qut; rw [r0]; rfl, ?_⟩
          cases r with
          | nil => rfl
          | cons y ys =>
            have hy : y = 34 := r0
            subst hy
            rfl
        · have e1 : tkOf u = tk 13 := by injection e
          have e2 : q.map tkOf = x :: q' := by injection e
          obtain ⟨r', er, hr'⟩ := g.h13 u q rfl (tk13_k e1)
          cases q with
          | nil => cases e2
          | cons v q2 =>
            have e3 : tkOf v = x := by injection e2
            have r0 := hr' v q2 rfl (by rw [e3]; exact hx)
            subst er
            refine ⟨?_, ?_⟩
            · unfold qut
              have z : nx (32 :: r') 1 = nx r' 0 := rfl
              rw [nxc0, z, r0]; rfl
            · unfold sbl
              rw [r0]; rfl
      refine ⟨_, g.cons b (gd_app (gd_cId tx) (gd1 (by omega))) ?_ (fun j => nojo (show jo t.k = true by rw [k2]; decide) j)⟩
      have hs : sep t.k u.k = [] := sep_no (by rw [k2]; unfold apB; rw [show ro 2 = false by decide]; rfl)
      rw [hs, a, List.append_assoc]
      exact on_funcurl tx.one hl hu hqs.2 hqs.1
    obtain ⟨cs, w⟩ := wx_all t ho hm h6 h2
    refine ⟨_, g.cons w.en w.gd ?_ w.fw⟩
    cases ha : apB t.k u.k with
    | true =>
      have e : sep t.k u.k = [47, 42, 42, 47] := by unfold sep; rw [ha]; rfl
      rw [e, w.on _ (fun _ => .inr (.inl rfl)) (fun _ => by show isBl 47 = false; decide), toks_sep]
    | false =>
      rw [sep_no ha, List.nil_append]
      unfold apB at ha
      rw [Bool.or_eq_false_iff] at ha
      refine w.on _ (fun hr => ?_) (fun h13 => ?_)
      · refine g.fw u q rfl ?_
        have := ha.2
        rw [hr] at this
        exact this
      · refine nobl_of g.tk ?_
        have := ha.1
        rw [h13] at this
        show u.k ≠ 13
        intro e
        rw [e] at this
        exact absurd this (by decide)
/-! ### The tokens of characters -/
def tsOf (τ : Tk) : TS := ⟨τ.kind, tb τ.text, τ.num, τ.den, τ.whole, τ.id⟩
theorem tk_ts {τ : Tk} (h : By τ.text) : tkOf (tsOf τ) = τ := by
  obtain ⟨k, x, n, d, w, i⟩ := τ
  show (⟨k, bl (tb x), n, d, w, i⟩ : Tk) = _
  rw [bl_tb h]
theorem ts_map {l : List Tk} (h : ∀ τ ∈ l, Mk τ) : (l.map tsOf).map tkOf = l := by
  rw [List.map_map]
  conv => rhs; rw [← List.map_id l]
  exact List.map_congr_left fun τ hτ => tk_ts (h τ hτ).byt
theorem mem_szT {l : List Tk} {τ : Tk} (h : τ ∈ l) : τ.text.length ≤ szT l := by
  unfold szT
  induction l with
  | nil => cases h
  | cons x r ih =>
    rw [List.map_cons, List.sum_cons]
    rcases List.mem_cons.1 h with rfl | h
    · omega
    · have := ih h; omega
theorem szS_T {l : List Tk} (h : ∀ τ ∈ l, Mk τ) : szS (l.map tsOf) = szT l := by
  unfold szS szT
  rw [List.map_map]
  congr 1
  refine List.map_congr_left fun τ hτ => ?_
  show (tb τ.text).size = _
  rw [← bl_len, bl_tb (h τ hτ).byt]
/-- What is read, written, is read again. -/
theorem all_back {s : List Int} (hg : Gs s) (hl : s.length ≤ 1000000000) :
    (∀ t ∈ (toks s).map tsOf, t.Ok ∧ t.may = true) ∧ ((toks s).map tsOf).map tkOf = toks s ∧ szS ((toks s).map tsOf) ≤ 4 * s.length ∧ toks (dcd (spK wtA ((toks s).map tsOf) ((toks s).map tsOf).length)) = toks s := by
  obtain ⟨o1, o2, o3⟩ := toks_out _ s (Nat.le_refl _) hg
  have hm := ts_map o2
  have hk : ∀ t ∈ (toks s).map tsOf, t.Ok ∧ t.may = true := by
    intro t ht
    obtain ⟨τ, hτ, rfl⟩ := List.mem_map.1 ht
    have M := o2 τ hτ
    have hz := mem_szT hτ
    have hbt : bl (tb τ.text) = τ.text := bl_tb M.byt
    have m : mayT τ.kind (bl (tb τ.text)) τ.num τ.den τ.whole τ.id = true := by rw [hbt]; exact M.may
    refine ⟨?_, m⟩
    have k : 1 ≤ τ.kind ∧ τ.kind ≤ 24 := by
      unfold mayT at m
      simp only [Bool.and_eq_true, decide_eq_true_eq] at m
      exact m.1
    have hsz : (tb τ.text).size = τ.text.length := by rw [← bl_len, hbt]
    exact ⟨by show _ ≤ τ.kind; omega, by show τ.kind ≤ _; omega, by show (tb τ.text).size ≤ _; omega, M.nb.1.1, M.nb.1.2, by show _ ≤ τ.den; have := M.nb.2.1; omega, M.nb.2.2⟩
  refine ⟨hk, hm, by rw [szS_T o2]; exact o3, ?_⟩
  obtain ⟨cs, w⟩ := rb_all ((toks s).map tsOf) hk (by rw [hm]; exact o1)
  rw [w.en, dcd_gd w.gd, w.tk, hm]
end Go.Proofs.YtcclhdiphcfdfaaGreatDoor
