/-
  What is written, with something behind it, is read again: plain.
  A row of tokens, written with remarks between, is read again: plain.
-/
import Derived.Test.YtcclhdiphcfdfaaGreatDoorKx
import Derived.Test.YtcclhdiphcfdfaaGreatDoorKc
set_option linter.unusedVariables false
set_option linter.unusedSimpArgs false
namespace Go.Proofs.YtcclhdiphcfdfaaGreatDoor

/-- Nothing follows, or what ends names and numbers. -/
def Fw (r : List Int) : Prop := nx r 0 = -1 ∨ nx r 0 = 47 ∨ nx r 0 = 64 ∨ nx r 0 = 35 ∨ nx r 0 = 34 ∨ nx r 0 = 44 ∨ nx r 0 = 32 ∨ nx r 0 = 60 ∨ nx r 0 = 58 ∨ nx r 0 = 59 ∨ nx r 0 = 91 ∨ nx r 0 = 93 ∨ nx r 0 = 41 ∨ nx r 0 = 123 ∨ nx r 0 = 125
theorem Fw.let {r : List Int} (h : Fw r) : isLet (nx r 0) = false := by rcases h with h | h | h | h | h | h | h | h | h | h | h | h | h | h | h <;> rw [h] <;> decide
theorem Fw.es {r : List Int} (h : Fw r) (x : Int) : es2 (nx r 0) x = false := by rcases h with h | h | h | h | h | h | h | h | h | h | h | h | h | h | h <;> rw [h] <;> rfl
theorem Fw.ne {r : List Int} (h : Fw r) : nx r 0 ≠ 40 ∧ nx r 0 ≠ 62 ∧ nx r 0 ≠ 37 ∧ nx r 0 ≠ 45 := by rcases h with h | h | h | h | h | h | h | h | h | h | h | h | h | h | h <;> rw [h] <;> decide
theorem Fw.dig {r : List Int} (h : Fw r) : isDig (nx r 0) = false := by rcases h with h | h | h | h | h | h | h | h | h | h | h | h | h | h | h <;> rw [h] <;> decide
theorem Fw.sg {r : List Int} (h : Fw r) : isSg (nx r 0) = false := by rcases h with h | h | h | h | h | h | h | h | h | h | h | h | h | h | h <;> rw [h] <;> decide
theorem Fw.fst {r : List Int} (h : Fw r) : isFst (nx r 0) = false := by rcases h with h | h | h | h | h | h | h | h | h | h | h | h | h | h | h <;> rw [h] <;> decide
theorem Fw.nm {r : List Int} (h : Fw r) (x y : Int) : nmB (nx r 0) x y = false := by
  unfold nmB
  rw [if_neg h.ne.2.2.2, h.fst, h.es]; rfl
theorem Fw.end {r : List Int} (h : Fw r) : End r := by
  refine ⟨h.dig, ?_, ?_⟩
  · rcases h with h | h | h | h | h | h | h | h | h | h | h | h | h | h | h <;> rw [h] <;> rfl
  · unfold exB
    rcases h with h | h | h | h | h | h | h | h | h | h | h | h | h | h | h <;> rw [h] <;> rfl
theorem toks_on {s r : List Int} {τ : Tk} (h1 : nx s 0 ≠ -1) (h2 : nx s 0 ≠ 47) (h3 : tokn s = (τ, r)) : toks s = τ :: toks r := by
  have hr : rmk s = s := rmk_end (by simp [h2])
  rw [toks_go (by rw [hr]; exact h1), hr, h3]
theorem on_ident {l r : List Int} (h : ∀ c ∈ l, 1 ≤ c) (hl : l ≠ []) (f : Fw r) : toks (cId l ++ r) = tkt 1 l :: toks r := by
  have st : Start (cId l ++ r) := cId_start h hl f.ne.2.1
  refine toks_on st.head.2 st.head.1 ?_
  rw [st.tokn]
  unfold word
  rw [nam_of h f.let (f.es _), if_pos f.ne.1]
theorem on_at {l r : List Int} (h : ∀ c ∈ l, 1 ≤ c) (hl : l ≠ []) (f : Fw r) : toks (64 :: (cId l ++ r)) = tkt 3 l :: toks r := by
  have st := (cId_start (t := r) h hl f.ne.2.1).nm
  refine toks_on (by rw [nxc0]; decide) (by rw [nxc0]; decide) ?_
  unfold tokn
  have e : nx (64 :: (cId l ++ r)) 0 = 64 := rfl
  have e1 : nmB (nx (64 :: (cId l ++ r)) 1) (nx (64 :: (cId l ++ r)) 2) (nx (64 :: (cId l ++ r)) 3) = true := st
  have e2 : nam [] ((64 :: (cId l ++ r)).drop 1) = (l, r) := nam_of h f.let (f.es _)
  simp only [e]
  unfold sgnT
  simp only [e, e1, e2]
  rfl
theorem on_hash {l r : List Int} (h : ∀ c ∈ l, 1 ≤ c) (hl : l ≠ []) (f : Fw r) : toks (35 :: (cId l ++ r)) = ⟨4, enc l, 0, 0, false, true⟩ :: toks r := by
  have st := cId_start (t := r) h hl f.ne.2.1
  refine toks_on (by rw [nxc0]; decide) (by rw [nxc0]; decide) ?_
  unfold tokn
  have e : nx (35 :: (cId l ++ r)) 0 = 35 := rfl
  have e1 : nmB (nx (35 :: (cId l ++ r)) 1) (nx (35 :: (cId l ++ r)) 2) (nx (35 :: (cId l ++ r)) 3) = true := st.nm
  have e2 : nam [] ((35 :: (cId l ++ r)).drop 1) = (l, r) := nam_of h f.let (f.es _)
  have e3 : (isLet (nx (35 :: (cId l ++ r)) 1) || es2 (nx (35 :: (cId l ++ r)) 1) (nx (35 :: (cId l ++ r)) 2)) = true := st.let_
  simp only [e]
  unfold sgnT hash
  simp only [e, e1, e2, e3]
  rfl
theorem on_hash' {l r : List Int} (h : ∀ c ∈ l, 1 ≤ c) (hg : gB l = true) (fr : Fw r) : toks (35 :: (cNm l ++ r)) = ⟨4, enc l, 0, 0, false, false⟩ :: toks r := by
  have e2 : nam [] ((35 :: (cNm l ++ r)).drop 1) = (l, r) := by
    show nam [] (cNm l ++ r) = _
    rw [nam_cNm l [] r h, List.nil_append]
    exact nam_end fr.let (fr.es _)
  have dg : ∀ c : Int, isDig c = true → cLt c = [c] ∧ isLet c = true ∧ c ≠ 45 ∧ isFst c = false ∧ c ≠ 92 := by
    intro c hc
    unfold isDig at hc
    simp at hc
    have a : isHid c = false := by unfold isHid; simp; omega
    have b : isLet c = true := by unfold isLet isDig; simp; omega
    have f : isFst c = false := by unfold isFst; simp; omega
    refine ⟨by unfold cLt; rw [a, b]; rfl, b, by omega, f, by omega⟩
  have key : isLet (nx (cNm l ++ r) 0) = true ∧ nmB (nx (cNm l ++ r) 0) (nx (cNm l ++ r) 1) (nx (cNm l ++ r) 2) = false := by
    unfold gB at hg
    cases l with
    | nil => exact absurd hg (by decide)
    | cons c q =>
      rw [Bool.or_eq_true] at hg
      rcases hg with hg | hg
      · obtain ⟨a, b, n45, f, n92⟩ := dg c hg
        have e : cNm (c :: q) ++ r = c :: (cNm q ++ r) := by simp [cNm, a]
        rw [e]
        refine ⟨b, ?_⟩
        unfold nmB
        rw [nxc0, if_neg n45, f]
        unfold es2
        simp [n92]
      · rw [Bool.and_eq_true] at hg
        have hc : c = 45 := by simpa [nx] using hg.1
        subst hc
        have e45 : cLt 45 = [45] := by decide
        have e : cNm (45 :: q) ++ r = 45 :: (cNm q ++ r) := by simp [cNm, e45]
        rw [e]
        refine ⟨by rw [nxc0]; decide, ?_⟩
        have h2 := hg.2
        rw [Bool.or_eq_true] at h2
        unfold nmB
        rw [nxc0, if_pos rfl]
        cases q with
        | nil =>
          have e1 : nx (45 :: (cNm [] ++ r)) 1 = nx r 0 := rfl
          rw [e1, fr.fst, fr.es]
          have := fr.ne.2.2.2
          simp [this]
        | cons b q =>
          rcases h2 with h2 | h2
          · simp at h2
          · obtain ⟨a, b', n45, f, n92⟩ := dg b h2
            have e : cNm (b :: q) ++ r = b :: (cNm q ++ r) := by simp [cNm, a]
            rw [e, nxc1, f]
            unfold es2
            simp [n45, n92]
  refine toks_on (by rw [nxc0]; decide) (by rw [nxc0]; decide) ?_
  unfold tokn
  have e : nx (35 :: (cNm l ++ r)) 0 = 35 := rfl
  have e1 : nmB (nx (35 :: (cNm l ++ r)) 1) (nx (35 :: (cNm l ++ r)) 2) (nx (35 :: (cNm l ++ r)) 3) = false := key.2
  have e3 : (isLet (nx (35 :: (cNm l ++ r)) 1) || es2 (nx (35 :: (cNm l ++ r)) 1) (nx (35 :: (cNm l ++ r)) 2)) = true := by
    have : isLet (nx (35 :: (cNm l ++ r)) 1) = true := key.1
    rw [this]; rfl
  simp only [e]
  unfold sgnT hash
  simp only [e, e1, e2, e3]
  rfl
theorem on_text {l : List Int} (h : ∀ c ∈ l, 1 ≤ c) (r : List Int) : toks (34 :: (l.flatMap cQt ++ 34 :: r)) = tkt 5 l :: toks r := by
  refine toks_on (by rw [nxc0]; decide) (by rw [nxc0]; decide) ?_
  unfold tokn
  have e : nx (34 :: (l.flatMap cQt ++ 34 :: r)) 0 = 34 := rfl
  simp only [e]
  show str 34 [] (l.flatMap cQt ++ 34 :: r) = _
  rw [str_all l [] r h]
  rfl
theorem on_num {T r : List Int} {n d : Int} {wh : Bool} (h : NumT T) (hd : dec T = some ((n, d), wh)) (f : Fw r) : toks (T ++ r) = ⟨10, [], n, d, wh, false⟩ :: toks r := by
  have k := h.head (t := r)
  refine toks_on k.1 k.2 ?_
  rw [h.tokn]
  unfold numb
  rw [h.z _ f.end, h.t f.end, f.nm, if_neg (by decide), if_neg f.ne.2.2.1]
  unfold dcT
  rw [h.en, hd]
  rfl
theorem end37 (r : List Int) : End (37 :: r) := by
  refine ⟨by rw [nxc0]; decide, by rw [nxc0]; rfl, by rw [nxc0]; rfl⟩
theorem on_pct {T : List Int} {n d : Int} {wh : Bool} (h : NumT T) (hd : dec T = some ((n, d), wh)) (r : List Int) : toks (T ++ 37 :: r) = ⟨11, [], n, d, wh, false⟩ :: toks r := by
  have k := h.head (t := 37 :: r)
  have e := end37 r
  refine toks_on k.1 k.2 ?_
  rw [h.tokn]
  unfold numb
  have e1 : nmB (nx (37 :: r) 0) (nx (37 :: r) 1) (nx (37 :: r) 2) = false := by rw [nxc0]; rfl
  rw [h.z _ e, h.t e, e1, if_neg (by decide), if_pos (nxc0 37 r)]
  unfold dcT
  rw [h.en, hd]
  rfl
theorem on_dim {T U l r : List Int} {n d : Int} {wh : Bool} (h : NumT T) (hd : dec T = some ((n, d), wh)) (e : End (U ++ r)) (hs : nmB (nx (U ++ r) 0) (nx (U ++ r) 1) (nx (U ++ r) 2) = true) (hn : nam [] (U ++ r) = (l, r)) : toks (T ++ (U ++ r)) = ⟨12, enc l, n, d, wh, false⟩ :: toks r := by
  have k := h.head (t := U ++ r)
  refine toks_on k.1 k.2 ?_
  rw [h.tokn]
  unfold numb
  rw [h.z _ e, h.t e, if_pos hs, hn]
  unfold dcT
  rw [h.en, hd]
  rfl
theorem end_app {U r : List Int} (hU : U ≠ []) (e : End U) (f : Fw r) : End (U ++ r) := by
  obtain ⟨e1, e2, e3⟩ := e
  have fd := f.dig
  have fs := f.sg
  match U, hU with
  | [a], _ =>
    have i0 : nx ([a] ++ r) 0 = a := rfl
    have i1 : nx ([a] ++ r) 1 = nx r 0 := rfl
    have j0 : nx [a] 0 = a := rfl
    rw [j0] at e1
    refine ⟨by rw [i0]; exact e1, by rw [i1, fd]; simp, ?_⟩
    unfold exB
    rw [i1, fs, fd]; simp
  | [a, b], _ =>
    have i0 : nx ([a, b] ++ r) 0 = a := rfl
    have i1 : nx ([a, b] ++ r) 1 = b := rfl
    have i2 : nx ([a, b] ++ r) 2 = nx r 0 := rfl
    have j0 : nx [a, b] 0 = a := rfl
    have j1 : nx [a, b] 1 = b := rfl
    rw [j0] at e1
    rw [j0, j1] at e2
    refine ⟨by rw [i0]; exact e1, by rw [i0, i1]; exact e2, ?_⟩
    rw [i0, i1, i2]
    have e3' : exB a b (nx [a, b] 2) = false := e3
    unfold exB at e3' ⊢
    rw [fd]
    cases hb : isSg b with
    | true => simp
    | false => rw [hb] at e3'; exact e3'
  | a :: b :: c :: q, _ => exact ⟨e1, e2, e3⟩
theorem on_unit {l r : List Int} (h : ∀ c ∈ l, 1 ≤ c) (hl : l ≠ []) (f : Fw r) : End (cUn l ++ r) ∧ nmB (nx (cUn l ++ r) 0) (nx (cUn l ++ r) 1) (nx (cUn l ++ r) 2) = true ∧ nam [] (cUn l ++ r) = (l, r) := by
  have ne : cUn l ≠ [] := by
    intro e
    have := (unit_all h hl).2.1
    rw [e] at this
    exact absurd this (by decide)
  refine ⟨end_app ne (unit_all h hl).1 f, ?_⟩
  unfold cUn
  cases hx : exL l with
  | false => exact ⟨(cId_start h hl f.ne.2.1).nm, nam_of h f.let (f.es _)⟩
  | true =>
    rw [if_pos rfl]
    cases l with
    | nil => exact absurd rfl hl
    | cons c q =>
      have hc : (1 ≤ nx (c :: q) 0 ∧ nx (c :: q) 0 < 256) ∨ nx (c :: q) 0 = 65279 := by
        left
        unfold exL at hx
        simp at hx
        omega
      rw [List.append_assoc]
      obtain ⟨g1, g2⟩ := esc_head hc (cNm ((c :: q).drop 1) ++ r)
      refine ⟨?_, ?_⟩
      · rw [g1]
        unfold nmB es2
        rw [if_neg (by decide)]
        have : (nx (esc (nx (c :: q) 0) ++ (cNm ((c :: q).drop 1) ++ r)) 1 != 10) = true := by rw [bne_iff_ne]; omega
        rw [this]; rfl
      · rw [nam_hx hc]
        have hr : ∀ x ∈ q, 1 ≤ x := fun x hx => h x (by simp [hx])
        show nam [c] (cNm q ++ r) = _
        rw [nam_cNm q [c] r hr]
        exact nam_end f.let (f.es _)
theorem on_cdc (r : List Int) : toks (45 :: 45 :: 62 :: r) = tk 15 :: toks r := by
  refine toks_on (by rw [nxc0]; decide) (by rw [nxc0]; decide) ?_
  rfl
theorem on_comma (r : List Int) : toks (44 :: r) = tk 18 :: toks r := by
  refine toks_on (by rw [nxc0]; decide) (by rw [nxc0]; decide) ?_
  rfl
theorem on_url {l : List Int} (h : ∀ c ∈ l, 1 ≤ c) (r : List Int) : toks (117 :: 114 :: 108 :: 40 :: (l.flatMap cUr ++ 41 :: r)) = tkt 7 l :: toks r := by
  obtain ⟨a, b⟩ := cUrs_head l h r
  refine toks_on (by rw [nxc0]; decide) (by rw [nxc0]; decide) ?_
  have st : Start (117 :: 114 :: 108 :: 40 :: (l.flatMap cUr ++ 41 :: r)) := .inr (.inl (by rw [nxc0]; decide))
  rw [st.tokn]
  have hn : nam [] (117 :: 114 :: 108 :: 40 :: (l.flatMap cUr ++ 41 :: r)) = ([117, 114, 108], 40 :: (l.flatMap cUr ++ 41 :: r)) := by
    rw [nam_let (by rw [nxc0]; decide)]
    show nam [117] (114 :: 108 :: 40 :: (l.flatMap cUr ++ 41 :: r)) = _
    rw [nam_let (by rw [nxc0]; decide)]
    show nam [117, 114] (108 :: 40 :: (l.flatMap cUr ++ 41 :: r)) = _
    rw [nam_let (by rw [nxc0]; decide)]
    show nam [117, 114, 108] (40 :: (l.flatMap cUr ++ 41 :: r)) = _
    exact nam_end (by rw [nxc0]; decide) (by rw [nxc0]; rfl)
  generalize hz : l.flatMap cUr ++ 41 :: r = z at *
  have hs : sbl z = z := by
    cases z with
    | nil => rfl
    | cons x r =>
      have : isBl x = false := a
      unfold sbl
      rw [this]
      rfl
  have hb : bls z = z := by
    cases z with
    | nil => rfl
    | cons x r =>
      have : isBl x = false := a
      unfold bls
      rw [List.dropWhile_cons_of_neg (by rw [this]; decide)]
  have hq : qut z = false := by unfold qut; rw [a, b]; rfl
  unfold word
  rw [hn, if_neg (by show ¬ (nx (40 :: z) 0 ≠ 40); rw [nxc0]; decide), if_pos (by show isUrlB (enc [117, 114, 108]) = true; decide)]
  show (if qut (sbl z) = true then _ else url [] (bls (sbl z))) = _
  rw [hs, hb, hq, if_neg (by decide), ← hz, url_all l [] r h]
  rfl
end Go.Proofs.YtcclhdiphcfdfaaGreatDoor
set_option linter.unusedVariables false
set_option linter.unusedSimpArgs false
namespace Go.Proofs.YtcclhdiphcfdfaaGreatDoor

/-- The kinds of a row. -/
def inK (k : Int) : Prop := k = 1 ∨ k = 10 ∨ k = 12 ∨ k = 11 ∨ k = 5 ∨ k = 18 ∨ k = 4 ∨ k = 3 ∨ k = 15 ∨ k = 7
/-- The characters of a token's text, and what is read. -/
structure Wr (t : TS) (cs : List Int) : Prop where
  en : wtA t = enc cs
  gd : ∀ x ∈ cs, Gd x
  on : ∀ r, (ro t.k = true → Fw r) → toks (cs ++ r) = ⟨t.k, bl t.s, t.n, t.d, t.i, t.h⟩ :: toks r
  fw : jo t.k = false → ∀ r, Fw (cs ++ r)
theorem gd1 {x : Int} (h : 14 ≤ x ∧ x < 128) : ∀ y ∈ [x], Gd y := gd_one (gd_asc h)
theorem nojo {k : Int} {p : Prop} (h : jo k = true) (j : jo k = false) : p := by rw [h] at j; cases j
theorem wr_all (t : TS) (ho : t.Ok) (hm : t.may = true) (hk : inK t.k) : ∃ cs, Wr t cs := by
  obtain ⟨k, s, n, d, i, h⟩ := t
  obtain ⟨k1, k2, hs, n1, n2, d1, d2⟩ := ho
  have hm' : mayT k (bl s) n d i h = true := hm
  simp only at k1 k2 hs n1 n2 d1 d2 hk
  have hb := bl_by s
  by_cases e1 : k = 1 ∨ k = 2 ∨ k = 3
  · rw [may_name e1] at hm'
    simp only [Bool.and_eq_true] at hm'
    obtain ⟨⟨hz, hh⟩, hc, hn⟩ := hm'
    obtain ⟨rfl, rfl, rfl⟩ := zB_out hz
    obtain rfl : h = false := by simpa using hh
    obtain ⟨tx, hw, he⟩ := tx_raw hb hc
    have hr : raw (bl s) ≠ [] := fun e => ne_emp hn ((raw_empty (bl s)).1 (by rw [e]; rfl))
    rcases e1 with rfl | rfl | rfl
    · refine ⟨cId (raw (bl s)), (cId_enc hb hw tx.c).symm, gd_cId tx, fun r f => ?_, fun j => nojo (show jo 1 = true by decide) j⟩
      rw [on_ident tx.one hr (f rfl)]
      unfold tkt; rw [he]
    · unfold inK at hk; omega
    · refine ⟨64 :: cId (raw (bl s)), ?_, gd_app (gd1 (x := 64) (by omega)) (gd_cId tx), fun r f => ?_, fun _ r => .inr (.inr (.inl rfl))⟩
      · show 64 :: wId (bl s) = enc ([64] ++ cId (raw (bl s))); rw [enc_app, cId_enc hb hw tx.c]; rfl
      · show toks (64 :: (cId (raw (bl s)) ++ r)) = _
        rw [on_at tx.one hr (f rfl)]
        unfold tkt; rw [he]
  by_cases e4 : k = 4
  · subst e4
    rw [may_hash] at hm'
    simp only [Bool.and_eq_true] at hm'
    obtain ⟨hz, ⟨hc, hn⟩, hf⟩ := hm'
    obtain ⟨rfl, rfl, rfl⟩ := zB_out hz
    obtain ⟨tx, hw, he⟩ := tx_raw hb hc
    have hr : raw (bl s) ≠ [] := fun e => ne_emp hn ((raw_empty (bl s)).1 (by rw [e]; rfl))
    cases h with
    | true =>
      refine ⟨35 :: cId (raw (bl s)), ?_, gd_app (gd1 (x := 35) (by omega)) (gd_cId tx), fun r f => ?_, fun _ r => .inr (.inr (.inr (.inl rfl)))⟩
      · show hshT true (bl s) = enc ([35] ++ cId (raw (bl s))); unfold hshT; rw [if_pos rfl, enc_app, cId_enc hb hw tx.c]; rfl
      · show toks (35 :: (cId (raw (bl s)) ++ r)) = _
        rw [on_hash tx.one hr (f rfl), he]
    | false =>
      refine ⟨35 :: cNm (raw (bl s)), ?_, gd_app (gd1 (x := 35) (by omega)) (gd_cNm tx), fun r f => ?_, fun _ r => .inr (.inr (.inr (.inl rfl)))⟩
      · show hshT false (bl s) = enc ([35] ++ cNm (raw (bl s))); unfold hshT; rw [if_neg (by decide), enc_app, cNm_enc _ tx.c]; rfl
      · show toks (35 :: (cNm (raw (bl s)) ++ r)) = _
        rw [on_hash' tx.one (by rw [hash_raw _ hb (ne_emp hn) hw]; simpa using hf) (f rfl), he]
  by_cases e5 : k = 5 ∨ k = 7
  · rw [may_text e5] at hm'
    simp only [Bool.and_eq_true] at hm'
    obtain ⟨⟨hz, hh⟩, hc⟩ := hm'
    obtain ⟨rfl, rfl, rfl⟩ := zB_out hz
    obtain rfl : h = false := by simpa using hh
    obtain ⟨tx, hw, he⟩ := tx_raw hb hc
    rcases e5 with rfl | rfl
    · refine ⟨34 :: ((raw (bl s)).flatMap cQt ++ [34]), ?_, gd_app (gd1 (x := 34) (by omega)) (gd_app (gd_flat tx (fun c hc => gd_cQt hc)) (gd1 (by omega))), fun r _ => ?_, fun _ r => .inr (.inr (.inr (.inr (.inl rfl))))⟩
      · show 34 :: (qtL (raw (bl s)) ++ [34]) = enc ([34] ++ ((raw (bl s)).flatMap cQt ++ [34])); rw [enc_app, enc_app, cQts_enc _ tx.c]; rfl
      · have e : (34 :: ((raw (bl s)).flatMap cQt ++ [34])) ++ r = 34 :: ((raw (bl s)).flatMap cQt ++ 34 :: r) := by simp
        rw [e, on_text tx.one r]
        unfold tkt; rw [he]
    · have g4 : ∀ x ∈ [(117 : Int), 114, 108, 40], Gd x := by
        intro x hx
        simp at hx
        exact gd_asc (by omega)
      refine ⟨117 :: 114 :: 108 :: 40 :: ((raw (bl s)).flatMap cUr ++ [41]), ?_, gd_app g4 (gd_app (gd_flat tx (fun c hc => gd_cUr hc)) (gd1 (by omega))), fun r _ => ?_, fun j => nojo (show jo 7 = true by decide) j⟩
      · show 117 :: 114 :: 108 :: 40 :: (urL (raw (bl s)) ++ [41]) = enc ([117, 114, 108, 40] ++ ((raw (bl s)).flatMap cUr ++ [41])); rw [enc_app, enc_app, cUrs_enc _ tx.c]; rfl
      · have e : (117 :: 114 :: 108 :: 40 :: ((raw (bl s)).flatMap cUr ++ [41])) ++ r = 117 :: 114 :: 108 :: 40 :: ((raw (bl s)).flatMap cUr ++ 41 :: r) := by simp
        rw [e, on_url tx.one r]
        unfold tkt; rw [he]
  by_cases e10 : k = 10 ∨ k = 11
  · rw [may_num e10] at hm'
    simp only [Bool.and_eq_true] at hm'
    obtain ⟨⟨he, hh⟩, hp⟩ := hm'
    obtain rfl : h = false := by simpa using hh
    obtain ⟨tt, ht⟩ := som hp
    have hbs : bl s = [] := by simpa using he
    have hN : numW ⟨k, s, n, d, i, false⟩ = tt := by unfold numW; simp only [ht]; rfl
    have NT := pl_num ht
    rcases e10 with rfl | rfl
    · refine ⟨tt, ?_, num_gd (pl_lo ht), fun r f => ?_, fun j => nojo (show jo 10 = true by decide) j⟩
      · show numW ⟨10, s, n, d, i, false⟩ = _; rw [hN, NT.en]
      · rw [on_num NT (pl_back n1 n2 d2 ht) (f rfl), hbs]
    · refine ⟨tt ++ [37], ?_, gd_app (num_gd (pl_lo ht)) (gd1 (by omega)), fun r _ => ?_, fun j => nojo (show jo 11 = true by decide) j⟩
      · show numW ⟨11, s, n, d, i, false⟩ ++ [37] = _; rw [hN, enc_app, NT.en]; rfl
      · rw [List.append_assoc]
        show toks (tt ++ 37 :: r) = _
        rw [on_pct NT (pl_back n1 n2 d2 ht) r, hbs]
  by_cases e12 : k = 12
  · subst e12
    rw [may_dim] at hm'
    simp only [Bool.and_eq_true] at hm'
    obtain ⟨⟨hc, hn⟩, hh, hp⟩ := hm'
    obtain rfl : h = false := by simpa using hh
    obtain ⟨tt, ht⟩ := som hp
    have hN : numW ⟨12, s, n, d, i, false⟩ = tt := by unfold numW; simp only [ht]; rfl
    have NT := pl_num ht
    obtain ⟨tx, hw, he⟩ := tx_raw hb hc
    have hr : raw (bl s) ≠ [] := fun e => ne_emp hn ((raw_empty (bl s)).1 (by rw [e]; rfl))
    refine ⟨tt ++ cUn (raw (bl s)), ?_, gd_app (num_gd (pl_lo ht)) (gd_cUn tx), fun r f => ?_, fun j => nojo (show jo 12 = true by decide) j⟩
    · show numW ⟨12, s, n, d, i, false⟩ ++ unT (bl s) = _; rw [hN, enc_app, NT.en, cUn_enc hb hw tx.c]
    · obtain ⟨u1, u2, u3⟩ := on_unit tx.one hr (f rfl)
      rw [List.append_assoc, on_dim NT (pl_back n1 n2 d2 ht) u1 u2 u3, he]
  have hk2 : k = 15 ∨ k = 18 := by unfold inK at hk; omega
  have hkk : ¬ (k = 1 ∨ k = 2 ∨ k = 3 ∨ k = 4 ∨ k = 5 ∨ k = 7 ∨ k = 9 ∨ k = 10 ∨ k = 11 ∨ k = 12) := by omega
  rw [may_rest hkk] at hm'
  simp only [Bool.and_eq_true] at hm'
  obtain ⟨⟨q1, q2⟩, he, hz, hh⟩ := hm'
  obtain ⟨rfl, rfl, rfl⟩ := zB_out hz
  obtain rfl : h = false := by simpa using hh
  have hbs : bl s = [] := by simpa using he
  have e : wtA ⟨k, s, 0, 0, false, false⟩ = bl (fx k) := by
    unfold wtA
    simp only
    repeat rw [if_neg (by omega)]
  rcases hk2 with rfl | rfl
  · refine ⟨[45, 45, 62], ?_, fun x hx => by simp at hx; exact gd_asc (by omega), fun r _ => ?_, fun j => nojo (show jo 15 = true by decide) j⟩
    · rw [e]; decide
    · show toks (45 :: 45 :: 62 :: r) = _
      rw [on_cdc r, hbs]; rfl
  · refine ⟨[44], ?_, fun x hx => by simp at hx; exact gd_asc (by omega), fun r _ => ?_, fun _ r => .inr (.inr (.inr (.inr (.inr (.inl rfl)))))⟩
    · rw [e]; decide
    · show toks (44 :: r) = _
      rw [on_comma r, hbs]; rfl
/-! ### The row -/
def sep (a b : Int) : List Int := if apB a b = true then [47, 42, 42, 47] else []
/-- The characters of a row's text. -/
inductive WrS : List TS → List Int → Prop
  | nil : WrS [] []
  | one {t : TS} {cs : List Int} (h : Wr t cs) : WrS [t] cs
  | cons {t u : TS} {ts : List TS} {cs r : List Int} (h : Wr t cs) (g : WrS (u :: ts) r) : WrS (t :: u :: ts) (cs ++ (sep t.k u.k ++ r))
theorem wrs_all : ∀ (ts : List TS), (∀ t ∈ ts, t.Ok ∧ t.may = true ∧ inK t.k) → ∃ cs, WrS ts cs
  | [], _ => ⟨[], .nil⟩
  | [t], h => by
    obtain ⟨h1, h2, h3⟩ := h t (by simp)
    obtain ⟨cs, w⟩ := wr_all t h1 h2 h3
    exact ⟨cs, .one w⟩
  | t :: u :: ts, h => by
    obtain ⟨h1, h2, h3⟩ := h t (by simp)
    obtain ⟨cs, w⟩ := wr_all t h1 h2 h3
    obtain ⟨r, g⟩ := wrs_all (u :: ts) (fun x hx => h x (by simp at hx ⊢; exact .inr hx))
    exact ⟨_, .cons w g⟩
def tkOf (t : TS) : Tk := ⟨t.k, bl t.s, t.n, t.d, t.i, t.h⟩
theorem WrS.gd {ts : List TS} {cs : List Int} (h : WrS ts cs) : ∀ x ∈ cs, Gd x := by
  induction h with
  | nil => simp
  | one h => exact h.gd
  | cons h g ih =>
    refine gd_app h.gd (gd_app ?_ ih)
    unfold sep
    split
    · intro x hx; simp at hx; exact gd_asc (by omega)
    · simp
theorem WrS.fw {u : TS} {ts : List TS} {r : List Int} (h : WrS (u :: ts) r) (hj : jo u.k = false) : Fw r := by
  cases h with
  | one h => have := h.fw hj []; rwa [List.append_nil] at this
  | cons h g => exact h.fw hj _
theorem toks_sep (v : List Int) : toks ([47, 42, 42, 47] ++ v) = toks v := toks_remark [] v (by simp)
theorem WrS.toks {ts : List TS} {cs : List Int} (h : WrS ts cs) (hk : ∀ t ∈ ts, inK t.k) : Go.Proofs.YtcclhdiphcfdfaaGreatDoor.toks cs = ts.map tkOf := by
  induction h with
  | nil => exact toks_nil
  | one h =>
    have := h.on [] (fun _ => .inl rfl)
    rw [List.append_nil, toks_nil] at this
    exact this
  | @cons t u ts cs r h g ih =>
    have ih' := ih (fun x hx => hk x (by simp at hx ⊢; exact .inr hx))
    have k13 : t.k ≠ 13 := by have := hk t (by simp); unfold inK at this; omega
    cases ha : apB t.k u.k with
    | true =>
      have e : sep t.k u.k = [47, 42, 42, 47] := by unfold sep; rw [ha]; rfl
      rw [e, h.on _ (fun _ => .inr (.inl rfl)), toks_sep, ih']
      rfl
    | false =>
      have e : sep t.k u.k = [] := by unfold sep; rw [ha]; rfl
      rw [e, List.nil_append, h.on _ (fun hr => ?_), ih']
      · rfl
      · unfold apB at ha
        rw [hr] at ha
        have : jo u.k = false := by simpa [k13] using ha
        exact g.fw this
/-- What spell.Tokens writes. -/
theorem spK_cons {wt : TS → List Int} (t : TS) (ts : List TS) : ∀ k, 1 ≤ k → k ≤ ts.length → spK wt (t :: ts) (k + 1) = wt t ++ ((match ts[0]? with | none => [] | some u => sep t.k u.k) ++ spK wt ts k) := by
  intro k
  induction k with
  | zero => intro h; omega
  | succ k ih =>
    intro _ hk
    by_cases h0 : k = 0
    · subst h0
      cases ts with
      | nil => simp at hk
      | cons u ts => simp [spK, sep]
    · obtain ⟨j, rfl⟩ : ∃ j, k = j + 1 := ⟨k - 1, by omega⟩
      rw [spK, ih (by omega) (by omega)]
      conv => rhs; rw [spK]
      have e1 : (t :: ts)[j + 1 + 1]? = ts[j + 1]? := rfl
      have e2 : (t :: ts)[j + 1]? = ts[j]? := rfl
      simp only [e1, e2]
      cases h1 : ts[j + 1]? with
      | none => simp
      | some x => simp [List.append_assoc]
theorem WrS.en {ts : List TS} {cs : List Int} (h : WrS ts cs) : spK wtA ts ts.length = enc cs := by
  induction h with
  | nil => rfl
  | one h => show spK wtA _ 1 = _; rw [← h.en]; exact spK_one wtA _
  | @cons t u ts cs r h g ih =>
    have := spK_cons (wt := wtA) t (u :: ts) (u :: ts).length (by simp) (Nat.le_refl _)
    show spK wtA (t :: u :: ts) ((u :: ts).length + 1) = _
    rw [this, ih, h.en, enc_app, enc_app]
    congr 2
    show sep t.k u.k = enc (sep t.k u.k)
    unfold sep
    split
    · decide
    · rfl
/-- A row, written, is read as it was. -/
theorem row_back (ts : List TS) (h : ∀ t ∈ ts, t.Ok ∧ t.may = true ∧ inK t.k) : Go.Proofs.YtcclhdiphcfdfaaGreatDoor.toks (dcd (spK wtA ts ts.length)) = ts.map tkOf := by
  obtain ⟨cs, w⟩ := wrs_all ts h
  rw [w.en, dcd_gd w.gd]
  exact w.toks (fun t ht => (h t ht).2.2)
end Go.Proofs.YtcclhdiphcfdfaaGreatDoor
