/-
  Plain: a name that is written is read as it was: letters, escapes, and what follows.
  Plain: an identifier that is written is read as it was, with what follows.
  Plain: functions, at-words, hashes, texts in quotes and urls that are written are read as they were.
  Plain: urls that are written are read as they were; single characters; fixed texts.
  Plain: single characters and fixed texts that are written are read as they were.
  Plain: numbers, percentages and dimensions that are written are read as they were.
  Plain: a unit that is written behind a number is read as it was.
  Plain: what is written, as bytes, is the encoding of what is written, as characters.
  Plain: each token that may be, written, is read as it alone (but a bad text, a lone backslash, a function url).
  Plain: SpellOne's heart: each token that may be, written, is read as it alone (but a bad text, a lone backslash, a function url).
-/
import Derived.Test.YtcclhdiphcfdfaaGreatDoorKw
import Derived.Test.YtcclhdiphcfdfaaGreatDoorKb
set_option linter.unusedVariables false
set_option linter.unusedSimpArgs false
namespace Go.Proofs.YtcclhdiphcfdfaaGreatDoor
open Go.RowKit

/-- A letter of a name, as characters. -/
def cLt (c : Int) : List Int := if isHid c = true then esc c else if isLet c = true then [c] else [92, c]
def cNm (l : List Int) : List Int := l.flatMap cLt
theorem hexv_hd : ∀ d : Nat, d < 16 → hexv (hd d) = d := by decide
theorem hd_ge : ∀ d : Nat, d < 16 → 48 ≤ hd d ∧ hd d ≤ 102 := by decide
theorem nxc0 (c : Int) (t : List Int) : nx (c :: t) 0 = c := rfl
theorem nxc1 (c d : Int) (t : List Int) : nx (c :: d :: t) 1 = d := rfl
theorem hexs_step {k : Nat} {n : Int} {d : Nat} {t : List Int} (h : d < 16) : hexs (k + 1) n (hd d :: t) = hexs k (n * 16 + d) t := by
  have e := hexv_hd d h
  have h2 : ¬ hexv (nx (hd d :: t) 0) < 0 := by rw [nxc0]; omega
  simp only [hexs, if_neg h2]
  rw [nxc0, e]
  rfl
theorem hexs_stop {k : Nat} {n : Int} {t : List Int} : hexs (k + 1) n (32 :: t) = (n, 32 :: t) := by
  have h : hexv (nx (32 :: t) 0) < 0 := by rw [nxc0]; decide
  simp only [hexs, if_pos h]
theorem hxL_two {n : Nat} (h : 16 ≤ n) (h2 : n < 256) : hxL n = [hd (n / 16), hd (n % 16)] := by
  rw [hxL, dif_neg (by omega), hxL, dif_pos (by omega)]
  rfl
/-- The digits of a small number, and a space. -/
theorem hexs_hx {n : Nat} (h : n < 256) (t : List Int) : hexs 6 0 (hxL n ++ 32 :: t) = ((n : Int), 32 :: t) := by
  by_cases h1 : n < 16
  · rw [hxL_one h1]
    show hexs (5 + 1) 0 (hd n :: 32 :: t) = _
    rw [hexs_step h1, hexs_stop]
    simp
  · rw [hxL_two (by omega) h]
    show hexs (5 + 1) 0 (hd (n / 16) :: hd (n % 16) :: 32 :: t) = _
    rw [hexs_step (by omega), hexs_step (by omega), hexs_stop]
    have : ((0 : Int) * 16 + (n / 16 : Nat)) * 16 + (n % 16 : Nat) = n := by omega
    rw [this]
theorem hexs_bom (t : List Int) : hexs 6 0 (hxL 65279 ++ 32 :: t) = (65279, 32 :: t) := by
  have : hxL 65279 = [hd 15, hd 14, hd 15, hd 15] := by
    rw [hxL, dif_neg (by decide), hxL, dif_neg (by decide), hxL_two (by decide) (by decide)]
    rfl
  rw [this]
  show hexs (5 + 1) 0 (hd 15 :: hd 14 :: hd 15 :: hd 15 :: 32 :: t) = _
  rw [hexs_step (by decide), hexs_step (by decide), hexs_step (by decide), hexs_step (by decide), hexs_stop]
  rfl
theorem hx_head (n : Nat) (h : n < 256 ∨ n = 65279) (t : List Int) : ∃ d r, d < 16 ∧ hxL n ++ t = hd d :: r := by
  rcases h with h | rfl
  · by_cases h1 : n < 16
    · exact ⟨n, t, h1, by rw [hxL_one h1]; rfl⟩
    · exact ⟨n / 16, hd (n % 16) :: t, by omega, by rw [hxL_two (by omega) h]; rfl⟩
  · refine ⟨15, hd 14 :: hd 15 :: hd 15 :: t, by decide, ?_⟩
    rw [hxL, dif_neg (by decide), hxL, dif_neg (by decide), hxL_two (by decide) (by decide)]
    rfl
/-- An escape by digits, read. -/
theorem tesc_hx {n : Nat} (h : n < 256 ∨ n = 65279) (h0 : n ≠ 0) (t : List Int) : tesc (hxL n ++ 32 :: t) = ((n : Int), t) := by
  obtain ⟨d, r, hd', e⟩ := hx_head n h (32 :: t)
  have hh : hexs 6 0 (hxL n ++ 32 :: t) = ((n : Int), 32 :: t) := by
    rcases h with h | rfl
    · exact hexs_hx h t
    · exact hexs_bom t
  have e1 : nx (hxL n ++ 32 :: t) 0 = hd d := by rw [e]; rfl
  have g := hd_ge d hd'
  have v := hexv_hd d hd'
  unfold tesc
  rw [hh, e1, if_neg (by omega), v, if_neg (by omega)]
  have hc : chr (n : Int) = n := by unfold chr; rw [if_pos]; unfold isC; simp; omega
  have hb : isBl (nx (32 :: t) 0) = true := by rw [nxc0]; decide
  simp only [hc, if_pos hb]
  rw [if_neg (by omega)]
  rfl
theorem nam_hx {acc t : List Int} {c : Int} (h : (1 ≤ c ∧ c < 256) ∨ c = 65279) : nam acc (esc c ++ t) = nam (acc ++ [c]) t := by
  have hn : c.toNat < 256 ∨ c.toNat = 65279 := by omega
  have h0 : c.toNat ≠ 0 := by omega
  obtain ⟨d, r, hd', e⟩ := hx_head c.toNat hn (32 :: t)
  have g := hd_ge d hd'
  have hs : esc c ++ t = 92 :: (hxL c.toNat ++ 32 :: t) := by unfold esc; simp
  rw [hs]
  have k1 : nx (92 :: (hxL c.toNat ++ 32 :: t)) 1 = hd d := by rw [e]; rfl
  rw [nam_esc (by rw [nxc0]; decide) (by rw [nxc0, k1]; unfold es2; simp; omega)]
  show nam (acc ++ [(tesc (hxL c.toNat ++ 32 :: t)).1]) (tesc (hxL c.toNat ++ 32 :: t)).2 = _
  rw [tesc_hx hn h0]
  have : ((c.toNat : Nat) : Int) = c := by omega
  simp only [this]
theorem hid_small {c : Int} (h : isHid c = true) : (1 ≤ c ∧ c < 256) ∨ c = 65279 := by
  unfold isHid at h
  simp at h
  omega
/-- One letter of a name, read. -/
theorem nam_cLt {acc t : List Int} {c : Int} (h1 : 1 ≤ c) : nam acc (cLt c ++ t) = nam (acc ++ [c]) t := by
  unfold cLt
  split
  · rename_i h; exact nam_hx (hid_small h)
  · rename_i hh
    split
    · rename_i h
      show nam acc (c :: t) = _
      rw [nam_let (by rw [nxc0]; exact h)]
      rfl
    · rename_i h
      show nam acc (92 :: c :: t) = _
      have hx : hexv c < 0 := by
        unfold isLet isFst isDig at h
        unfold hexv
        simp at h
        repeat' split
        all_goals omega
      have h10 : c ≠ 10 := by
        rintro rfl
        exact hh (by decide)
      rw [nam_esc (by rw [nxc0]; decide) (by rw [nxc0, nxc1]; unfold es2; simp; omega)]
      show nam (acc ++ [(tesc (c :: t)).1]) (tesc (c :: t)).2 = _
      have : tesc (c :: t) = (c, t) := by
        unfold tesc
        rw [nxc0, if_neg (by omega), if_pos hx]
        rfl
      rw [this]
/-- A written name, read: its letters come up, and what follows goes on. -/
theorem nam_cNm (l : List Int) : ∀ (acc t : List Int), (∀ c ∈ l, 1 ≤ c) → nam acc (cNm l ++ t) = nam (acc ++ l) t := by
  induction l with
  | nil => intro acc t _; simp [cNm]
  | cons c l ih =>
    intro acc t h
    have e : cNm (c :: l) ++ t = cLt c ++ (cNm l ++ t) := by simp [cNm]
    rw [e, nam_cLt (h c (by simp)), ih _ _ (fun x hx => h x (by simp [hx]))]
    simp
end Go.Proofs.YtcclhdiphcfdfaaGreatDoor
set_option linter.unusedVariables false
set_option linter.unusedSimpArgs false
namespace Go.Proofs.YtcclhdiphcfdfaaGreatDoor
open Go.RowKit

def cHd (c : Int) : List Int := if isDig c = true then esc c else cLt c
def cId1 : List Int → List Int
  | [] => []
  | c :: r => cHd c ++ cNm r
def cId0 : List Int → List Int
  | [] => []
  | c :: r => cHd c ++ if c = 45 then cId1 r else cNm r
def cId (l : List Int) : List Int := if l = [45] then [92, 45] else cId0 l
theorem nam_cHd {acc t : List Int} {c : Int} (h1 : 1 ≤ c) : nam acc (cHd c ++ t) = nam (acc ++ [c]) t := by
  unfold cHd
  split
  · rename_i h
    exact nam_hx (.inl (by unfold isDig at h; simp at h; omega))
  · exact nam_cLt h1
theorem nam_cId1 {acc t l : List Int} (h : ∀ c ∈ l, 1 ≤ c) : nam acc (cId1 l ++ t) = nam (acc ++ l) t := by
  cases l with
  | nil => simp [cId1]
  | cons c r =>
    show nam acc (cHd c ++ cNm r ++ t) = _
    rw [List.append_assoc, nam_cHd (h c (by simp)), nam_cNm r _ _ (fun x hx => h x (by simp [hx]))]
    simp
theorem nam_cId0 {acc t l : List Int} (h : ∀ c ∈ l, 1 ≤ c) : nam acc (cId0 l ++ t) = nam (acc ++ l) t := by
  cases l with
  | nil => simp [cId0]
  | cons c r =>
    have hr : ∀ x ∈ r, 1 ≤ x := fun x hx => h x (by simp [hx])
    show nam acc (cHd c ++ (if c = 45 then cId1 r else cNm r) ++ t) = _
    rw [List.append_assoc, nam_cHd (h c (by simp))]
    split
    · rw [nam_cId1 hr]; simp
    · rw [nam_cNm r _ _ hr]; simp
theorem nam_cId {acc t l : List Int} (h : ∀ c ∈ l, 1 ≤ c) : nam acc (cId l ++ t) = nam (acc ++ l) t := by
  unfold cId
  split
  · rename_i e
    subst e
    show nam acc (92 :: 45 :: t) = _
    rw [nam_esc (by rw [nxc0]; decide) (by rw [nxc0, nxc1]; decide)]
    show nam (acc ++ [(tesc (45 :: t)).1]) (tesc (45 :: t)).2 = _
    have : tesc (45 :: t) = (45, t) := by
      unfold tesc
      rw [nxc0, if_neg (by decide), if_pos (by decide)]
      rfl
    rw [this]
  · exact nam_cId0 h
/-- What an escape begins with. -/
theorem esc_head {c : Int} (h : (1 ≤ c ∧ c < 256) ∨ c = 65279) (t : List Int) : nx (esc c ++ t) 0 = 92 ∧ 48 ≤ nx (esc c ++ t) 1 := by
  obtain ⟨d, r, hd', e⟩ := hx_head c.toNat (by omega) (32 :: t)
  have hs : esc c ++ t = 92 :: (hxL c.toNat ++ 32 :: t) := by unfold esc; simp
  rw [hs, e]
  exact ⟨rfl, (hd_ge d hd').1⟩
theorem cHd_head {c : Int} (h1 : 1 ≤ c) (t : List Int) : (nx (cHd c ++ t) 0 = 92 ∧ nx (cHd c ++ t) 1 ≠ 10) ∨ (isFst c = true ∧ cHd c = [c]) ∨ (c = 45 ∧ cHd c = [45]) := by
  unfold cHd
  split
  · rename_i h
    have := esc_head (c := c) (.inl (by unfold isDig at h; simp at h; omega)) t
    exact .inl ⟨this.1, by omega⟩
  · rename_i hd0
    unfold cLt
    split
    · rename_i h
      have := esc_head (hid_small h) t
      exact .inl ⟨this.1, by omega⟩
    · rename_i hh
      split
      · rename_i h
        have hd1 : isDig c = false := by simpa using hd0
        unfold isLet at h
        rw [hd1, Bool.or_false, Bool.or_eq_true] at h
        rcases h with h | h
        · exact .inr (.inl ⟨h, rfl⟩)
        · have e : c = 45 := by simpa using h
          exact .inr (.inr ⟨e, by rw [e]⟩)
      · refine .inl ⟨rfl, ?_⟩
        show c ≠ 10
        rintro rfl
        exact hh (by decide)
theorem cLt_head {c : Int} (h1 : 1 ≤ c) (t : List Int) : nx (cLt c ++ t) 0 ≠ 62 := by
  unfold cLt
  split
  · rename_i h
    have := esc_head (hid_small h) t
    omega
  · split
    · rename_i h
      show c ≠ 62
      rintro rfl
      exact absurd h (by decide)
    · show (92 : Int) ≠ 62
      decide
theorem cNm_head {l : List Int} (h : ∀ c ∈ l, 1 ≤ c) {t : List Int} (ht : nx t 0 ≠ 62) : nx (cNm l ++ t) 0 ≠ 62 := by
  cases l with
  | nil => simpa [cNm] using ht
  | cons c r =>
    have e : cNm (c :: r) ++ t = cLt c ++ (cNm r ++ t) := by simp [cNm]
    rw [e]
    exact cLt_head (h c (by simp)) _
def Start (s : List Int) : Prop := (nx s 0 = 92 ∧ nx s 1 ≠ 10) ∨ isFst (nx s 0) = true ∨ (nx s 0 = 45 ∧ ((nx s 1 = 92 ∧ nx s 2 ≠ 10) ∨ isFst (nx s 1) = true ∨ (nx s 1 = 45 ∧ nx s 2 ≠ 62)))
theorem nx_succ (c : Int) (t : List Int) (k : Nat) : nx (c :: t) (k + 1) = nx t k := rfl
theorem cId_start {l t : List Int} (h : ∀ c ∈ l, 1 ≤ c) (hl : l ≠ []) (ht : nx t 0 ≠ 62) : Start (cId l ++ t) := by
  unfold cId
  split
  · exact .inl ⟨rfl, by show (45 : Int) ≠ 10; decide⟩
  · rename_i h45
    cases l with
    | nil => exact absurd rfl hl
    | cons c r =>
      have hr : ∀ x ∈ r, 1 ≤ x := fun x hx => h x (by simp [hx])
      show Start (cHd c ++ (if c = 45 then cId1 r else cNm r) ++ t)
      rw [List.append_assoc]
      rcases cHd_head (h c (by simp)) ((if c = 45 then cId1 r else cNm r) ++ t) with g | ⟨g, e⟩ | ⟨rfl, e⟩
      · exact .inl g
      · rw [e]; exact .inr (.inl g)
      · rw [e, if_pos rfl]
        refine .inr (.inr ⟨rfl, ?_⟩)
        cases r with
        | nil => exact absurd rfl h45
        | cons b r =>
          have hr2 : ∀ x ∈ r, 1 ≤ x := fun x hx => hr x (by simp [hx])
          have e3 : cId1 (b :: r) ++ t = cHd b ++ (cNm r ++ t) := by
            show cHd b ++ cNm r ++ t = _
            rw [List.append_assoc]
          rw [e3]
          show (nx (cHd b ++ (cNm r ++ t)) 0 = 92 ∧ nx (cHd b ++ (cNm r ++ t)) 1 ≠ 10) ∨ isFst (nx (cHd b ++ (cNm r ++ t)) 0) = true ∨ (nx (cHd b ++ (cNm r ++ t)) 0 = 45 ∧ nx (cHd b ++ (cNm r ++ t)) 1 ≠ 62)
          rcases cHd_head (hr b (by simp)) (cNm r ++ t) with g | ⟨g, e2⟩ | ⟨rfl, e2⟩
          · exact .inl g
          · rw [e2]; exact .inr (.inl g)
          · rw [e2]
            exact .inr (.inr ⟨rfl, cNm_head hr2 ht⟩)
theorem fst_facts {c : Int} (h : isFst c = true) : isBl c = false ∧ isQ c = false ∧ isDig c = false ∧ c ≠ 47 ∧ c ≠ -1 ∧ c ≠ 45 ∧ c ≠ 92 ∧ c ≠ 46 := by
  unfold isFst at h
  unfold isBl isQ isDig
  simp at h ⊢
  omega
theorem Start.nm {s : List Int} (h : Start s) : nmB (nx s 0) (nx s 1) (nx s 2) = true := by
  unfold nmB es2
  rcases h with ⟨a, b⟩ | a | ⟨a, ⟨b, c⟩ | b | ⟨b, c⟩⟩
  · rw [a, if_neg (by decide)]; simp [b]
  · rw [if_neg (fst_facts a).2.2.2.2.2.1, a]; rfl
  · rw [a, if_pos rfl, b]; simp [c]
  · rw [a, if_pos rfl, b]; simp
  · rw [a, if_pos rfl, b]; simp
theorem Start.tokn {s : List Int} (h : Start s) : tokn s = word s := by
  have hn := h.nm
  unfold Go.Proofs.YtcclhdiphcfdfaaGreatDoor.tokn
  rcases h with ⟨a, b⟩ | a | ⟨a, h2⟩
  · have e : es2 (nx s 0) (nx s 1) = true := by unfold es2; rw [a]; simp [b]
    rw [a] at e
    simp only [a]
    unfold sgnT
    simp only [a, e]
    rfl
  · obtain ⟨f1, f2, f3, _⟩ := fst_facts a
    simp [f1, f2, f3, a]
  · have hu : nuB (nx s 0) (nx s 1) (nx s 2) = false := by
      unfold nuB
      rw [a, if_pos (by decide)]
      rcases h2 with ⟨b, c⟩ | b | ⟨b, c⟩
      · rw [b]; simp; decide
      · obtain ⟨_, _, f3, _, _, _, _, f8⟩ := fst_facts b
        simp [f3, f8]
      · rw [b]; simp; decide
    have hc : ¬ (nx s 1 = 45 ∧ nx s 2 = 62) := by
      rintro ⟨x, y⟩
      rcases h2 with ⟨b, c⟩ | b | ⟨b, c⟩
      · rw [x] at b; exact absurd b (by decide)
      · rw [x] at b; exact absurd b (by decide)
      · exact c y
    rw [a] at hu hn
    simp only [a]
    unfold sgnT
    simp only [a, hu, hn, if_neg hc]
    rfl
theorem Start.head {s : List Int} (h : Start s) : nx s 0 ≠ 47 ∧ nx s 0 ≠ -1 := by
  rcases h with ⟨a, _⟩ | a | ⟨a, _⟩
  · rw [a]; decide
  · obtain ⟨_, _, _, x, y, _⟩ := fst_facts a; exact ⟨x, y⟩
  · rw [a]; decide
/-- An identifier, written alone, is read as it alone. -/
theorem toks_ident {l : List Int} (h : ∀ c ∈ l, 1 ≤ c) (hl : l ≠ []) : toks (cId l) = [tkt 1 l] := by
  have st : Start (cId l) := by have := cId_start (t := []) h hl (by decide); rwa [List.append_nil] at this
  have hn : nam [] (cId l) = (l, []) := by
    have := nam_cId (acc := []) (t := []) h
    rw [List.append_nil, List.nil_append] at this
    rw [this]
    exact nam_end (by decide) (by decide)
  have hr : rmk (cId l) = cId l := rmk_end (by simp [st.head.1])
  have hw : word (cId l) = (tkt 1 l, []) := by
    unfold word
    rw [hn, if_pos (by show nx [] 0 ≠ 40; decide)]
  rw [toks_go (by rw [hr]; exact st.head.2), hr, st.tokn, hw]
  show tkt 1 l :: toks [] = _
  rw [toks_end (by rw [rmk_end (by simp [nx])]; rfl)]
end Go.Proofs.YtcclhdiphcfdfaaGreatDoor
set_option linter.unusedVariables false
set_option linter.unusedSimpArgs false
namespace Go.Proofs.YtcclhdiphcfdfaaGreatDoor
open Go.RowKit

theorem toks_nil : toks [] = [] := toks_end (by rw [rmk_end (by simp [nx])]; rfl)
theorem toks_of {s : List Int} {τ : Tk} (h1 : nx s 0 ≠ -1) (h2 : nx s 0 ≠ 47) (h3 : tokn s = (τ, [])) : toks s = [τ] := by
  have hr : rmk s = s := rmk_end (by simp [h2])
  rw [toks_go (by rw [hr]; exact h1), hr, h3]
  show τ :: toks [] = _
  rw [toks_nil]
theorem nam_of {l t : List Int} (h : ∀ c ∈ l, 1 ≤ c) (h1 : isLet (nx t 0) = false) (h2 : es2 (nx t 0) (nx t 1) = false) : nam [] (cId l ++ t) = (l, t) := by
  rw [nam_cId h, List.nil_append]
  exact nam_end h1 h2
theorem nam_cid {l : List Int} (h : ∀ c ∈ l, 1 ≤ c) : nam [] (cId l) = (l, []) := by
  have := nam_of (t := []) h (by decide) (by decide)
  rwa [List.append_nil] at this
theorem start_cid {l : List Int} (h : ∀ c ∈ l, 1 ≤ c) (hl : l ≠ []) : Start (cId l) := by
  have := cId_start (t := []) h hl (by decide)
  rwa [List.append_nil] at this
/-- A function. -/
theorem toks_func {l : List Int} (h : ∀ c ∈ l, 1 ≤ c) (hl : l ≠ []) (hu : isUrlB (enc l) = false) : toks (cId l ++ [40]) = [tkt 2 l] := by
  have st : Start (cId l ++ [40]) := cId_start h hl (by decide)
  refine toks_of st.head.2 st.head.1 ?_
  rw [st.tokn]
  unfold word
  rw [nam_of h (by decide) (by decide), if_neg (by show ¬ (nx [40] 0 ≠ 40); decide), hu]
  rfl
/-- A word behind @. -/
theorem toks_at {l : List Int} (h : ∀ c ∈ l, 1 ≤ c) (hl : l ≠ []) : toks (64 :: cId l) = [tkt 3 l] := by
  have st := (start_cid h hl).nm
  refine toks_of (by rw [nxc0]; decide) (by rw [nxc0]; decide) ?_
  unfold tokn
  have e : nx (64 :: cId l) 0 = 64 := rfl
  have e1 : nmB (nx (64 :: cId l) 1) (nx (64 :: cId l) 2) (nx (64 :: cId l) 3) = true := st
  have e2 : nam [] ((64 :: cId l).drop 1) = (l, []) := nam_cid h
  simp only [e]
  unfold sgnT
  simp only [e, e1, e2]
  rfl
theorem Start.let_ {s : List Int} (h : Start s) : (isLet (nx s 0) || es2 (nx s 0) (nx s 1)) = true := by
  unfold isLet es2
  rcases h with ⟨a, b⟩ | a | ⟨a, _⟩
  · rw [a]; simp [b]
  · rw [a]; simp
  · rw [a]; simp
/-- A hash that is an identifier. -/
theorem toks_hash {l : List Int} (h : ∀ c ∈ l, 1 ≤ c) (hl : l ≠ []) : toks (35 :: cId l) = [⟨4, enc l, 0, 0, false, true⟩] := by
  have st := start_cid h hl
  refine toks_of (by rw [nxc0]; decide) (by rw [nxc0]; decide) ?_
  unfold tokn
  have e : nx (35 :: cId l) 0 = 35 := rfl
  have e1 : nmB (nx (35 :: cId l) 1) (nx (35 :: cId l) 2) (nx (35 :: cId l) 3) = true := st.nm
  have e2 : nam [] ((35 :: cId l).drop 1) = (l, []) := nam_cid h
  have e3 : (isLet (nx (35 :: cId l) 1) || es2 (nx (35 :: cId l) 1) (nx (35 :: cId l) 2)) = true := st.let_
  simp only [e]
  unfold sgnT hash
  simp only [e, e1, e2, e3]
  rfl
/-- A hash that is none: it begins with a digit, or a dash alone, or a dash and a digit. -/
theorem toks_hash' {l : List Int} (h : ∀ c ∈ l, 1 ≤ c) (hg : gB l = true) : toks (35 :: cNm l) = [⟨4, enc l, 0, 0, false, false⟩] := by
  have e2 : nam [] ((35 :: cNm l).drop 1) = (l, []) := by
    show nam [] (cNm l) = _
    have := nam_cNm l [] [] h
    rw [List.append_nil, List.nil_append] at this
    rw [this]
    exact nam_end (by decide) (by decide)
  have dg : ∀ c : Int, isDig c = true → cLt c = [c] ∧ isLet c = true ∧ c ≠ 45 ∧ isFst c = false ∧ c ≠ 92 := by
    intro c hc
    unfold isDig at hc
    simp at hc
    have a : isHid c = false := by unfold isHid; simp; omega
    have b : isLet c = true := by unfold isLet isDig; simp; omega
    have f : isFst c = false := by unfold isFst; simp; omega
    refine ⟨by unfold cLt; rw [a, b]; rfl, b, by omega, f, by omega⟩
  have key : isLet (nx (cNm l) 0) = true ∧ nmB (nx (cNm l) 0) (nx (cNm l) 1) (nx (cNm l) 2) = false := by
    unfold gB at hg
    cases l with
    | nil => exact absurd hg (by decide)
    | cons c r =>
      rw [Bool.or_eq_true] at hg
      rcases hg with hg | hg
      · obtain ⟨a, b, n45, f, n92⟩ := dg c hg
        have e : cNm (c :: r) = c :: cNm r := by simp [cNm, a]
        rw [e]
        refine ⟨b, ?_⟩
        unfold nmB
        rw [nxc0, if_neg n45, f]
        unfold es2
        simp [n92]
      · rw [Bool.and_eq_true] at hg
        have hc : c = 45 := by simpa [nx] using hg.1
        subst hc
        have e45 : cLt 45 = [45] := by decide
        have e : cNm (45 :: r) = 45 :: cNm r := by simp [cNm, e45]
        rw [e]
        refine ⟨by rw [nxc0]; decide, ?_⟩
        have h2 := hg.2
        rw [Bool.or_eq_true] at h2
        unfold nmB
        rw [nxc0, if_pos rfl]
        cases r with
        | nil => decide
        | cons b r =>
          rcases h2 with h2 | h2
          · simp at h2
          · obtain ⟨a, b', n45, f, n92⟩ := dg b h2
            have e : cNm (b :: r) = b :: cNm r := by simp [cNm, a]
            rw [e, nxc1, f]
            unfold es2
            simp [n45, n92]
  refine toks_of (by rw [nxc0]; decide) (by rw [nxc0]; decide) ?_
  unfold tokn
  have e : nx (35 :: cNm l) 0 = 35 := rfl
  have e1 : nmB (nx (35 :: cNm l) 1) (nx (35 :: cNm l) 2) (nx (35 :: cNm l) 3) = false := key.2
  have e3 : (isLet (nx (35 :: cNm l) 1) || es2 (nx (35 :: cNm l) 1) (nx (35 :: cNm l) 2)) = true := by
    have : isLet (nx (35 :: cNm l) 1) = true := key.1
    rw [this]; rfl
  simp only [e]
  unfold sgnT hash
  simp only [e, e1, e2, e3]
  rfl
/-! ### A text in quotes -/
def cQt (c : Int) : List Int := if c = 34 ∨ c = 92 then [92, c] else if isHid c = true then esc c else [c]
theorem tesc_one {c : Int} {t : List Int} (h1 : c ≠ -1) (h : hexv c < 0) : tesc (c :: t) = (c, t) := by
  unfold tesc
  rw [nxc0, if_neg h1, if_pos h]
  rfl
theorem str_cQt {acc t : List Int} {c : Int} (h1 : 1 ≤ c) : str 34 acc (cQt c ++ t) = str 34 (acc ++ [c]) t := by
  unfold cQt
  split
  · rename_i h
    have hx : hexv c < 0 := by rcases h with rfl | rfl <;> decide
    show str 34 acc (92 :: c :: t) = _
    rw [str]
    have e : nx (92 :: c :: t) 0 = 92 := rfl
    have e1 : nx (92 :: c :: t) 1 = c := rfl
    rw [dif_neg (by rw [e]; decide), dif_neg (by rw [e]; decide), dif_pos e, if_neg (by rw [e1]; omega), if_neg (by rw [e1]; omega)]
    show str 34 (acc ++ [(tesc (c :: t)).1]) (tesc (c :: t)).2 = _
    rw [tesc_one (by omega) hx]
  · rename_i hn
    split
    · rename_i h
      have hs := hid_small h
      obtain ⟨g1, g2⟩ := esc_head hs t
      rw [str, dif_neg (by rw [g1]; decide), dif_neg (by rw [g1]; decide), dif_pos g1, if_neg (by omega), if_neg (by omega)]
      have e : (esc c ++ t).drop 1 = hxL c.toNat ++ 32 :: t := by unfold esc; simp
      rw [e, tesc_hx (by omega) (by omega)]
      have : ((c.toNat : Nat) : Int) = c := by omega
      simp only [this]
    · rename_i h
      have h10 : c ≠ 10 := by rintro rfl; exact h (by decide)
      show str 34 acc (c :: t) = _
      rw [str]
      have e : nx (c :: t) 0 = c := rfl
      rw [dif_neg (by rw [e]; omega), dif_neg (by rw [e]; omega), dif_neg (by rw [e]; omega)]
      rfl
theorem str_all (l : List Int) : ∀ (acc t : List Int), (∀ c ∈ l, 1 ≤ c) → str 34 acc (l.flatMap cQt ++ 34 :: t) = (tkt 5 (acc ++ l), t) := by
  induction l with
  | nil =>
    intro acc t _
    rw [str, dif_pos (.inr rfl)]
    simp
  | cons c l ih =>
    intro acc t h
    have e : (c :: l).flatMap cQt ++ 34 :: t = cQt c ++ (l.flatMap cQt ++ 34 :: t) := by simp
    rw [e, str_cQt (h c (by simp)), ih _ _ (fun x hx => h x (by simp [hx]))]
    simp
theorem toks_text {l : List Int} (h : ∀ c ∈ l, 1 ≤ c) : toks (34 :: (l.flatMap cQt ++ [34])) = [tkt 5 l] := by
  refine toks_of (by rw [nxc0]; decide) (by rw [nxc0]; decide) ?_
  unfold tokn
  have e : nx (34 :: (l.flatMap cQt ++ [34])) 0 = 34 := rfl
  simp only [e]
  show str 34 [] (l.flatMap cQt ++ [34]) = _
  rw [str_all l [] [] h]
  rfl
end Go.Proofs.YtcclhdiphcfdfaaGreatDoor
set_option linter.unusedVariables false
set_option linter.unusedSimpArgs false
namespace Go.Proofs.YtcclhdiphcfdfaaGreatDoor
open Go.RowKit

def cUr (c : Int) : List Int := if urS c then [92, c] else if isHid c = true ∨ c = 32 then esc c else [c]
theorem cUr_head {c : Int} (h1 : 1 ≤ c) (t : List Int) : isBl (nx (cUr c ++ t) 0) = false ∧ isQ (nx (cUr c ++ t) 0) = false ∧ nx (cUr c ++ t) 0 ≠ 41 ∧ nx (cUr c ++ t) 0 ≠ -1 := by
  unfold cUr
  split
  · exact ⟨by show isBl 92 = false; decide, by show isQ 92 = false; decide, by show (92 : Int) ≠ 41; decide, by show (92 : Int) ≠ -1; decide⟩
  · rename_i hs
    split
    · rename_i h
      have hh : (1 ≤ c ∧ c < 256) ∨ c = 65279 := by
        rcases h with h | h
        · exact hid_small h
        · omega
      rw [(esc_head hh t).1]
      decide
    · rename_i h
      show isBl c = false ∧ isQ c = false ∧ c ≠ 41 ∧ c ≠ -1
      unfold urS at hs
      unfold isHid at h
      unfold isBl isQ
      simp at h hs ⊢
      omega
theorem url_cUr {acc t : List Int} {c : Int} (h1 : 1 ≤ c) : url acc (cUr c ++ t) = url (acc ++ [c]) t := by
  obtain ⟨b1, b2, b3, b4⟩ := cUr_head h1 t
  rw [url, dif_neg (by rintro (x | x); exact b4 x; exact b3 x), dif_neg (by rw [b1]; decide)]
  clear b1 b2 b3 b4
  unfold cUr
  split
  · rename_i hs
    have hx : hexv c < 0 := by unfold urS at hs; rcases hs with rfl | rfl | rfl | rfl | rfl <;> decide
    have h10 : c ≠ 10 := by unfold urS at hs; omega
    have e : es2 (nx ([92, c] ++ t) 0) (nx ([92, c] ++ t) 1) = true := by
      show es2 92 c = true
      unfold es2; simp [h10]
    rw [if_pos e]
    show url (acc ++ [(tesc (c :: t)).1]) (tesc (c :: t)).2 = _
    rw [tesc_one (by omega) hx]
  · rename_i hs
    split
    · rename_i h
      have hh : (1 ≤ c ∧ c < 256) ∨ c = 65279 := by
        rcases h with h | h
        · exact hid_small h
        · omega
      obtain ⟨g1, g2⟩ := esc_head hh t
      have e : es2 (nx (esc c ++ t) 0) (nx (esc c ++ t) 1) = true := by
        rw [g1]; unfold es2; simp; omega
      rw [if_pos e]
      have e2 : (esc c ++ t).drop 1 = hxL c.toNat ++ 32 :: t := by unfold esc; simp
      rw [e2, tesc_hx (by omega) (by omega)]
      have : ((c.toNat : Nat) : Int) = c := by omega
      simp only [this]
    · rename_i h
      have e : es2 (nx ([c] ++ t) 0) (nx ([c] ++ t) 1) = false := by
        show es2 c _ = false
        unfold urS at hs
        unfold es2
        have : (c == 92) = false := by simp; omega
        rw [this]; rfl
      have eb : isBar (nx ([c] ++ t) 0) = false := by
        show isBar c = false
        unfold urS at hs
        unfold isHid at h
        unfold isBar isQ isUn
        simp at h hs ⊢
        omega
      rw [if_neg (by rw [e]; decide), if_neg (by rw [eb]; decide)]
      rfl
theorem url_all (l : List Int) : ∀ (acc t : List Int), (∀ c ∈ l, 1 ≤ c) → url acc (l.flatMap cUr ++ 41 :: t) = (tkt 7 (acc ++ l), t) := by
  induction l with
  | nil =>
    intro acc t _
    rw [url, dif_pos (.inr rfl)]
    simp
  | cons c l ih =>
    intro acc t h
    have e : (c :: l).flatMap cUr ++ 41 :: t = cUr c ++ (l.flatMap cUr ++ 41 :: t) := by simp
    rw [e, url_cUr (h c (by simp)), ih _ _ (fun x hx => h x (by simp [hx]))]
    simp
theorem cUrs_head (l : List Int) (h : ∀ c ∈ l, 1 ≤ c) (t : List Int) : isBl (nx (l.flatMap cUr ++ 41 :: t) 0) = false ∧ isQ (nx (l.flatMap cUr ++ 41 :: t) 0) = false := by
  cases l with
  | nil => exact ⟨by show isBl 41 = false; decide, by show isQ 41 = false; decide⟩
  | cons c l =>
    have e : (c :: l).flatMap cUr ++ 41 :: t = cUr c ++ (l.flatMap cUr ++ 41 :: t) := by simp
    rw [e]
    obtain ⟨a, b, _⟩ := cUr_head (h c (by simp)) (l.flatMap cUr ++ 41 :: t)
    exact ⟨a, b⟩
theorem toks_url {l : List Int} (h : ∀ c ∈ l, 1 ≤ c) : toks (117 :: 114 :: 108 :: 40 :: (l.flatMap cUr ++ [41])) = [tkt 7 l] := by
  obtain ⟨a, b⟩ := cUrs_head l h []
  refine toks_of (by rw [nxc0]; decide) (by rw [nxc0]; decide) ?_
  have st : Start (117 :: 114 :: 108 :: 40 :: (l.flatMap cUr ++ [41])) := .inr (.inl (by rw [nxc0]; decide))
  rw [st.tokn]
  have hn : nam [] (117 :: 114 :: 108 :: 40 :: (l.flatMap cUr ++ [41])) = ([117, 114, 108], 40 :: (l.flatMap cUr ++ [41])) := by
    rw [nam_let (by rw [nxc0]; decide)]
    show nam [117] (114 :: 108 :: 40 :: (l.flatMap cUr ++ [41])) = _
    rw [nam_let (by rw [nxc0]; decide)]
    show nam [117, 114] (108 :: 40 :: (l.flatMap cUr ++ [41])) = _
    rw [nam_let (by rw [nxc0]; decide)]
    show nam [117, 114, 108] (40 :: (l.flatMap cUr ++ [41])) = _
    exact nam_end (by rw [nxc0]; decide) (by rw [nxc0]; rfl)
  generalize hz : l.flatMap cUr ++ [41] = z at *
  have hs : sbl z = z := by
    cases z with
    | nil => rfl
    | cons x r =>
      have : isBl x = false := a
      unfold sbl
      rw [this]
      rfl
  have hb : bls z = z := by
    cases z with
    | nil => rfl
    | cons x r =>
      have : isBl x = false := a
      unfold bls
      rw [List.dropWhile_cons_of_neg (by rw [this]; decide)]
  have hq : qut z = false := by unfold qut; rw [a, b]; rfl
  unfold word
  rw [hn, if_neg (by show ¬ (nx (40 :: z) 0 ≠ 40); rw [nxc0]; decide), if_pos (by show isUrlB (enc [117, 114, 108]) = true; decide)]
  show (if qut (sbl z) = true then _ else url [] (bls (sbl z))) = _
  rw [hs, hb, hq, if_neg (by decide), ← hz, url_all l [] [] h]
  rfl
end Go.Proofs.YtcclhdiphcfdfaaGreatDoor
set_option linter.unusedVariables false
set_option linter.unusedSimpArgs false
namespace Go.Proofs.YtcclhdiphcfdfaaGreatDoor
open Go.RowKit

theorem tokn_one {c : Int} (h1 : isBl c = false) (h2 : isQ c = false) (h3 : isDig c = false) (h4 : isFst c = false) (h5 : c ≠ 92) : tokn [c] = one [c] := by
  unfold tokn
  have e : nx [c] 0 = c := rfl
  have e1 : nx [c] 1 = -1 := rfl
  have e2 : nx [c] 2 = -1 := rfl
  have e3 : nx [c] 3 = -1 := rfl
  rw [e, h1, h2, h3, h4]
  simp only [Bool.false_eq_true, if_false]
  unfold sgnT
  rw [e, e1, e2, e3]
  have q1 : (isLet (-1) || es2 (-1) (-1)) = false := by decide
  have q2 : nmB (-1) (-1) (-1) = false := by decide
  by_cases a1 : c = 35
  · rw [if_pos a1, q1]; rfl
  rw [if_neg a1]
  by_cases a2 : c = 43 ∨ c = 46
  · have : nuB c (-1) (-1) = false := by rcases a2 with rfl | rfl <;> decide
    rw [if_pos a2, this]; rfl
  rw [if_neg a2]
  by_cases a3 : c = 45
  · have n1 : nuB c (-1) (-1) = false := by rw [a3]; decide
    have n2 : nmB c (-1) (-1) = false := by rw [a3]; decide
    rw [if_pos a3, n1, n2]
    simp
  rw [if_neg a3]
  by_cases a4 : c = 60
  · rw [if_pos a4, if_neg (by omega)]
  rw [if_neg a4]
  by_cases a5 : c = 64
  · rw [if_pos a5, q2]; rfl
  rw [if_neg a5, if_neg h5]
/-- A single character. -/
theorem toks_delim {c : Int} (h : (isDl c || isCt c) = true) (h92 : c ≠ 92) : toks [c] = [tkt 9 [c]] := by
  have hc : c = 35 ∨ c = 36 ∨ c = 37 ∨ c = 38 ∨ c = 42 ∨ c = 43 ∨ c = 45 ∨ c = 46 ∨ c = 47 ∨ c = 60 ∨ c = 61 ∨ c = 62 ∨ c = 63 ∨ c = 64 ∨ c = 94 ∨ c = 96 ∨ c = 124 ∨ c = 126 ∨ c = 33 ∨ (1 ≤ c ∧ c ≤ 8) ∨ c = 11 ∨ (14 ≤ c ∧ c ≤ 31) ∨ c = 127 := by
    unfold isDl isCt at h
    simp at h
    omega
  have f1 : isBl c = false := by unfold isBl; simp; omega
  have f2 : isQ c = false := by unfold isQ; simp; omega
  have f3 : isDig c = false := by unfold isDig; simp; omega
  have f4 : isFst c = false := by unfold isFst; simp; omega
  have f5 : brk c = 9 := by
    unfold brk
    repeat rw [if_neg (by omega)]
  have ht : tokn [c] = (tkt 9 [c], []) := by
    rw [tokn_one f1 f2 f3 f4 h92]
    unfold one
    rw [show nx [c] 0 = c from rfl, f5]
    rfl
  have hr : rmk [c] = [c] := rmk_end (by rw [show nx [c] 1 = -1 from rfl]; rintro ⟨_, x⟩; exact absurd x (by decide))
  rw [toks_go (by rw [hr]; show c ≠ -1; omega), hr, ht]
  show tkt 9 [c] :: toks [] = _
  rw [toks_nil]
theorem toks_brk {c k : Int} (h : brk c = k) (hk : k ≠ 9) : toks [c] = [tk k] := by
  have hc : c = 40 ∨ c = 41 ∨ c = 91 ∨ c = 93 ∨ c = 123 ∨ c = 125 ∨ c = 44 ∨ c = 58 ∨ c = 59 := by
    unfold brk at h
    by_cases h1 : c = 40 ∨ c = 41 ∨ c = 91 ∨ c = 93 ∨ c = 123 ∨ c = 125 ∨ c = 44 ∨ c = 58 ∨ c = 59
    · exact h1
    · repeat rw [if_neg (by omega)] at h
      omega
  have f1 : isBl c = false := by unfold isBl; simp; omega
  have f2 : isQ c = false := by unfold isQ; simp; omega
  have f3 : isDig c = false := by unfold isDig; simp; omega
  have f4 : isFst c = false := by unfold isFst; simp; omega
  refine toks_of (by show c ≠ -1; omega) (by show c ≠ 47; omega) ?_
  rw [tokn_one f1 f2 f3 f4 (by omega)]
  unfold one
  rw [show nx [c] 0 = c from rfl, h, if_neg hk]
  rfl
theorem toks_blank : toks [32] = [tk 13] := by
  refine toks_of (by decide) (by decide) ?_
  unfold tokn
  rw [if_pos (by decide)]
  rfl
theorem toks_cdo : toks [60, 33, 45, 45] = [tk 14] := by
  refine toks_of (by decide) (by decide) ?_
  unfold tokn sgnT
  rfl
theorem toks_cdc : toks [45, 45, 62] = [tk 15] := by
  refine toks_of (by decide) (by decide) ?_
  unfold tokn sgnT
  rfl
theorem toks_badurl : toks [117, 114, 108, 40, 40, 41] = [tk 8] := by
  refine toks_of (by decide) (by decide) ?_
  have st : Start [117, 114, 108, 40, 40, 41] := .inr (.inl (by decide))
  rw [st.tokn]
  have hn : nam [] [117, 114, 108, 40, 40, 41] = ([117, 114, 108], [40, 40, 41]) := by
    rw [nam_let (by decide)]
    show nam [117] [114, 108, 40, 40, 41] = _
    rw [nam_let (by decide)]
    show nam [117, 114] [108, 40, 40, 41] = _
    rw [nam_let (by decide)]
    show nam [117, 114, 108] [40, 40, 41] = _
    exact nam_end (by decide) (by decide)
  unfold word
  rw [hn, if_neg (by decide), if_pos (by decide)]
  show (if qut (sbl [40, 41]) = true then _ else url [] (bls (sbl [40, 41]))) = _
  rw [if_neg (by decide), show bls (sbl [40, 41]) = [40, 41] by decide]
  rw [url, dif_neg (by decide), dif_neg (by decide), if_neg (by decide), if_pos (by decide)]
  have hb : bad [40, 41] = [] := by
    rw [bad, dif_neg (by decide), if_neg (by decide)]
    show bad [41] = []
    rw [bad, dif_pos (by decide)]
    rfl
  rw [hb]
end Go.Proofs.YtcclhdiphcfdfaaGreatDoor
set_option linter.unusedVariables false
set_option linter.unusedSimpArgs false
namespace Go.Proofs.YtcclhdiphcfdfaaGreatDoor
open Go.RowKit

theorem enc1_asc {c : Int} (h : 0 ≤ c ∧ c < 128) : enc1 (chr c) = [c] := by
  have : chr c = c := by unfold chr isC; rw [if_pos]; simp; omega
  rw [this]
  unfold enc1
  rw [if_pos (by omega)]
theorem enc_asc (l : List Int) (h : ∀ c ∈ l, 0 ≤ c ∧ c < 128) : enc l = l := by
  induction l with
  | nil => rfl
  | cons c l ih => rw [enc_cons, enc1_asc (h c (by simp)), ih (fun x hx => h x (by simp [hx]))]; rfl
/-- Where a number ends. -/
def End (t : List Int) : Prop := isDig (nx t 0) = false ∧ ((nx t 0 == 46) && isDig (nx t 1)) = false ∧ exB (nx t 0) (nx t 1) (nx t 2) = false
theorem End.nil : End [] := by unfold End; decide
theorem nmP_end {t : List Int} (h : End t) : nmP t = t := by unfold nmP; rw [h.2.1]; rfl
theorem nmE_end {t : List Int} (h : End t) : nmE t = t := by unfold nmE; rw [h.2.2]; rfl
theorem dig_sg {c : Int} (h : isDig c = true) : isSg c = false ∧ c ≠ -1 ∧ c ≠ 47 ∧ isBl c = false ∧ isQ c = false := by
  unfold isDig at h
  unfold isSg isBl isQ
  simp at h ⊢
  omega
theorem nmS_neg1 (n : Int) {x : List Int} (h : isDig (nx x 0) = true) : nmS (neg1 n ++ x) = x := by
  unfold neg1
  split
  · unfold nmS
    rw [if_pos (by show isSg 45 = true; decide)]
    rfl
  · unfold nmS
    rw [List.nil_append, (dig_sg h).1]
    rfl
theorem head_app {D t : List Int} (h : Digs D) (hn : D ≠ []) : isDig (nx (D ++ t) 0) = true := by
  have := digs_head h hn
  cases D with
  | nil => exact absurd rfl hn
  | cons c D => exact this
theorem nmZ_int (n : Int) {D t : List Int} (h : Digs D) (hn : D ≠ []) (e : End t) : nmZ (neg1 n ++ (D ++ t)) = t := by
  unfold nmZ
  rw [nmS_neg1 n (head_app h hn), (tkd_app h e.1).2, nmP_end e, nmE_end e]
theorem nmZ_pt (n : Int) {A B t : List Int} (ha : Digs A) (hna : A ≠ []) (hb : Digs B) (hnb : B ≠ []) (e : End t) : nmZ (neg1 n ++ (A ++ 46 :: (B ++ t))) = t := by
  unfold nmZ
  rw [nmS_neg1 n (head_app ha hna), (tkd_app ha (by show isDig 46 = false; decide)).2]
  have hp : nmP (46 :: (B ++ t)) = t := by
    unfold nmP
    have : isDig (nx (46 :: (B ++ t)) 1) = true := head_app hb hnb
    rw [this, if_pos (by rw [nxc0]; decide)]
    show dgs (B ++ t) = t
    exact (tkd_app hb e.1).2
  rw [hp, nmE_end e]
theorem nmZ_over {t : List Int} (e : End t) : nmZ (49 :: 101 :: 57 :: 57 :: t) = t := by
  unfold nmZ
  have h1 : nmS (49 :: 101 :: 57 :: 57 :: t) = 49 :: 101 :: 57 :: 57 :: t := by unfold nmS; rw [if_neg (by rw [nxc0]; decide)]
  have h2 : dgs (49 :: 101 :: 57 :: 57 :: t) = 101 :: 57 :: 57 :: t := (tkd_app (a := [49]) (r := 101 :: 57 :: 57 :: t) (by intro c hc; simp at hc; subst hc; decide) (by rw [nxc0]; decide)).2
  have h3 : nmP (101 :: 57 :: 57 :: t) = 101 :: 57 :: 57 :: t := by unfold nmP; rw [nxc0]; rfl
  have h4 : nmE (101 :: 57 :: 57 :: t) = t := by
    unfold nmE
    rw [if_pos (by show exB 101 57 57 = true; decide)]
    show dgs (nmS (57 :: 57 :: t)) = t
    have : nmS (57 :: 57 :: t) = 57 :: 57 :: t := by unfold nmS; rw [if_neg (by rw [nxc0]; decide)]
    rw [this]
    exact (tkd_app (a := [57, 57]) (r := t) (by intro c hc; simp at hc; subst hc; decide) e.1).2
  rw [h1, h2, h3, h4]
/-- A text that is a number. -/
structure NumT (T : List Int) : Prop where
  z : ∀ t, End t → nmZ (T ++ t) = t
  hd : isDig (nx T 0) = true ∨ (nx T 0 = 45 ∧ isDig (nx T 1) = true)
  ne : T ≠ []
  en : enc T = T
theorem digs_asc {l : List Int} (h : Digs l) : ∀ c ∈ l, 0 ≤ c ∧ c < 128 := by
  intro c hc
  have := h c hc
  unfold isDig at this
  simp at this
  omega
theorem neg1_hd (n : Int) {x : List Int} (h : isDig (nx x 0) = true) : isDig (nx (neg1 n ++ x) 0) = true ∨ (nx (neg1 n ++ x) 0 = 45 ∧ isDig (nx (neg1 n ++ x) 1) = true) := by
  unfold neg1
  split
  · exact .inr ⟨rfl, h⟩
  · exact .inl h
theorem neg1_asc (n : Int) {x : List Int} (h : ∀ c ∈ x, 0 ≤ c ∧ c < 128) : ∀ c ∈ neg1 n ++ x, 0 ≤ c ∧ c < 128 := by
  intro c hc
  rw [List.mem_append] at hc
  rcases hc with hc | hc
  · unfold neg1 at hc
    split at hc
    · simp at hc; omega
    · simp at hc
  · exact h c hc
theorem num_int (n : Int) {D : List Int} (h : Digs D) (hn : D ≠ []) : NumT (neg1 n ++ D) where
  z := fun t e => by rw [List.append_assoc]; exact nmZ_int n h hn e
  hd := neg1_hd n (digs_head h hn)
  ne := by simp [hn]
  en := enc_asc _ (neg1_asc n (digs_asc h))
theorem num_pt (n : Int) {A B : List Int} (ha : Digs A) (hna : A ≠ []) (hb : Digs B) (hnb : B ≠ []) : NumT (neg1 n ++ (A ++ 46 :: B)) where
  z := fun t e => by
    rw [List.append_assoc, List.append_assoc]
    exact nmZ_pt n ha hna hb hnb e
  hd := neg1_hd n (head_app ha hna)
  ne := by simp
  en := enc_asc _ (neg1_asc n (by
    intro c hc
    simp at hc
    rcases hc with hc | rfl | hc
    · exact digs_asc ha c hc
    · decide
    · exact digs_asc hb c hc))
theorem num_over : NumT [49, 101, 57, 57] where
  z := fun t e => nmZ_over e
  hd := .inl (by decide)
  ne := by simp
  en := by decide
theorem digs_rep (k : Nat) {l : List Int} (h : Digs l) : Digs (List.replicate k 48 ++ l) := by
  intro c hc
  rw [List.mem_append] at hc
  rcases hc with hc | hc
  · rw [(List.mem_replicate.1 hc).2]; decide
  · exact h c hc
theorem pl_num {n d : Int} {wh : Bool} {T : List Int} (h : plT n d wh = some T) : NumT T := by
  unfold plT at h
  split at h
  · cases h
  · split at h
    · have h := Option.some.inj h
      subst h
      unfold plO
      split
      · exact num_int 0 (D := [57, 57, 57, 57, 57, 57, 57, 57, 57, 57, 57, 57, 57, 57, 57, 57, 57, 57, 57, 57]) (by intro c hc; simp at hc; subst hc; decide) (by simp)
      · exact num_over
    · unfold plV at h
      cases hf : fin (ab n).toNat d.toNat 0 with
      | none => rw [hf] at h; cases h
      | some q =>
        obtain ⟨M, p⟩ := q
        rw [hf] at h
        simp only at h
        split at h
        · cases h
        · have h := Option.some.inj h
          subst h
          cases wh with
          | true => exact num_int n (dgt_digs M) (dgt_ne M)
          | false =>
            show NumT (neg1 n ++ ptd (dgt M) p)
            unfold ptd
            have hd : Digs (pad (dgt M) p) := digs_rep _ (dgt_digs M)
            have hl := pad_len (dgt M) p
            refine num_pt n (fun c hc => hd c (List.mem_of_mem_take hc)) ?_ ?_ ?_
            · intro e
              have := congrArg List.length e
              rw [List.length_take] at this
              simp at this
              omega
            · split
              · intro c hc; simp at hc; subst hc; decide
              · exact fun c hc => hd c (List.mem_of_mem_drop hc)
            · split
              · simp
              · intro e
                have := congrArg List.length e
                rw [List.length_drop] at this
                simp at this
                omega
theorem NumT.tokn {T t : List Int} (h : NumT T) : tokn (T ++ t) = numb (T ++ t) := by
  unfold Go.Proofs.YtcclhdiphcfdfaaGreatDoor.tokn
  rcases h.hd with g | ⟨g0, g1⟩
  · have e : nx (T ++ t) 0 = nx T 0 := by
      cases T with
      | nil => exact absurd rfl h.ne
      | cons c T => rfl
    obtain ⟨_, _, _, f1, f2⟩ := dig_sg g
    rw [e, f1, f2, g]
    rfl
  · match T, g0, g1 with
    | c :: b :: T, g0, g1 =>
      have e : nx (c :: b :: T ++ t) 0 = 45 := g0
      have e1 : isDig (nx (c :: b :: T ++ t) 1) = true := g1
      simp only [e]
      unfold sgnT
      have hu : nuB 45 (nx (c :: b :: T ++ t) 1) (nx (c :: b :: T ++ t) 2) = true := by unfold nuB; rw [if_pos (by decide), e1]; rfl
      simp only [e, hu]
      rfl
    | [c], g0, g1 => exact absurd (show isDig (-1) = true from g1) (by decide)
    | [], g0, g1 => exact absurd (show (-1 : Int) = 45 from g0) (by decide)
theorem NumT.head {T t : List Int} (h : NumT T) : nx (T ++ t) 0 ≠ -1 ∧ nx (T ++ t) 0 ≠ 47 := by
  have e : nx (T ++ t) 0 = nx T 0 := by
    cases T with
    | nil => exact absurd rfl h.ne
    | cons c T => rfl
  rw [e]
  rcases h.hd with g | ⟨g0, g1⟩
  · obtain ⟨_, a, b, _⟩ := dig_sg g; exact ⟨a, b⟩
  · rw [g0]; decide
theorem NumT.t {T t : List Int} (h : NumT T) (e : End t) : nmT (T ++ t) = T := by
  unfold nmT
  rw [h.z t e, List.length_append, Nat.add_sub_cancel, List.take_left]
theorem toks_num {T : List Int} {n d : Int} {wh : Bool} (h : NumT T) (hd : dec T = some ((n, d), wh)) : toks T = [⟨10, [], n, d, wh, false⟩] := by
  have k := h.head (t := [])
  have tn := h.tokn (t := [])
  have tt := h.t End.nil
  have tz := h.z [] End.nil
  rw [List.append_nil] at k tn tt tz
  refine toks_of k.1 k.2 ?_
  rw [tn]
  unfold numb
  rw [tz, tt, if_neg (by decide), if_neg (by decide)]
  unfold dcT
  rw [h.en, hd]
  rfl
theorem toks_pct {T : List Int} {n d : Int} {wh : Bool} (h : NumT T) (hd : dec T = some ((n, d), wh)) : toks (T ++ [37]) = [⟨11, [], n, d, wh, false⟩] := by
  have k := h.head (t := [37])
  have e : End [37] := by unfold End; decide
  refine toks_of k.1 k.2 ?_
  rw [h.tokn]
  unfold numb
  rw [h.z _ e, h.t e, if_neg (by decide), if_pos (by decide)]
  unfold dcT
  rw [h.en, hd]
  rfl
/-- A dimension, its unit any text that begins an identifier and does not go on a number. -/
theorem toks_dim {T U l : List Int} {n d : Int} {wh : Bool} (h : NumT T) (hd : dec T = some ((n, d), wh)) (e : End U) (hs : nmB (nx U 0) (nx U 1) (nx U 2) = true) (hn : nam [] U = (l, [])) : toks (T ++ U) = [⟨12, enc l, n, d, wh, false⟩] := by
  have k := h.head (t := U)
  refine toks_of k.1 k.2 ?_
  rw [h.tokn]
  unfold numb
  rw [h.z _ e, h.t e, if_pos hs, hn]
  unfold dcT
  rw [h.en, hd]
  rfl
end Go.Proofs.YtcclhdiphcfdfaaGreatDoor
set_option linter.unusedVariables false
set_option linter.unusedSimpArgs false
namespace Go.Proofs.YtcclhdiphcfdfaaGreatDoor
open Go.RowKit

def cUn (l : List Int) : List Int := if exL l = true then esc (nx l 0) ++ cNm (l.drop 1) else cId l
theorem cLt_or {c : Int} (h1 : 1 ≤ c) (t : List Int) : nx (cLt c ++ t) 0 = 92 ∨ (cLt c = [c] ∧ isLet c = true) := by
  unfold cLt
  split
  · rename_i h; exact .inl (esc_head (hid_small h) t).1
  · split
    · rename_i h; exact .inr ⟨rfl, h⟩
    · exact .inl rfl
theorem cNm_or {l : List Int} (h : ∀ c ∈ l, 1 ≤ c) : nx (cNm l) 0 = 92 ∨ (nx (cNm l) 0 = nx l 0 ∧ (l = [] ∨ cNm l = nx l 0 :: cNm (l.drop 1)) ∧ (isLet (nx l 0) = true ∨ nx l 0 = -1)) := by
  cases l with
  | nil => exact .inr ⟨rfl, .inl rfl, .inr rfl⟩
  | cons c r =>
    have e : cNm (c :: r) = cLt c ++ cNm r := by simp [cNm]
    rcases cLt_or (h c (by simp)) (cNm r) with g | ⟨g, k⟩
    · left; rw [e]; exact g
    · right
      rw [e, g]
      exact ⟨rfl, .inr rfl, .inl k⟩
theorem end92 {s : List Int} (h : nx s 0 = 92) : End s := by
  unfold End
  rw [h]
  refine ⟨by decide, by rfl, by rfl⟩
theorem let_sg {c : Int} (h : isLet c = true) (h2 : isSg c = true) : c = 45 := by
  unfold isLet isFst isDig at h
  unfold isSg at h2
  simp at h h2
  omega
theorem unit_end {l : List Int} (h : ∀ c ∈ l, 1 ≤ c) (hl : l ≠ []) (hx : exL l = false) : End (cId l) := by
  have st := start_cid h hl
  rcases st with ⟨a, _⟩ | a | ⟨a, _⟩
  · exact end92 a
  · obtain ⟨_, _, f3, _, _, n45, n92, f8⟩ := fst_facts a
    refine ⟨f3, by simp [f8], ?_⟩
    unfold exB
    by_cases he : nx (cId l) 0 = 101 ∨ nx (cId l) 0 = 69
    · -- the first letter stands as it is
      have hform : ∃ c r, l = c :: r ∧ cId l = c :: cNm r := by
        cases l with
        | nil => exact absurd rfl hl
        | cons c r =>
          have e : cId (c :: r) = cId0 (c :: r) := by
            unfold cId
            split
            · rename_i e45
              rw [e45] at a n92
              exact absurd (show nx (cId [45]) 0 = 92 by decide) n92
            · rfl
          rcases cHd_head (h c (by simp)) (if c = 45 then cId1 r else cNm r) with g | ⟨g, k⟩ | ⟨g, k⟩
          · rw [e] at n92
            exact absurd g.1 n92
          · refine ⟨c, r, rfl, ?_⟩
            rw [e]
            show cHd c ++ (if c = 45 then cId1 r else cNm r) = _
            rw [k, if_neg (fst_facts g).2.2.2.2.2.1]
            rfl
          · rw [e] at n45
            have : nx (cId0 (c :: r)) 0 = 45 := by
              show nx (cHd c ++ (if c = 45 then cId1 r else cNm r)) 0 = 45
              rw [k]; rfl
            exact absurd this n45
      obtain ⟨c, r, rfl, e⟩ := hform
      have hr : ∀ x ∈ r, 1 ≤ x := fun x hx => h x (by simp [hx])
      have hc : c = 101 ∨ c = 69 := by rw [e] at he; exact he
      have hxl : isDig (nx r 0) = false ∧ ((nx r 0 == 45) && isDig (nx r 1)) = false := by
        unfold exL at hx
        have h1 : ((c == 101) || (c == 69)) = true := by rcases hc with rfl | rfl <;> rfl
        have hx' : (((c == 101) || (c == 69)) && (isDig (nx r 0) || ((nx r 0 == 45) && isDig (nx r 1)))) = false := hx
        rw [h1, Bool.true_and, Bool.or_eq_false_iff] at hx'
        exact hx'
      rw [e]
      have e1 : nx (c :: cNm r) 1 = nx (cNm r) 0 := rfl
      have e2 : nx (c :: cNm r) 2 = nx (cNm r) 1 := rfl
      rw [nxc0, e1, e2]
      rw [Bool.and_eq_false_iff]
      right
      rcases cNm_or hr with g | ⟨g, k, m⟩
      · rw [g, if_neg (by decide)]; decide
      · rw [g]
        split
        · rename_i hsg
          have h45 : nx r 0 = 45 := by
            rcases m with m | m
            · exact let_sg m hsg
            · rw [m] at hsg; exact absurd hsg (by decide)
          have hd1 : isDig (nx r 1) = false := by
            have := hxl.2
            rw [h45] at this
            simpa using this
          rcases k with rfl | k
          · rfl
          · rw [k]
            show isDig (nx (cNm (r.drop 1)) 0) = false
            have hr2 : ∀ x ∈ r.drop 1, 1 ≤ x := fun x hx => hr x (List.mem_of_mem_drop hx)
            rcases cNm_or hr2 with g2 | ⟨g2, _⟩
            · rw [g2]; decide
            · rw [g2, nx_drop]; exact hd1
        · exact hxl.1
    · have : ((nx (cId l) 0 == 101) || (nx (cId l) 0 == 69)) = false := by simp; omega
      rw [this]; rfl
  · unfold End
    rw [a]
    exact ⟨by decide, by rfl, by rfl⟩
/-- What a unit that is written tells. -/
theorem unit_all {l : List Int} (h : ∀ c ∈ l, 1 ≤ c) (hl : l ≠ []) : End (cUn l) ∧ nmB (nx (cUn l) 0) (nx (cUn l) 1) (nx (cUn l) 2) = true ∧ nam [] (cUn l) = (l, []) := by
  unfold cUn
  cases hx : exL l with
  | false => exact ⟨unit_end h hl hx, (start_cid h hl).nm, nam_cid h⟩
  | true =>
    rw [if_pos rfl]
    cases l with
    | nil => exact absurd rfl hl
    | cons c r =>
      have hc : (1 ≤ nx (c :: r) 0 ∧ nx (c :: r) 0 < 256) ∨ nx (c :: r) 0 = 65279 := by
        left
        unfold exL at hx
        simp at hx
        omega
      obtain ⟨g1, g2⟩ := esc_head hc (cNm ((c :: r).drop 1))
      refine ⟨end92 g1, ?_, ?_⟩
      · rw [g1]
        unfold nmB es2
        rw [if_neg (by decide)]
        have : (nx (esc (nx (c :: r) 0) ++ cNm ((c :: r).drop 1)) 1 != 10) = true := by rw [bne_iff_ne]; omega
        rw [this]; rfl
      · rw [nam_hx hc]
        have hr : ∀ x ∈ r, 1 ≤ x := fun x hx => h x (by simp [hx])
        have := nam_cNm r [c] [] hr
        rw [List.append_nil] at this
        show nam [c] (cNm r) = _
        rw [this]
        exact nam_end (by decide) (by decide)
end Go.Proofs.YtcclhdiphcfdfaaGreatDoor
set_option linter.unusedVariables false
set_option linter.unusedSimpArgs false
namespace Go.Proofs.YtcclhdiphcfdfaaGreatDoor
open Go.RowKit

theorem chr_id {c : Int} (h : isC c = true) : chr c = c := by unfold chr; rw [if_pos h]
theorem enc_app (a b : List Int) : enc (a ++ b) = enc a ++ enc b := by unfold enc; exact List.flatMap_append
theorem enc_one {c : Int} (h : isC c = true) : enc [c] = enc1 c := by rw [enc_cons, chr_id h]; show enc1 c ++ enc [] = _; simp [enc]
theorem enc_92 {c : Int} (h : isC c = true) : enc [92, c] = 92 :: enc1 c := by
  rw [show [92, c] = [92] ++ [c] from rfl, enc_app, enc_one h]
  rfl
theorem hx_asc {n : Nat} (h : n < 256 ∨ n = 65279) : ∀ x ∈ hxL n, 0 ≤ x ∧ x < 128 := by
  have key : ∀ d : Nat, d < 16 → 0 ≤ hd d ∧ hd d < 128 := fun d hd' => by have := hd_ge d hd'; omega
  rcases h with h | rfl
  · by_cases h1 : n < 16
    · rw [hxL_one h1]; intro x hx; simp at hx; subst hx; exact key n h1
    · rw [hxL_two (by omega) h]
      intro x hx
      simp at hx
      rcases hx with rfl | rfl
      · exact key _ (by omega)
      · exact key _ (by omega)
  · have e : hxL 65279 = [hd 15, hd 14, hd 15, hd 15] := by
      rw [hxL, dif_neg (by decide), hxL, dif_neg (by decide), hxL_two (by decide) (by decide)]
      rfl
    rw [e]
    decide
theorem esc_enc {c : Int} (h : (1 ≤ c ∧ c < 256) ∨ c = 65279) : enc (esc c) = esc c := by
  refine enc_asc _ ?_
  intro x hx
  unfold esc at hx
  simp at hx
  rcases hx with rfl | hx | rfl
  · decide
  · exact hx_asc (by omega) x hx
  · decide
theorem cLt_enc {c : Int} (h : isC c = true) : enc (cLt c) = wLt c := by
  unfold cLt wLt
  split
  · rename_i g; exact esc_enc (hid_small g)
  · split
    · exact enc_one h
    · exact enc_92 h
theorem cNm_enc (l : List Int) (h : ∀ c ∈ l, isC c = true) : enc (cNm l) = wNm l := by
  induction l with
  | nil => rfl
  | cons c l ih =>
    have e : cNm (c :: l) = cLt c ++ cNm l := by simp [cNm]
    have e2 : wNm (c :: l) = wLt c ++ wNm l := by simp [wNm]
    rw [e, e2, enc_app, cLt_enc (h c (by simp)), ih (fun x hx => h x (by simp [hx]))]
theorem cHd_enc {c : Int} (h : isC c = true) : enc (cHd c) = hdT c := by
  unfold cHd hdT
  split
  · rename_i g
    exact esc_enc (.inl (by unfold isDig at g; simp at g; omega))
  · exact cLt_enc h
theorem cId1_enc {l : List Int} (h : ∀ c ∈ l, isC c = true) : enc (cId1 l) = wId1 l := by
  cases l with
  | nil => rfl
  | cons c r =>
    show enc (cHd c ++ cNm r) = hdT c ++ wNm r
    rw [enc_app, cHd_enc (h c (by simp)), cNm_enc r (fun x hx => h x (by simp [hx]))]
theorem cId0_enc {l : List Int} (h : ∀ c ∈ l, isC c = true) : enc (cId0 l) = wId0 l := by
  cases l with
  | nil => rfl
  | cons c r =>
    have hr : ∀ x ∈ r, isC x = true := fun x hx => h x (by simp [hx])
    show enc (cHd c ++ (if c = 45 then cId1 r else cNm r)) = hdT c ++ if c = 45 then wId1 r else wNm r
    rw [enc_app, cHd_enc (h c (by simp))]
    split
    · rw [cId1_enc hr]
    · rw [cNm_enc r hr]
theorem dash_raw {bs : List Int} (hb : By bs) (hw : whole bs = true) : raw bs = [45] ↔ bs = [45] := by
  constructor
  · intro h
    have := enc_raw _ bs (Nat.le_refl _) hb hw
    rw [h] at this
    rw [← this]
    decide
  · rintro rfl
    have := raw_enc [45]
    rw [show enc [45] = [45] by decide] at this
    rw [this]
    decide
theorem cId_enc {bs : List Int} (hb : By bs) (hw : whole bs = true) (h : ∀ c ∈ raw bs, isC c = true) : enc (cId (raw bs)) = wId bs := by
  unfold cId wId
  by_cases g : bs = [45]
  · rw [if_pos g, if_pos ((dash_raw hb hw).2 g)]
    decide
  · rw [if_neg g, if_neg (fun e => g ((dash_raw hb hw).1 e))]
    exact cId0_enc h
theorem cQt_enc {c : Int} (h : isC c = true) : enc (cQt c) = qtT c := by
  unfold cQt qtT
  split
  · exact enc_92 h
  · split
    · rename_i g; exact esc_enc (hid_small g)
    · exact enc_one h
theorem cQts_enc (l : List Int) (h : ∀ c ∈ l, isC c = true) : enc (l.flatMap cQt) = qtL l := by
  induction l with
  | nil => rfl
  | cons c l ih =>
    have e : (c :: l).flatMap cQt = cQt c ++ l.flatMap cQt := by simp
    have e2 : qtL (c :: l) = qtT c ++ qtL l := by simp [qtL]
    rw [e, e2, enc_app, cQt_enc (h c (by simp)), ih (fun x hx => h x (by simp [hx]))]
theorem cUr_enc {c : Int} (h : isC c = true) : enc (cUr c) = urT c := by
  unfold cUr urT
  split
  · exact enc_92 h
  · split
    · rename_i g
      refine esc_enc ?_
      rcases g with g | g
      · exact hid_small g
      · omega
    · exact enc_one h
theorem cUrs_enc (l : List Int) (h : ∀ c ∈ l, isC c = true) : enc (l.flatMap cUr) = urL l := by
  induction l with
  | nil => rfl
  | cons c l ih =>
    have e : (c :: l).flatMap cUr = cUr c ++ l.flatMap cUr := by simp
    have e2 : urL (c :: l) = urT c ++ urL l := by simp [urL]
    rw [e, e2, enc_app, cUr_enc (h c (by simp)), ih (fun x hx => h x (by simp [hx]))]
/-- The first character, where it is a byte. -/
theorem nx_raw {bs : List Int} (hb : By bs) (hw : whole bs = true) : (raw bs = nx bs 0 :: raw (bs.drop 1) ∧ whole (bs.drop 1) = true ∧ bs ≠ []) ∨ (128 ≤ nx bs 0 ∧ 128 ≤ nx (raw bs) 0) ∨ bs = [] := by
  by_cases hn : bs = []
  · exact .inr (.inr hn)
  · rcases raw_head bs hb hn hw with ⟨h1, h2, h3⟩ | ⟨h1, h2⟩
    · exact .inl ⟨h1, h2, hn⟩
    · exact .inr (.inl (by omega))
theorem dig_raw {bs : List Int} (hb : By bs) (hw : whole bs = true) : isDig (nx (raw bs) 0) = isDig (nx bs 0) := by
  rcases nx_raw hb hw with ⟨h, _, _⟩ | ⟨h1, h2⟩ | h
  · rw [h]; rfl
  · rw [dig_big h1, dig_big h2]
  · rw [h, raw_nil]
theorem exL_raw {bs : List Int} (hb : By bs) (hw : whole bs = true) : exL (raw bs) = exL bs := by
  unfold exL
  rcases nx_raw hb hw with ⟨h, hw2, _⟩ | ⟨h1, h2⟩ | h
  · have e0 : nx (raw bs) 0 = nx bs 0 := by rw [h]; rfl
    have e1 : nx (raw bs) 1 = nx (raw (bs.drop 1)) 0 := by rw [h]; rfl
    have e2 : nx (raw bs) 2 = nx (raw (bs.drop 1)) 1 := by rw [h]; rfl
    have f1 : nx bs 1 = nx (bs.drop 1) 0 := by rw [nx_drop]
    have f2 : nx bs 2 = nx (bs.drop 1) 1 := by rw [nx_drop]
    rw [e0, e1, e2, f1, f2, dig_raw (hb.drop 1) hw2]
    congr 1
    congr 1
    rcases nx_raw (hb.drop 1) hw2 with ⟨g, gw, _⟩ | ⟨g1, g2⟩ | g
    · have a0 : nx (raw (bs.drop 1)) 0 = nx (bs.drop 1) 0 := by rw [g]; rfl
      have a1 : nx (raw (bs.drop 1)) 1 = nx (raw ((bs.drop 1).drop 1)) 0 := by rw [g]; rfl
      have b1 : nx (bs.drop 1) 1 = nx ((bs.drop 1).drop 1) 0 := by rw [nx_drop (bs.drop 1)]
      rw [a0, a1, b1, dig_raw ((hb.drop 1).drop 1) gw]
    · have a : (nx (raw (bs.drop 1)) 0 == 45) = false := by rw [beq_eq_false_iff_ne]; omega
      have b : (nx (bs.drop 1) 0 == 45) = false := by rw [beq_eq_false_iff_ne]; omega
      rw [a, b]; rfl
    · rw [g, raw_nil]
  · have a : ((nx (raw bs) 0 == 101) || (nx (raw bs) 0 == 69)) = false := by simp; omega
    have b : ((nx bs 0 == 101) || (nx bs 0 == 69)) = false := by simp; omega
    rw [a, b]; rfl
  · rw [h, raw_nil]
theorem cUn_enc {bs : List Int} (hb : By bs) (hw : whole bs = true) (h : ∀ c ∈ raw bs, isC c = true) : enc (cUn (raw bs)) = unT bs := by
  unfold cUn unT
  rw [exL_raw hb hw]
  split
  · rename_i hx
    have hc : nx bs 0 = 101 ∨ nx bs 0 = 69 := by
      unfold exL at hx
      simp at hx
      exact hx.1
    rcases nx_raw hb hw with ⟨g, _, _⟩ | ⟨g1, g2⟩ | g
    · have e0 : nx (raw bs) 0 = nx bs 0 := by rw [g]; rfl
      have e1 : (raw bs).drop 1 = raw (bs.drop 1) := by rw [g]; rfl
      rw [enc_app, e0, e1, esc_enc (.inl (by omega)), cNm_enc _ (fun c hc => h c (by rw [g]; exact List.mem_cons_of_mem _ hc))]
    · omega
    · rw [g] at hc; exact absurd hc (by decide)
  · exact cId_enc hb hw h
end Go.Proofs.YtcclhdiphcfdfaaGreatDoor
set_option linter.unusedVariables false
set_option linter.unusedSimpArgs false
namespace Go.Proofs.YtcclhdiphcfdfaaGreatDoor
open Go.RowKit

/-- A character that is read as it is written, also at the head. -/
def Gd (x : Int) : Prop := Good x ∧ x ≠ 65279
theorem gd_asc {x : Int} (h : 14 ≤ x ∧ x < 128) : Gd x := by
  refine ⟨⟨?_, by omega, by omega, by omega⟩, by omega⟩
  unfold isC; simp; omega
theorem gd_esc {c : Int} (h : (1 ≤ c ∧ c < 256) ∨ c = 65279) : ∀ x ∈ esc c, Gd x := by
  intro x hx
  have hd2 : ∀ n : Nat, (n < 256 ∨ n = 65279) → ∀ x ∈ hxL n, 48 ≤ x ∧ x < 128 := by
    intro n h
    have key : ∀ d : Nat, d < 16 → 48 ≤ hd d ∧ hd d < 128 := fun d hd' => by have := hd_ge d hd'; omega
    rcases h with h | rfl
    · by_cases h1 : n < 16
      · rw [hxL_one h1]; intro x hx; simp at hx; subst hx; exact key n h1
      · rw [hxL_two (by omega) h]
        intro x hx
        simp at hx
        rcases hx with rfl | rfl
        · exact key _ (by omega)
        · exact key _ (by omega)
    · have e : hxL 65279 = [hd 15, hd 14, hd 15, hd 15] := by
        rw [hxL, dif_neg (by decide), hxL, dif_neg (by decide), hxL_two (by decide) (by decide)]
        rfl
      rw [e]
      decide
  unfold esc at hx
  simp at hx
  rcases hx with rfl | hx | rfl
  · exact gd_asc (by omega)
  · have := hd2 c.toNat (by omega) x hx; exact gd_asc (by omega)
  · exact gd_asc (by omega)
theorem gd_plain {c : Int} (h : isC c = true) (h1 : 1 ≤ c) (hh : ¬ isHid c = true) : Gd c := by
  unfold isHid at hh
  simp at hh
  exact ⟨⟨h, by omega, by omega, by omega⟩, by omega⟩
/-- The characters of a token's text. -/
def Tx (l : List Int) : Prop := ∀ c ∈ l, isC c = true ∧ 1 ≤ c
theorem Tx.one {l : List Int} (h : Tx l) : ∀ c ∈ l, 1 ≤ c := fun c hc => (h c hc).2
theorem Tx.c {l : List Int} (h : Tx l) : ∀ c ∈ l, isC c = true := fun c hc => (h c hc).1
theorem gd_92 {c : Int} (h : Gd c) : ∀ x ∈ [92, c], Gd x := by
  intro x hx
  simp at hx
  rcases hx with rfl | rfl
  · exact gd_asc (by omega)
  · exact h
theorem gd_one {c : Int} (h : Gd c) : ∀ x ∈ [c], Gd x := by intro x hx; simp at hx; subst hx; exact h
theorem gd_cLt {c : Int} (h : isC c = true ∧ 1 ≤ c) : ∀ x ∈ cLt c, Gd x := by
  unfold cLt
  split
  · rename_i g; exact gd_esc (hid_small g)
  · rename_i g
    split
    · exact gd_one (gd_plain h.1 h.2 g)
    · exact gd_92 (gd_plain h.1 h.2 g)
theorem gd_app {a b : List Int} (ha : ∀ x ∈ a, Gd x) (hb : ∀ x ∈ b, Gd x) : ∀ x ∈ a ++ b, Gd x := by
  intro x hx
  rw [List.mem_append] at hx
  rcases hx with hx | hx
  · exact ha x hx
  · exact hb x hx
theorem gd_flat {f : Int → List Int} {l : List Int} (h : Tx l) (hf : ∀ c, isC c = true ∧ 1 ≤ c → ∀ x ∈ f c, Gd x) : ∀ x ∈ l.flatMap f, Gd x := by
  intro x hx
  rw [List.mem_flatMap] at hx
  obtain ⟨c, hc, hx⟩ := hx
  exact hf c (h c hc) x hx
theorem gd_cNm {l : List Int} (h : Tx l) : ∀ x ∈ cNm l, Gd x := gd_flat h (fun c hc => gd_cLt hc)
theorem gd_cHd {c : Int} (h : isC c = true ∧ 1 ≤ c) : ∀ x ∈ cHd c, Gd x := by
  unfold cHd
  split
  · rename_i g
    exact gd_esc (.inl (by unfold isDig at g; simp at g; omega))
  · exact gd_cLt h
theorem Tx.tail {c : Int} {l : List Int} (h : Tx (c :: l)) : Tx l := fun x hx => h x (by simp [hx])
theorem gd_cId {l : List Int} (h : Tx l) : ∀ x ∈ cId l, Gd x := by
  unfold cId
  split
  · exact gd_92 (gd_asc (by omega))
  · cases l with
    | nil => intro x hx; cases hx
    | cons c r =>
      show ∀ x ∈ cHd c ++ (if c = 45 then cId1 r else cNm r), Gd x
      refine gd_app (gd_cHd (h c (by simp))) ?_
      split
      · cases r with
        | nil => intro x hx; cases hx
        | cons b r =>
          show ∀ x ∈ cHd b ++ cNm r, Gd x
          exact gd_app (gd_cHd (h b (by simp))) (gd_cNm h.tail.tail)
      · exact gd_cNm h.tail
theorem gd_cQt {c : Int} (h : isC c = true ∧ 1 ≤ c) : ∀ x ∈ cQt c, Gd x := by
  unfold cQt
  split
  · rename_i g; exact gd_92 (gd_asc (by omega))
  · split
    · rename_i g; exact gd_esc (hid_small g)
    · rename_i g; exact gd_one (gd_plain h.1 h.2 g)
theorem gd_cUr {c : Int} (h : isC c = true ∧ 1 ≤ c) : ∀ x ∈ cUr c, Gd x := by
  unfold cUr
  split
  · rename_i g; exact gd_92 (gd_asc (by unfold urS at g; omega))
  · split
    · rename_i g
      refine gd_esc ?_
      rcases g with g | g
      · exact hid_small g
      · omega
    · rename_i g; exact gd_one (gd_plain h.1 h.2 (fun e => g (.inl e)))
/-- What is written so is read as these characters. -/
theorem dcd_gd {l : List Int} (h : ∀ x ∈ l, Gd x) : dcd (enc l) = l := by
  refine dec_same (fun x hx => (h x hx).1) ?_
  cases l with
  | nil => decide
  | cons c r => exact (h c (by simp)).2
theorem tx_raw {bs : List Int} (hb : By bs) (h : chB bs = true) : Tx (raw bs) ∧ whole bs = true ∧ enc (raw bs) = bs := by
  rw [chB_raw bs hb, Bool.and_eq_true] at h
  refine ⟨?_, h.2, enc_raw _ bs (Nat.le_refl _) hb h.2⟩
  intro c hc
  have h1 := raw_isC _ bs (Nat.le_refl _) hb c hc
  refine ⟨h1, ?_⟩
  have h2 := (isC_iff c).1 h1
  have h3 : c ≠ 0 := by
    rintro rfl
    have := h.1
    simp at this
    exact this hc
  omega
/-- Names of all kinds, read. -/
theorem back_ident {bs : List Int} (hb : By bs) (h : chB bs = true) (hn : bs ≠ []) : toks (dcd (wId bs)) = [⟨1, bs, 0, 0, false, false⟩] := by
  obtain ⟨tx, hw, he⟩ := tx_raw hb h
  have hr : raw bs ≠ [] := fun e => hn ((raw_empty bs).1 (by rw [e]; rfl))
  rw [← cId_enc hb hw tx.c, dcd_gd (gd_cId tx), toks_ident tx.one hr]
  unfold tkt
  rw [he]
theorem back_func {bs : List Int} (hb : By bs) (h : chB bs = true) (hn : bs ≠ []) (hu : isUrlB bs = false) : toks (dcd (wId bs ++ [40])) = [⟨2, bs, 0, 0, false, false⟩] := by
  obtain ⟨tx, hw, he⟩ := tx_raw hb h
  have hr : raw bs ≠ [] := fun e => hn ((raw_empty bs).1 (by rw [e]; rfl))
  have e : wId bs ++ [40] = enc (cId (raw bs) ++ [40]) := by rw [enc_app, cId_enc hb hw tx.c]; rfl
  rw [e, dcd_gd (gd_app (gd_cId tx) (gd_one (gd_asc (by omega)))), toks_func tx.one hr (by rw [he]; exact hu)]
  unfold tkt
  rw [he]
theorem back_at {bs : List Int} (hb : By bs) (h : chB bs = true) (hn : bs ≠ []) : toks (dcd (64 :: wId bs)) = [⟨3, bs, 0, 0, false, false⟩] := by
  obtain ⟨tx, hw, he⟩ := tx_raw hb h
  have hr : raw bs ≠ [] := fun e => hn ((raw_empty bs).1 (by rw [e]; rfl))
  have e : 64 :: wId bs = enc ([64] ++ cId (raw bs)) := by rw [enc_app, cId_enc hb hw tx.c]; rfl
  rw [e, dcd_gd (gd_app (gd_one (gd_asc (by omega))) (gd_cId tx))]
  show toks (64 :: cId (raw bs)) = _
  rw [toks_at tx.one hr]
  unfold tkt
  rw [he]
theorem back_hash {bs : List Int} {h : Bool} (hb : By bs) (hc : chB bs = true) (hn : bs ≠ []) (hf : h = false → fB bs = true) : toks (dcd (hshT h bs)) = [⟨4, bs, 0, 0, false, h⟩] := by
  obtain ⟨tx, hw, he⟩ := tx_raw hb hc
  have hr : raw bs ≠ [] := fun e => hn ((raw_empty bs).1 (by rw [e]; rfl))
  unfold hshT
  cases h with
  | true =>
    have e : 35 :: (if true = true then wId bs else wNm (raw bs)) = enc ([35] ++ cId (raw bs)) := by rw [if_pos rfl, enc_app, cId_enc hb hw tx.c]; rfl
    rw [e, dcd_gd (gd_app (gd_one (gd_asc (by omega))) (gd_cId tx))]
    show toks (35 :: cId (raw bs)) = _
    rw [toks_hash tx.one hr, he]
  | false =>
    have e : 35 :: (if false = true then wId bs else wNm (raw bs)) = enc ([35] ++ cNm (raw bs)) := by rw [if_neg (by decide), enc_app, cNm_enc _ tx.c]; rfl
    rw [e, dcd_gd (gd_app (gd_one (gd_asc (by omega))) (gd_cNm tx))]
    show toks (35 :: cNm (raw bs)) = _
    rw [toks_hash' tx.one (by rw [hash_raw bs hb hn hw]; exact hf rfl), he]
theorem back_text {bs : List Int} (hb : By bs) (h : chB bs = true) : toks (dcd (34 :: (qtL (raw bs) ++ [34]))) = [⟨5, bs, 0, 0, false, false⟩] := by
  obtain ⟨tx, hw, he⟩ := tx_raw hb h
  have e : 34 :: (qtL (raw bs) ++ [34]) = enc ([34] ++ ((raw bs).flatMap cQt ++ [34])) := by rw [enc_app, enc_app, cQts_enc _ tx.c]; rfl
  rw [e, dcd_gd (gd_app (gd_one (gd_asc (by omega))) (gd_app (gd_flat tx (fun c hc => gd_cQt hc)) (gd_one (gd_asc (by omega)))))]
  show toks (34 :: ((raw bs).flatMap cQt ++ [34])) = _
  rw [toks_text tx.one]
  unfold tkt
  rw [he]
theorem back_url {bs : List Int} (hb : By bs) (h : chB bs = true) : toks (dcd (117 :: 114 :: 108 :: 40 :: (urL (raw bs) ++ [41]))) = [⟨7, bs, 0, 0, false, false⟩] := by
  obtain ⟨tx, hw, he⟩ := tx_raw hb h
  have e : 117 :: 114 :: 108 :: 40 :: (urL (raw bs) ++ [41]) = enc ([117, 114, 108, 40] ++ ((raw bs).flatMap cUr ++ [41])) := by rw [enc_app, enc_app, cUrs_enc _ tx.c]; rfl
  have g4 : ∀ x ∈ [(117 : Int), 114, 108, 40], Gd x := by
    intro x hx
    simp at hx
    exact gd_asc (by omega)
  rw [e, dcd_gd (gd_app g4 (gd_app (gd_flat tx (fun c hc => gd_cUr hc)) (gd_one (gd_asc (by omega)))))]
  show toks (117 :: 114 :: 108 :: 40 :: ((raw bs).flatMap cUr ++ [41])) = _
  rw [toks_url tx.one]
  unfold tkt
  rw [he]
end Go.Proofs.YtcclhdiphcfdfaaGreatDoor
set_option linter.unusedVariables false
set_option linter.unusedSimpArgs false
namespace Go.Proofs.YtcclhdiphcfdfaaGreatDoor
open Go.RowKit

theorem num_gd {T : List Int} (h : ∀ c ∈ T, 14 ≤ c ∧ c < 128) : ∀ x ∈ T, Gd x := fun x hx => gd_asc (h x hx)
theorem digs_lo {l : List Int} (h : Digs l) : ∀ c ∈ l, 14 ≤ c ∧ c < 128 := by
  intro c hc
  have := h c hc
  unfold isDig at this
  simp at this
  omega
theorem pl_lo {n d : Int} {wh : Bool} {T : List Int} (h : plT n d wh = some T) : ∀ c ∈ T, 14 ≤ c ∧ c < 128 := by
  have neg : ∀ (n : Int) (x : List Int), (∀ c ∈ x, 14 ≤ c ∧ c < 128) → ∀ c ∈ neg1 n ++ x, 14 ≤ c ∧ c < 128 := by
    intro n x hx c hc
    rw [List.mem_append] at hc
    rcases hc with hc | hc
    · unfold neg1 at hc
      split at hc
      · simp at hc; omega
      · simp at hc
    · exact hx c hc
  unfold plT at h
  split at h
  · cases h
  · split at h
    · have h := Option.some.inj h
      subst h
      unfold plO
      split
      · intro c hc; simp at hc; omega
      · intro c hc; simp at hc; omega
    · unfold plV at h
      cases hf : fin (ab n).toNat d.toNat 0 with
      | none => rw [hf] at h; cases h
      | some q =>
        obtain ⟨M, p⟩ := q
        rw [hf] at h
        simp only at h
        split at h
        · cases h
        · have h := Option.some.inj h
          subst h
          refine neg n _ ?_
          cases wh with
          | true => exact digs_lo (dgt_digs M)
          | false =>
            show ∀ c ∈ ptd (dgt M) p, _
            unfold ptd
            have hd : Digs (pad (dgt M) p) := digs_rep _ (dgt_digs M)
            intro c hc
            rw [List.mem_append, List.mem_cons] at hc
            rcases hc with hc | rfl | hc
            · exact digs_lo hd c (List.mem_of_mem_take hc)
            · omega
            · split at hc
              · simp at hc; omega
              · exact digs_lo hd c (List.mem_of_mem_drop hc)
theorem gd_cUn {l : List Int} (h : Tx l) : ∀ x ∈ cUn l, Gd x := by
  unfold cUn
  split
  · rename_i hx
    have hc : nx l 0 = 101 ∨ nx l 0 = 69 := by
      unfold exL at hx
      simp at hx
      exact hx.1
    exact gd_app (gd_esc (.inl (by omega))) (gd_cNm (fun c hc => h c (List.mem_of_mem_drop hc)))
  · exact gd_cId h
theorem back_num {n d : Int} {i : Bool} {T : List Int} (n1 : -9223372036854775808 ≤ n) (n2 : n ≤ 9223372036854775807) (d2 : d ≤ 9223372036854775807) (h : plT n d i = some T) : toks (dcd T) = [⟨10, [], n, d, i, false⟩] := by
  have hN := pl_num h
  have e : dcd T = T := by
    have := dcd_gd (num_gd (pl_lo h))
    rwa [hN.en] at this
  rw [e, toks_num hN (pl_back n1 n2 d2 h)]
theorem back_pct {n d : Int} {i : Bool} {T : List Int} (n1 : -9223372036854775808 ≤ n) (n2 : n ≤ 9223372036854775807) (d2 : d ≤ 9223372036854775807) (h : plT n d i = some T) : toks (dcd (T ++ [37])) = [⟨11, [], n, d, i, false⟩] := by
  have hN := pl_num h
  have e : dcd (T ++ [37]) = T ++ [37] := by
    have := dcd_gd (gd_app (num_gd (pl_lo h)) (gd_one (gd_asc (x := 37) (by omega))))
    rwa [enc_app, hN.en, show enc [37] = [37] by decide] at this
  rw [e, toks_pct hN (pl_back n1 n2 d2 h)]
theorem back_dim {n d : Int} {i : Bool} {T bs : List Int} (n1 : -9223372036854775808 ≤ n) (n2 : n ≤ 9223372036854775807) (d2 : d ≤ 9223372036854775807) (h : plT n d i = some T) (hb : By bs) (hc : chB bs = true) (hn : bs ≠ []) : toks (dcd (T ++ unT bs)) = [⟨12, bs, n, d, i, false⟩] := by
  obtain ⟨tx, hw, he⟩ := tx_raw hb hc
  have hr : raw bs ≠ [] := fun e => hn ((raw_empty bs).1 (by rw [e]; rfl))
  have hN := pl_num h
  have e : dcd (T ++ unT bs) = T ++ cUn (raw bs) := by
    have := dcd_gd (gd_app (num_gd (pl_lo h)) (gd_cUn tx))
    rwa [enc_app, hN.en, cUn_enc hb hw tx.c] at this
  obtain ⟨u1, u2, u3⟩ := unit_all tx.one hr
  rw [e, toks_dim hN (pl_back n1 n2 d2 h) u1 u2 u3, he]
theorem back_delim {bs : List Int} (h : dlB bs = true) (h92 : bs ≠ [92]) : toks (dcd (dlmT bs)) = [⟨9, bs, 0, 0, false, false⟩] := by
  unfold dlB at h
  rw [Bool.and_eq_true] at h
  have hl : bs.length = 1 := by simpa using h.1
  match bs, hl with
  | [c], _ =>
    have hc : (isDl c || isCt c) = true := h.2
    have hne : c ≠ 92 := fun e => h92 (by rw [e])
    unfold dlmT
    rw [if_neg h92]
    have hg : Gd c ∧ 0 ≤ c ∧ c < 128 := by
      unfold isDl isCt at hc
      simp at hc
      refine ⟨⟨⟨?_, by omega, by omega, by omega⟩, by omega⟩, by omega, by omega⟩
      unfold isC; simp; omega
    have en : enc [c] = [c] := enc_asc _ (by intro x hx; simp at hx; subst hx; exact hg.2)
    have e : dcd [c] = [c] := by
      have := dcd_gd (gd_one hg.1)
      rwa [en] at this
    rw [e, toks_delim hc hne]
    unfold tkt
    rw [en]
theorem dcd_lit {l : List Int} (h : ∀ c ∈ l, 14 ≤ c ∧ c < 128) : dcd l = l := by
  have := dcd_gd (num_gd h)
  rwa [enc_asc _ (fun c hc => by have := h c hc; omega)] at this
theorem back_fx {k : Int} (h1 : 1 ≤ k) (h2 : k ≤ 24) (hk : ¬ (k = 1 ∨ k = 2 ∨ k = 3 ∨ k = 4 ∨ k = 5 ∨ k = 7 ∨ k = 9 ∨ k = 10 ∨ k = 11 ∨ k = 12)) (h6 : k ≠ 6) : toks (dcd (bl (fx k))) = [tk k] := by
  have hc : k = 8 ∨ k = 13 ∨ k = 14 ∨ k = 15 ∨ k = 16 ∨ k = 17 ∨ k = 18 ∨ k = 19 ∨ k = 20 ∨ k = 21 ∨ k = 22 ∨ k = 23 ∨ k = 24 := by omega
  rcases hc with rfl | rfl | rfl | rfl | rfl | rfl | rfl | rfl | rfl | rfl | rfl | rfl | rfl
  · rw [show bl (fx 8) = [117, 114, 108, 40, 40, 41] by decide, dcd_lit (by decide)]; exact toks_badurl
  · rw [show bl (fx 13) = [32] by decide, dcd_lit (by decide)]; exact toks_blank
  · rw [show bl (fx 14) = [60, 33, 45, 45] by decide, dcd_lit (by decide)]; exact toks_cdo
  · rw [show bl (fx 15) = [45, 45, 62] by decide, dcd_lit (by decide)]; exact toks_cdc
  · rw [show bl (fx 16) = [58] by decide, dcd_lit (by decide)]; exact toks_brk (by decide) (by decide)
  · rw [show bl (fx 17) = [59] by decide, dcd_lit (by decide)]; exact toks_brk (by decide) (by decide)
  · rw [show bl (fx 18) = [44] by decide, dcd_lit (by decide)]; exact toks_brk (by decide) (by decide)
  · rw [show bl (fx 19) = [91] by decide, dcd_lit (by decide)]; exact toks_brk (by decide) (by decide)
  · rw [show bl (fx 20) = [93] by decide, dcd_lit (by decide)]; exact toks_brk (by decide) (by decide)
  · rw [show bl (fx 21) = [40] by decide, dcd_lit (by decide)]; exact toks_brk (by decide) (by decide)
  · rw [show bl (fx 22) = [41] by decide, dcd_lit (by decide)]; exact toks_brk (by decide) (by decide)
  · rw [show bl (fx 23) = [123] by decide, dcd_lit (by decide)]; exact toks_brk (by decide) (by decide)
  · rw [show bl (fx 24) = [125] by decide, dcd_lit (by decide)]; exact toks_brk (by decide) (by decide)
theorem ne_emp {bs : List Int} (h : (!bs.isEmpty) = true) : bs ≠ [] := by rintro rfl; cases h
/-- Each token that may be, written, is read as it alone. -/
theorem back_all (t : TS) (ho : t.Ok) (hm : t.may = true) (h6 : t.k ≠ 6) (h9 : ¬ (t.k = 9 ∧ bl t.s = [92])) (h2 : ¬ (t.k = 2 ∧ isUrlB (bl t.s) = true)) : toks (dcd (wtA t)) = [⟨t.k, bl t.s, t.n, t.d, t.i, t.h⟩] := by
  obtain ⟨k, s, n, d, i, h⟩ := t
  obtain ⟨k1, k2, hs, n1, n2, d1, d2⟩ := ho
  have hm' : mayT k (bl s) n d i h = true := hm
  simp only at k1 k2 hs n1 n2 d1 d2 h6 h9 h2 ⊢
  have hb := bl_by s
  by_cases e1 : k = 1 ∨ k = 2 ∨ k = 3
  · rw [may_name e1] at hm'
    simp only [Bool.and_eq_true] at hm'
    obtain ⟨⟨hz, hh⟩, hc, hn⟩ := hm'
    obtain ⟨rfl, rfl, rfl⟩ := zB_out hz
    obtain rfl : h = false := by simpa using hh
    rcases e1 with rfl | rfl | rfl
    · exact back_ident hb hc (ne_emp hn)
    · exact back_func hb hc (ne_emp hn) (by simpa using h2)
    · exact back_at hb hc (ne_emp hn)
  by_cases e4 : k = 4
  · subst e4
    rw [may_hash] at hm'
    simp only [Bool.and_eq_true] at hm'
    obtain ⟨hz, ⟨hc, hn⟩, hf⟩ := hm'
    obtain ⟨rfl, rfl, rfl⟩ := zB_out hz
    exact back_hash hb hc (ne_emp hn) (by rintro rfl; simpa using hf)
  by_cases e5 : k = 5 ∨ k = 7
  · rw [may_text e5] at hm'
    simp only [Bool.and_eq_true] at hm'
    obtain ⟨⟨hz, hh⟩, hc⟩ := hm'
    obtain ⟨rfl, rfl, rfl⟩ := zB_out hz
    obtain rfl : h = false := by simpa using hh
    rcases e5 with rfl | rfl
    · exact back_text hb hc
    · exact back_url hb hc
  by_cases e9 : k = 9
  · subst e9
    rw [may_delim] at hm'
    simp only [Bool.and_eq_true] at hm'
    obtain ⟨⟨hz, hh⟩, hdl⟩ := hm'
    obtain ⟨rfl, rfl, rfl⟩ := zB_out hz
    obtain rfl : h = false := by simpa using hh
    exact back_delim hdl (fun e => h9 ⟨rfl, e⟩)
  by_cases e10 : k = 10 ∨ k = 11
  · rw [may_num e10] at hm'
    simp only [Bool.and_eq_true] at hm'
    obtain ⟨⟨he, hh⟩, hp⟩ := hm'
    obtain rfl : h = false := by simpa using hh
    obtain ⟨tt, ht⟩ := som hp
    have hbs : bl s = [] := by simpa using he
    have hN : numW ⟨k, s, n, d, i, false⟩ = tt := by unfold numW; simp only [ht]; rfl
    rw [hbs]
    rcases e10 with rfl | rfl
    · show toks (dcd (numW ⟨10, s, n, d, i, false⟩)) = _
      rw [hN]; exact back_num n1 n2 d2 ht
    · show toks (dcd (numW ⟨11, s, n, d, i, false⟩ ++ [37])) = _
      rw [hN]; exact back_pct n1 n2 d2 ht
  by_cases e12 : k = 12
  · subst e12
    rw [may_dim] at hm'
    simp only [Bool.and_eq_true] at hm'
    obtain ⟨⟨hc, hn⟩, hh, hp⟩ := hm'
    obtain rfl : h = false := by simpa using hh
    obtain ⟨tt, ht⟩ := som hp
    have hN : numW ⟨12, s, n, d, i, false⟩ = tt := by unfold numW; simp only [ht]; rfl
    show toks (dcd (numW ⟨12, s, n, d, i, false⟩ ++ unT (bl s))) = _
    rw [hN]; exact back_dim n1 n2 d2 ht hb hc (ne_emp hn)
  have hk : ¬ (k = 1 ∨ k = 2 ∨ k = 3 ∨ k = 4 ∨ k = 5 ∨ k = 7 ∨ k = 9 ∨ k = 10 ∨ k = 11 ∨ k = 12) := by omega
  rw [may_rest hk] at hm'
  simp only [Bool.and_eq_true] at hm'
  obtain ⟨⟨q1, q2⟩, he, hz, hh⟩ := hm'
  obtain ⟨rfl, rfl, rfl⟩ := zB_out hz
  obtain rfl : h = false := by simpa using hh
  have hbs : bl s = [] := by simpa using he
  have e : wtA ⟨k, s, 0, 0, false, false⟩ = bl (fx k) := by
    unfold wtA
    simp only
    repeat rw [if_neg (by omega)]
  rw [e, hbs, back_fx (by simpa using q1) (by simpa using q2) hk h6]
  rfl
end Go.Proofs.YtcclhdiphcfdfaaGreatDoor
