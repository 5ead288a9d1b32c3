/-
  A row of texts, numbers and names, written, is read as it was: the law.
  What is written, with something behind it, is read again: the other kinds; plain.
  What tokens of characters hold: characters; what stands behind them; plain.
  A number that is read can be written: plain.
  What is read: what is left of the characters, how long it is; plain.
  What is read: each token may be; what stands behind it; plain.
-/
import Derived.Test.YtcclhdiphcfdfaaGreatDoorKya
import Derived.Test.YtcclhdiphcfdfaaGreatDoorKl
import Derived.Test.YtcclhdiphcfdfaaGreatDoorKw
import Derived.Outline
import Derived.Test.YtcclhdiphcfdfaaGreatDoorKc
set_option linter.unusedVariables false
set_option linter.unusedSimpArgs false
namespace Go.Proofs.YtcclhdiphcfdfaaGreatDoor
open Go.RowKit Go.Shelf

def szS (ts : List TS) : Nat := (ts.map fun t => t.s.size).sum
def inKB (k : Int) : Bool := (k == 1) || (k == 10) || (k == 12) || (k == 11) || (k == 5) || (k == 18) || (k == 4) || (k == 3) || (k == 15) || (k == 7)
theorem inKB_iff (k : Int) : inKB k = true ↔ inK k := by unfold inKB inK; simp [or_assoc]
def filt (ts : List TS) : List TS := ts.filter fun t => inKB t.k
theorem filt_snoc (ts : List TS) (t : TS) : filt (ts ++ [t]) = filt ts ++ (if inKB t.k = true then [t] else []) := by
  unfold filt
  rw [List.filter_append]
  cases h : inKB t.k <;> simp [h]
theorem filt_sz (ts : List TS) : szS (filt ts) ≤ szS ts ∧ (filt ts).length ≤ ts.length := by
  induction ts with
  | nil => exact ⟨Nat.le_refl _, Nat.le_refl _⟩
  | cons t r ih =>
    unfold filt szS at *
    rw [List.filter_cons]
    split
    · simp only [List.map_cons, List.sum_cons, List.length_cons]; omega
    · simp only [List.map_cons, List.sum_cons, List.length_cons]; omega
theorem take_snoc {ts : List TS} {k : Nat} {t : TS} (h : ts[k]? = some t) : ts.take (k + 1) = ts.take k ++ [t] := by rw [List.take_add_one, h]; rfl
theorem szS_app (a b : List TS) : szS (a ++ b) = szS a + szS b := by unfold szS; simp
theorem spK_step_len (ts : List TS) (k : Nat) (t : TS) (ht : ts[k]? = some t) : (spK wtA ts (k + 1)).length ≤ (spK wtA ts k).length + (4 + (wtA t).length) := by
  cases k with
  | zero => simp [spK, ht]
  | succ j =>
    rw [spK, ht]
    simp only [List.length_append]
    cases ts[j]? with
    | none => simp
    | some p => simp only; split <;> simp
/-- How long a row's text is. -/
theorem spS_len (ts : List TS) (ho : ∀ t ∈ ts, t.Ok) : ∀ k, k ≤ ts.length → (spK wtA ts k).length ≤ 6 * szS (ts.take k) + 204 * k := by
  intro k
  induction k with
  | zero => intro _; simp [spK]
  | succ k ih =>
    intro hk
    have ih := ih (by omega)
    obtain ⟨t, ht⟩ : ∃ t, ts[k]? = some t := ⟨_, List.getElem?_eq_getElem (by omega)⟩
    have hm : t ∈ ts := List.mem_of_getElem? ht
    have hl := wtA_len t (ho t hm)
    rw [take_snoc ht, szS_app]
    have e1 : szS [t] = t.s.size := by simp [szS]
    rw [e1]
    have hst := spK_step_len ts k t ht
    omega
theorem spS_all (ts : List TS) (ho : ∀ t ∈ ts, t.Ok) : (spK wtA ts ts.length).length ≤ 6 * szS ts + 204 * ts.length := by
  have := spS_len ts ho ts.length (Nat.le_refl _)
  rwa [List.take_length] at this
/-- An own slice of tokens. -/
def OwnR (w wr : World) (v : Value) (ts : List Tk) : Prop := wr.ownsRow w.heap.size 25 6 v ts.length (cellsT ts) ∧ Below w.heap.size w wr
theorem OwnR.nil (w : World) : OwnR w w (.slice none 0 0) [] := ⟨World.ownsRow_nil _ _ _ _, Below.refl _ _⟩
theorem OwnR.on {w wr w1 : World} {v : Value} {ts : List Tk} (h : OwnR w wr v ts) (hg : Below wr.heap.size wr w1) : OwnR w w1 v ts := by
  refine ⟨⟨h.1.1, ?_⟩, bto h.2 hg⟩
  rcases h.1.2 with h1 | ⟨g, cap, cur, hv, hbg, hh, rest⟩
  · exact .inl h1
  · exact .inr ⟨g, cap, cur, hv, hbg, (hg.block g (Array.getElem?_eq_some_iff.1 hh).1).trans hh, rest⟩
theorem OwnR.grow {w wr w1 : World} {v v' : Value} {ts : List Tk} {τ : Tk} {o : Obj} (h : OwnR w wr v ts)
    (h1 : w1.ownsRow w.heap.size 25 6 v' (ts.length + 1) (cellsT ts ++ tkC τ)) (hg : (wr.alloc o).grownBy w1 v.ownBlock) : OwnR w w1 v' (ts ++ [τ]) := by
  refine ⟨by rw [List.length_append, cellsT_snoc]; exact h1, ?_⟩
  exact (bplus h.2 o).grown hg (Nat.le_trans h.2.size (by simp)) (fun k hk => (h.1.lt k hk).1)
theorem OwnR.toks {w wr : World} {v : Value} {ts : List Tk} (h : OwnR w wr v ts) (hl : ts.length ≤ 1000000000) : Toks wr v ts := by
  rcases h.1.2 with ⟨rfl, h0⟩ | ⟨g, cap, cur, rfl, hb, hg, hn, hm, hs, ht⟩
  · exact .inl ⟨_, _, rfl, List.eq_nil_of_length_eq_zero h0⟩
  · by_cases h0 : ts.length = 0
    · obtain rfl : ts = [] := List.eq_nil_of_length_eq_zero h0
      exact .inl ⟨_, _, rfl, rfl⟩
    · refine .inr ⟨g, 0, ts.length, cap, rfl, rfl, by omega, (Array.getElem?_eq_some_iff.1 hg).1, hn, hl, by unfold maxLen at hm; exact hm, fun i τ hi j hj => ?_⟩
      have e := cellsT_at ts i j τ hi hj
      have hi' := (List.getElem?_eq_some_iff.1 hi).1
      rw [← e, ← ht, List.getElem?_take_of_lt (by omega), cell_blk hg, Nat.zero_add, Array.getElem?_toList]
theorem toks4_of {w : World} {v : Value} {ts : List TS} (h : Toks w v (ts.map tkOf)) : Toks4 w v ts := by
  rcases h with ⟨a, c, rfl, h⟩ | ⟨b, o, n, c, rfl, hn, h0, hb, hc, h9, hc9, hcell⟩
  · exact .inl ⟨a, c, rfl, by simpa using h⟩
  · refine .inr ⟨b, o, n, c, rfl, by simpa using hn, h0, hb, hc, by omega, hc9, fun i t hi => ?_⟩
    have k := hcell i (tkOf t) (by rw [List.getElem?_map, hi]; rfl)
    have k0 := k 0 (by omega); have k1 := k 1 (by omega); have k2 := k 2 (by omega); have k3 := k 3 (by omega); have k4 := k 4 (by omega); have k5 := k 5 (by omega)
    have e : tb (tkOf t).text = t.s := tb_bl t.s
    simp only [tkC, e] at k0 k1 k2 k3 k4 k5
    exact ⟨k0, k1, k2, k3, k4, k5⟩
/-- What the making of the row is about. -/
def RelRw (w : World) (ts : List TS) (row i : Value) (wr : World) : Prop := ∃ k : Nat, k ≤ ts.length ∧ i = .int .i64 k ∧ Hid (OwnR w wr row ((filt (ts.take k)).map tkOf))
theorem RelRw.mk {w : World} {ts : List TS} {row i : Value} {wr : World} (k : Nat) (h1 : k ≤ ts.length) (h2 : i = .int .i64 k) (h3 : Hid (OwnR w wr row ((filt (ts.take k)).map tkOf))) : RelRw w ts row i wr := ⟨k, h1, h2, h3⟩
theorem cells_of (t : TS) : tkC (tkOf t) = [.int .i64 t.k, .string t.s, .int .i64 t.n, .int .i64 t.d, .bool t.i, .bool t.h] := by
  have e : tb (tkOf t).text = t.s := tb_bl t.s
  simp only [tkC, e]; rfl
end Go.Proofs.YtcclhdiphcfdfaaGreatDoor
set_option linter.unusedVariables false
set_option linter.unusedSimpArgs false
namespace Go.Proofs.YtcclhdiphcfdfaaGreatDoor

/-- Nothing follows, or a remark, or the text of a token that does not join. -/
def Fx (r : List Int) : Prop := nx r 0 = -1 ∨ nx r 0 = 47 ∨ nx r 0 = 64 ∨ nx r 0 = 35 ∨ nx r 0 = 34 ∨ nx r 0 = 44 ∨ nx r 0 = 32 ∨ nx r 0 = 60 ∨ nx r 0 = 58 ∨ nx r 0 = 59 ∨ nx r 0 = 91 ∨ nx r 0 = 93 ∨ nx r 0 = 41 ∨ nx r 0 = 123 ∨ nx r 0 = 125
theorem Fx.let {r : List Int} (h : Fx r) : isLet (nx r 0) = false := by rcases h with h | h | h | h | h | h | h | h | h | h | h | h | h | h | h <;> rw [h] <;> decide
theorem Fx.es {r : List Int} (h : Fx r) (x : Int) : es2 (nx r 0) x = false := by rcases h with h | h | h | h | h | h | h | h | h | h | h | h | h | h | h <;> rw [h] <;> rfl
theorem Fx.ne {r : List Int} (h : Fx r) : nx r 0 ≠ 40 ∧ nx r 0 ≠ 62 ∧ nx r 0 ≠ 37 ∧ nx r 0 ≠ 45 ∧ nx r 0 ≠ 33 ∧ nx r 0 ≠ 46 ∧ nx r 0 ≠ 42 := by rcases h with h | h | h | h | h | h | h | h | h | h | h | h | h | h | h <;> rw [h] <;> decide
theorem Fx.dig {r : List Int} (h : Fx r) : isDig (nx r 0) = false := by rcases h with h | h | h | h | h | h | h | h | h | h | h | h | h | h | h <;> rw [h] <;> decide
theorem Fx.sg {r : List Int} (h : Fx r) : isSg (nx r 0) = false := by rcases h with h | h | h | h | h | h | h | h | h | h | h | h | h | h | h <;> rw [h] <;> decide
theorem Fx.fst {r : List Int} (h : Fx r) : isFst (nx r 0) = false := by rcases h with h | h | h | h | h | h | h | h | h | h | h | h | h | h | h <;> rw [h] <;> decide
theorem Fx.nm {r : List Int} (h : Fx r) (x y : Int) : nmB (nx r 0) x y = false := by
  unfold nmB
  rw [if_neg h.ne.2.2.2.1, h.fst, h.es]; rfl
/-- A function's name and its bracket; not url. -/
theorem on_func {l : List Int} (h : ∀ c ∈ l, 1 ≤ c) (hl : l ≠ []) (hu : isUrlB (enc l) = false) (r : List Int) : toks (cId l ++ 40 :: r) = tkt 2 l :: toks r := by
  have st : Start (cId l ++ 40 :: r) := cId_start h hl (by rw [nxc0]; decide)
  refine toks_on st.head.2 st.head.1 ?_
  rw [st.tokn]
  unfold word
  rw [nam_of h (by rw [nxc0]; decide) (by rw [nxc0]; rfl), if_neg (by show ¬ (nx (40 :: r) 0 ≠ 40); rw [nxc0]; decide), hu]
  rfl
/-- A function url, and a text in quotes behind it. -/
theorem on_funcurl {l : List Int} (h : ∀ c ∈ l, 1 ≤ c) (hl : l ≠ []) (hu : isUrlB (enc l) = true) {r : List Int} (hs : sbl r = r) (hq : qut r = true) : toks (cId l ++ 40 :: r) = tkt 2 l :: toks r := by
  have st : Start (cId l ++ 40 :: r) := cId_start h hl (by rw [nxc0]; decide)
  refine toks_on st.head.2 st.head.1 ?_
  rw [st.tokn]
  unfold word
  rw [nam_of h (by rw [nxc0]; decide) (by rw [nxc0]; rfl), if_neg (by show ¬ (nx (40 :: r) 0 ≠ 40); rw [nxc0]; decide), if_pos hu]
  show (if qut (sbl r) = true then (tkt 2 l, sbl r) else _) = _
  rw [hs, hq]
  rfl
/-- A text that is bad. -/
theorem on_bad (r : List Int) : toks (34 :: 10 :: r) = tk 6 :: toks (10 :: r) := by
  refine toks_on (by rw [nxc0]; decide) (by rw [nxc0]; decide) ?_
  unfold tokn
  have e : nx (34 :: 10 :: r) 0 = 34 := rfl
  simp only [e]
  show str 34 [] (10 :: r) = _
  rw [str, dif_neg (by rw [nxc0]; decide), dif_pos (by rw [nxc0])]
theorem bls_of {r : List Int} (h : isBl (nx r 0) = false) : bls r = r := by
  unfold bls
  cases r with
  | nil => rfl
  | cons x q => rw [List.dropWhile_cons_of_neg (by rw [show isBl x = false from h]; decide)]
theorem on_blank {r : List Int} (h : isBl (nx r 0) = false) : toks (32 :: r) = tk 13 :: toks r := by
  refine toks_on (by rw [nxc0]; decide) (by rw [nxc0]; decide) ?_
  unfold tokn
  rw [if_pos (by rw [nxc0]; decide)]
  have : bls (32 :: r) = bls r := by unfold bls; rw [List.dropWhile_cons_of_pos (by decide)]
  rw [this, bls_of h]
theorem on_blank2 {r : List Int} (h : isBl (nx r 0) = false) : toks (10 :: 32 :: r) = tk 13 :: toks r := by
  refine toks_on (by rw [nxc0]; decide) (by rw [nxc0]; decide) ?_
  unfold tokn
  rw [if_pos (by rw [nxc0]; decide)]
  have : bls (10 :: 32 :: r) = bls r := by unfold bls; rw [List.dropWhile_cons_of_pos (by decide), List.dropWhile_cons_of_pos (by decide)]
  rw [this, bls_of h]
theorem on_cdo (r : List Int) : toks (60 :: 33 :: 45 :: 45 :: r) = tk 14 :: toks r := by
  refine toks_on (by rw [nxc0]; decide) (by rw [nxc0]; decide) ?_
  rfl
theorem on_brk {c k : Int} (h : brk c = k) (hk : k ≠ 9) (r : List Int) : toks (c :: r) = tk k :: toks r := by
  have hc : c = 40 ∨ c = 41 ∨ c = 91 ∨ c = 93 ∨ c = 123 ∨ c = 125 ∨ c = 44 ∨ c = 58 ∨ c = 59 := by
    unfold brk at h
    by_cases h1 : c = 40 ∨ c = 41 ∨ c = 91 ∨ c = 93 ∨ c = 123 ∨ c = 125 ∨ c = 44 ∨ c = 58 ∨ c = 59
    · exact h1
    · repeat rw [if_neg (by omega)] at h
      omega
  refine toks_on (by rw [nxc0]; omega) (by rw [nxc0]; omega) ?_
  rcases hc with rfl | rfl | rfl | rfl | rfl | rfl | rfl | rfl | rfl <;> (subst h; rfl)
theorem tokn_oneR {c : Int} {r : List Int} (h1 : isBl c = false) (h2 : isQ c = false) (h3 : isDig c = false) (h4 : isFst c = false) (h5 : c ≠ 92) (f : Fx r) : tokn (c :: r) = one (c :: r) := by
  unfold tokn
  have e : nx (c :: r) 0 = c := rfl
  have e1 : nx (c :: r) 1 = nx r 0 := rfl
  have e2 : nx (c :: r) 2 = nx r 1 := rfl
  have e3 : nx (c :: r) 3 = nx r 2 := rfl
  rw [e, h1, h2, h3, h4]
  simp only [Bool.false_eq_true, if_false]
  unfold sgnT
  rw [e, e1, e2, e3]
  have q1 : (isLet (nx r 0) || es2 (nx r 0) (nx r 1)) = false := by rw [f.let, f.es]; rfl
  have q2 : nmB (nx r 0) (nx r 1) (nx r 2) = false := f.nm _ _
  have n46 : (nx r 0 == 46) = false := by have := f.ne.2.2.2.2.2.1; simpa using this
  by_cases a1 : c = 35
  · rw [if_pos a1, q1]; rfl
  rw [if_neg a1]
  by_cases a2 : c = 43 ∨ c = 46
  · have : nuB c (nx r 0) (nx r 1) = false := by
      rcases a2 with rfl | rfl
      · unfold nuB; rw [if_pos (by decide), f.dig, n46]; rfl
      · unfold nuB; rw [if_neg (by decide), f.dig]; rfl
    rw [if_pos a2, this]; rfl
  rw [if_neg a2]
  by_cases a3 : c = 45
  · have n1 : nuB c (nx r 0) (nx r 1) = false := by rw [a3]; unfold nuB; rw [if_pos (by decide), f.dig, n46]; rfl
    have n2 : nmB c (nx r 0) (nx r 1) = false := by
      rw [a3]; unfold nmB
      have := f.ne.2.2.2.1
      rw [if_pos rfl, f.fst, f.es]; simpa using this
    rw [if_pos a3, n1, n2, if_neg (by decide), if_neg (fun g => f.ne.2.2.2.1 g.1), if_neg (by decide)]
  rw [if_neg a3]
  by_cases a4 : c = 60
  · rw [if_pos a4, if_neg (fun g => f.ne.2.2.2.2.1 g.1)]
  rw [if_neg a4]
  by_cases a5 : c = 64
  · rw [if_pos a5, q2]; rfl
  rw [if_neg a5, if_neg h5]
/-- A single character. -/
theorem on_delim {c : Int} {r : List Int} (h : (isDl c || isCt c) = true) (h92 : c ≠ 92) (f : Fx r) : toks (c :: r) = tkt 9 [c] :: toks r := by
  have hc : c = 35 ∨ c = 36 ∨ c = 37 ∨ c = 38 ∨ c = 42 ∨ c = 43 ∨ c = 45 ∨ c = 46 ∨ c = 47 ∨ c = 60 ∨ c = 61 ∨ c = 62 ∨ c = 63 ∨ c = 64 ∨ c = 94 ∨ c = 96 ∨ c = 124 ∨ c = 126 ∨ c = 33 ∨ (1 ≤ c ∧ c ≤ 8) ∨ c = 11 ∨ (14 ≤ c ∧ c ≤ 31) ∨ c = 127 := by
    unfold isDl isCt at h
    simp at h
    omega
  have f1 : isBl c = false := by unfold isBl; simp; omega
  have f2 : isQ c = false := by unfold isQ; simp; omega
  have f3 : isDig c = false := by unfold isDig; simp; omega
  have f4 : isFst c = false := by unfold isFst; simp; omega
  have f5 : brk c = 9 := by
    unfold brk
    repeat rw [if_neg (by omega)]
  have ht : tokn (c :: r) = (tkt 9 [c], r) := by
    rw [tokn_oneR f1 f2 f3 f4 h92 f]
    unfold one
    rw [nxc0, f5]
    rfl
  have hr : rmk (c :: r) = c :: r := rmk_end (by rintro ⟨_, x⟩; exact f.ne.2.2.2.2.2.2 x)
  rw [toks_go (by rw [hr, nxc0]; omega), hr, ht]
/-- A lone backslash: what follows it is a line's end. -/
theorem on_slash (r : List Int) : toks (92 :: 10 :: r) = tkt 9 [92] :: toks (10 :: r) := by
  refine toks_on (by rw [nxc0]; decide) (by rw [nxc0]; decide) ?_
  rfl
theorem on_badurl (r : List Int) : toks (117 :: 114 :: 108 :: 40 :: 40 :: 41 :: r) = tk 8 :: toks r := by
  refine toks_on (by rw [nxc0]; decide) (by rw [nxc0]; decide) ?_
  have st : Start (117 :: 114 :: 108 :: 40 :: 40 :: 41 :: r) := .inr (.inl (by rw [nxc0]; decide))
  rw [st.tokn]
  have hn : nam [] (117 :: 114 :: 108 :: 40 :: 40 :: 41 :: r) = ([117, 114, 108], 40 :: 40 :: 41 :: r) := by
    rw [nam_let (by rw [nxc0]; decide)]
    show nam [117] (114 :: 108 :: 40 :: 40 :: 41 :: r) = _
    rw [nam_let (by rw [nxc0]; decide)]
    show nam [117, 114] (108 :: 40 :: 40 :: 41 :: r) = _
    rw [nam_let (by rw [nxc0]; decide)]
    show nam [117, 114, 108] (40 :: 40 :: 41 :: r) = _
    exact nam_end (by rw [nxc0]; decide) (by rw [nxc0]; rfl)
  unfold word
  rw [hn, if_neg (by show ¬ (nx (40 :: 40 :: 41 :: r) 0 ≠ 40); rw [nxc0]; decide), if_pos (by show isUrlB (enc [117, 114, 108]) = true; decide)]
  have e1 : sbl (40 :: 41 :: r) = 40 :: 41 :: r := rfl
  have e2 : qut (40 :: 41 :: r) = false := rfl
  have e3 : bls (40 :: 41 :: r) = 40 :: 41 :: r := rfl
  show (if qut (sbl (40 :: 41 :: r)) = true then _ else url [] (bls (sbl (40 :: 41 :: r)))) = _
  rw [e1, e2, e3, if_neg (by decide)]
  rw [url, dif_neg (by rw [nxc0]; decide), dif_neg (by rw [nxc0]; first | decide | simp [es2]), if_neg (by rw [nxc0]; first | decide | simp [es2]), if_pos (by rw [nxc0]; first | decide | simp [es2])]
  have hb : bad (40 :: 41 :: r) = r := by
    rw [bad, dif_neg (by rw [nxc0]; decide), if_neg (by rw [nxc0]; simp [es2])]
    show bad (41 :: r) = r
    rw [bad, dif_pos (by rw [nxc0]; decide)]
    rfl
  rw [hb]
end Go.Proofs.YtcclhdiphcfdfaaGreatDoor
set_option linter.unusedVariables false
set_option linter.unusedSimpArgs false
namespace Go.Proofs.YtcclhdiphcfdfaaGreatDoor

def Ch1 (c : Int) : Prop := isC c = true ∧ 1 ≤ c
theorem ch65533 : Ch1 65533 := ⟨by decide, by decide⟩
theorem Tx.suf {r s : List Int} (h : Tx s) (k : r <:+ s) : Tx r := fun c hc => h c (k.subset hc)
theorem Tx.drop {s : List Int} (h : Tx s) (n : Nat) : Tx (s.drop n) := h.suf (List.drop_suffix n s)
theorem Tx.bls {s : List Int} (h : Tx s) : Tx (bls s) := h.suf (List.dropWhile_suffix _)
theorem Tx.snoc {l : List Int} {c : Int} (h : Tx l) (k : Ch1 c) : Tx (l ++ [c]) := fun x hx => by
  rcases List.mem_append.1 hx with g | g
  · exact h x g
  · rw [List.mem_singleton.1 g]; exact k
theorem Tx.nx {s : List Int} (h : Tx s) (g : nx s 0 ≠ -1) : Ch1 (nx s 0) := by
  cases s with
  | nil => exact absurd (nx_nil 0) g
  | cons x r => exact h x (by simp)
theorem Tx.nil : Tx [] := fun c hc => by cases hc
theorem chr_one {x : Int} (h : x ≠ 0) : Ch1 (chr x) := by
  unfold chr
  split
  · rename_i g
    refine ⟨g, ?_⟩
    rw [isC_iff] at g
    omega
  · exact ch65533
theorem hexs_suf (k : Nat) : ∀ (n : Int) (s : List Int), (hexs k n s).2 <:+ s := by
  induction k with
  | zero => intro n s; exact List.suffix_refl _
  | succ k ih =>
    intro n s
    unfold hexs
    split
    · exact List.suffix_refl _
    · exact (ih _ _).trans (List.drop_suffix 1 s)
theorem tesc_tx {s : List Int} (h : Tx s) : Ch1 (tesc s).1 ∧ Tx (tesc s).2 := by
  unfold tesc
  by_cases h0 : nx s 0 = -1
  · rw [if_pos h0]; exact ⟨ch65533, h⟩
  rw [if_neg h0]
  by_cases h1 : hexv (nx s 0) < 0
  · rw [if_pos h1]; exact ⟨h.nx h0, h.drop 1⟩
  rw [if_neg h1]
  refine ⟨?_, ?_⟩
  · show Ch1 (if (hexs 6 0 s).1 = 0 then 65533 else chr (hexs 6 0 s).1)
    split
    · exact ch65533
    · rename_i g; exact chr_one g
  · have k := hexs_suf 6 0 s
    show Tx (if isBl (nx (hexs 6 0 s).2 0) then (hexs 6 0 s).2.drop 1 else (hexs 6 0 s).2)
    split
    · exact (h.suf k).drop 1
    · exact h.suf k
theorem let_ne {c : Int} (h : isLet c = true) : c ≠ -1 := by rintro rfl; exact absurd h (by decide)
theorem nam_tx (n : Nat) : ∀ acc s : List Int, s.length ≤ n → Tx acc → Tx s → Tx (nam acc s).1 ∧ Tx (nam acc s).2 := by
  induction n with
  | zero =>
    intro acc s h ha hs
    obtain rfl : s = [] := List.eq_nil_of_length_eq_zero (by omega)
    rw [nam_end (by decide) (by decide)]
    exact ⟨ha, hs⟩
  | succ n ih =>
    intro acc s h ha hs
    by_cases h1 : isLet (nx s 0) = true
    · rw [nam_let h1]
      have := nx_pos (let_ne h1)
      exact ih _ _ (by rw [List.length_drop]; omega) (ha.snoc (hs.nx (let_ne h1))) (hs.drop 1)
    · have h1' : isLet (nx s 0) = false := by simpa using h1
      by_cases h2 : es2 (nx s 0) (nx s 1) = true
      · rw [nam_esc h1' h2]
        obtain ⟨t1, t2⟩ := tesc_tx (hs.drop 1)
        have l := tesc_len (s.drop 1)
        have := es2_ne h2
        rw [List.length_drop] at l
        exact ih _ _ (by omega) (ha.snoc t1) t2
      · rw [nam_end h1' (by simpa using h2)]
        exact ⟨ha, hs⟩
theorem bad_tx (n : Nat) : ∀ s : List Int, s.length ≤ n → Tx s → Tx (bad s) := by
  induction n with
  | zero =>
    intro s h hs
    obtain rfl : s = [] := List.eq_nil_of_length_eq_zero (by omega)
    rw [bad, dif_pos (.inl (nx_nil 0))]
    exact hs.drop 1
  | succ n ih =>
    intro s h hs
    rw [bad]
    by_cases h0 : nx s 0 = -1 ∨ nx s 0 = 41
    · rw [dif_pos h0]; exact hs.drop 1
    rw [dif_neg h0]
    have hp := nx_pos (s := s) (fun e => h0 (.inl e))
    split
    · have l := tesc_len (s.drop 1)
      rw [List.length_drop] at l
      exact ih _ (by omega) (tesc_tx (hs.drop 1)).2
    · exact ih _ (by rw [List.length_drop]; omega) (hs.drop 1)
/-- A text in quotes: a text, or a bad one ahead of a line's end. -/
theorem str_tx (n : Nat) : ∀ (q : Int) (acc s : List Int), s.length ≤ n → Tx acc → Tx s → ((∃ l, Tx l ∧ (str q acc s).1 = tkt 5 l) ∨ ((str q acc s).1 = tk 6 ∧ nx (str q acc s).2 0 = 10)) ∧ Tx (str q acc s).2 := by
  induction n with
  | zero =>
    intro q acc s h ha hs
    obtain rfl : s = [] := List.eq_nil_of_length_eq_zero (by omega)
    rw [str, dif_pos (.inl (nx_nil 0))]
    exact ⟨.inl ⟨acc, ha, rfl⟩, hs.drop 1⟩
  | succ n ih =>
    intro q acc s h ha hs
    rw [str]
    by_cases h0 : nx s 0 = -1 ∨ nx s 0 = q
    · rw [dif_pos h0]; exact ⟨.inl ⟨acc, ha, rfl⟩, hs.drop 1⟩
    rw [dif_neg h0]
    have hm : nx s 0 ≠ -1 := fun e => h0 (.inl e)
    have hp := nx_pos hm
    by_cases h1 : nx s 0 = 10
    · rw [dif_pos h1]; exact ⟨.inr ⟨rfl, h1⟩, hs⟩
    rw [dif_neg h1]
    by_cases h2 : nx s 0 = 92
    · rw [dif_pos h2]
      split
      · exact ih _ _ _ (by rw [List.length_drop]; omega) ha (hs.drop 1)
      · split
        · exact ih _ _ _ (by rw [List.length_drop]; omega) ha (hs.drop 2)
        · obtain ⟨t1, t2⟩ := tesc_tx (hs.drop 1)
          have l := tesc_len (s.drop 1)
          rw [List.length_drop] at l
          exact ih _ _ _ (by omega) (ha.snoc t1) t2
    · rw [dif_neg h2]
      exact ih _ _ _ (by rw [List.length_drop]; omega) (ha.snoc (hs.nx hm)) (hs.drop 1)
theorem url_tx (n : Nat) : ∀ acc s : List Int, s.length ≤ n → Tx acc → Tx s → ((∃ l, Tx l ∧ (url acc s).1 = tkt 7 l) ∨ (url acc s).1 = tk 8) ∧ Tx (url acc s).2 := by
  induction n with
  | zero =>
    intro acc s h ha hs
    obtain rfl : s = [] := List.eq_nil_of_length_eq_zero (by omega)
    rw [url, dif_pos (.inl (nx_nil 0))]
    exact ⟨.inl ⟨acc, ha, rfl⟩, hs.drop 1⟩
  | succ n ih =>
    intro acc s h ha hs
    rw [url]
    by_cases h0 : nx s 0 = -1 ∨ nx s 0 = 41
    · rw [dif_pos h0]; exact ⟨.inl ⟨acc, ha, rfl⟩, hs.drop 1⟩
    rw [dif_neg h0]
    have hm : nx s 0 ≠ -1 := fun e => h0 (.inl e)
    have hp := nx_pos hm
    by_cases h1 : isBl (nx s 0) = true
    · rw [dif_pos h1]
      split
      · have := bls_lt h1
        exact ih _ _ (by omega) ha hs.bls
      · exact ⟨.inr rfl, bad_tx _ _ (Nat.le_refl _) hs.bls⟩
    rw [dif_neg h1]
    split
    · obtain ⟨t1, t2⟩ := tesc_tx (hs.drop 1)
      have l := tesc_len (s.drop 1)
      rw [List.length_drop] at l
      exact ih _ _ (by omega) (ha.snoc t1) t2
    · split
      · exact ⟨.inr rfl, bad_tx _ _ (Nat.le_refl _) hs⟩
      · exact ih _ _ (by rw [List.length_drop]; omega) (ha.snoc (hs.nx hm)) (hs.drop 1)
end Go.Proofs.YtcclhdiphcfdfaaGreatDoor
set_option linter.unusedVariables false
set_option linter.unusedSimpArgs false
namespace Go.Proofs.YtcclhdiphcfdfaaGreatDoor

theorem cutR_len (l : List Int) : (cutR l).length ≤ l.length := by
  unfold cutR
  rw [List.length_reverse]
  have := (List.dropWhile_suffix (l := l.reverse) (· == 48)).length_le
  rwa [List.length_reverse] at this
theorem dgt_mul10 {u : Nat} (h : 0 < u) : dgt (u * 10) = dgt u ++ [48] := by
  rw [dgt_big (by omega), Nat.mul_div_cancel _ (by decide), Nat.mul_mod_left]; rfl
theorem cutR_pow {u : Nat} (h : 0 < u) (q : Nat) : cutR (dgt (u * 10 ^ q)) = cutR (dgt u) := by
  induction q with
  | zero => simp
  | succ q ih =>
    rw [Nat.pow_succ, ← Nat.mul_assoc, dgt_mul10 (Nat.mul_pos h (Nat.pow_pos (by decide))), cutR_zero, ih]
theorem small18 {u : Nat} (h : u < 1000000000000000000) : ¬ 18 < (cutR (dgt u)).length := by
  have h1 := cutR_len (dgt u)
  have h2 : ¬ 18 < (dgt u).length := fun g => by have := dgt_len18.1 g; omega
  omega
theorem strip_spec (p : Nat) (hp : 2 ≤ p) : ∀ (q n : Nat), n = (strip p n q).1 * p ^ (q - (strip p n q).2) ∧ (strip p n q).2 ≤ q ∧ ((strip p n q).2 = 0 ∨ (strip p n q).1 % p ≠ 0) := by
  intro q
  induction q with
  | zero => intro n; simp [strip]
  | succ q ih =>
    intro n
    unfold strip
    by_cases h : n % p = 0
    · rw [if_pos h]
      obtain ⟨h1, h2, h3⟩ := ih (n / p)
      refine ⟨?_, by omega, h3⟩
      have e : q + 1 - (strip p (n / p) q).2 = (q - (strip p (n / p) q).2) + 1 := by omega
      rw [e, Nat.pow_succ, ← Nat.mul_assoc, ← h1]
      exact (Nat.div_mul_cancel (Nat.dvd_of_mod_eq_zero h)).symm
    · rw [if_neg h]
      exact ⟨by simp, Nat.le_refl _, .inr h⟩
theorem isV_mk {n d : Int} (h1 : 1 ≤ d) (h2 : n ≠ -9223372036854775808) (h3 : Nat.gcd (ab n).toNat d.toNat = 1) : isV n d = true := by
  have ha := ab_nat n
  obtain ⟨N, hN⟩ : ∃ N : Nat, ab n = N := ⟨_, ha.symm⟩
  obtain ⟨D, hD⟩ : ∃ D : Nat, d = D := ⟨d.toNat, by omega⟩
  unfold isV gc
  rw [hN] at h3 ⊢
  rw [hD] at h3 ⊢
  simp at h3
  rw [Int.gcd_natCast_natCast, h3]
  simp [h2]
  omega
theorem cop_pow {N a p : Nat} (hp : Nat.Coprime N p ∨ a = 0) : Nat.Coprime N (p ^ a) := by
  rcases hp with h | rfl
  · exact Nat.Coprime.pow_right a h
  · simp
theorem cop2 {N : Nat} (h : N % 2 ≠ 0) : Nat.Coprime N 2 := by
  have : Nat.gcd N 2 ∣ 2 := Nat.gcd_dvd_right _ _
  have h2 : Nat.gcd N 2 ∣ N := Nat.gcd_dvd_left _ _
  have le := Nat.le_of_dvd (by decide) this
  have pos : 0 < Nat.gcd N 2 := Nat.gcd_pos_of_pos_right _ (by decide)
  show Nat.gcd N 2 = 1
  have : Nat.gcd N 2 ≠ 2 := fun e => h (Nat.mod_eq_zero_of_dvd (e ▸ h2))
  omega
theorem cop5 {N : Nat} (h : N % 5 ≠ 0) : Nat.Coprime N 5 := by
  have d5 : Nat.gcd N 5 ∣ 5 := Nat.gcd_dvd_right _ _
  have h2 : Nat.gcd N 5 ∣ N := Nat.gcd_dvd_left _ _
  have le := Nat.le_of_dvd (by decide) d5
  have pos : 0 < Nat.gcd N 5 := Nat.gcd_pos_of_pos_right _ (by decide)
  show Nat.gcd N 5 = 1
  have n5 : Nat.gcd N 5 ≠ 5 := fun e => h (Nat.mod_eq_zero_of_dvd (e ▸ h2))
  have n2 : Nat.gcd N 5 ≠ 2 := fun e => by rw [e] at d5; exact absurd d5 (by decide)
  have n3 : Nat.gcd N 5 ≠ 3 := fun e => by rw [e] at d5; exact absurd d5 (by decide)
  have n4 : Nat.gcd N 5 ≠ 4 := fun e => by rw [e] at d5; exact absurd d5 (by decide)
  omega
/-- What plT asks of a value. -/
def Wv (n d : Int) : Prop := mayB n d = true ∧ (d = 0 ∨ ∃ M p, fin (ab n).toNat d.toNat 0 = some (M, p) ∧ ¬ 18 < (cutR (dgt M)).length)
theorem wv_over : Wv 0 0 := ⟨by decide, .inl rfl⟩
theorem wv_zero : Wv 0 1 := by
  refine ⟨?_, .inr ⟨0, 0, fin_one (by decide), small18 (by decide)⟩⟩
  unfold mayB
  rw [isV_mk (by decide) (by decide) (by decide)]; simp
theorem ab_sg (b : Bool) (N : Nat) : (ab (if b then -(N : Int) else (N : Int))).toNat = N := by
  unfold ab
  cases b
  · simp only [Bool.false_eq_true, if_false]; split <;> omega
  · simp only [if_true]; split <;> omega
theorem wv_fr (b : Bool) {N : Nat} (h0 : 0 < N) (h18 : N < 1000000000000000000) (e : Int) : Wv (sg b (fr N e)).1 (sg b (fr N e)).2 := by
  unfold fr
  by_cases he : 0 ≤ e
  · rw [if_pos he]
    unfold fracUp
    split
    · rename_i hle
      simp only [sg]
      refine ⟨?_, .inr ⟨N * 10 ^ e.toNat, 0, ?_, ?_⟩⟩
      · unfold mayB
        rw [isV_mk (by decide) (by split <;> omega) (by rw [ab_sg]; simp)]; simp
      · rw [ab_sg]; exact fin_one (by decide)
      · rw [cutR_pow h0]; exact small18 h18
    · have : sg b ((0 : Int), (0 : Int)) = (0, 0) := by cases b <;> rfl
      rw [this]; exact wv_over
  · rw [if_neg he]
    unfold fracDn
    obtain ⟨q, hq⟩ : ∃ q, (-e).toNat = q := ⟨_, rfl⟩
    rw [hq]
    obtain ⟨s1, s2, s3⟩ := strip_spec 2 (by decide) q N
    obtain ⟨N1, a, hs⟩ : ∃ N1 a, strip 2 N q = (N1, a) := ⟨_, _, rfl⟩
    rw [hs] at s1 s2 s3 ⊢
    simp only at s1 s2 s3 ⊢
    obtain ⟨t1, t2, t3⟩ := strip_spec 5 (by decide) q N1
    obtain ⟨N2, c, ht⟩ : ∃ N2 c, strip 5 N1 q = (N2, c) := ⟨_, _, rfl⟩
    rw [ht] at t1 t2 t3 ⊢
    simp only at t1 t2 t3 ⊢
    split
    · rename_i hle
      simp only [sg]
      have hN : N = N2 * 5 ^ (q - c) * 2 ^ (q - a) := by rw [← t1]; exact s1
      have hN2 : 0 < N2 := Nat.pos_of_ne_zero fun e0 => by rw [e0] at hN; simp at hN; omega
      have m2 : a = 0 ∨ N2 % 2 ≠ 0 := by
        rcases s3 with h | h
        · exact .inl h
        · right
          intro g
          rw [t1, Nat.mul_mod, g] at h
          simp at h
      have hle2 : N2 ≤ N := by
        rw [hN, Nat.mul_assoc]
        exact Nat.le_mul_of_pos_right _ (Nat.mul_pos (Nat.pow_pos (by decide)) (Nat.pow_pos (by decide)))
      have pos : 0 < 2 ^ a * 5 ^ c := Nat.mul_pos (Nat.pow_pos (by decide)) (Nat.pow_pos (by decide))
      have cop : Nat.gcd N2 (2 ^ a * 5 ^ c) = 1 := Nat.Coprime.mul_right (cop_pow (m2.elim .inr (fun h => .inl (cop2 h)))) (cop_pow (t3.elim .inr (fun h => .inl (cop5 h))))
      refine ⟨?_, .inr ⟨N2 * 2 ^ (max a c - a) * 5 ^ (max a c - c), max a c, ?_, ?_⟩⟩
      · unfold mayB
        rw [isV_mk (by omega) (by split <;> omega) (by rw [ab_sg, Int.toNat_natCast]; exact cop)]; simp
      · rw [ab_sg, Int.toNat_natCast]
        have := fin_eq a c 1 (by decide) (by decide) N2 0
        rw [if_pos rfl, Nat.mul_one, Nat.zero_add] at this
        exact this
      · refine small18 (Nat.lt_of_le_of_lt ?_ h18)
        have hq2 : N = N2 * 2 ^ (max a c - a) * 5 ^ (max a c - c) * 10 ^ (q - max a c) := by
          rw [hN, show (10 : Nat) = 2 * 5 by decide, Nat.mul_pow]
          have e1 : q - a = (max a c - a) + (q - max a c) := by omega
          have e2 : q - c = (max a c - c) + (q - max a c) := by omega
          rw [e1, e2, Nat.pow_add, Nat.pow_add]
          grind
        rw [hq2]
        exact Nat.le_mul_of_pos_right _ (Nat.pow_pos (by decide))
    · have : sg b ((0 : Int), (0 : Int)) = (0, 0) := by cases b <;> rfl
      rw [this]; exact wv_over
theorem digs_cut {l : List Int} (h : Digs l) : Digs (cutR (cut0 l)) := fun x hx => by
  have h1 : x ∈ cut0 l := by
    unfold cutR at hx
    rw [List.mem_reverse] at hx
    have := (List.dropWhile_suffix (l := (cut0 l).reverse) (· == 48)).subset hx
    rwa [List.mem_reverse] at this
  exact h x ((List.dropWhile_suffix (l := l) (· == 48)).subset h1)
theorem Wv.pl {n d : Int} {wh : Bool} (h : Wv n d) (hw : wh = true → d ≤ 1) : (plT n d wh).isSome = true := by
  obtain ⟨h1, h2⟩ := h
  unfold plT
  have no : ¬ (mayB n d = false ∨ (wh = true ∧ 1 < d)) := by
    rintro (g | ⟨g, g2⟩)
    · rw [h1] at g; cases g
    · have := hw g; omega
  rw [if_neg no]
  rcases h2 with rfl | ⟨M, p, hf, hl⟩
  · rw [if_pos rfl]; rfl
  · split
    · rfl
    · unfold plV
      rw [hf]
      simp only
      rw [if_neg hl]; rfl
theorem strip0 (p q : Nat) : strip p 0 q = (0, 0) := by
  induction q with
  | zero => rfl
  | succ q ih => unfold strip; rw [if_pos (Nat.zero_mod p), Nat.zero_div]; exact ih
theorem wv_fr0 (b : Bool) (e : Int) : Wv (sg b (fr 0 e)).1 (sg b (fr 0 e)).2 := by
  have e1 : fr 0 e = (0, 1) := by
    unfold fr
    split
    · unfold fracUp; rw [Nat.zero_mul, if_pos (by decide)]; rfl
    · unfold fracDn; rw [strip0]; simp only; rw [strip0]; simp
  rw [e1]
  have : sg b ((0 : Int), (1 : Int)) = (0, 1) := by cases b <;> rfl
  rw [this]; exact wv_zero
theorem wv_val (b : Bool) {ds : List Int} (h : Digs ds) (k : Int) : Wv (valOf b ds k).1 (valOf b ds k).2 := by
  unfold valOf
  split
  · exact wv_zero
  · split
    · exact wv_over
    · rename_i h18
      have hl := natOf_lt (digs_cut h) (by omega)
      by_cases h0 : natOf (cutR (cut0 ds)) = 0
      · rw [h0]; exact wv_fr0 _ _
      · exact wv_fr b (by omega) hl _
theorem decE_wv {b : Bool} {ds : List Int} (hd : Digs ds) {k : Nat} {wh : Bool} {s : List Int} {r : Int × Int} {w : Bool} (h : decE b ds k wh s = some (r, w)) : Wv r.1 r.2 := by
  unfold decE at h
  split at h
  · cases h
  · split at h
    · simp only [Option.some.injEq, Prod.mk.injEq] at h
      obtain ⟨rfl, rfl⟩ := h
      exact wv_val _ hd _
    · cases he : expo s with
      | none => rw [he] at h; cases h
      | some e =>
        rw [he] at h
        simp only [Option.map_some, Option.some.injEq, Prod.mk.injEq] at h
        obtain ⟨rfl, rfl⟩ := h
        exact wv_val _ hd _
/-- Whatever is read as a number can be written. -/
theorem num_may (s : List Int) : (plT (dcT s).1.1 (dcT s).1.2 (dcT s).2).isSome = true := by
  refine Wv.pl ?_ (dcT_ok s).2
  unfold dcT
  cases h : dec s with
  | none => exact wv_over
  | some x =>
    obtain ⟨r, w⟩ := x
    simp only [Option.getD_some]
    unfold dec at h
    split at h
    · split at h
      · cases h
      · exact decE_wv ((tkd_digs _).app (tkd_digs _)) h
    · exact decE_wv (tkd_digs _) h
theorem fr_bd {N : Nat} (h : N < 1000000000000000000) (e : Int) : (0 ≤ (fr N e).1 ∧ (fr N e).1 ≤ 9223372036854775807) ∧ 0 ≤ (fr N e).2 ∧ (fr N e).2 ≤ 9223372036854775807 := by
  unfold fr
  split
  · unfold fracUp
    split
    · simp only; omega
    · simp
  · unfold fracDn
    have h1 := (strip_le 2 (-e).toNat N).1
    have h2 := (strip_le 5 (-e).toNat (strip 2 N (-e).toNat).1).1
    split
    · simp only; omega
    · simp
theorem val_bd (b : Bool) {ds : List Int} (h : Digs ds) (k : Int) : (-9223372036854775808 ≤ (valOf b ds k).1 ∧ (valOf b ds k).1 ≤ 9223372036854775807) ∧ 0 ≤ (valOf b ds k).2 ∧ (valOf b ds k).2 ≤ 9223372036854775807 := by
  unfold valOf
  split
  · simp
  · split
    · simp
    · rename_i h18
      have := fr_bd (natOf_lt (digs_cut h) (by omega)) (k + ((cut0 ds).length - (cutR (cut0 ds)).length : Nat))
      unfold sg
      simp only
      split <;> omega
theorem decE_bd {b : Bool} {ds : List Int} (hd : Digs ds) {k : Nat} {wh : Bool} {s : List Int} {r : Int × Int} {w : Bool} (h : decE b ds k wh s = some (r, w)) : (-9223372036854775808 ≤ r.1 ∧ r.1 ≤ 9223372036854775807) ∧ 0 ≤ r.2 ∧ r.2 ≤ 9223372036854775807 := by
  unfold decE at h
  split at h
  · cases h
  · split at h
    · simp only [Option.some.injEq, Prod.mk.injEq] at h
      obtain ⟨rfl, rfl⟩ := h
      exact val_bd _ hd _
    · cases he : expo s with
      | none => rw [he] at h; cases h
      | some e =>
        rw [he] at h
        simp only [Option.map_some, Option.some.injEq, Prod.mk.injEq] at h
        obtain ⟨rfl, rfl⟩ := h
        exact val_bd _ hd _
/-- And its parts are numbers of 64 bits. -/
theorem num_bd (s : List Int) : (-9223372036854775808 ≤ (dcT s).1.1 ∧ (dcT s).1.1 ≤ 9223372036854775807) ∧ 0 ≤ (dcT s).1.2 ∧ (dcT s).1.2 ≤ 9223372036854775807 := by
  unfold dcT
  cases h : dec s with
  | none => simp
  | some x =>
    obtain ⟨r, w⟩ := x
    simp only [Option.getD_some]
    unfold dec at h
    split at h
    · split at h
      · cases h
      · exact decE_bd ((tkd_digs _).app (tkd_digs _)) h
    · exact decE_bd (tkd_digs _) h
end Go.Proofs.YtcclhdiphcfdfaaGreatDoor
set_option linter.unusedVariables false
set_option linter.unusedSimpArgs false
namespace Go.Proofs.YtcclhdiphcfdfaaGreatDoor

theorem tesc_suf (s : List Int) : (tesc s).2 <:+ s := by
  unfold tesc
  split
  · exact List.suffix_refl _
  · split
    · exact List.drop_suffix 1 s
    · have k := hexs_suf 6 0 s
      show (if isBl (nx (hexs 6 0 s).2 0) then (hexs 6 0 s).2.drop 1 else (hexs 6 0 s).2) <:+ s
      split
      · exact (List.drop_suffix 1 _).trans k
      · exact k
theorem nam_suf (n : Nat) : ∀ acc s : List Int, s.length ≤ n → (nam acc s).2 <:+ s ∧ (nam acc s).1.length + (nam acc s).2.length ≤ acc.length + s.length := by
  induction n with
  | zero =>
    intro acc s h
    obtain rfl : s = [] := List.eq_nil_of_length_eq_zero (by omega)
    rw [nam_end (by decide) (by decide)]
    exact ⟨List.suffix_refl _, Nat.le_refl _⟩
  | succ n ih =>
    intro acc s h
    by_cases h1 : isLet (nx s 0) = true
    · rw [nam_let h1]
      have := nx_pos (let_ne h1)
      obtain ⟨i1, i2⟩ := ih (acc ++ [nx s 0]) (s.drop 1) (by rw [List.length_drop]; omega)
      refine ⟨i1.trans (List.drop_suffix 1 s), ?_⟩
      rw [List.length_append, List.length_drop, List.length_singleton] at i2
      omega
    · have h1' : isLet (nx s 0) = false := by simpa using h1
      by_cases h2 : es2 (nx s 0) (nx s 1) = true
      · rw [nam_esc h1' h2]
        have l := tesc_len (s.drop 1)
        have := es2_ne h2
        rw [List.length_drop] at l
        obtain ⟨i1, i2⟩ := ih (acc ++ [(tesc (s.drop 1)).1]) (tesc (s.drop 1)).2 (by omega)
        refine ⟨i1.trans ((tesc_suf _).trans (List.drop_suffix 1 s)), ?_⟩
        rw [List.length_append, List.length_singleton] at i2
        omega
      · rw [nam_end h1' (by simpa using h2)]
        exact ⟨List.suffix_refl _, Nat.le_refl _⟩
theorem nam_pre (n : Nat) : ∀ acc s : List Int, s.length ≤ n → (nam acc s).1 = acc ++ (nam [] s).1 := by
  induction n with
  | zero =>
    intro acc s h
    obtain rfl : s = [] := List.eq_nil_of_length_eq_zero (by omega)
    rw [nam_end (by decide) (by decide), nam_end (by decide) (by decide)]
    simp
  | succ n ih =>
    intro acc s h
    by_cases h1 : isLet (nx s 0) = true
    · have := nx_pos (let_ne h1)
      rw [nam_let h1, nam_let (acc := []) h1, ih _ _ (by rw [List.length_drop]; omega), ih ([] ++ [nx s 0]) _ (by rw [List.length_drop]; omega)]
      simp
    · have h1' : isLet (nx s 0) = false := by simpa using h1
      by_cases h2 : es2 (nx s 0) (nx s 1) = true
      · have l := tesc_len (s.drop 1)
        have := es2_ne h2
        rw [List.length_drop] at l
        rw [nam_esc h1' h2, nam_esc (acc := []) h1' h2, ih _ _ (by omega), ih ([] ++ [_]) _ (by omega)]
        simp
      · rw [nam_end h1' (by simpa using h2), nam_end h1' (by simpa using h2)]
        simp
theorem bad_suf (n : Nat) : ∀ s : List Int, s.length ≤ n → bad s <:+ s := by
  induction n with
  | zero =>
    intro s h
    obtain rfl : s = [] := List.eq_nil_of_length_eq_zero (by omega)
    rw [bad, dif_pos (.inl (nx_nil 0))]
    exact List.drop_suffix 1 _
  | succ n ih =>
    intro s h
    rw [bad]
    by_cases h0 : nx s 0 = -1 ∨ nx s 0 = 41
    · rw [dif_pos h0]; exact List.drop_suffix 1 s
    rw [dif_neg h0]
    have hp := nx_pos (s := s) (fun e => h0 (.inl e))
    split
    · have l := tesc_len (s.drop 1)
      rw [List.length_drop] at l
      exact (ih _ (by omega)).trans ((tesc_suf _).trans (List.drop_suffix 1 s))
    · exact (ih _ (by rw [List.length_drop]; omega)).trans (List.drop_suffix 1 s)
theorem enc4 (l : List Int) : (enc l).length ≤ 4 * l.length := (enc_len l).2
theorem str_suf (n : Nat) : ∀ (q : Int) (acc s : List Int), s.length ≤ n → (str q acc s).2 <:+ s ∧ (str q acc s).1.text.length + 4 * (str q acc s).2.length ≤ 4 * (acc.length + s.length) := by
  induction n with
  | zero =>
    intro q acc s h
    obtain rfl : s = [] := List.eq_nil_of_length_eq_zero (by omega)
    rw [str, dif_pos (.inl (nx_nil 0))]
    have := enc4 acc
    exact ⟨List.drop_suffix 1 _, by simp [tkt]; omega⟩
  | succ n ih =>
    intro q acc s h
    rw [str]
    by_cases h0 : nx s 0 = -1 ∨ nx s 0 = q
    · rw [dif_pos h0]
      have := enc4 acc
      exact ⟨List.drop_suffix 1 _, by simp [tkt]; omega⟩
    rw [dif_neg h0]
    have hm : nx s 0 ≠ -1 := fun e => h0 (.inl e)
    have hp := nx_pos hm
    by_cases h1 : nx s 0 = 10
    · rw [dif_pos h1]; exact ⟨List.suffix_refl _, by simp [tk]; omega⟩
    rw [dif_neg h1]
    by_cases h2 : nx s 0 = 92
    · rw [dif_pos h2]
      split
      · obtain ⟨i1, i2⟩ := ih q acc (s.drop 1) (by rw [List.length_drop]; omega)
        exact ⟨i1.trans (List.drop_suffix 1 s), by rw [List.length_drop] at i2; omega⟩
      · split
        · obtain ⟨i1, i2⟩ := ih q acc (s.drop 2) (by rw [List.length_drop]; omega)
          exact ⟨i1.trans (List.drop_suffix 2 s), by rw [List.length_drop] at i2; omega⟩
        · have l := tesc_len (s.drop 1)
          rw [List.length_drop] at l
          obtain ⟨i1, i2⟩ := ih q (acc ++ [(tesc (s.drop 1)).1]) (tesc (s.drop 1)).2 (by omega)
          rw [List.length_append, List.length_singleton] at i2
          exact ⟨i1.trans ((tesc_suf _).trans (List.drop_suffix 1 s)), by omega⟩
    · rw [dif_neg h2]
      obtain ⟨i1, i2⟩ := ih q (acc ++ [nx s 0]) (s.drop 1) (by rw [List.length_drop]; omega)
      rw [List.length_append, List.length_singleton, List.length_drop] at i2
      exact ⟨i1.trans (List.drop_suffix 1 s), by omega⟩
theorem url_suf (n : Nat) : ∀ acc s : List Int, s.length ≤ n → (url acc s).2 <:+ s ∧ (url acc s).1.text.length + 4 * (url acc s).2.length ≤ 4 * (acc.length + s.length) := by
  induction n with
  | zero =>
    intro acc s h
    obtain rfl : s = [] := List.eq_nil_of_length_eq_zero (by omega)
    rw [url, dif_pos (.inl (nx_nil 0))]
    have := enc4 acc
    exact ⟨List.drop_suffix 1 _, by simp [tkt]; omega⟩
  | succ n ih =>
    intro acc s h
    rw [url]
    by_cases h0 : nx s 0 = -1 ∨ nx s 0 = 41
    · rw [dif_pos h0]
      have := enc4 acc
      exact ⟨List.drop_suffix 1 _, by simp [tkt]; omega⟩
    rw [dif_neg h0]
    have hm : nx s 0 ≠ -1 := fun e => h0 (.inl e)
    have hp := nx_pos hm
    have bs : bls s <:+ s := List.dropWhile_suffix _
    by_cases h1 : isBl (nx s 0) = true
    · rw [dif_pos h1]
      have lb := bls_lt h1
      split
      · obtain ⟨i1, i2⟩ := ih acc (bls s) (by omega)
        exact ⟨i1.trans bs, by omega⟩
      · have k := bad_suf _ (bls s) (Nat.le_refl _)
        have := k.length_le
        exact ⟨k.trans bs, by simp [tk]; omega⟩
    rw [dif_neg h1]
    split
    · have l := tesc_len (s.drop 1)
      rw [List.length_drop] at l
      obtain ⟨i1, i2⟩ := ih (acc ++ [(tesc (s.drop 1)).1]) (tesc (s.drop 1)).2 (by omega)
      rw [List.length_append, List.length_singleton] at i2
      exact ⟨i1.trans ((tesc_suf _).trans (List.drop_suffix 1 s)), by omega⟩
    · split
      · have k := bad_suf _ s (Nat.le_refl _)
        have := k.length_le
        exact ⟨k, by simp [tk]; omega⟩
      · obtain ⟨i1, i2⟩ := ih (acc ++ [nx s 0]) (s.drop 1) (by rw [List.length_drop]; omega)
        rw [List.length_append, List.length_singleton, List.length_drop] at i2
        exact ⟨i1.trans (List.drop_suffix 1 s), by omega⟩
theorem sbl_suf (s : List Int) : sbl s <:+ s := by
  induction s with
  | nil => exact List.suffix_refl _
  | cons x r ih =>
    unfold sbl
    split
    · exact ih.trans (List.suffix_cons x r)
    · exact List.suffix_refl _
theorem sbl_sbl (s : List Int) : sbl (sbl s) = sbl s := by
  induction s with
  | nil => rfl
  | cons x r ih =>
    by_cases h : (isBl x && isBl (nx r 0)) = true
    · have e : sbl (x :: r) = sbl r := by rw [sbl, if_pos h]
      rw [e, ih]
    · have e : sbl (x :: r) = x :: r := by rw [sbl, if_neg h]
      rw [e, e]
theorem dgs_sufD (s : List Int) : dgs s <:+ s := List.dropWhile_suffix _
theorem nmS_sufD (s : List Int) : nmS s <:+ s := by
  unfold nmS
  split
  · exact List.drop_suffix 1 s
  · exact List.suffix_refl _
theorem nmP_sufD (s : List Int) : nmP s <:+ s := by
  unfold nmP
  split
  · exact (dgs_sufD _).trans (List.drop_suffix 1 s)
  · exact List.suffix_refl _
theorem nmE_sufD (s : List Int) : nmE s <:+ s := by
  unfold nmE
  split
  · exact (dgs_sufD _).trans ((nmS_sufD _).trans (List.drop_suffix 1 s))
  · exact List.suffix_refl _
theorem nmZ_sufD (s : List Int) : nmZ s <:+ s := by
  unfold nmZ
  exact (nmE_sufD _).trans ((nmP_sufD _).trans ((dgs_sufD _).trans (nmS_sufD s)))
theorem untl_suf (s : List Int) : untl s <:+ s := by
  induction s with
  | nil => exact List.suffix_refl _
  | cons x r ih =>
    unfold untl
    split
    · exact (List.drop_suffix 1 r).trans (List.suffix_cons x r)
    · exact ih.trans (List.suffix_cons x r)
theorem rmk_suf (n : Nat) : ∀ s : List Int, s.length ≤ n → rmk s <:+ s := by
  induction n with
  | zero =>
    intro s h
    obtain rfl : s = [] := List.eq_nil_of_length_eq_zero (by omega)
    rw [rmk_end (by rw [nx_nil]; omega)]
    exact List.suffix_refl _
  | succ n ih =>
    intro s h
    by_cases h0 : nx s 0 = 47 ∧ nx s 1 = 42
    · rw [rmk_go h0.1 h0.2]
      have hp := nx_pos (s := s) (by omega)
      have l := untl_len (s.drop 2)
      rw [List.length_drop] at l
      exact (ih _ (by omega)).trans ((untl_suf _).trans (List.drop_suffix 2 s))
    · rw [rmk_end h0]; exact List.suffix_refl _
end Go.Proofs.YtcclhdiphcfdfaaGreatDoor
set_option linter.unusedVariables false
set_option linter.unusedSimpArgs false
namespace Go.Proofs.YtcclhdiphcfdfaaGreatDoor

def mayK (τ : Tk) : Bool := mayT τ.kind τ.text τ.num τ.den τ.whole τ.id
def Gs (s : List Int) : Prop := ∀ c ∈ s, Good c
theorem Gs.suf {r s : List Int} (h : Gs s) (k : r <:+ s) : Gs r := fun c hc => h c (k.subset hc)
theorem Gs.tx {s : List Int} (h : Gs s) : Tx s := fun c hc => by
  obtain ⟨h1, h2, _⟩ := h c hc
  refine ⟨h1, ?_⟩
  rw [isC_iff] at h1
  omega
theorem Gs.nx {s : List Int} (h : Gs s) (g : nx s 0 ≠ -1) : Good (nx s 0) := by
  cases s with
  | nil => exact absurd (nx_nil 0) g
  | cons x r => exact h x (by simp)
theorem chB_enc {l : List Int} (h : Tx l) : chB (enc l) = true := by
  have e : l.map chr = l := by
    conv => rhs; rw [← List.map_id l]
    refine List.map_congr_left fun x hx => ?_
    unfold chr
    rw [if_pos (h x hx).1]; rfl
  rw [chB_raw _ (by_enc l), whole_enc, Bool.and_true, raw_enc, e]
  simp
  intro h0
  have := (h 0 h0).2
  omega
theorem emp_enc {l : List Int} (h : l ≠ []) : (!(enc l).isEmpty) = true := by
  cases e : enc l with
  | nil => exact absurd e (enc_ne h)
  | cons x r => rfl
/-- What the reading of one token tells. -/
structure Ot (s : List Int) (p : Tk × List Int) : Prop where
  suf : p.2 <:+ s
  len : p.1.text.length + 4 * p.2.length ≤ 4 * s.length
  may : mayK p.1 = true
  nb : (-9223372036854775808 ≤ p.1.num ∧ p.1.num ≤ 9223372036854775807) ∧ 0 ≤ p.1.den ∧ p.1.den ≤ 9223372036854775807
  byt : By p.1.text
  bad : (p.1.kind = 6 ∨ (p.1.kind = 9 ∧ p.1.text = [92])) → Go.Proofs.YtcclhdiphcfdfaaGreatDoor.nx p.2 0 = 10
  ur : p.1.kind = 2 → isUrlB p.1.text = true → qut p.2 = true ∧ sbl p.2 = p.2
theorem By.nil' : By [] := fun c hc => by cases hc
theorem Ot.fix {s r : List Int} {k : Int} (hk : k = 8 ∨ k = 13 ∨ k = 14 ∨ k = 15 ∨ (16 ≤ k ∧ k ≤ 24)) (h : r <:+ s) : Ot s (tk k, r) := by
  refine ⟨h, ?_, ?_, ?_, By.nil', ?_, ?_⟩
  · have := h.length_le
    simp [tk]; omega
  · show mayT k [] 0 0 false false = true
    rw [may_rest (by omega)]
    simp [zB]; omega
  · simp [tk]
  · simp [tk]; omega
  · simp [tk]; omega
theorem Ot.six {s r : List Int} (h : r <:+ s) (h10 : Go.Proofs.YtcclhdiphcfdfaaGreatDoor.nx r 0 = 10) : Ot s (tk 6, r) := by
  refine ⟨h, ?_, ?_, ?_, By.nil', fun _ => h10, ?_⟩
  · have := h.length_le
    simp [tk]; omega
  · show mayT 6 [] 0 0 false false = true
    rw [may_rest (by omega)]
    decide
  · simp [tk]
  · simp [tk]
theorem Ot.name {s r l : List Int} {k : Int} (hk : k = 1 ∨ k = 2 ∨ k = 3) (h : r <:+ s) (hl : (enc l).length + 4 * r.length ≤ 4 * s.length) (tx : Tx l) (hn : l ≠ []) (hu : k = 2 → isUrlB (enc l) = true → qut r = true ∧ sbl r = r) : Ot s (tkt k l, r) := by
  refine ⟨h, hl, ?_, ?_, by_enc l, ?_, hu⟩
  · show mayT k (enc l) 0 0 false false = true
    rw [may_name hk, chB_enc tx, emp_enc hn]; rfl
  · simp [tkt]
  · simp [tkt]; omega
theorem Ot.text {s r l : List Int} {k : Int} (hk : k = 5 ∨ k = 7) (h : r <:+ s) (hl : (enc l).length + 4 * r.length ≤ 4 * s.length) (tx : Tx l) : Ot s (tkt k l, r) := by
  refine ⟨h, hl, ?_, ?_, by_enc l, ?_, ?_⟩
  · show mayT k (enc l) 0 0 false false = true
    rw [may_text hk, chB_enc tx]; rfl
  · simp [tkt]
  · simp [tkt]; omega
  · simp [tkt]; omega
theorem nam_out {s : List Int} (h : Tx s) : (nam [] s).2 <:+ s ∧ (enc (nam [] s).1).length + 4 * (nam [] s).2.length ≤ 4 * s.length ∧ Tx (nam [] s).1 := by
  obtain ⟨h1, h2⟩ := nam_suf _ [] s (Nat.le_refl _)
  have := enc4 (nam [] s).1
  simp at h2
  exact ⟨h1, by omega, (nam_tx _ [] s (Nat.le_refl _) Tx.nil h).1⟩
theorem word_out {s : List Int} (h : Tx s) (hn : (nam [] s).1 ≠ []) : Ot s (word s) := by
  obtain ⟨n1, n2, n3⟩ := nam_out h
  have d1 : (nam [] s).2.drop 1 <:+ s := (List.drop_suffix 1 _).trans n1
  have l1 := (List.drop_suffix 1 (nam [] s).2).length_le
  unfold word
  split
  · exact .name (.inl rfl) n1 n2 n3 hn (by omega)
  · split
    · rename_i hu
      have b1 := sbl_suf ((nam [] s).2.drop 1)
      have l2 := b1.length_le
      split
      · rename_i hq
        exact .name (.inr (.inl rfl)) (b1.trans d1) (by omega) n3 hn (fun _ _ => ⟨hq, sbl_sbl _⟩)
      · have b2 : bls (sbl ((nam [] s).2.drop 1)) <:+ s := (List.dropWhile_suffix _).trans (b1.trans d1)
        obtain ⟨u1, u2⟩ := url_suf _ [] (bls (sbl ((nam [] s).2.drop 1))) (Nat.le_refl _)
        have u3 := (url_tx _ [] (bls (sbl ((nam [] s).2.drop 1))) (Nat.le_refl _) Tx.nil (h.suf b2)).1
        have l3 := b2.length_le
        generalize url [] (bls (sbl ((nam [] s).2.drop 1))) = p at u1 u2 u3 ⊢
        obtain ⟨τ, r⟩ := p
        rcases u3 with ⟨l, hl, e⟩ | e
        · simp only at e; subst e
          refine .text (.inr rfl) (u1.trans b2) ?_ hl
          have : (tkt 7 l).text = enc l := rfl
          rw [this] at u2
          simp only [List.length_nil, Nat.zero_add] at u2
          omega
        · simp only at e; subst e
          exact .fix (.inl rfl) (u1.trans b2)
    · rename_i hu
      exact .name (.inr (.inl rfl)) d1 (by omega) n3 hn (fun _ e => absurd e hu)
theorem Ot.numb {s r l : List Int} {k n d : Int} {w : Bool} (hk : k = 10 ∨ k = 11 ∨ k = 12) (h : r <:+ s) (hl : l.length + 4 * r.length ≤ 4 * s.length) (hm : mayT k l n d w false = true) (hb : (-9223372036854775808 ≤ n ∧ n ≤ 9223372036854775807) ∧ 0 ≤ d ∧ d ≤ 9223372036854775807) (hy : By l) : Ot s (⟨k, l, n, d, w, false⟩, r) := by
  refine ⟨h, hl, hm, hb, hy, fun g => ?_, fun g => ?_⟩
  · simp only at g; omega
  · simp only at g; omega
theorem numb_out {s : List Int} (h : Tx s) : Ot s (Go.Proofs.YtcclhdiphcfdfaaGreatDoor.numb s) := by
  have z := nmZ_sufD s
  have lz := z.length_le
  have hm := num_may (enc (nmT s))
  have hb := num_bd (enc (nmT s))
  unfold Go.Proofs.YtcclhdiphcfdfaaGreatDoor.numb
  generalize dcT (enc (nmT s)) = x at hm hb ⊢
  obtain ⟨⟨n, d⟩, w⟩ := x
  split
  · rename_i hn
    obtain ⟨n1, n2, n3⟩ := nam_out (h.suf z)
    refine .numb (.inr (.inr rfl)) (n1.trans z) (by omega) ?_ hb (by_enc _)
    rw [may_dim, chB_enc n3, emp_enc (nmB_ne hn)]
    simpa using hm
  · split
    · have d := List.drop_suffix 1 (nmZ s)
      have ld := d.length_le
      refine .numb (.inr (.inl rfl)) (d.trans z) (by rw [List.length_nil]; omega) ?_ hb By.nil'
      rw [may_num (.inr rfl)]
      simpa using hm
    · refine .numb (.inl rfl) z (by rw [List.length_nil]; omega) ?_ hb By.nil'
      rw [may_num (.inl rfl)]
      simpa using hm
theorem one_out {s : List Int} (h : Gs s) (h0 : nx s 0 ≠ -1) (b1 : isBl (nx s 0) = false) (b2 : isQ (nx s 0) = false) (b3 : isDig (nx s 0) = false) (b4 : isFst (nx s 0) = false) (b5 : nx s 0 = 92 → nx s 1 = 10) : Ot s (one s) := by
  have hp := nx_pos h0
  obtain ⟨g1, g2, g3, g4⟩ := h.nx h0
  have hd := List.drop_suffix 1 s
  have e10 : nx (s.drop 1) 0 = nx s 1 := by rw [nx_drop]
  have c0 : 0 ≤ nx s 0 := by rw [isC_iff] at g1; omega
  unfold one
  generalize nx s 0 = c at *
  by_cases hb : brk c = 9
  · rw [if_pos hb]
    have hc : c < 128 := by
      refine Int.not_le.1 fun g => ?_
      unfold isFst at b4
      simp at b4
      omega
    have e : enc [c] = [c] := by
      unfold enc
      rw [List.flatMap_cons, List.flatMap_nil, List.append_nil]
      have ec : chr c = c := by unfold chr; rw [if_pos g1]
      rw [ec]
      unfold enc1
      rw [if_pos (by omega)]
    refine ⟨hd, ?_, ?_, ?_, by_enc [c], ?_, ?_⟩
    · show (enc [c]).length + 4 * (s.drop 1).length ≤ _
      rw [e, List.length_drop, List.length_singleton]; omega
    · show mayT 9 (enc [c]) 0 0 false false = true
      rw [may_delim, e]
      have : (isDl c || isCt c) = true := by
        unfold isBl at b1; unfold isQ at b2; unfold isDig at b3; unfold isFst at b4
        simp at b1 b2 b3 b4
        have hk : c ≠ 40 ∧ c ≠ 41 ∧ c ≠ 91 ∧ c ≠ 93 ∧ c ≠ 123 ∧ c ≠ 125 ∧ c ≠ 44 ∧ c ≠ 58 ∧ c ≠ 59 := by
          refine ⟨?_, ?_, ?_, ?_, ?_, ?_, ?_, ?_, ?_⟩ <;> (rintro rfl; exact absurd hb (by decide))
        unfold isDl isCt
        simp
        omega
      show (zB 0 0 false && !false && dlB [c]) = true
      unfold dlB
      have e0 : nx [c] 0 = c := rfl
      rw [e0, this]; rfl
    · simp [tkt]
    · intro g
      rcases g with g | ⟨_, g⟩
      · exact absurd g (by show ¬ ((9 : Int) = 6); decide)
      · have g' : enc [c] = [92] := g
        rw [e] at g'
        show nx (s.drop 1) 0 = 10
        rw [e10]
        exact b5 (by simpa using g')
    · intro g; exact absurd g (by show ¬ ((9 : Int) = 2); decide)
  · rw [if_neg hb]
    refine .fix ?_ hd
    unfold brk at hb ⊢
    repeat (split; · omega)
    rename_i a1 a2 a3 a4 a5 a6 a7 a8 a9
    exact absurd (by simp [a1, a2, a3, a4, a5, a6, a7, a8, a9]) hb
end Go.Proofs.YtcclhdiphcfdfaaGreatDoor
