/-
  One token, by the program.
  All tokens of some characters, by the program.
  Plain: what a token may be; no more tokens than characters.
  Plain: tokens of a text that holds nothing open, and of what follows.
-/
import Derived.Test.YtlkocepoohhglaaDoorA17
import Derived.Outline
import Derived.Test.YtlkocepoohhglaaDoorA09
set_option linter.unusedVariables false
set_option linter.unusedSimpArgs false
namespace Go.Proofs.YtlkocepoohhglaaDoor
open Go.RowKit

end Go.Proofs.YtlkocepoohhglaaDoor
set_option linter.unusedVariables false
set_option linter.unusedSimpArgs false
namespace Go.Proofs.YtlkocepoohhglaaDoor
open Go.RowKit

/-- Numbers as bytes. -/
def tb (l : List Int) : ByteArray := ⟨(l.map fun x => UInt8.ofNat x.toNat).toArray⟩
theorem tb_bl (t : ByteArray) : tb (bl t) = t := by
  cases t with
  | mk d =>
    cases d with
    | mk xs =>
      unfold tb bl
      simp only [List.map_map]
      congr 2
      conv => rhs; rw [← List.map_id xs]
      refine List.map_congr_left fun x _ => ?_
      simp
/-- A token's cells. -/
def tkC (τ : Tk) : List Value := [.int .i64 τ.kind, .string (tb τ.text), .int .i64 τ.num, .int .i64 τ.den, .bool τ.whole, .bool τ.id]
def cellsT (ts : List Tk) : List Value := ts.flatMap tkC
theorem cellsT_len (ts : List Tk) : (cellsT ts).length = ts.length * 6 := by
  induction ts with
  | nil => rfl
  | cons τ r ih => unfold cellsT at *; rw [List.flatMap_cons, List.length_append, ih, List.length_cons]; simp [tkC]; omega
theorem cellsT_snoc (ts : List Tk) (τ : Tk) : cellsT (ts ++ [τ]) = cellsT ts ++ tkC τ := by simp [cellsT]
theorem cellsT_at (ts : List Tk) : ∀ (i j : Nat) (τ : Tk), ts[i]? = some τ → j < 6 → (cellsT ts)[i * 6 + j]? = (tkC τ)[j]? := by
  induction ts with
  | nil => intro i j τ h; cases h
  | cons x r ih =>
    intro i j τ h hj
    have e : cellsT (x :: r) = tkC x ++ cellsT r := rfl
    have l : (tkC x).length = 6 := rfl
    rw [e]
    cases i with
    | zero =>
      cases h
      rw [List.getElem?_append_left (by rw [l]; omega)]
      simp
    | succ i =>
      rw [List.getElem?_append_right (by rw [l]; omega), l, ← ih i j τ h hj]
      congr 1; omega
theorem Tells.cells {e : Ending} {τ : Tk} (h : Tells e τ) : e = .returned (.agg #[.int .i64 τ.kind, .string (tb τ.text), .int .i64 τ.num, .int .i64 τ.den, .bool τ.whole, .bool τ.id]) := by
  obtain ⟨t, rfl, ht⟩ := h
  rw [← ht, tb_bl]; rfl
theorem infoT : (Tryd.prog.info? 66).map (fun i => (i.zero, i.size, i.bytes)) = some (some (.agg #[.int .i64 0, .string ⟨#[]⟩, .int .i64 0, .int .i64 0, .bool false, .bool false]), 6, 48) := by kernel_rfl
/-- An own slice of tokens beside a reader in block b. -/
def OwnT (b : Nat) (w wr : World) (v : Value) (ts : List Tk) : Prop :=
  wr.ownsRow w.heap.size 66 6 v ts.length (cellsT ts) ∧ w.grownBy wr (some b)
theorem OwnT.nil (b : Nat) (w : World) : OwnT b w w (.slice none 0 0) [] := ⟨World.ownsRow_nil _ _ _ _, Mod.refl _ _⟩
theorem OwnT.mod {b : Nat} {w wr w1 : World} {v : Value} {ts : List Tk} (h : OwnT b w wr v ts) (hb : b < w.heap.size) (hg : wr.grownBy w1 (some b)) : OwnT b w w1 v ts := by
  refine ⟨⟨h.1.1, ?_⟩, Mod.trans h.2 hg⟩
  rcases h.1.2 with h1 | ⟨g, cap, cur, hv, hbg, hh, rest⟩
  · exact .inl h1
  · exact .inr ⟨g, cap, cur, hv, hbg, (hg.block g (Array.getElem?_eq_some_iff.1 hh).1 (by intro e; cases e; omega)).trans hh, rest⟩
theorem OwnT.grow {b : Nat} {w wr w1 : World} {v v' : Value} {ts : List Tk} {τ : Tk} {o : Obj} (h : OwnT b w wr v ts)
    (h1 : w1.ownsRow w.heap.size 66 6 v' (ts.length + 1) (cellsT ts ++ tkC τ)) (hg : (wr.alloc o).grownBy w1 v.ownBlock) : OwnT b w w1 v' (ts ++ [τ]) := by
  refine ⟨by rw [List.length_append, cellsT_snoc]; exact h1, ?_⟩
  have A := Mod.trans h.2 (Mod.of b (bplus (Below.refl wr.heap.size wr) o))
  exact ⟨hg.os.trans A.os, hg.tape.trans A.tape, hg.output.trans A.output, Nat.le_trans A.size hg.size, fun i hi hb' => (hg.block i (Nat.lt_of_lt_of_le hi A.size) (fun e => by have := (h.1.lt i e.symm).1; omega)).trans (A.block i hi hb')⟩
theorem At.growT {T : TypeId} {W w wr w1 : World} {b : Nat} {u v : Value} {l s : List Int} {o : Obj} {ts : List Tk} (h : At T W wr b u l s) (hb : b < w.heap.size) (ho : OwnT b w wr v ts) (hg : (wr.alloc o).grownBy w1 v.ownBlock) : At T W w1 b u l s := by
  obtain ⟨p, h1, h2, h3⟩ := h.ex
  have B := bplus (Below.refl wr.heap.size wr) o
  have hbe := h1.ge
  refine ⟨p, ⟨(bto h1.bel B).grown hg (Nat.le_trans h1.bel.size B.size) (fun k hk => by have := (ho.1.lt k hk).1; omega), h1.ge, ?_, h1.nums, h1.len, h1.le⟩, h2, h3⟩
  exact (hg.block b (Nat.lt_of_lt_of_le h1.lt B.size) (fun e => by have := (ho.1.lt b e.symm).1; omega)).trans ((B.block b h1.lt).trans h1.blk)
/-- A slice of tokens in memory. -/
def Toks (w : World) (v : Value) (ts : List Tk) : Prop :=
  (∃ a c, v = .slice a 0 c ∧ ts = []) ∨
  ∃ b o n c, v = .slice (some ⟨b, o, none⟩) n c ∧ n = ts.length ∧ 0 < n ∧ b < w.heap.size ∧ n ≤ c ∧ n ≤ 1000000000 ∧ c ≤ 9223372036854775807 ∧ ∀ i τ, ts[i]? = some τ → ∀ j, j < 6 → w.cell? ⟨b, o + i * 6 + j, none⟩ = (tkC τ)[j]?
theorem Toks.below {w w' : World} {v : Value} {ts : List Tk} (h : Toks w v ts) (hw : Below w.heap.size w w') : Toks w' v ts := by
  rcases h with h | ⟨b, o, n, c, h1, h2, h3, h4, h5, h6, h7, h8⟩
  · exact .inl h
  · exact .inr ⟨b, o, n, c, h1, h2, h3, Nat.lt_of_lt_of_le h4 hw.size, h5, h6, h7, fun i τ hi j hj => (hw.cell (p := ⟨b, o + i * 6 + j, none⟩) h4).trans (h8 i τ hi j hj)⟩
theorem OwnT.toks {b : Nat} {w wr : World} {v : Value} {ts : List Tk} (h : OwnT b w wr v ts) (hl : ts.length ≤ 1000000000) : Toks wr v ts := by
  rcases h.1.2 with ⟨rfl, h0⟩ | ⟨g, cap, cur, rfl, hb, hg, hn, hm, hs, ht⟩
  · exact .inl ⟨_, _, rfl, List.eq_nil_of_length_eq_zero h0⟩
  · by_cases h0 : ts.length = 0
    · obtain rfl : ts = [] := List.eq_nil_of_length_eq_zero h0
      exact .inl ⟨_, _, rfl, rfl⟩
    · refine .inr ⟨g, 0, ts.length, cap, rfl, rfl, by omega, (Array.getElem?_eq_some_iff.1 hg).1, hn, hl, by unfold maxLen at hm; exact hm, fun i τ hi j hj => ?_⟩
      have e := cellsT_at ts i j τ hi hj
      have hi' := (List.getElem?_eq_some_iff.1 hi).1
      rw [← e, ← ht, List.getElem?_take_of_lt (by omega), cell_blk hg, Nat.zero_add, Array.getElem?_toList]
/-- Tokens where no remark is next. -/
def tk2 (t : List Int) : List Tk := if nx t 0 = -1 then [] else (tokn t).1 :: toks (tokn t).2
theorem toks_tk2 (s : List Int) : toks s = tk2 (rmk s) := by
  unfold tk2
  by_cases h : nx (rmk s) 0 = -1
  · rw [if_pos h, toks_end h]
  · rw [if_neg h, toks_go h]
theorem tk2_end {t : List Int} (h : nx t 0 = -1) : tk2 t = [] := by unfold tk2; rw [if_pos h]
theorem tk2_go {t : List Int} (h : nx t 0 ≠ -1) : tk2 t = (tokn t).1 :: tk2 (rmk (tokn t).2) := by rw [← toks_tk2]; unfold tk2; rw [if_neg h]
def RelTkT (T : TypeId) (W w0 : World) (b : Nat) (v : Value) (l s : List Int) (g : Nat) (tv : Value) (wr : World) : Prop :=
  ∃ ts t, At T W wr b v l t ∧ t.length ≤ g ∧ ts.length + t.length ≤ s.length ∧ OwnT b w0 wr tv ts ∧ Hid (toks s = ts ++ tk2 t)
theorem RelTkT.mk {T : TypeId} {W w0 : World} {b : Nat} {v : Value} {l s : List Int} {g : Nat} {tv : Value} {wr : World} (ts : List Tk) (t : List Int) (h1 : At T W wr b v l t) (h2 : t.length ≤ g) (h3 : ts.length + t.length ≤ s.length) (h4 : OwnT b w0 wr tv ts) (h5 : toks s = ts ++ tk2 t) : RelTkT T W w0 b v l s g tv wr := ⟨ts, t, h1, h2, h3, h4, h5⟩
theorem news6 (w : World) (u0 u1 u2 u3 u4 u5 : Value) (t : TypeId) : ∀ j x, [u0, u1, u2, u3, u4, u5][j]? = some x → (w.alloc (.cells #[u0, u1, u2, u3, u4, u5] t)).cell? ((⟨w.heap.size, 0, none⟩ : Addr).add j) = some x := fun j x hx => by
  match j, hx with
  | 0, hx => simp at hx; subst hx; simp [Addr.add]
  | 1, hx => simp at hx; subst hx; simp [Addr.add]
  | 2, hx => simp at hx; subst hx; simp [Addr.add]
  | 3, hx => simp at hx; subst hx; simp [Addr.add]
  | 4, hx => simp at hx; subst hx; simp [Addr.add]
  | 5, hx => simp at hx; subst hx; simp [Addr.add]
theorem one6 (τ : Tk) : ∀ u ∈ tkC τ, u.oneCell' = true := by
  intro u hu
  simp only [tkC, List.mem_cons, List.not_mem_nil, or_false] at hu
  rcases hu with rfl | rfl | rfl | rfl | rfl | rfl <;> rfl
theorem At.start (w : World) (v : Value) (l : List Int) (T : TypeId) (hv : Nums .i32 w v l) (hl : l.length ≤ 140737488355328) : At T w (w.alloc (.cells #[v, .int .i64 0] T)) w.heap.size v l (chs l) :=
  ⟨0, ⟨bplus (Below.refl _ _) _, Nat.le_refl _, heap_alloc_new w _, hv, hl, by omega⟩, Nat.zero_le _, rfl⟩
end Go.Proofs.YtlkocepoohhglaaDoor
set_option linter.unusedVariables false
namespace Go.Proofs.YtlkocepoohhglaaDoor
open Go.RowKit

/-! ### What a token may be -/
def kNam (k : Int) : Bool := (k == 1) || (k == 2) || (k == 3) || (k == 4) || (k == 12) || (k == 9)
def kNum (k : Int) : Bool := (k == 10) || (k == 11) || (k == 12)
def kTxt (k : Int) : Bool := kNam k || (k == 5) || (k == 7)
structure Few (τ : Tk) : Prop where
  lo : 1 ≤ τ.kind
  hi : τ.kind ≤ 24
  nam : kNam τ.kind = true → τ.text ≠ []
  txt : kTxt τ.kind = false → τ.text = []
  num : kNum τ.kind = false → τ.num = 0 ∧ τ.den = 0 ∧ τ.whole = false
  id : τ.id = true → τ.kind = 4
  den : kNum τ.kind = true → 0 ≤ τ.den ∧ (τ.den = 0 → τ.num = 0) ∧ (τ.whole = true → τ.den ≤ 1)
theorem enc_ne {l : List Int} (h : l ≠ []) : enc l ≠ [] := by
  intro e
  have := (enc_len l).1
  rw [e] at this
  exact h (List.eq_nil_of_length_eq_zero (by simpa using this))
theorem nam_acc (n : Nat) : ∀ acc s : List Int, s.length ≤ n → acc.length ≤ (nam acc s).1.length := by
  induction n with
  | zero =>
    intro acc s h
    obtain rfl : s = [] := List.eq_nil_of_length_eq_zero (by omega)
    rw [nam_end (by decide) (by decide)]; simp
  | succ n ih =>
    intro acc s h
    by_cases h1 : isLet (nx s 0) = true
    · have := isLet_ne h1
      rw [nam_let h1]
      have := ih (acc ++ [nx s 0]) (s.drop 1) (by rw [List.length_drop]; omega)
      rw [List.length_append] at this; omega
    · have h1' : isLet (nx s 0) = false := by simpa using h1
      by_cases h2 : es2 (nx s 0) (nx s 1) = true
      · have := es2_ne h2
        have q := tesc_len (s.drop 1)
        rw [List.length_drop] at q
        rw [nam_esc h1' h2]
        have := ih (acc ++ [(tesc (s.drop 1)).1]) (tesc (s.drop 1)).2 (by omega)
        rw [List.length_append] at this; omega
      · rw [nam_end h1' (by simpa using h2)]; simp
theorem nam_ne {s : List Int} (h : isLet (nx s 0) = true ∨ es2 (nx s 0) (nx s 1) = true) : (nam [] s).1 ≠ [] := by
  intro e
  by_cases h1 : isLet (nx s 0) = true
  · rw [nam_let h1] at e
    have := nam_acc (s.drop 1).length ([] ++ [nx s 0]) (s.drop 1) (Nat.le_refl _)
    rw [e] at this; simp at this
  · have h2 : es2 (nx s 0) (nx s 1) = true := by rcases h with h | h; exact absurd h h1; exact h
    rw [nam_esc (by simpa using h1) h2] at e
    have := nam_acc (tesc (s.drop 1)).2.length ([] ++ [(tesc (s.drop 1)).1]) (tesc (s.drop 1)).2 (Nat.le_refl _)
    rw [e] at this; simp at this
theorem nmB_ne {s : List Int} (h : nmB (nx s 0) (nx s 1) (nx s 2) = true) : (nam [] s).1 ≠ [] := by
  refine nam_ne ?_
  unfold nmB at h
  by_cases g : nx s 0 = 45
  · left; rw [g]; decide
  · rw [if_neg g] at h
    rcases Bool.or_eq_true_iff.1 h with h | h
    · left; unfold isLet; rw [h]; rfl
    · right; exact h
theorem Few.tk {k : Int} (h1 : 1 ≤ k) (h2 : k ≤ 24) (h3 : kTxt k = false) (h4 : kNum k = false) : Few (tk k) :=
  ⟨h1, h2, fun h => (by have : kTxt k = true := by unfold kTxt; rw [show kNam k = true from h]; rfl
                        rw [h3] at this; cases this), fun _ => rfl, fun _ => ⟨rfl, rfl, rfl⟩, fun h => (by cases h), fun h => (by rw [show (Go.Proofs.YtlkocepoohhglaaDoor.tk k).kind = k from rfl, h4] at h; cases h)⟩
theorem Few.tkt {k : Int} {l : List Int} (h1 : 1 ≤ k) (h2 : k ≤ 24) (h3 : kTxt k = true) (h4 : kNum k = false) (h5 : kNam k = true → l ≠ []) : Few (tkt k l) :=
  ⟨h1, h2, fun h => enc_ne (h5 h), fun h => (by rw [show (Go.Proofs.YtlkocepoohhglaaDoor.tkt k l).kind = k from rfl, h3] at h; cases h), fun _ => ⟨rfl, rfl, rfl⟩, fun h => (by cases h), fun h => (by rw [show (Go.Proofs.YtlkocepoohhglaaDoor.tkt k l).kind = k from rfl, h4] at h; cases h)⟩
theorem str_few (n : Nat) : ∀ (q : Int) (acc s : List Int), s.length ≤ n → Few (str q acc s).1 := by
  induction n with
  | zero =>
    intro q acc s h
    obtain rfl : s = [] := List.eq_nil_of_length_eq_zero (by omega)
    rw [str]; simp only [nx_nil, true_or, dite_true]
    exact .tkt (by decide) (by decide) (by decide) (by decide) (fun h => absurd h (by decide))
  | succ n ih =>
    intro q acc s h
    rw [str]
    by_cases h0 : nx s 0 = -1 ∨ nx s 0 = q
    · rw [dif_pos h0]; exact .tkt (by decide) (by decide) (by decide) (by decide) (fun h => absurd h (by decide))
    · have hp := nx_pos (s := s) (fun e => h0 (.inl e))
      rw [dif_neg h0]
      by_cases h1 : nx s 0 = 10
      · rw [dif_pos h1]; exact .tk (by decide) (by decide) (by decide) (by decide)
      · rw [dif_neg h1]
        by_cases h2 : nx s 0 = 92
        · rw [dif_pos h2]
          split
          · exact ih q acc (s.drop 1) (by rw [List.length_drop]; omega)
          · split
            · exact ih q acc (s.drop 2) (by rw [List.length_drop]; omega)
            · have r := tesc_len (s.drop 1)
              rw [List.length_drop] at r
              exact ih q (acc ++ [(tesc (s.drop 1)).1]) (tesc (s.drop 1)).2 (by omega)
        · rw [dif_neg h2]
          exact ih q (acc ++ [nx s 0]) (s.drop 1) (by rw [List.length_drop]; omega)
theorem url_few (n : Nat) : ∀ acc s : List Int, s.length ≤ n → Few (url acc s).1 := by
  induction n with
  | zero =>
    intro acc s h
    obtain rfl : s = [] := List.eq_nil_of_length_eq_zero (by omega)
    rw [url]; simp only [nx_nil, true_or, dite_true]
    exact .tkt (by decide) (by decide) (by decide) (by decide) (fun h => absurd h (by decide))
  | succ n ih =>
    intro acc s h
    rw [url]
    by_cases h0 : nx s 0 = -1 ∨ nx s 0 = 41
    · rw [dif_pos h0]; exact .tkt (by decide) (by decide) (by decide) (by decide) (fun h => absurd h (by decide))
    · have hp := nx_pos (s := s) (fun e => h0 (.inl e))
      rw [dif_neg h0]
      by_cases h1 : isBl (nx s 0) = true
      · rw [dif_pos h1]
        have q := bls_lt h1
        split
        · exact ih acc (bls s) (by omega)
        · exact .tk (by decide) (by decide) (by decide) (by decide)
      · rw [dif_neg h1]
        split
        · have q := tesc_len (s.drop 1)
          rw [List.length_drop] at q
          exact ih (acc ++ [(tesc (s.drop 1)).1]) (tesc (s.drop 1)).2 (by omega)
        · split
          · exact .tk (by decide) (by decide) (by decide) (by decide)
          · exact ih (acc ++ [nx s 0]) (s.drop 1) (by rw [List.length_drop]; omega)
theorem word_few {s : List Int} (h : (nam [] s).1 ≠ []) : Few (word s).1 := by
  unfold word
  split
  · exact .tkt (by decide) (by decide) (by decide) (by decide) (fun _ => h)
  · split
    · split
      · exact .tkt (by decide) (by decide) (by decide) (by decide) (fun _ => h)
      · exact url_few _ _ _ (Nat.le_refl _)
    · exact .tkt (by decide) (by decide) (by decide) (by decide) (fun _ => h)
/-! ### A number's fraction -/
def OkV (r : Int × Int) : Prop := 0 ≤ r.2 ∧ (r.2 = 0 → r.1 = 0)
theorem fr_ok (n : Nat) (p : Int) : OkV (fr n p) := by
  unfold fr fracUp fracDn OkV
  split
  · split <;> simp
  · split
    · refine ⟨Int.natCast_nonneg _, fun h => ?_⟩
      have : 2 ^ (strip 2 n (-p).toNat).2 * 5 ^ (strip 5 (strip 2 n (-p).toNat).1 (-p).toNat).2 = 0 := Int.ofNat_eq_zero.1 h
      have h2 : 0 < 2 ^ (strip 2 n (-p).toNat).2 := Nat.pow_pos (by decide)
      have h5 : 0 < 5 ^ (strip 5 (strip 2 n (-p).toNat).1 (-p).toNat).2 := Nat.pow_pos (by decide)
      have := Nat.mul_pos h2 h5
      omega
    · simp
theorem sg_ok {b : Bool} {r : Int × Int} (h : OkV r) : OkV (sg b r) := by
  unfold sg OkV at *
  refine ⟨h.1, fun e => ?_⟩
  have := h.2 e
  simp only
  split <;> omega
theorem valOf_ok (b : Bool) (ds : List Int) (k : Int) : OkV (valOf b ds k) := by
  unfold valOf
  split
  · simp [OkV]
  · split
    · simp [OkV]
    · exact sg_ok (fr_ok _ _)
theorem valOf_one (b : Bool) (ds : List Int) (k : Int) (hk : 0 ≤ k) : (valOf b ds k).2 ≤ 1 := by
  unfold valOf
  split
  · simp
  · split
    · simp
    · simp only [sg]
      unfold fr
      rw [if_pos (by omega)]
      unfold fracUp
      split <;> simp
theorem decE_ok {b : Bool} {ds : List Int} {k : Nat} {wh : Bool} {s : List Int} (hk : wh = true → k = 0) {r : Int × Int} {w : Bool} (h : decE b ds k wh s = some (r, w)) : OkV r ∧ (w = true → r.2 ≤ 1) := by
  unfold decE at h
  split at h
  · cases h
  · split at h
    · simp only [Option.some.injEq, Prod.mk.injEq] at h
      obtain ⟨rfl, rfl⟩ := h
      exact ⟨valOf_ok _ _ _, fun hw => valOf_one _ _ _ (by rw [hk hw]; decide)⟩
    · cases he : expo s with
      | none => rw [he] at h; cases h
      | some e =>
        rw [he] at h
        simp only [Option.map_some, Option.some.injEq, Prod.mk.injEq] at h
        obtain ⟨rfl, rfl⟩ := h
        exact ⟨valOf_ok _ _ _, fun hw => by cases hw⟩
theorem dcT_ok (s : List Int) : OkV (dcT s).1 ∧ ((dcT s).2 = true → (dcT s).1.2 ≤ 1) := by
  unfold dcT
  cases h : dec s with
  | none => simp [OkV]
  | some x =>
    obtain ⟨r, w⟩ := x
    simp only [Option.getD_some]
    unfold dec at h
    split at h
    · split at h
      · cases h
      · exact decE_ok (by simp) h
    · exact decE_ok (by simp) h
theorem numb_few (s : List Int) : Few (numb s).1 := by
  obtain ⟨⟨h1, h2⟩, h3⟩ := dcT_ok (enc (nmT s))
  unfold numb
  generalize dcT (enc (nmT s)) = z at *
  split
  · rename_i g
    refine ⟨show (1 : Int) ≤ 12 by decide, show (12 : Int) ≤ 24 by decide, fun _ => enc_ne (nmB_ne g), fun h => absurd (show kTxt 12 = false from h) (by decide), fun h => absurd (show kNum 12 = false from h) (by decide), fun h => absurd (show false = true from h) (by decide), fun _ => ⟨h1, h2, h3⟩⟩
  · split
    · refine ⟨show (1 : Int) ≤ 11 by decide, show (11 : Int) ≤ 24 by decide, fun h => absurd (show kNam 11 = true from h) (by decide), fun _ => rfl, fun h => absurd (show kNum 11 = false from h) (by decide), fun h => absurd (show false = true from h) (by decide), fun _ => ⟨h1, h2, h3⟩⟩
    · refine ⟨show (1 : Int) ≤ 10 by decide, show (10 : Int) ≤ 24 by decide, fun h => absurd (show kNam 10 = true from h) (by decide), fun _ => rfl, fun h => absurd (show kNum 10 = false from h) (by decide), fun h => absurd (show false = true from h) (by decide), fun _ => ⟨h1, h2, h3⟩⟩
theorem one_few (s : List Int) : Few (one s).1 := by
  unfold one
  simp only
  split
  · exact .tkt (by decide) (by decide) (by decide) (by decide) (fun _ => by simp)
  · have : brk (nx s 0) = 9 ∨ brk (nx s 0) = 16 ∨ brk (nx s 0) = 17 ∨ brk (nx s 0) = 18 ∨ brk (nx s 0) = 19 ∨ brk (nx s 0) = 20 ∨ brk (nx s 0) = 21 ∨ brk (nx s 0) = 22 ∨ brk (nx s 0) = 23 ∨ brk (nx s 0) = 24 := by
      unfold brk; omega
    rename_i g
    rcases this with e | e | e | e | e | e | e | e | e | e
    · exact absurd e g
    all_goals (rw [e]; exact .tk (by decide) (by decide) (by decide) (by decide))
theorem hash_few {s : List Int} (h : (isLet (nx s 1) || es2 (nx s 1) (nx s 2)) = true) : Few (hash s).1 := by
  have h' : (nam [] (s.drop 1)).1 ≠ [] := by
    refine nam_ne ?_
    rw [nx_drop, nx_drop]
    exact Bool.or_eq_true_iff.1 h
  unfold hash
  exact ⟨show (1 : Int) ≤ 4 by decide, show (4 : Int) ≤ 24 by decide, fun _ => enc_ne h', fun h => absurd (show kTxt 4 = false from h) (by decide), fun _ => ⟨rfl, rfl, rfl⟩, fun _ => rfl, fun h => absurd (show kNum 4 = true from h) (by decide)⟩
theorem sgnT_few (s : List Int) : Few (sgnT s).1 := by
  unfold sgnT
  split
  · split
    · rename_i g; exact hash_few g
    · exact one_few s
  · split
    · split
      · exact numb_few s
      · exact one_few s
    · split
      · split
        · exact numb_few s
        · split
          · exact .tk (by decide) (by decide) (by decide) (by decide)
          · split
            · rename_i g; exact word_few (nmB_ne g)
            · exact one_few s
      · split
        · split
          · exact .tk (by decide) (by decide) (by decide) (by decide)
          · exact one_few s
        · split
          · split
            · rename_i g
              refine .tkt (by decide) (by decide) (by decide) (by decide) (fun _ => nmB_ne ?_)
              rw [nx_drop, nx_drop, nx_drop]; exact g
            · exact one_few s
          · split
            · split
              · rename_i g; exact word_few (nam_ne (.inr g))
              · exact one_few s
            · exact one_few s
theorem tokn_few (s : List Int) : Few (tokn s).1 := by
  unfold tokn
  split
  · exact .tk (by decide) (by decide) (by decide) (by decide)
  · split
    · exact str_few _ _ _ _ (Nat.le_refl _)
    · split
      · exact numb_few s
      · split
        · rename_i g; exact word_few (nam_ne (.inl (isFst_let g)))
        · exact sgnT_few s
theorem toks_few (n : Nat) : ∀ s : List Int, s.length ≤ n → (toks s).length ≤ s.length ∧ ∀ τ ∈ toks s, Few τ := by
  induction n with
  | zero =>
    intro s h
    obtain rfl : s = [] := List.eq_nil_of_length_eq_zero (by omega)
    rw [toks_end (by rw [rmk_end (by simp [nx_nil])]; exact nx_nil 0)]; simp
  | succ n ih =>
    intro s h
    by_cases g : nx (rmk s) 0 = -1
    · rw [toks_end g]; simp
    · rw [toks_go g]
      have h1 := tokn_lt g
      have h2 := rmk_le s
      obtain ⟨h3, h4⟩ := ih (tokn (rmk s)).2 (by omega)
      refine ⟨by rw [List.length_cons]; omega, fun τ hτ => ?_⟩
      rcases List.mem_cons.1 hτ with rfl | hτ
      · exact tokn_few _
      · exact h4 τ hτ
end Go.Proofs.YtlkocepoohhglaaDoor
set_option linter.unusedVariables false
namespace Go.Proofs.YtlkocepoohhglaaDoor
open Go.RowKit

/-! ### What follows a text that holds nothing open -/
/-- Begins with ; or /. -/
def Stp (t : List Int) : Prop := nx t 0 = 59 ∨ nx t 0 = 47
theorem nx_appT (s t : List Int) (k : Nat) : (k < s.length ∧ nx (s ++ t) k = nx s k) ∨ (k = s.length ∧ nx (s ++ t) k = nx t 0 ∧ nx s k = -1) ∨ (s.length < k ∧ nx s k = -1) := by
  rcases Nat.lt_trichotomy k s.length with h | h | h
  · left; exact ⟨h, by simp [nx, List.getD_eq_getElem?_getD, List.getElem?_append_left h]⟩
  · right; left
    subst h
    exact ⟨rfl, by simp [nx, List.getD_eq_getElem?_getD, List.getElem?_append_right], by simp [nx, List.getD_eq_getElem?_getD]⟩
  · right; right
    exact ⟨h, by simp [nx, List.getD_eq_getElem?_getD, List.getElem?_eq_none (Nat.le_of_lt h)]⟩
theorem Stp.let {t : List Int} (h : Stp t) : isLet (nx t 0) = false := by rcases h with h | h <;> rw [h] <;> decide
theorem Stp.fst {t : List Int} (h : Stp t) : isFst (nx t 0) = false := by rcases h with h | h <;> rw [h] <;> decide
theorem Stp.dig {t : List Int} (h : Stp t) : isDig (nx t 0) = false := by rcases h with h | h <;> rw [h] <;> decide
theorem Stp.bl {t : List Int} (h : Stp t) : isBl (nx t 0) = false := by rcases h with h | h <;> rw [h] <;> decide
theorem Stp.sg {t : List Int} (h : Stp t) : isSg (nx t 0) = false := by rcases h with h | h <;> rw [h] <;> decide
theorem Stp.ne {t : List Int} (h : Stp t) (c : Int) (hc : c ≠ 59) (hd : c ≠ 47) : nx t 0 ≠ c := by rcases h with h | h <;> omega
theorem Stp.es {t : List Int} (h : Stp t) (c : Int) : es2 (nx t 0) c = false := by
  have := h.ne 92 (by decide) (by decide)
  simp [es2, this]
/-- No sign that opens a text, an escape, a bracket. -/
def Cln (s : List Int) : Prop := ∀ c ∈ s, c ≠ 34 ∧ c ≠ 39 ∧ c ≠ 92 ∧ c ≠ 40 ∧ c ≠ -1
/-- No remark begins. -/
def NoR (s : List Int) : Prop := ∀ k, ¬ (nx s k = 47 ∧ nx s (k + 1) = 42)
theorem Cln.nx {s : List Int} (h : Cln s) {k : Nat} (hk : k < s.length) : nx s k ≠ 34 ∧ nx s k ≠ 39 ∧ nx s k ≠ 92 ∧ nx s k ≠ 40 ∧ nx s k ≠ -1 := by
  have : Go.Proofs.YtlkocepoohhglaaDoor.nx s k = s[k] := by simp [Go.Proofs.YtlkocepoohhglaaDoor.nx, List.getD_eq_getElem?_getD, hk]
  rw [this]; exact h _ (List.getElem_mem hk)
theorem Cln.esc {s : List Int} (h : Cln s) (k : Nat) (c : Int) : es2 (Go.Proofs.YtlkocepoohhglaaDoor.nx s k) c = false := by
  by_cases hk : k < s.length
  · have := (h.nx hk).2.2.1
    simp [es2, this]
  · have : Go.Proofs.YtlkocepoohhglaaDoor.nx s k = -1 := by simp [Go.Proofs.YtlkocepoohhglaaDoor.nx, List.getD_eq_getElem?_getD, List.getElem?_eq_none (Nat.le_of_not_lt hk)]
    rw [this]; rfl
theorem Cln.suf {s r : List Int} (h : Cln s) (hr : r <:+ s) : Cln r := fun c hc => h c (hr.subset hc)
theorem NoR.suf {s r : List Int} (h : NoR s) (hr : r <:+ s) : NoR r := by
  obtain ⟨p, rfl⟩ := hr
  intro k hk
  refine h (p.length + k) ?_
  have e : ∀ j, nx (p ++ r) (p.length + j) = nx r j := fun j => by simp [nx, List.getD_eq_getElem?_getD, List.getElem?_append_right]
  rw [e, Nat.add_assoc, e]; exact hk
theorem Cln.cons {c : Int} {s : List Int} (h : Cln (c :: s)) : Cln s := fun x hx => h x (List.mem_cons_of_mem _ hx)
theorem es2_app {s t : List Int} (h : Cln s) (ht : Stp t) (k : Nat) (hk : k ≤ s.length) (c : Int) : es2 (nx (s ++ t) k) c = false := by
  rcases nx_appT s t k with ⟨h1, h2⟩ | ⟨h1, h2, h3⟩ | ⟨h1, h2⟩
  · rw [h2]; exact h.esc k c
  · rw [h2]; exact ht.es c
  · omega
theorem nam_app {t : List Int} (ht : Stp t) : ∀ (s acc : List Int), Cln s → nam acc (s ++ t) = ((nam acc s).1, (nam acc s).2 ++ t) ∧ (nam acc s).2 <:+ s := by
  intro s
  induction s with
  | nil =>
    intro acc h
    rw [List.nil_append, nam_end ht.let (ht.es _), nam_end (s := []) (by decide) (by decide)]
    exact ⟨rfl, List.suffix_refl _⟩
  | cons a r ih =>
    intro acc h
    have e0 : nx (a :: r ++ t) 0 = a := rfl
    have e1 : nx (a :: r) 0 = a := rfl
    cases hl : isLet a
    · have hes : ∀ c, es2 a c = false := fun c => h.esc (s := a :: r) 0 c
      rw [nam_end (s := a :: r ++ t) (by rw [e0]; exact hl) (by rw [e0]; exact hes _), nam_end (s := a :: r) (by rw [e1]; exact hl) (by rw [e1]; exact hes _)]
      exact ⟨rfl, List.suffix_refl _⟩
    · rw [nam_let (s := a :: r ++ t) (by rw [e0]; exact hl), nam_let (s := a :: r) (by rw [e1]; exact hl)]
      obtain ⟨h1, h2⟩ := ih (acc ++ [a]) h.cons
      exact ⟨h1, h2.trans (List.suffix_cons _ _)⟩
theorem dw_app {p : Int → Bool} {t : List Int} (ht : p (nx t 0) = false) : ∀ s : List Int, (s ++ t).dropWhile p = s.dropWhile p ++ t := by
  intro s
  induction s with
  | nil =>
    cases t with
    | nil => rfl
    | cons x r =>
      have hx : p x = false := ht
      simp [hx]
  | cons a r ih =>
    simp only [List.cons_append, List.dropWhile_cons]
    split
    · exact ih
    · rfl
theorem dgs_app {t : List Int} (ht : Stp t) (s : List Int) : dgs (s ++ t) = dgs s ++ t := dw_app ht.dig s
theorem bls_app {t : List Int} (ht : Stp t) (s : List Int) : bls (s ++ t) = bls s ++ t := dw_app ht.bl s
theorem dgs_suf (s : List Int) : dgs s <:+ s := List.dropWhile_suffix _
theorem bls_suf (s : List Int) : bls s <:+ s := List.dropWhile_suffix _
theorem drop_app {s t : List Int} {k : Nat} (h : k ≤ s.length) : (s ++ t).drop k = s.drop k ++ t := by
  rw [List.drop_append_of_le_length h]
theorem nmS_app {t : List Int} (ht : Stp t) (s : List Int) : nmS (s ++ t) = nmS s ++ t ∧ nmS s <:+ s := by
  unfold nmS
  cases s with
  | nil => 
    rw [List.nil_append, ht.sg]
    exact ⟨rfl, List.suffix_refl _⟩
  | cons a r =>
    have e0 : nx (a :: r ++ t) 0 = a := rfl
    have e1 : nx (a :: r) 0 = a := rfl
    rw [e0, e1]
    split
    · exact ⟨rfl, List.suffix_cons _ _⟩
    · exact ⟨rfl, List.suffix_refl _⟩
theorem nmP_app {t : List Int} (ht : Stp t) (s : List Int) : nmP (s ++ t) = nmP s ++ t ∧ nmP s <:+ s := by
  unfold nmP
  match s with
  | [] =>
    rw [List.nil_append]
    have := ht.ne 46 (by decide) (by decide)
    have e : (nx t 0 == 46) = false := by simpa using this
    rw [e]
    exact ⟨rfl, List.suffix_refl _⟩
  | [a] =>
    have e0 : nx ([a] ++ t) 1 = nx t 0 := by cases t <;> rfl
    rw [e0, ht.dig, show nx [a] 1 = -1 from rfl, show isDig (-1) = false by decide, Bool.and_false, Bool.and_false]
    exact ⟨rfl, List.suffix_refl _⟩
  | a :: b :: r =>
    have e0 : nx (a :: b :: r ++ t) 0 = a := rfl
    have e1 : nx (a :: b :: r) 0 = a := rfl
    have e2 : nx (a :: b :: r ++ t) 1 = b := rfl
    have e3 : nx (a :: b :: r) 1 = b := rfl
    rw [e0, e1, e2, e3]
    split
    · exact ⟨dgs_app ht (b :: r), (dgs_suf _).trans (List.suffix_cons _ _)⟩
    · exact ⟨rfl, List.suffix_refl _⟩
/-- A test of three places. -/
theorem test3 {f : Int → Int → Int → Bool} {t : List Int} (h0 : ∀ a b, f (nx t 0) a b = false) (h0' : f (-1) (-1) (-1) = false) (h1 : ∀ a b, f a (nx t 0) b = f a (-1) (-1)) (h2 : ∀ a b, f a b (nx t 0) = f a b (-1)) (s : List Int) : f (nx (s ++ t) 0) (nx (s ++ t) 1) (nx (s ++ t) 2) = f (nx s 0) (nx s 1) (nx s 2) := by
  match s with
  | [] => rw [List.nil_append, h0]; exact h0'.symm
  | [a] =>
    have e0 : nx ([a] ++ t) 1 = nx t 0 := by cases t <;> rfl
    rw [e0, h1]; rfl
  | [a, b] =>
    have e0 : nx ([a, b] ++ t) 2 = nx t 0 := by cases t <;> rfl
    rw [e0, h2]; rfl
  | a :: b :: c :: r => rfl
theorem exB_app {t : List Int} (ht : Stp t) (s : List Int) : exB (nx (s ++ t) 0) (nx (s ++ t) 1) (nx (s ++ t) 2) = exB (nx s 0) (nx s 1) (nx s 2) := by
  refine test3 (f := exB) ?_ (by decide) ?_ ?_ s
  · intro a b
    have h1 := ht.ne 101 (by decide) (by decide)
    have h2 := ht.ne 69 (by decide) (by decide)
    simp [exB, h1, h2]
  · intro a b
    unfold exB
    rw [ht.sg, ht.dig]; rfl
  · intro a b
    unfold exB
    rw [ht.dig]; rfl
theorem nuB_app {t : List Int} (ht : Stp t) (s : List Int) : nuB (nx (s ++ t) 0) (nx (s ++ t) 1) (nx (s ++ t) 2) = nuB (nx s 0) (nx s 1) (nx s 2) := by
  have h46 : (nx t 0 == 46) = false := by simpa using ht.ne 46 (by decide) (by decide)
  refine test3 (f := nuB) ?_ (by decide) ?_ ?_ s
  · intro a b
    unfold nuB; rw [ht.sg, ht.dig, h46]; rfl
  · intro a b
    unfold nuB; rw [ht.dig, h46]; rfl
  · intro a b
    unfold nuB; rw [ht.dig]; rfl
theorem nmB_app {t : List Int} (ht : Stp t) {s : List Int} (hs : Cln s) : nmB (nx (s ++ t) 0) (nx (s ++ t) 1) (nx (s ++ t) 2) = nmB (nx s 0) (nx s 1) (nx s 2) := by
  have h45 := ht.ne 45 (by decide) (by decide)
  have h45' : (nx t 0 == 45) = false := by simpa using h45
  match s, hs with
  | [], hs => rw [List.nil_append]; unfold nmB; rw [if_neg h45, ht.fst, ht.es]; decide
  | [a], hs =>
    have e0 : nx ([a] ++ t) 1 = nx t 0 := by cases t <;> rfl
    have e1 : ∀ c, es2 a c = false := fun c => hs.esc (s := [a]) 0 c
    rw [e0]
    show nmB a (nx t 0) _ = nmB a (-1) (-1)
    unfold nmB
    rw [ht.fst, ht.es, h45', e1, e1]; rfl
  | [a, b], hs =>
    have e1 : ∀ c, es2 b c = false := fun c => hs.esc (s := [a, b]) 1 c
    show nmB a b _ = nmB a b _
    unfold nmB
    rw [e1, e1]
  | a :: b :: c :: r, hs => rfl
theorem nmE_app {t : List Int} (ht : Stp t) (s : List Int) : nmE (s ++ t) = nmE s ++ t ∧ nmE s <:+ s := by
  unfold nmE
  rw [exB_app ht s]
  split
  · rename_i g
    have hp : 0 < s.length := nx_pos fun e => by rw [e] at g; simp [exB] at g
    rw [drop_app (by omega), (nmS_app ht _).1, dgs_app ht]
    exact ⟨rfl, (dgs_suf _).trans ((nmS_app ht _).2.trans (List.drop_suffix _ _))⟩
  · exact ⟨rfl, List.suffix_refl _⟩
theorem nmZ_app {t : List Int} (ht : Stp t) (s : List Int) : nmZ (s ++ t) = nmZ s ++ t ∧ nmZ s <:+ s := by
  unfold nmZ
  rw [(nmS_app ht s).1, dgs_app ht, (nmP_app ht _).1, (nmE_app ht _).1]
  exact ⟨rfl, (nmE_app ht _).2.trans ((nmP_app ht _).2.trans ((dgs_suf _).trans (nmS_app ht s).2))⟩
theorem nmT_app {t : List Int} (ht : Stp t) (s : List Int) : nmT (s ++ t) = nmT s := by
  unfold nmT
  rw [(nmZ_app ht s).1, List.length_append, List.length_append, Nat.add_sub_add_right]
  exact List.take_append_of_le_length (by omega)
theorem nx0_app {t s : List Int} (ht : Stp t) (c : Int) (h1 : c ≠ 59) (h2 : c ≠ 47) (h3 : c ≠ -1) : (nx (s ++ t) 0 = c) ↔ (nx s 0 = c) := by
  rcases nx_appT s t 0 with ⟨g1, g2⟩ | ⟨g1, g2, g3⟩ | ⟨g1, g2⟩
  · rw [g2]
  · rw [g2, g3]; exact ⟨fun e => absurd e (ht.ne c h1 h2), fun e => absurd e.symm h3⟩
  · omega
/-- What is said of a part and all that follows. -/
def App (f : List Int → Tk × List Int) (s t : List Int) : Prop := f (s ++ t) = ((f s).1, (f s).2 ++ t) ∧ (f s).2 <:+ s
theorem App.same {f g : List Int → Tk × List Int} {s t : List Int} (h : App g s t) (h1 : f (s ++ t) = g (s ++ t)) (h2 : f s = g s) : App f s t := by
  unfold App at *
  rw [h1, h2]; exact h
theorem numb_app {t : List Int} (ht : Stp t) {s : List Int} (hs : Cln s) : App numb s t := by
  obtain ⟨z1, z2⟩ := nmZ_app ht s
  have hz := hs.suf z2
  obtain ⟨n1, n2⟩ := nam_app ht (nmZ s) [] hz
  unfold App numb
  rw [z1, nmT_app ht s, nmB_app ht hz, n1]
  simp only [nx0_app ht 37 (by decide) (by decide) (by decide)]
  generalize dcT (enc (nmT s)) = z
  split
  · exact ⟨rfl, n2.trans z2⟩
  · split
    · rename_i g
      have hp : 0 < (nmZ s).length := nx_pos (by omega)
      exact ⟨by rw [drop_app (by omega)], (List.drop_suffix _ _).trans z2⟩
    · exact ⟨rfl, z2⟩
theorem word_app {t : List Int} (ht : Stp t) {s : List Int} (hs : Cln s) : App word s t := by
  obtain ⟨n1, n2⟩ := nam_app ht s [] hs
  have hn := hs.suf n2
  have h40 : nx (nam [] s).2 0 ≠ 40 := by
    intro e
    have hp : 0 < (nam [] s).2.length := nx_pos (by omega)
    exact (hn.nx hp).2.2.2.1 e
  have h40' : nx ((nam [] s).2 ++ t) 0 ≠ 40 := by rw [ne_eq, nx0_app ht 40 (by decide) (by decide) (by decide)]; exact h40
  unfold App word
  rw [n1, if_pos h40', if_pos h40]
  exact ⟨rfl, n2⟩
theorem one_app {t s : List Int} (h : s ≠ []) : App one s t := by
  cases s with
  | nil => exact absurd rfl h
  | cons a r => exact ⟨rfl, List.suffix_cons _ _⟩
theorem hash_app {t : List Int} (ht : Stp t) {s : List Int} (hs : Cln s) (h : s ≠ []) : App hash s t := by
  cases s with
  | nil => exact absurd rfl h
  | cons a r =>
    obtain ⟨n1, n2⟩ := nam_app ht r [] hs.cons
    unfold App hash
    show ((⟨4, enc (nam [] (r ++ t)).1, 0, 0, false, nmB (nx (r ++ t) 0) (nx (r ++ t) 1) (nx (r ++ t) 2)⟩ : Tk), (nam [] (r ++ t)).2) = ((⟨4, enc (nam [] r).1, 0, 0, false, nmB (nx r 0) (nx r 1) (nx r 2)⟩ : Tk), (nam [] r).2 ++ t) ∧ (nam [] r).2 <:+ a :: r
    rw [n1, nmB_app ht hs.cons]
    exact ⟨rfl, n2.trans (List.suffix_cons _ _)⟩
def at_ (s : List Int) : Tk × List Int := (tkt 3 (nam [] (s.drop 1)).1, (nam [] (s.drop 1)).2)
theorem at_app {t : List Int} (ht : Stp t) {s : List Int} (hs : Cln s) (h : s ≠ []) : App at_ s t := by
  cases s with
  | nil => exact absurd rfl h
  | cons a r =>
    obtain ⟨n1, n2⟩ := nam_app ht r [] hs.cons
    unfold App at_
    show (tkt 3 (nam [] (r ++ t)).1, (nam [] (r ++ t)).2) = (tkt 3 (nam [] r).1, (nam [] r).2 ++ t) ∧ (nam [] r).2 <:+ a :: r
    rw [n1]
    exact ⟨rfl, n2.trans (List.suffix_cons _ _)⟩
theorem skip_app {k : Int} {n : Nat} {s t : List Int} (h : n ≤ s.length) : App (fun s => (tk k, s.drop n)) s t := by
  unfold App
  exact ⟨by simp only [drop_app h], List.drop_suffix _ _⟩
theorem nxk_app {t s : List Int} (ht : Stp t) (k : Nat) (hk : k ≤ s.length) (c : Int) (h1 : c ≠ 59) (h2 : c ≠ 47) (h3 : c ≠ -1) : (nx (s ++ t) k = c) ↔ (nx s k = c) := by
  rcases nx_appT s t k with ⟨g1, g2⟩ | ⟨g1, g2, g3⟩ | ⟨g1, g2⟩
  · rw [g2]
  · rw [g2, g3]; exact ⟨fun e => absurd e (ht.ne c h1 h2), fun e => absurd e.symm h3⟩
  · omega
theorem nx_len {s : List Int} {k : Nat} (h : nx s k ≠ -1) : k < s.length := by
  rcases Nat.lt_or_ge k s.length with g | g
  · exact g
  · exact absurd (by simp [nx, List.getD_eq_getElem?_getD, List.getElem?_eq_none g]) h
theorem sgnT_app {t : List Int} (ht : Stp t) {s : List Int} (hs : Cln s) (h : s ≠ []) : App sgnT s t := by
  cases s with
  | nil => exact absurd rfl h
  | cons a r =>
    have hr := hs.cons
    have o := one_app (t := t) h
    have a0 : nx (a :: r ++ t) 0 = a := rfl
    have a1 : nx (a :: r) 0 = a := rfl
    have b0 : nx (a :: r ++ t) 1 = nx (r ++ t) 0 := rfl
    have b1 : nx (a :: r) 1 = nx r 0 := rfl
    have c0 : nx (a :: r ++ t) 2 = nx (r ++ t) 1 := rfl
    have c1 : nx (a :: r) 2 = nx r 1 := rfl
    have d0 : nx (a :: r ++ t) 3 = nx (r ++ t) 2 := rfl
    have d1 : nx (a :: r) 3 = nx r 2 := rfl
    have NU := nuB_app ht (a :: r)
    have NM := nmB_app ht hs
    have NR := nmB_app ht hr
    have LE : (isLet (nx (r ++ t) 0) || es2 (nx (r ++ t) 0) (nx (r ++ t) 1)) = (isLet (nx r 0) || es2 (nx r 0) (nx r 1)) := by
      rw [es2_app hr ht 0 (by omega), hr.esc 0, Bool.or_false, Bool.or_false]
      rcases nx_appT r t 0 with ⟨g1, g2⟩ | ⟨g1, g2, g3⟩ | ⟨g1, g2⟩
      · rw [g2]
      · rw [g2, g3, ht.let]; rfl
      · omega
    have ES : es2 a (nx (r ++ t) 0) = false := hs.esc (s := a :: r) 0 _
    have ES' : es2 a (nx r 0) = false := hs.esc (s := a :: r) 0 _
    have CD : (nx (r ++ t) 0 = 45 ∧ nx (r ++ t) 1 = 62) ↔ (nx r 0 = 45 ∧ nx r 1 = 62) := by
      rw [nx0_app ht 45 (by decide) (by decide) (by decide)]
      refine ⟨fun ⟨x, y⟩ => ⟨x, (nxk_app ht 1 ?_ 62 (by decide) (by decide) (by decide)).1 y⟩, fun ⟨x, y⟩ => ⟨x, (nxk_app ht 1 ?_ 62 (by decide) (by decide) (by decide)).2 y⟩⟩
      all_goals exact nx_len (s := r) (k := 0) (by omega)
    have CO : (nx (r ++ t) 0 = 33 ∧ nx (r ++ t) 1 = 45 ∧ nx (r ++ t) 2 = 45) ↔ (nx r 0 = 33 ∧ nx r 1 = 45 ∧ nx r 2 = 45) := by
      rw [nx0_app ht 33 (by decide) (by decide) (by decide)]
      refine ⟨fun ⟨x, y, z⟩ => ?_, fun ⟨x, y, z⟩ => ?_⟩
      · have y' := (nxk_app ht 1 (nx_len (s := r) (k := 0) (by omega)) 45 (by decide) (by decide) (by decide)).1 y
        exact ⟨x, y', (nxk_app ht 2 (nx_len (s := r) (k := 1) (by omega)) 45 (by decide) (by decide) (by decide)).1 z⟩
      · have y' := (nxk_app ht 1 (nx_len (s := r) (k := 0) (by omega)) 45 (by decide) (by decide) (by decide)).2 y
        exact ⟨x, y', (nxk_app ht 2 (nx_len (s := r) (k := 1) (by omega)) 45 (by decide) (by decide) (by decide)).2 z⟩
    have H := hash_app ht hs h
    have U := numb_app ht hs
    have V := word_app ht hs
    have Z := at_app ht hs h
    unfold App
    unfold sgnT
    rw [a0, a1, b0, b1, c0, c1, d0, d1] at *
    simp only [LE, NU, NM, NR, ES, ES', CD, CO]
    split
    · split
      · exact H
      · exact o
    · split
      · split
        · exact U
        · exact o
      · split
        · split
          · exact U
          · split
            · rename_i g
              exact skip_app (k := 15) (n := 3) (s := a :: r) (t := t) (by have := nx_len (s := r) (k := 1) (by omega); simp; omega)
            · split
              · exact V
              · exact o
        · split
          · split
            · rename_i g
              exact skip_app (k := 14) (n := 4) (s := a :: r) (t := t) (by have := nx_len (s := r) (k := 2) (by omega); simp; omega)
            · exact o
          · split
            · split
              · exact Z
              · exact o
            · split
              · exact o
              · exact o
theorem tokn_app {t : List Int} (ht : Stp t) {s : List Int} (hs : Cln s) (h : s ≠ []) : App tokn s t := by
  have S := sgnT_app ht hs h
  have U := numb_app ht hs
  have V := word_app ht hs
  have B := bls_app ht s
  have B' := bls_suf s
  have hq : isQ (nx s 0) = false := by
    have := hs.nx (List.length_pos_iff.2 h)
    simp [isQ, this.1, this.2.1]
  have e : nx (s ++ t) 0 = nx s 0 := by
    rcases nx_appT s t 0 with ⟨g1, g2⟩ | ⟨g1, g2, g3⟩ | ⟨g1, g2⟩
    · exact g2
    · exact absurd (List.eq_nil_of_length_eq_zero g1.symm) h
    · omega
  unfold App
  unfold tokn
  rw [e]
  simp only [hq, Bool.false_eq_true, if_false]
  split
  · exact ⟨by rw [B], B'⟩
  · split
    · exact U
    · split
      · exact V
      · exact S
theorem NoR.rmk {s : List Int} (h : NoR s) : rmk s = s := rmk_end (h 0)
theorem NoR.rmk_app {s t : List Int} (h : NoR s) (ht : Stp t) (hs : s ≠ []) : Go.Proofs.YtlkocepoohhglaaDoor.rmk (s ++ t) = s ++ t := by
  refine rmk_end fun ⟨h1, h2⟩ => ?_
  have hp := List.length_pos_iff.2 hs
  have h1' : nx s 0 = 47 := by
    rcases nx_appT s t 0 with ⟨g1, g2⟩ | ⟨g1, g2, g3⟩ | ⟨g1, g2⟩
    · rw [← g2]; exact h1
    · omega
    · omega
  exact h 0 ⟨h1', (nxk_app ht 1 hp 42 (by decide) (by decide) (by decide)).1 h2⟩
theorem toks_app {t : List Int} (ht : Stp t) (n : Nat) : ∀ s : List Int, s.length ≤ n → Cln s → NoR s → toks (s ++ t) = toks s ++ toks t := by
  induction n with
  | zero =>
    intro s h _ _
    obtain rfl : s = [] := List.eq_nil_of_length_eq_zero (by omega)
    rw [toks_end (s := []) (by rw [rmk_end (by simp [nx_nil])]; exact nx_nil 0)]; rfl
  | succ n ih =>
    intro s h hs hr
    by_cases he : s = []
    · subst he
      rw [toks_end (s := []) (by rw [rmk_end (by simp [nx_nil])]; exact nx_nil 0)]; rfl
    · have hp := List.length_pos_iff.2 he
      have h0 : nx s 0 ≠ -1 := (hs.nx hp).2.2.2.2
      have h0' : nx (s ++ t) 0 ≠ -1 := by
        rcases nx_appT s t 0 with ⟨g1, g2⟩ | ⟨g1, g2, g3⟩ | ⟨g1, g2⟩
        · rw [g2]; exact h0
        · omega
        · omega
      obtain ⟨A, A'⟩ := tokn_app ht hs he
      have hl := tokn_lt h0
      rw [toks_go (s := s ++ t) (by rw [hr.rmk_app ht he]; exact h0'), toks_go (s := s) (by rw [hr.rmk]; exact h0), hr.rmk_app ht he, hr.rmk, A]
      rw [ih (tokn s).2 (by omega) (hs.suf A') (hr.suf A')]
      rfl
theorem toks_semi (v : List Int) : toks (59 :: v) = tk 17 :: toks v := by
  have h : rmk (59 :: v) = 59 :: v := rmk_end (by simp [nx])
  rw [toks_go (by rw [h]; simp [nx]), h]
  rfl
theorem toks_rmk {s t : List Int} (h : rmk s = rmk t) : toks s = toks t := by
  by_cases g : nx (rmk t) 0 = -1
  · rw [toks_end g, toks_end (by rw [h]; exact g)]
  · rw [toks_go g, toks_go (by rw [h]; exact g), h]
theorem untl_in (v : List Int) : ∀ i : List Int, (∀ c ∈ i, c ≠ 42) → untl (i ++ 42 :: 47 :: v) = v := by
  intro i
  induction i with
  | nil => intro _; simp [untl, nx]
  | cons a r ih =>
    intro h
    have : a ≠ 42 := h a (List.mem_cons_self ..)
    simp only [List.cons_append, untl, this, false_and, if_false]
    exact ih fun c hc => h c (List.mem_cons_of_mem _ hc)
theorem toks_remark (i v : List Int) (h : ∀ c ∈ i, c ≠ 42) : toks (47 :: 42 :: (i ++ 42 :: 47 :: v)) = toks v := by
  refine toks_rmk ?_
  rw [rmk_go (s := 47 :: 42 :: (i ++ 42 :: 47 :: v)) rfl rfl]
  show rmk (untl (i ++ 42 :: 47 :: v)) = rmk v
  rw [untl_in v i h]
end Go.Proofs.YtlkocepoohhglaaDoor
