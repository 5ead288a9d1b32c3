/-
  What begins with a dash, by the program.
  What begins with a sign, by the program.
  One token, by the program.
  All tokens of some characters, by the program.
-/
import Derived.Test.YtmkbjcoagfnegaaGreatDoorZ37
import Derived.Test.YtmkbjcoagfnegaaGreatDoorZ38
import Derived.Outline
set_option linter.unusedVariables false
set_option linter.unusedSimpArgs false
namespace Go.Proofs.YtmkbjcoagfnegaaGreatDoor
open Go.RowKit

/-- What begins with a dash. -/
def dash (s : List Int) : Tk × List Int :=
  if nuB (nx s 0) (nx s 1) (nx s 2) then numb s
  else if nx s 1 = 45 ∧ nx s 2 = 62 then (tk 15, s.drop 3)
  else if nmB (nx s 0) (nx s 1) (nx s 2) then word s else one s
end Go.Proofs.YtmkbjcoagfnegaaGreatDoor
set_option linter.unusedVariables false
set_option linter.unusedSimpArgs false
namespace Go.Proofs.YtmkbjcoagfnegaaGreatDoor
open Go.RowKit

end Go.Proofs.YtmkbjcoagfnegaaGreatDoor
set_option linter.unusedVariables false
set_option linter.unusedSimpArgs false
namespace Go.Proofs.YtmkbjcoagfnegaaGreatDoor
open Go.RowKit

end Go.Proofs.YtmkbjcoagfnegaaGreatDoor
set_option linter.unusedVariables false
set_option linter.unusedSimpArgs false
namespace Go.Proofs.YtmkbjcoagfnegaaGreatDoor
open Go.RowKit

/-- Numbers as bytes. -/
def tb (l : List Int) : ByteArray := ⟨(l.map fun x => UInt8.ofNat x.toNat).toArray⟩
theorem tb_bl (t : ByteArray) : tb (bl t) = t := by
  cases t with
  | mk d =>
    cases d with
    | mk xs =>
      unfold tb bl
      simp only [List.map_map]
      congr 2
      conv => rhs; rw [← List.map_id xs]
      refine List.map_congr_left fun x _ => ?_
      simp
/-- A token's cells. -/
def tkC (τ : Tk) : List Value := [.int .i64 τ.kind, .string (tb τ.text), .int .i64 τ.num, .int .i64 τ.den, .bool τ.whole, .bool τ.id]
def cellsT (ts : List Tk) : List Value := ts.flatMap tkC
theorem cellsT_snoc (ts : List Tk) (τ : Tk) : cellsT (ts ++ [τ]) = cellsT ts ++ tkC τ := by simp [cellsT]
theorem cellsT_at (ts : List Tk) : ∀ (i j : Nat) (τ : Tk), ts[i]? = some τ → j < 6 → (cellsT ts)[i * 6 + j]? = (tkC τ)[j]? := by
  induction ts with
  | nil => intro i j τ h; cases h
  | cons x r ih =>
    intro i j τ h hj
    have e : cellsT (x :: r) = tkC x ++ cellsT r := rfl
    have l : (tkC x).length = 6 := rfl
    rw [e]
    cases i with
    | zero =>
      cases h
      rw [List.getElem?_append_left (by rw [l]; omega)]
      simp
    | succ i =>
      rw [List.getElem?_append_right (by rw [l]; omega), l, ← ih i j τ h hj]
      congr 1; omega
theorem Tells.cells {e : Ending} {τ : Tk} (h : Tells e τ) : e = .returned (.agg #[.int .i64 τ.kind, .string (tb τ.text), .int .i64 τ.num, .int .i64 τ.den, .bool τ.whole, .bool τ.id]) := by
  obtain ⟨t, rfl, ht⟩ := h
  rw [← ht, tb_bl]; rfl
theorem infoT : (Tryz.prog.info? 73).map (fun i => (i.zero, i.size, i.bytes)) = some (some (.agg #[.int .i64 0, .string ⟨#[]⟩, .int .i64 0, .int .i64 0, .bool false, .bool false]), 6, 48) := by kernel_rfl
/-- An own slice of tokens beside a reader in block b. -/
def OwnT (b : Nat) (w wr : World) (v : Value) (ts : List Tk) : Prop :=
  wr.ownsRow w.heap.size 73 6 v ts.length (cellsT ts) ∧ w.grownBy wr (some b)
theorem OwnT.nil (b : Nat) (w : World) : OwnT b w w (.slice none 0 0) [] := ⟨World.ownsRow_nil _ _ _ _, Mod.refl _ _⟩
theorem OwnT.mod {b : Nat} {w wr w1 : World} {v : Value} {ts : List Tk} (h : OwnT b w wr v ts) (hb : b < w.heap.size) (hg : wr.grownBy w1 (some b)) : OwnT b w w1 v ts := by
  refine ⟨⟨h.1.1, ?_⟩, Mod.trans h.2 hg⟩
  rcases h.1.2 with h1 | ⟨g, cap, cur, hv, hbg, hh, rest⟩
  · exact .inl h1
  · exact .inr ⟨g, cap, cur, hv, hbg, (hg.block g (Array.getElem?_eq_some_iff.1 hh).1 (by intro e; cases e; omega)).trans hh, rest⟩
theorem OwnT.grow {b : Nat} {w wr w1 : World} {v v' : Value} {ts : List Tk} {τ : Tk} {o : Obj} (h : OwnT b w wr v ts)
    (h1 : w1.ownsRow w.heap.size 73 6 v' (ts.length + 1) (cellsT ts ++ tkC τ)) (hg : (wr.alloc o).grownBy w1 v.ownBlock) : OwnT b w w1 v' (ts ++ [τ]) := by
  refine ⟨by rw [List.length_append, cellsT_snoc]; exact h1, ?_⟩
  have A := Mod.trans h.2 (Mod.of b (bplus (Below.refl wr.heap.size wr) o))
  exact ⟨hg.os.trans A.os, hg.tape.trans A.tape, hg.output.trans A.output, Nat.le_trans A.size hg.size, fun i hi hb' => (hg.block i (Nat.lt_of_lt_of_le hi A.size) (fun e => by have := (h.1.lt i e.symm).1; omega)).trans (A.block i hi hb')⟩
theorem At.growT {T : TypeId} {W w wr w1 : World} {b : Nat} {u v : Value} {l s : List Int} {o : Obj} {ts : List Tk} (h : At T W wr b u l s) (hb : b < w.heap.size) (ho : OwnT b w wr v ts) (hg : (wr.alloc o).grownBy w1 v.ownBlock) : At T W w1 b u l s := by
  obtain ⟨p, h1, h2, h3⟩ := h.ex
  have B := bplus (Below.refl wr.heap.size wr) o
  have hbe := h1.ge
  refine ⟨p, ⟨(bto h1.bel B).grown hg (Nat.le_trans h1.bel.size B.size) (fun k hk => by have := (ho.1.lt k hk).1; omega), h1.ge, ?_, h1.nums, h1.len, h1.le⟩, h2, h3⟩
  exact (hg.block b (Nat.lt_of_lt_of_le h1.lt B.size) (fun e => by have := (ho.1.lt b e.symm).1; omega)).trans ((B.block b h1.lt).trans h1.blk)
/-- A slice of tokens in memory. -/
def Toks (w : World) (v : Value) (ts : List Tk) : Prop :=
  (∃ a c, v = .slice a 0 c ∧ ts = []) ∨
  ∃ b o n c, v = .slice (some ⟨b, o, none⟩) n c ∧ n = ts.length ∧ 0 < n ∧ b < w.heap.size ∧ n ≤ c ∧ n ≤ 1000000000 ∧ c ≤ 9223372036854775807 ∧ ∀ i τ, ts[i]? = some τ → ∀ j, j < 6 → w.cell? ⟨b, o + i * 6 + j, none⟩ = (tkC τ)[j]?
theorem Toks.below {w w' : World} {v : Value} {ts : List Tk} (h : Toks w v ts) (hw : Below w.heap.size w w') : Toks w' v ts := by
  rcases h with h | ⟨b, o, n, c, h1, h2, h3, h4, h5, h6, h7, h8⟩
  · exact .inl h
  · exact .inr ⟨b, o, n, c, h1, h2, h3, Nat.lt_of_lt_of_le h4 hw.size, h5, h6, h7, fun i τ hi j hj => (hw.cell (p := ⟨b, o + i * 6 + j, none⟩) h4).trans (h8 i τ hi j hj)⟩
theorem OwnT.toks {b : Nat} {w wr : World} {v : Value} {ts : List Tk} (h : OwnT b w wr v ts) (hl : ts.length ≤ 1000000000) : Toks wr v ts := by
  rcases h.1.2 with ⟨rfl, h0⟩ | ⟨g, cap, cur, rfl, hb, hg, hn, hm, hs, ht⟩
  · exact .inl ⟨_, _, rfl, List.eq_nil_of_length_eq_zero h0⟩
  · by_cases h0 : ts.length = 0
    · obtain rfl : ts = [] := List.eq_nil_of_length_eq_zero h0
      exact .inl ⟨_, _, rfl, rfl⟩
    · refine .inr ⟨g, 0, ts.length, cap, rfl, rfl, by omega, (Array.getElem?_eq_some_iff.1 hg).1, hn, hl, by unfold maxLen at hm; exact hm, fun i τ hi j hj => ?_⟩
      have e := cellsT_at ts i j τ hi hj
      have hi' := (List.getElem?_eq_some_iff.1 hi).1
      rw [← e, ← ht, List.getElem?_take_of_lt (by omega), cell_blk hg, Nat.zero_add, Array.getElem?_toList]
/-- Tokens where no remark is next. -/
def tk2 (t : List Int) : List Tk := if nx t 0 = -1 then [] else (tokn t).1 :: toks (tokn t).2
def RelTkT (T : TypeId) (W w0 : World) (b : Nat) (v : Value) (l s : List Int) (g : Nat) (tv : Value) (wr : World) : Prop :=
  ∃ ts t, At T W wr b v l t ∧ t.length ≤ g ∧ ts.length + t.length ≤ s.length ∧ OwnT b w0 wr tv ts ∧ Hid (toks s = ts ++ tk2 t)
theorem RelTkT.mk {T : TypeId} {W w0 : World} {b : Nat} {v : Value} {l s : List Int} {g : Nat} {tv : Value} {wr : World} (ts : List Tk) (t : List Int) (h1 : At T W wr b v l t) (h2 : t.length ≤ g) (h3 : ts.length + t.length ≤ s.length) (h4 : OwnT b w0 wr tv ts) (h5 : toks s = ts ++ tk2 t) : RelTkT T W w0 b v l s g tv wr := ⟨ts, t, h1, h2, h3, h4, h5⟩
theorem news6 (w : World) (u0 u1 u2 u3 u4 u5 : Value) (t : TypeId) : ∀ j x, [u0, u1, u2, u3, u4, u5][j]? = some x → (w.alloc (.cells #[u0, u1, u2, u3, u4, u5] t)).cell? ((⟨w.heap.size, 0, none⟩ : Addr).add j) = some x := fun j x hx => by
  match j, hx with
  | 0, hx => simp at hx; subst hx; simp [Addr.add]
  | 1, hx => simp at hx; subst hx; simp [Addr.add]
  | 2, hx => simp at hx; subst hx; simp [Addr.add]
  | 3, hx => simp at hx; subst hx; simp [Addr.add]
  | 4, hx => simp at hx; subst hx; simp [Addr.add]
  | 5, hx => simp at hx; subst hx; simp [Addr.add]
theorem one6 (τ : Tk) : ∀ u ∈ tkC τ, u.oneCell' = true := by
  intro u hu
  simp only [tkC, List.mem_cons, List.not_mem_nil, or_false] at hu
  rcases hu with rfl | rfl | rfl | rfl | rfl | rfl <;> rfl
theorem At.start (w : World) (v : Value) (l : List Int) (T : TypeId) (hv : Nums .i32 w v l) (hl : l.length ≤ 140737488355328) : At T w (w.alloc (.cells #[v, .int .i64 0] T)) w.heap.size v l (chs l) :=
  ⟨0, ⟨bplus (Below.refl _ _) _, Nat.le_refl _, heap_alloc_new w _, hv, hl, by omega⟩, Nat.zero_le _, rfl⟩
end Go.Proofs.YtmkbjcoagfnegaaGreatDoor

