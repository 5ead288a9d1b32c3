/-
  Whether an exponent begins; a number taken, by the program.
  A number taken, by the program.
  A name taken, by the program.
  Tokens of one character, by the program.
-/
import Derived.Test.YtmkbjcoagfnegaaGreatDoorZ35
import Derived.Outline
set_option linter.unusedVariables false
set_option linter.unusedSimpArgs false
namespace Go.Proofs.YtmkbjcoagfnegaaGreatDoor
open Go.RowKit

end Go.Proofs.YtmkbjcoagfnegaaGreatDoor
set_option linter.unusedVariables false
set_option linter.unusedSimpArgs false
namespace Go.Proofs.YtmkbjcoagfnegaaGreatDoor
open Go.RowKit

theorem Mod.drew {w w' : World} {b : Nat} (h : w.grownBy w' (some b)) : w.grownBy w'.drew (some b) := ⟨h.os, h.tape, h.output, h.size, h.block⟩
/-- A part of a slice. -/
theorem Nums.part {k : IntKind} {w : World} {b o n c : Nat} {bs : List Int} (h : Nums k w (.slice (some ⟨b, o, none⟩) n c) bs) (p q : Nat) (h1 : p ≤ q) (h2 : q ≤ n) (hc : p < c) :
    Nums k w (.slice (some ⟨b, o + p, none⟩) (q - p) (c - p)) ((bs.drop p).take (q - p)) := by
  rcases h with ⟨a, c', e, rfl⟩ | ⟨b', o', n', c', e, hn, h0, hbw, hl, hn9, hc9, hcc⟩
  · simp at e; obtain ⟨_, rfl, _⟩ := e
    exact .inl ⟨_, _, by rw [show q - p = 0 by omega], by simp⟩
  · simp at e
    obtain ⟨⟨rfl, rfl⟩, rfl, rfl⟩ := e
    by_cases h : q - p = 0
    · exact .inl ⟨_, _, by rw [h], by rw [h]; rfl⟩
    · refine .inr ⟨b, o + p, q - p, c - p, rfl, by rw [List.length_take, List.length_drop]; omega, by omega, hbw, by omega, by omega, by omega, fun i hi => ?_⟩
      rw [Nat.add_assoc, hcc (p + i) (by omega)]
      congr 2
      unfold gt
      simp [List.getD_eq_getElem?_getD, List.getElem?_take, hi]
theorem enc_chs (l : List Int) : enc (chs l) = enc l := by
  unfold enc chs
  rw [List.flatMap_map]
  congr 1
  funext x
  rw [chrT (isC_chr x)]
/-- The text of what was taken from p to q. -/
theorem enc_part (l : List Int) (p q : Nat) (hp : p ≤ q) (hq : q ≤ l.length) : enc ((l.drop p).take (q - p)) = enc (((chs l).drop p).take (((chs l).drop p).length - ((chs l).drop q).length)) := by
  rw [← enc_chs]
  congr 1
  rw [List.length_drop, List.length_drop, chs_len, show l.length - p - (l.length - q) = q - p by omega]
  unfold chs
  rw [List.map_take, List.map_drop]
end Go.Proofs.YtmkbjcoagfnegaaGreatDoor
set_option linter.unusedVariables false
set_option linter.unusedSimpArgs false
namespace Go.Proofs.YtmkbjcoagfnegaaGreatDoor
open Go.RowKit

/-- An own slice beside a reader in block b. -/
def OwnM (b : Nat) (w : World) (k : IntKind) (e : TypeId) (wr : World) (v : Value) (xs : List Int) : Prop :=
  wr.ownsRow w.heap.size e 1 v xs.length (xs.map (Value.int k)) ∧ w.grownBy wr (some b)
theorem OwnM.nil (b : Nat) (w : World) (k : IntKind) (e : TypeId) : OwnM b w k e w (.slice none 0 0) [] := ⟨World.ownsRow_nil _ _ _ _, Mod.refl _ _⟩
theorem OwnM.mod {b : Nat} {w wr w1 : World} {k : IntKind} {e : TypeId} {v : Value} {xs : List Int} (h : OwnM b w k e wr v xs) (hb : b < w.heap.size) (hg : wr.grownBy w1 (some b)) : OwnM b w k e w1 v xs := by
  refine ⟨⟨h.1.1, ?_⟩, Mod.trans h.2 hg⟩
  rcases h.1.2 with h1 | ⟨g, cap, cur, hv, hbg, hh, rest⟩
  · exact .inl h1
  · exact .inr ⟨g, cap, cur, hv, hbg, (hg.block g (Array.getElem?_eq_some_iff.1 hh).1 (by intro e; cases e; omega)).trans hh, rest⟩
theorem OwnM.grow {b : Nat} {w wr w1 : World} {k : IntKind} {e : TypeId} {v v' : Value} {xs ys : List Int} {o : Obj} (h : OwnM b w k e wr v xs)
    (h1 : w1.ownsRow w.heap.size e 1 v' (xs.length + ys.length) (xs.map (Value.int k) ++ ys.map (Value.int k))) (hg : (wr.alloc o).grownBy w1 v.ownBlock) : OwnM b w k e w1 v' (xs ++ ys) := by
  refine ⟨by rw [List.length_append, List.map_append]; exact h1, ?_⟩
  have A := Mod.trans h.2 (Mod.of b (bplus (Below.refl wr.heap.size wr) o))
  exact ⟨hg.os.trans A.os, hg.tape.trans A.tape, hg.output.trans A.output, Nat.le_trans A.size hg.size, fun i hi hb' => (hg.block i (Nat.lt_of_lt_of_le hi A.size) (fun e => by have := (h.1.lt i e.symm).1; omega)).trans (A.block i hi hb')⟩
theorem OwnM.nums {b : Nat} {w wr : World} {k : IntKind} {e : TypeId} {v : Value} {xs : List Int} (h : OwnM b w k e wr v xs) (hl : xs.length ≤ 4611686018427387904) : Nums k wr v xs :=
  Own.nums (W := { wr with heap := #[] }) (e := e) ⟨⟨h.1.1, h.1.2.imp id fun ⟨g, cap, cur, a, _, c⟩ => ⟨g, cap, cur, a, Nat.zero_le _, c⟩⟩, rfl, rfl, rfl, Nat.zero_le _, fun k hk => absurd hk (by simp)⟩ hl
theorem At.grow {T : TypeId} {W w wr w1 : World} {b : Nat} {u v : Value} {l s : List Int} {o : Obj} {k : IntKind} {e : TypeId} {xs : List Int} (h : At T W wr b u l s) (hb : b < w.heap.size) (ho : OwnM b w k e wr v xs) (hg : (wr.alloc o).grownBy w1 v.ownBlock) : At T W w1 b u l s := by
  obtain ⟨p, h1, h2, h3⟩ := h.ex
  have B := bplus (Below.refl wr.heap.size wr) o
  have hbe := h1.ge
  refine ⟨p, ⟨(bto h1.bel B).grown hg (Nat.le_trans h1.bel.size B.size) (fun k hk => by have := (ho.1.lt k hk).1; omega), h1.ge, ?_, h1.nums, h1.len, h1.le⟩, h2, h3⟩
  exact (hg.block b (Nat.lt_of_lt_of_le h1.lt B.size) (fun e => by have := (ho.1.lt b e.symm).1; omega)).trans ((B.block b h1.lt).trans h1.blk)
/-- The state of the loop that takes a name. -/
def RelNm (T : TypeId) (W w : World) (b : Nat) (v : Value) (l s : List Int) (g : Nat) (nv : Value) (wr : World) : Prop :=
  ∃ xs t, At T W wr b v l t ∧ t.length ≤ g ∧ xs.length + t.length ≤ s.length ∧ OwnM b w .i32 21 wr nv xs ∧ Hid (nam [] s = nam xs t)
theorem RelNm.mk {T : TypeId} {W w : World} {b : Nat} {v : Value} {l s : List Int} {g : Nat} {nv : Value} {wr : World} (xs t : List Int) (h1 : At T W wr b v l t) (h2 : t.length ≤ g) (h3 : xs.length + t.length ≤ s.length) (h4 : OwnM b w .i32 21 wr nv xs) (h5 : nam [] s = nam xs t) : RelNm T W w b v l s g nv wr := ⟨xs, t, h1, h2, h3, h4, h5⟩
end Go.Proofs.YtmkbjcoagfnegaaGreatDoor
set_option linter.unusedVariables false
set_option linter.unusedSimpArgs false
namespace Go.Proofs.YtmkbjcoagfnegaaGreatDoor
open Go.RowKit

/-! ### A token, made -/
theorem keep {w w1 : World} {b r : Nat} {o : Obj} (h : w.heap[r]? = some o) (hr : r ≠ b) (m : w.grownBy w1 (some b)) : w1.heap[r]? = some o :=
  (m.block r (Array.getElem?_eq_some_iff.1 h).1 (by intro e; cases e; exact hr rfl)).trans h
def tok0 : Obj := .cells #[.int .i64 0, .string ⟨#[]⟩, .int .i64 0, .int .i64 0, .bool false, .bool false] 73
theorem tok0_alloc (w : World) : (w.alloc tok0).heap[w.heap.size]? = some tok0 := by unfold World.alloc; exact Array.getElem?_push_size
structure Free6 (w : World) (r : Nat) : Prop where
  f0 : w.frozen? ⟨r, 0, none⟩ = false
  f1 : w.frozen? ⟨r, 1, none⟩ = false
  f2 : w.frozen? ⟨r, 2, none⟩ = false
  f3 : w.frozen? ⟨r, 3, none⟩ = false
  f4 : w.frozen? ⟨r, 4, none⟩ = false
  f5 : w.frozen? ⟨r, 5, none⟩ = false
  c0 : w.cell? ⟨r, 0, none⟩ = some (.int .i64 0)
  c1 : w.cell? ⟨r, 1, none⟩ = some (.string ⟨#[]⟩)
  c2 : w.cell? ⟨r, 2, none⟩ = some (.int .i64 0)
  c3 : w.cell? ⟨r, 3, none⟩ = some (.int .i64 0)
  c4 : w.cell? ⟨r, 4, none⟩ = some (.bool false)
  c5 : w.cell? ⟨r, 5, none⟩ = some (.bool false)
theorem tok0_free {w : World} {r : Nat} (h : w.heap[r]? = some tok0) : Free6 w r := by
  constructor <;> simp [World.frozen?, World.cell?, h, tok0]
theorem At.put {T : TypeId} {W w : World} {b r : Nat} {v : Value} {l s : List Int} (h : At T W w b v l s) (hr : b < r) (i : Nat) (x : Value) : At T W (w.setCell ⟨r, i, none⟩ x) b v l s := by
  obtain ⟨p, h1, h2, h3⟩ := h.ex
  have := h1.ge
  exact ⟨p, ⟨h1.bel.setCell (p := ⟨r, i, none⟩) (by simp; omega) _, h1.ge, (Below.heap_setCell _ _ _ _ (by simp; omega)).trans h1.blk, h1.nums, h1.len, h1.le⟩, h2, h3⟩
theorem Mod.put {w w' : World} {b r : Nat} (h : w.grownBy w' (some b)) (hr : w.heap.size ≤ r) (i : Nat) (x : Value) : w.grownBy (w'.setCell ⟨r, i, none⟩ x) (some b) :=
  ⟨h.os, h.tape, h.output, by simpa using h.size, fun k hk hb => (Below.heap_setCell _ _ _ _ (by simp; omega)).trans (h.block k hk hb)⟩
def tkV (k : Int) (t : ByteArray) (n d : Int) (w i : Bool) : Value := .agg #[.int .i64 k, .string t, .int .i64 n, .int .i64 d, .bool w, .bool i]
/-- A token comes back. -/
def Tells (e : Ending) (τ : Tk) : Prop := ∃ t, e = .returned (tkV τ.kind t τ.num τ.den τ.whole τ.id) ∧ bl t = τ.text
theorem Tells.tk {k : Int} {τ : Tk} (h : τ = tk k) : Tells (.returned (tkV k ⟨#[]⟩ 0 0 false false)) τ := by subst h; exact ⟨_, rfl, rfl⟩
theorem Tells.tkt {k : Int} {l : List Int} {t : ByteArray} {τ : Tk} (h : τ = tkt k l) (ht : bl t = enc l) : Tells (.returned (tkV k t 0 0 false false)) τ := by subst h; exact ⟨_, rfl, ht⟩
end Go.Proofs.YtmkbjcoagfnegaaGreatDoor

