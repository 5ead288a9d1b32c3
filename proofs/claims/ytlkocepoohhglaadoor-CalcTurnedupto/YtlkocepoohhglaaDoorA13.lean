/-
  A name taken, by the program.
  Tokens of one character, by the program.
  Powers: what the program multiplies and divides for a decimal.
  A number times a power of ten, in lowest terms, by the program; what stands behind an e.
-/
import Derived.Test.YtlkocepoohhglaaDoorA12
import Derived.Outline
import Derived.Test.YtlkocepoohhglaaDoorA11
import Derived.Deep.RegionWith
set_option linter.unusedVariables false
set_option linter.unusedSimpArgs false
namespace Go.Proofs.YtlkocepoohhglaaDoor
open Go.RowKit

/-- An own slice beside a reader in block b. -/
def OwnM (b : Nat) (w : World) (k : IntKind) (e : TypeId) (wr : World) (v : Value) (xs : List Int) : Prop :=
  wr.ownsRow w.heap.size e 1 v xs.length (xs.map (Value.int k)) ∧ w.grownBy wr (some b)
theorem OwnM.nil (b : Nat) (w : World) (k : IntKind) (e : TypeId) : OwnM b w k e w (.slice none 0 0) [] := ⟨World.ownsRow_nil _ _ _ _, Mod.refl _ _⟩
theorem OwnM.mod {b : Nat} {w wr w1 : World} {k : IntKind} {e : TypeId} {v : Value} {xs : List Int} (h : OwnM b w k e wr v xs) (hb : b < w.heap.size) (hg : wr.grownBy w1 (some b)) : OwnM b w k e w1 v xs := by
  refine ⟨⟨h.1.1, ?_⟩, Mod.trans h.2 hg⟩
  rcases h.1.2 with h1 | ⟨g, cap, cur, hv, hbg, hh, rest⟩
  · exact .inl h1
  · exact .inr ⟨g, cap, cur, hv, hbg, (hg.block g (Array.getElem?_eq_some_iff.1 hh).1 (by intro e; cases e; omega)).trans hh, rest⟩
theorem OwnM.grow {b : Nat} {w wr w1 : World} {k : IntKind} {e : TypeId} {v v' : Value} {xs ys : List Int} {o : Obj} (h : OwnM b w k e wr v xs)
    (h1 : w1.ownsRow w.heap.size e 1 v' (xs.length + ys.length) (xs.map (Value.int k) ++ ys.map (Value.int k))) (hg : (wr.alloc o).grownBy w1 v.ownBlock) : OwnM b w k e w1 v' (xs ++ ys) := by
  refine ⟨by rw [List.length_append, List.map_append]; exact h1, ?_⟩
  have A := Mod.trans h.2 (Mod.of b (bplus (Below.refl wr.heap.size wr) o))
  exact ⟨hg.os.trans A.os, hg.tape.trans A.tape, hg.output.trans A.output, Nat.le_trans A.size hg.size, fun i hi hb' => (hg.block i (Nat.lt_of_lt_of_le hi A.size) (fun e => by have := (h.1.lt i e.symm).1; omega)).trans (A.block i hi hb')⟩
theorem OwnM.nums {b : Nat} {w wr : World} {k : IntKind} {e : TypeId} {v : Value} {xs : List Int} (h : OwnM b w k e wr v xs) (hl : xs.length ≤ 4611686018427387904) : Nums k wr v xs :=
  Own.nums (W := { wr with heap := #[] }) (e := e) ⟨⟨h.1.1, h.1.2.imp id fun ⟨g, cap, cur, a, _, c⟩ => ⟨g, cap, cur, a, Nat.zero_le _, c⟩⟩, rfl, rfl, rfl, Nat.zero_le _, fun k hk => absurd hk (by simp)⟩ hl
theorem At.grow {T : TypeId} {W w wr w1 : World} {b : Nat} {u v : Value} {l s : List Int} {o : Obj} {k : IntKind} {e : TypeId} {xs : List Int} (h : At T W wr b u l s) (hb : b < w.heap.size) (ho : OwnM b w k e wr v xs) (hg : (wr.alloc o).grownBy w1 v.ownBlock) : At T W w1 b u l s := by
  obtain ⟨p, h1, h2, h3⟩ := h.ex
  have B := bplus (Below.refl wr.heap.size wr) o
  have hbe := h1.ge
  refine ⟨p, ⟨(bto h1.bel B).grown hg (Nat.le_trans h1.bel.size B.size) (fun k hk => by have := (ho.1.lt k hk).1; omega), h1.ge, ?_, h1.nums, h1.len, h1.le⟩, h2, h3⟩
  exact (hg.block b (Nat.lt_of_lt_of_le h1.lt B.size) (fun e => by have := (ho.1.lt b e.symm).1; omega)).trans ((B.block b h1.lt).trans h1.blk)
/-- The state of the loop that takes a name. -/
def RelNm (T : TypeId) (W w : World) (b : Nat) (v : Value) (l s : List Int) (g : Nat) (nv : Value) (wr : World) : Prop :=
  ∃ xs t, At T W wr b v l t ∧ t.length ≤ g ∧ xs.length + t.length ≤ s.length ∧ OwnM b w .i32 21 wr nv xs ∧ Hid (nam [] s = nam xs t)
theorem RelNm.mk {T : TypeId} {W w : World} {b : Nat} {v : Value} {l s : List Int} {g : Nat} {nv : Value} {wr : World} (xs t : List Int) (h1 : At T W wr b v l t) (h2 : t.length ≤ g) (h3 : xs.length + t.length ≤ s.length) (h4 : OwnM b w .i32 21 wr nv xs) (h5 : nam [] s = nam xs t) : RelNm T W w b v l s g nv wr := ⟨xs, t, h1, h2, h3, h4, h5⟩
end Go.Proofs.YtlkocepoohhglaaDoor
set_option linter.unusedVariables false
set_option linter.unusedSimpArgs false
namespace Go.Proofs.YtlkocepoohhglaaDoor
open Go.RowKit

theorem brk_cases (c : Int) : (c = 40 ∧ brk c = 21) ∨ (c = 41 ∧ brk c = 22) ∨ (c = 91 ∧ brk c = 19) ∨ (c = 93 ∧ brk c = 20) ∨ (c = 123 ∧ brk c = 23) ∨ (c = 125 ∧ brk c = 24) ∨ (c = 44 ∧ brk c = 18) ∨ (c = 58 ∧ brk c = 16) ∨ (c = 59 ∧ brk c = 17)
    ∨ (((c == 40) = false ∧ (c == 41) = false ∧ (c == 91) = false ∧ (c == 93) = false ∧ (c == 123) = false ∧ (c == 125) = false ∧ (c == 44) = false ∧ (c == 58) = false ∧ (c == 59) = false) ∧ brk c = 9) := by
  simp only [beq_eq_false_iff_ne]
  unfold brk
  omega
theorem ret_i64 {a c : Int} (h : a = c) : Ending.returned (.int .i64 a) = .returned (.int .i64 c) := by rw [h]
/-! ### A token, made -/
theorem keep {w w1 : World} {b r : Nat} {o : Obj} (h : w.heap[r]? = some o) (hr : r ≠ b) (m : w.grownBy w1 (some b)) : w1.heap[r]? = some o :=
  (m.block r (Array.getElem?_eq_some_iff.1 h).1 (by intro e; cases e; exact hr rfl)).trans h
def tok0 : Obj := .cells #[.int .i64 0, .string ⟨#[]⟩, .int .i64 0, .int .i64 0, .bool false, .bool false] 66
theorem tok0_alloc (w : World) : (w.alloc tok0).heap[w.heap.size]? = some tok0 := by unfold World.alloc; exact Array.getElem?_push_size
structure Free6 (w : World) (r : Nat) : Prop where
  f0 : w.frozen? ⟨r, 0, none⟩ = false
  f1 : w.frozen? ⟨r, 1, none⟩ = false
  f2 : w.frozen? ⟨r, 2, none⟩ = false
  f3 : w.frozen? ⟨r, 3, none⟩ = false
  f4 : w.frozen? ⟨r, 4, none⟩ = false
  f5 : w.frozen? ⟨r, 5, none⟩ = false
  c0 : w.cell? ⟨r, 0, none⟩ = some (.int .i64 0)
  c1 : w.cell? ⟨r, 1, none⟩ = some (.string ⟨#[]⟩)
  c2 : w.cell? ⟨r, 2, none⟩ = some (.int .i64 0)
  c3 : w.cell? ⟨r, 3, none⟩ = some (.int .i64 0)
  c4 : w.cell? ⟨r, 4, none⟩ = some (.bool false)
  c5 : w.cell? ⟨r, 5, none⟩ = some (.bool false)
theorem tok0_free {w : World} {r : Nat} (h : w.heap[r]? = some tok0) : Free6 w r := by
  constructor <;> simp [World.frozen?, World.cell?, h, tok0]
theorem At.put {T : TypeId} {W w : World} {b r : Nat} {v : Value} {l s : List Int} (h : At T W w b v l s) (hr : b < r) (i : Nat) (x : Value) : At T W (w.setCell ⟨r, i, none⟩ x) b v l s := by
  obtain ⟨p, h1, h2, h3⟩ := h.ex
  have := h1.ge
  exact ⟨p, ⟨h1.bel.setCell (p := ⟨r, i, none⟩) (by simp; omega) _, h1.ge, (Below.heap_setCell _ _ _ _ (by simp; omega)).trans h1.blk, h1.nums, h1.len, h1.le⟩, h2, h3⟩
theorem Mod.put {w w' : World} {b r : Nat} (h : w.grownBy w' (some b)) (hr : w.heap.size ≤ r) (i : Nat) (x : Value) : w.grownBy (w'.setCell ⟨r, i, none⟩ x) (some b) :=
  ⟨h.os, h.tape, h.output, by simpa using h.size, fun k hk hb => (Below.heap_setCell _ _ _ _ (by simp; omega)).trans (h.block k hk hb)⟩
def tkV (k : Int) (t : ByteArray) (n d : Int) (w i : Bool) : Value := .agg #[.int .i64 k, .string t, .int .i64 n, .int .i64 d, .bool w, .bool i]
/-- A token comes back. -/
def Tells (e : Ending) (τ : Tk) : Prop := ∃ t, e = .returned (tkV τ.kind t τ.num τ.den τ.whole τ.id) ∧ bl t = τ.text
theorem Tells.tk {k : Int} {τ : Tk} (h : τ = tk k) : Tells (.returned (tkV k ⟨#[]⟩ 0 0 false false)) τ := by subst h; exact ⟨_, rfl, rfl⟩
theorem Tells.tkt {k : Int} {l : List Int} {t : ByteArray} {τ : Tk} (h : τ = tkt k l) (ht : bl t = enc l) : Tells (.returned (tkV k t 0 0 false false)) τ := by subst h; exact ⟨_, rfl, ht⟩
end Go.Proofs.YtlkocepoohhglaaDoor
set_option linter.unusedVariables false
set_option linter.unusedSimpArgs false
namespace Go.Proofs.YtlkocepoohhglaaDoor
open Go.RowKit

theorem pow_over {m b k : Nat} (h : 9223372036854775807 < m * b) (hb : 1 ≤ b) (hk : 1 ≤ k) : ¬ m * b ^ k ≤ 9223372036854775807 := by
  obtain ⟨j, rfl⟩ : ∃ j, k = j + 1 := ⟨k - 1, by omega⟩
  have h1 : 1 ≤ b ^ j := Nat.pow_pos (by omega)
  have h2 : m * b * 1 ≤ m * b * b ^ j := Nat.mul_le_mul_left _ h1
  rw [Nat.pow_succ, Nat.mul_comm (b ^ j), ← Nat.mul_assoc]
  omega
theorem pow_go {m b k P : Nat} (h : m * b ^ k = P) (hk : 1 ≤ k) : m * b * b ^ (k - 1) = P := by
  obtain ⟨j, rfl⟩ : ∃ j, k = j + 1 := ⟨k - 1, by omega⟩
  rw [Nat.add_sub_cancel, ← h, Nat.pow_succ, Nat.mul_assoc, Nat.mul_comm b]
/-- What the program multiplies: the product, or too great. -/
def mulV (P : Nat) : Nat := if P ≤ 9223372036854775807 then P else 0
def mulB (P : Nat) : Bool := decide (P ≤ 9223372036854775807)
def mulR (P : Nat) : Value := .tuple #[.int .u64 (mulV P), .bool (mulB P)]
theorem mulV_no {P : Nat} (h : ¬ P ≤ 9223372036854775807) : mulV P = 0 := if_neg h
theorem mulV_yes {P : Nat} (h : P ≤ 9223372036854775807) : mulV P = P := if_pos h
theorem mulB_no {P : Nat} (h : ¬ P ≤ 9223372036854775807) : mulB P = false := decide_eq_false h
theorem mulB_yes {P : Nat} (h : P ≤ 9223372036854775807) : mulB P = true := decide_eq_true h
theorem mulR_no {P : Nat} (h : ¬ P ≤ 9223372036854775807) : mulR P = .tuple #[.int .u64 0, .bool false] := by unfold mulR; rw [mulV_no h, mulB_no h]; rfl
theorem mulR_yes {P : Nat} (h : P ≤ 9223372036854775807) : mulR P = .tuple #[.int .u64 (P : Int), .bool true] := by unfold mulR; rw [mulV_yes h, mulB_yes h]
/-- The state of the loop. -/
def RelMul (b P : Nat) (n t : Value) : Prop := ∃ m k : Nat, n = .int .u64 m ∧ t = .int .i64 k ∧ 1 ≤ m ∧ m ≤ 9223372036854775807 ∧ k ≤ 1152921504606846976 ∧ Hid (m * b ^ k = P)
theorem RelMul.mk {b P : Nat} {n t : Value} (m k : Nat) (h1 : n = .int .u64 m) (h2 : t = .int .i64 k) (h3 : 1 ≤ m) (h4 : m ≤ 9223372036854775807) (h5 : k ≤ 1152921504606846976) (h6 : m * b ^ k = P) : RelMul b P n t := ⟨m, k, h1, h2, h3, h4, h5, h6⟩
theorem ret_of {a b : Value} (h : b = a) : Ending.returned a = .returned b := by rw [h]
/-- What is left of n over p^q. -/
theorem strip_go {p n q : Nat} (h : n % p = 0) : strip p n (q + 1) = strip p (n / p) q := by simp only [strip]; rw [if_pos h]
theorem strip_stop {p n q : Nat} (h : n % p ≠ 0) : strip p n q = (n, q) := by
  cases q with
  | zero => rfl
  | succ q => simp only [strip]; rw [if_neg h]
theorem strip_zero (p n : Nat) : strip p n 0 = (n, 0) := rfl
theorem strip_le (p : Nat) (q : Nat) : ∀ n, (strip p n q).1 ≤ n ∧ (strip p n q).2 ≤ q := by
  induction q with
  | zero => intro n; simp [strip]
  | succ q ih =>
    intro n
    simp only [strip]
    split
    · have := ih (n / p)
      have := Nat.div_le_self n p
      omega
    · simp
theorem strip_pos (p : Nat) (hp : 2 ≤ p) (q : Nat) : ∀ n, 1 ≤ n → 1 ≤ (strip p n q).1 := by
  induction q with
  | zero => intro n h; simpa [strip] using h
  | succ q ih =>
    intro n h
    simp only [strip]
    split
    · rename_i g
      refine ih (n / p) ?_
      have : p ≤ n := Nat.le_of_dvd (by omega) (Nat.dvd_of_mod_eq_zero g)
      exact Nat.div_pos this (by omega)
    · exact h
/-- The state of the loop that divides. -/
def RelDiv (p n0 q0 : Nat) (n t : Value) : Prop := ∃ m k : Nat, n = .int .u64 m ∧ t = .int .i64 k ∧ 1 ≤ m ∧ m ≤ 9223372036854775807 ∧ k ≤ 1152921504606846976 ∧ Hid (strip p n0 q0 = strip p m k)
theorem RelDiv.mk {p n0 q0 : Nat} {n t : Value} (m k : Nat) (h1 : n = .int .u64 m) (h2 : t = .int .i64 k) (h3 : 1 ≤ m) (h4 : m ≤ 9223372036854775807) (h5 : k ≤ 1152921504606846976) (h6 : strip p n0 q0 = strip p m k) : RelDiv p n0 q0 n t := ⟨m, k, h1, h2, h3, h4, h5, h6⟩
/-- What the program divides: what is left of the upper part, the lower part, or too great. -/
def divR (n P : Nat) : Value := .tuple #[.int .u64 n, .int .u64 (mulV P), .bool (mulB P)]
theorem rem_nat (m p : Nat) : ((m : Int) % p = 0) ↔ m % p = 0 := by omega
end Go.Proofs.YtlkocepoohhglaaDoor
set_option linter.unusedVariables false
set_option linter.unusedSimpArgs false
namespace Go.Proofs.YtlkocepoohhglaaDoor
open Go.RowKit

/-- A number times a power of ten, as the program tells it. -/
def shN (n : Nat) (p : Int) : Nat := if 0 ≤ p then mulV (n * 10 ^ p.toNat) else if mulB (2 ^ (strip 2 n (-p).toNat).2) then (strip 5 (strip 2 n (-p).toNat).1 (-p).toNat).1 else 0
def shD (n : Nat) (p : Int) : Nat := if 0 ≤ p then 1 else if mulB (2 ^ (strip 2 n (-p).toNat).2) then mulV (mulV (2 ^ (strip 2 n (-p).toNat).2) * 5 ^ (strip 5 (strip 2 n (-p).toNat).1 (-p).toNat).2) else 0
def shB (n : Nat) (p : Int) : Bool := if 0 ≤ p then mulB (n * 10 ^ p.toNat) else if mulB (2 ^ (strip 2 n (-p).toNat).2) then mulB (mulV (2 ^ (strip 2 n (-p).toNat).2) * 5 ^ (strip 5 (strip 2 n (-p).toNat).1 (-p).toNat).2) else false
theorem mulB_iff (P : Nat) : mulB P = true ↔ P ≤ 9223372036854775807 := by simp [mulB]
end Go.Proofs.YtlkocepoohhglaaDoor
