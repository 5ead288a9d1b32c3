/-
  A number with its unit, read as an expression: by the program.
-/
import Derived.Test.YtlkocepoohhglaaDoorLCaF
import Derived.Test.YtlkocepoohhglaaDoorLCaD
import Derived.Test.YtlkocepoohhglaaDoorA03
set_option linter.unusedVariables false
set_option linter.unusedSimpArgs false
namespace Go.Proofs.YtlkocepoohhglaaDoor.cc
open Go.RowKit

theorem bxk_2c {w : World} {b : Nat} {u0 u1 : Value} {T : TypeId} (h : w.heap[b]? = some (.cells #[u0, u1] T)) : w.cell? ⟨b, 0, none⟩ = some u0 ∧ w.cell? ⟨b, 1, none⟩ = some u1 :=
  ⟨by rw [row_blk h]; rfl, by rw [row_blk h]; rfl⟩
theorem bxk_5c {w : World} {b : Nat} {u0 u1 u2 u3 u4 : Value} {T : TypeId} (h : w.heap[b]? = some (.cells #[u0, u1, u2, u3, u4] T)) : w.cell? ⟨b, 0, none⟩ = some u0 ∧ w.cell? ⟨b, 1, none⟩ = some u1 ∧ w.cell? ⟨b, 2, none⟩ = some u2 ∧ w.cell? ⟨b, 3, none⟩ = some u3 ∧ w.cell? ⟨b, 4, none⟩ = some u4 :=
  ⟨by rw [row_blk h]; rfl, by rw [row_blk h]; rfl, by rw [row_blk h]; rfl, by rw [row_blk h]; rfl, by rw [row_blk h]; rfl⟩
/-- An expression's cells are put into a block of its own. -/
def set5 (w : World) (b : Nat) (v0 v1 v2 v3 v4 : Value) : World := ((((w.setCell ⟨b, 0, none⟩ v0).setCell ⟨b, 1, none⟩ v1).setCell ⟨b, 2, none⟩ v2).setCell ⟨b, 3, none⟩ v3).setCell ⟨b, 4, none⟩ v4
theorem set5_eq (w : World) (b : Nat) (v0 v1 v2 v3 v4 : Value) : set5 w b v0 v1 v2 v3 v4 = w.setCells b 0 [v0, v1, v2, v3, v4] := rfl
theorem set5_grown (w : World) (b : Nat) (v0 v1 v2 v3 v4 : Value) : w.grownBy (set5 w b v0 v1 v2 v3 v4) (some b) := setCells_grown b [v0, v1, v2, v3, v4] 0 w
theorem set5_low {w w1 : World} {b : Nat} (h : Below w.heap.size w w1) (hb : w.heap.size ≤ b) (v0 v1 v2 v3 v4 : Value) : Below w.heap.size w (set5 w1 b v0 v1 v2 v3 v4) :=
  h.grown (set5_grown _ _ _ _ _ _ _) h.size (fun k hk => by cases hk; exact hb)
theorem set5_blk {w : World} {b : Nat} {o0 o1 o2 o3 o4 : Value} {T : TypeId} (h : w.heap[b]? = some (.cells #[o0, o1, o2, o3, o4] T)) (v0 v1 v2 v3 v4 : Value) : (set5 w b v0 v1 v2 v3 v4).heap[b]? = some (.cells #[v0, v1, v2, v3, v4] T) := by
  unfold set5
  rw [setCell_blk (setCell_blk (setCell_blk (setCell_blk (setCell_blk h v0) v1) v2) v3) v4]
  rfl
theorem set5_mod {w w1 : World} {g b : Nat} (h : w.grownBy w1 (some g)) (hb : w.heap.size ≤ b) (v0 v1 v2 v3 v4 : Value) : w.grownBy (set5 w1 b v0 v1 v2 v3 v4) (some g) := by
  have G := set5_grown w1 b v0 v1 v2 v3 v4
  exact ⟨G.os.trans h.os, G.tape.trans h.tape, G.output.trans h.output, Nat.le_trans h.size G.size, fun k hk hne => (G.block k (Nat.lt_of_lt_of_le hk h.size) (by intro e; cases e; omega)).trans (h.block k hk hne)⟩
theorem set5_far {w : World} {b k : Nat} (hk : k ≠ b) (v0 v1 v2 v3 v4 : Value) (hl : k < w.heap.size) : (set5 w b v0 v1 v2 v3 v4).heap[k]? = w.heap[k]? :=
  (set5_grown w b v0 v1 v2 v3 v4).block k hl (by intro e; cases e; exact hk rfl)
theorem set5_cu {W w1 : World} {g b : Nat} {l : List VT} (h : Cu W w1 g l) (hb : b ≠ g) (hW : W.heap.size ≤ b) (v0 v1 v2 v3 v4 : Value) : Cu W (set5 w1 b v0 v1 v2 v3 v4) g l := by
  obtain ⟨v, c1, c2, c3, c4⟩ := h
  have G := set5_grown w1 b v0 v1 v2 v3 v4
  exact ⟨v, (set5_far (Ne.symm hb) v0 v1 v2 v3 v4 (Array.getElem?_eq_some_iff.1 c1).1).trans c1, c2, c3, c4.grown G c4.size (fun k hk => by cases hk; exact hW)⟩
/-- A call's end that tells an expression, put just now. -/
theorem ret5 {fn : Func} {R : Ending → World → Prop} {a : Act} {w1 : World} {t u : Tmp} {b : Nat} {o0 o1 o2 o3 o4 v0 v1 v2 v3 v4 v : Value} {T : TypeId} (hf : fn.results = #[.cell t 26, .tmp u]) (ht : a.tmps.getD t undef = .pointer (some ⟨b, 0, none⟩)) (hv : a.tmps.getD u undef = v)
    (P : w1.heap[b]? = some (.cells #[o0, o1, o2, o3, o4] T)) (hd : a.defers = []) (h : R (.returned (.tuple #[.agg #[v0, v1, v2, v3, v4], v])) (set5 w1 b v0 v1 v2 v3 v4)) : bodyPost Tryd.prog fn R .ret a (set5 w1 b v0 v1 v2 v3 v4) :=
  ret_cell2 (b := b) (cs := [v0, v1, v2, v3, v4]) hf ht hv (range_blk (set5_blk P v0 v1 v2 v3 v4)) Tryd.underlying26 rfl (by kernel_rfl) hd h
theorem ret5s {fn : Func} {R : Ending → World → Prop} {a : Act} {w1 : World} {t : Tmp} {b : Nat} {o0 o1 o2 o3 o4 v0 v1 v2 v3 v4 : Value} {T : TypeId} (hf : fn.results = #[.cell t 26]) (ht : a.tmps.getD t undef = .pointer (some ⟨b, 0, none⟩))
    (P : w1.heap[b]? = some (.cells #[o0, o1, o2, o3, o4] T)) (hd : a.defers = []) (h : R (.returned (.agg #[v0, v1, v2, v3, v4])) (set5 w1 b v0 v1 v2 v3 v4)) : bodyPost Tryd.prog fn R .ret a (set5 w1 b v0 v1 v2 v3 v4) :=
  ret_cell (b := b) (cs := [v0, v1, v2, v3, v4]) hf ht (range_blk (set5_blk P v0 v1 v2 v3 v4)) Tryd.underlying26 rfl (by kernel_rfl) hd h
def z5 : Obj := .cells #[.int .i64 0, .int .i64 0, .int .i64 0, .int .i64 0, .slice none 0 0] 26
theorem far_blk {w w1 : World} {b : Nat} {o : Obj} (h : w.heap[b]? = some o) (B : Below w.heap.size w w1) : w1.heap[b]? = some o := (B.block _ (Array.getElem?_eq_some_iff.1 h).1).trans h
theorem below_of_drew {w w1 : World} {q : Nat} (h : w1 = w.drewN q) : Below w.heap.size w w1 := by rw [h]; exact below_drewN (Below.refl _ _) q
theorem more_blk {w : World} {b : Nat} {o : Obj} (h : w.heap[b]? = some o) (p : Obj) : (w.alloc p).heap[b]? = some o := far_blk h (bplus (Below.refl _ _) p)
set_option maxRecDepth 100000 in
set_option maxHeartbeats 2000000 in
theorem number_ok (n d u : Int) (w : World) (n1 : -9223372036854775808 ≤ n) (n2 : n ≤ 9223372036854775807) (d1 : -9223372036854775808 ≤ d) (d2 : d ≤ 9223372036854775807) (hm : mayB n d = true) :
    Calls Tryd.prog 52 #[.agg #[.int .i64 n, .int .i64 d], .int .i64 u] w fun e w' => e = .returned (.agg #[.int .i64 1, .int .i64 n, .int .i64 d, .int .i64 u, .slice none 0 0]) ∧ Below w.heap.size w w' := by
  have C := hide (fun (W : World) => may_any n d W n1 n2 d1 d2)
  rw [hm] at C
  have PQ := hide (more_blk (heap_alloc_new w (.cells #[.int .i64 n, .int .i64 d] 23)) z5)
  have PR := hide (heap_alloc_new (w.alloc (.cells #[.int .i64 n, .int .i64 d] 23)) z5)
  have HB := hide (bplus (bplus (Below.refl w.heap.size w) (.cells #[.int .i64 n, .int .i64 d] 23)) z5)
  have nR := (show (w.alloc (.cells #[.int .i64 n, .int .i64 d] 23)).heap.size = w.heap.size + 1 by simp)
  rw [nR] at PR
  unfold z5 at PQ PR HB
  clear nR hm
  go_enter Tryd.func52, Tryd.ntmps52
  go_wp2_with (go_at_call 24; refine (C.out _).mono ?_; rintro e w1 ⟨rfl, U1⟩; replace PQ := hide (far_blk PQ.out U1.1); replace PR := hide (far_blk PR.out U1.1); replace HB := hide (bto HB.out U1.1); obtain ⟨q0, q1⟩ := bxk_2c PQ.out; obtain ⟨r0, r1, r2, r3, r4⟩ := bxk_5c PR.out; have fz := fz_of PR.out; clear U1 C)
  exact ret5s (v0 := .int .i64 1) (v1 := .int .i64 n) (v2 := .int .i64 d) (v3 := .int .i64 u) (v4 := .slice none 0 0) Tryd.results52 rfl PR.out rfl ⟨rfl, set5_low HB.out (by omega) _ _ _ _ _⟩
/-- A number with a unit. -/
def dimT (s : ByteArray) (n d : Int) : TS := ⟨12, s, n, d, true, false⟩
set_option maxRecDepth 100000 in
set_option maxHeartbeats 4000000 in
theorem expr_dim (k : Int) (s : ByteArray) (n d : Int) (i h : Bool) (a : Option Addr) (m c : Nat) (w : World) (hs : s.size ≤ 1000000000) (hU : Uni w) (hk : (unB s : Int) = k) (hk0 : ¬ k = 0) (n1 : -9223372036854775808 ≤ n) (n2 : n ≤ 9223372036854775807) (d1 : -9223372036854775808 ≤ d) (d2 : d ≤ 9223372036854775807) (hm : mayB n d = true) :
    Calls Tryd.prog 46 #[.agg #[.int .i64 12, .string s, .int .i64 n, .int .i64 d, .bool i, .bool h, .slice a m c]] w fun e w' => e = .returned (.tuple #[.agg #[.int .i64 1, .int .i64 n, .int .i64 d, .int .i64 k, .slice none 0 0], .bool true]) ∧ Below w.heap.size w w' := by
  have C1 := hide (fun (W : World) (hU : Uni W) => unitP_any s W hs hU)
  rw [hk] at C1
  have C2 := hide (fun (W : World) => number_ok n d k W n1 n2 d1 d2 hm)
  have hk1 : (k == 0) = false := by simpa using hk0
  have PQ := hide (more_blk (heap_alloc_new w (.cells #[.int .i64 12, .string s, .int .i64 n, .int .i64 d, .bool i, .bool h, .slice a m c] 68)) z5)
  have PR := hide (heap_alloc_new (w.alloc (.cells #[.int .i64 12, .string s, .int .i64 n, .int .i64 d, .bool i, .bool h, .slice a m c] 68)) z5)
  have HB := hide (bplus (bplus (Below.refl w.heap.size w) (.cells #[.int .i64 12, .string s, .int .i64 n, .int .i64 d, .bool i, .bool h, .slice a m c] 68)) z5)
  have nR := (show (w.alloc (.cells #[.int .i64 12, .string s, .int .i64 n, .int .i64 d, .bool i, .bool h, .slice a m c] 68)).heap.size = w.heap.size + 1 by simp)
  rw [nR] at PR
  have HU := hide (hU.below HB.out)
  unfold z5 at PQ PR HB HU
  clear nR hm hU hk
  go_enter Tryd.func46, Tryd.ntmps46
  go_wp2_with (first
    | (go_at_call 9; refine (C1.out _ HU.out).mono ?_; rintro e w1 ⟨rfl, q, hw1⟩; have B1 := below_of_drew hw1; replace PQ := hide (far_blk PQ.out B1); replace PR := hide (far_blk PR.out B1); replace HB := hide (bto HB.out B1); obtain ⟨y0, y1, y2, y3, y4, y5, y6⟩ := bxk_7 PQ.out; clear B1 hw1 C1)
    | (go_at_call 52; refine (C2.out _).mono ?_; rintro e w2 ⟨rfl, B1⟩; replace PR := hide (far_blk PR.out B1); replace HB := hide (bto HB.out B1); obtain ⟨r0, r1, r2, r3, r4⟩ := bxk_5c PR.out; have fz := fz_of PR.out; clear B1 C2))
  exact ret5 (v0 := .int .i64 1) (v1 := .int .i64 n) (v2 := .int .i64 d) (v3 := .int .i64 k) (v4 := .slice none 0 0) (v := .bool true) Tryd.results46 rfl rfl PR.out rfl ⟨rfl, set5_low HB.out (by omega) _ _ _ _ _⟩
end Go.Proofs.YtlkocepoohhglaaDoor.cc
