/-
  Operands and products, read: by the program.
-/
import Derived.Test.YtlkocepoohhglaaDoorLCaG
set_option linter.unusedVariables false
set_option linter.unusedSimpArgs false
namespace Go.Proofs.YtlkocepoohhglaaDoor.cc
open Go.RowKit

theorem Cu.uni {W wr : World} {g : Nat} {l : List VT} (h : Cu W wr g l) (hU : Uni W) : Uni wr := by
  obtain ⟨_, _, _, _, B⟩ := h
  exact hU.below B
theorem Cu.wid {W wr : World} {g : Nat} {l : List VT} (h : Cu W wr g l) : W.heap.size ≤ wr.heap.size := by
  obtain ⟨_, _, _, _, B⟩ := h
  exact B.size
theorem keepM {w w1 : World} {b r : Nat} {o : Obj} (h : w.heap[r]? = some o) (hr : r ≠ b) (m : w.grownBy w1 (some b)) : w1.heap[r]? = some o :=
  (m.block r (Array.getElem?_eq_some_iff.1 h).1 (by intro e; cases e; exact hr rfl)).trans h
set_option maxRecDepth 100000 in
set_option maxHeartbeats 4000000 in
theorem operand_dim (W w : World) (g : Nat) (k : Int) (s : ByteArray) (n d : Int) (i h : Bool) (ks r : List VT) (hC : Cu W w g (.mk ⟨12, s, n, d, i, h⟩ ks :: r)) (hs : s.size ≤ 1000000000) (hU : Uni W) (hk : (unB s : Int) = k) (hk0 : ¬ k = 0) (n1 : -9223372036854775808 ≤ n) (n2 : n ≤ 9223372036854775807) (d1 : -9223372036854775808 ≤ d) (d2 : d ≤ 9223372036854775807) (hm : mayB n d = true) :
    Calls Tryd.prog 97 #[.pointer (some ⟨g, 0, none⟩)] w fun e w' => e = .returned (.tuple #[.agg #[.int .i64 1, .int .i64 n, .int .i64 d, .int .i64 k, .slice none 0 0], .bool true]) ∧ Cu W w' g r ∧ w.grownBy w' (some g) := by
  have hg := hC.lt
  have gw := hC.wid
  have C1 := hide (fun (w1 : World) (h1 : Cu W w1 g (.mk ⟨12, s, n, d, i, h⟩ ks :: r)) => takeC_cons W w1 g _ ks r h1)
  have C2 := hide (fun (w1 : World) (h1 : Cu W w1 g r) (a : Option Addr) (m c : Nat) => expr_dim k s n d i h a m c w1 hs (h1.uni hU) hk hk0 n1 n2 d1 d2 hm)
  simp only at C1
  have PR := hide (heap_alloc_new w z5)
  have HC := hide (hC.low (bplus (Below.refl _ _) z5))
  have HM := hide (Mod.of g (bplus (Below.refl w.heap.size w) z5))
  have ng : w.heap.size ≠ g := by omega
  unfold z5 at PR HC HM
  clear hC hm hk hU
  go_enter Tryd.func97, Tryd.ntmps97
  go_wp2_with (first
    | (go_at_call 44; refine (C1.out _ HC.out).mono ?_; rintro e w1 ⟨ka, kn, kc, rfl, -, D1, M1⟩; replace PR := hide (more_blk (keepM PR.out ng M1) (.cells #[.int .i64 12, .string s, .int .i64 n, .int .i64 d, .bool i, .bool h, .slice ka kn kc] 68)); replace HC := hide (D1.low (bplus (Below.refl _ _) (.cells #[.int .i64 12, .string s, .int .i64 n, .int .i64 d, .bool i, .bool h, .slice ka kn kc] 68))); replace HM := hide (Mod.trans (Mod.trans HM.out M1) (Mod.of g (bplus (Below.refl _ _) (.cells #[.int .i64 12, .string s, .int .i64 n, .int .i64 d, .bool i, .bool h, .slice ka kn kc] 68)))); clear D1 M1 C1)
    | (go_at_call 46; refine (C2.out _ HC.out _ _ _).mono ?_; rintro e w2 ⟨rfl, B1⟩; replace PR := hide (far_blk PR.out B1); replace HC := hide (HC.out.low B1); replace HM := hide (Mod.trans HM.out (Mod.of g B1)); obtain ⟨r0, r1, r2, r3, r4⟩ := bxk_5c PR.out; have fz := fz_of PR.out; clear B1 C2))
  exact ret5 (v0 := .int .i64 1) (v1 := .int .i64 n) (v2 := .int .i64 d) (v3 := .int .i64 k) (v4 := .slice none 0 0) (v := .bool true) Tryd.results97 rfl rfl PR.out rfl ⟨rfl, set5_cu HC.out ng gw _ _ _ _ _, set5_mod HM.out (Nat.le_refl _) _ _ _ _ _⟩
/-- The box of a cursor's pointer. -/
def Bx (w : World) (q g : Nat) : Prop := w.heap[q]? = some (.cells #[.pointer (some ⟨g, 0, none⟩)] 72)
theorem Bx.low {w w1 : World} {q g : Nat} (h : Bx w q g) (B : Below w.heap.size w w1) : Bx w1 q g := far_blk h B
theorem Bx.mod {w w1 : World} {q g : Nat} (h : Bx w q g) (hq : q ≠ g) (M : w.grownBy w1 (some g)) : Bx w1 q g := keepM h hq M
theorem Bx.cell {w : World} {q g : Nat} (h : Bx w q g) : w.cell? ⟨q, 0, none⟩ = some (.pointer (some ⟨g, 0, none⟩)) := by rw [row_blk h]; rfl
set_option maxRecDepth 100000 in
set_option maxHeartbeats 4000000 in
theorem productF_dim (W w : World) (q g : Nat) (k : Int) (s : ByteArray) (n d : Int) (i h : Bool) (ks r : List VT) (hB : Bx w q g) (hC : Cu W w g (.mk ⟨12, s, n, d, i, h⟩ ks :: r)) (hs : s.size ≤ 1000000000) (hU : Uni W) (hk : (unB s : Int) = k) (hk0 : ¬ k = 0) (n1 : -9223372036854775808 ≤ n) (n2 : n ≤ 9223372036854775807) (d1 : -9223372036854775808 ≤ d) (d2 : d ≤ 9223372036854775807) (hm : mayB n d = true) :
    Calls Tryd.prog 96 #[.pointer (some ⟨q, 0, none⟩)] w fun e w' => e = .returned (.tuple #[.agg #[.int .i64 1, .int .i64 n, .int .i64 d, .int .i64 k, .slice none 0 0], .bool true]) ∧ Cu W w' g r ∧ w.grownBy w' (some g) := by
  have hg := hC.lt
  have gw := hC.wid
  have C1 := hide (fun (w1 : World) (h1 : Cu W w1 g (.mk ⟨12, s, n, d, i, h⟩ ks :: r)) => operand_dim W w1 g k s n d i h ks r h1 hs hU hk hk0 n1 n2 d1 d2 hm)
  have PR := hide (heap_alloc_new w z5)
  have HC := hide (hC.low (bplus (Below.refl _ _) z5))
  have HM := hide (Mod.of g (bplus (Below.refl w.heap.size w) z5))
  have c0 := (hB.low (bplus (Below.refl _ _) z5)).cell
  have ng : w.heap.size ≠ g := by omega
  have nq : q ≠ w.heap.size := by have := (Array.getElem?_eq_some_iff.1 hB).1; omega
  have c1 := hB.cell
  unfold z5 at PR HC HM c0
  clear hC hm hk hU hB
  go_enter Tryd.func96, Tryd.ntmps96
  go_wp2_with (go_at_call 97; refine (C1.out _ HC.out).mono ?_; rintro e w1 ⟨rfl, D1, M1⟩; replace PR := hide (keepM PR.out ng M1); replace HC := hide D1; replace HM := hide (Mod.trans HM.out M1); obtain ⟨r0, r1, r2, r3, r4⟩ := bxk_5c PR.out; have fz := fz_of PR.out; clear D1 M1 C1)
  exact ret5 (v0 := .int .i64 1) (v1 := .int .i64 n) (v2 := .int .i64 d) (v3 := .int .i64 k) (v4 := .slice none 0 0) (v := .bool true) Tryd.results96 rfl rfl PR.out rfl ⟨rfl, set5_cu HC.out ng gw _ _ _ _ _, set5_mod HM.out (Nat.le_refl _) _ _ _ _ _⟩
theorem productF_op (W w : World) (q g : Nat) (l : List VT) (hB : Bx w q g) (hC : Cu W w g l) :
    Calls Tryd.prog 98 #[.pointer (some ⟨q, 0, none⟩)] w fun e w' => e = .returned (.tuple #[.bool (opB ⟨#[42]⟩ ⟨#[47]⟩ false l).1, .bool (opB ⟨#[42]⟩ ⟨#[47]⟩ false l).2.1]) ∧ Cu W w' g (opB ⟨#[42]⟩ ⟨#[47]⟩ false l).2.2 ∧ w.grownBy w' (some g) := by
  have C1 := hide (operator_any ⟨#[42]⟩ ⟨#[47]⟩ false W w g l hC)
  have c0 := hB.cell
  clear hC hB
  generalize opB ⟨#[42]⟩ ⟨#[47]⟩ false l = o at *
  go_enter Tryd.func98, Tryd.ntmps98
  go_wp2_with (go_at_call 93; refine C1.out.mono ?_; rintro e w1 ⟨rfl, D1, M1⟩; have HC := hide D1; have HM := hide M1; clear D1 M1 C1)
  go_ret2
  exact ⟨rfl, HC.out, HM.out⟩
theorem sumF_op (W w : World) (q g : Nat) (l : List VT) (hB : Bx w q g) (hC : Cu W w g l) :
    Calls Tryd.prog 92 #[.pointer (some ⟨q, 0, none⟩)] w fun e w' => e = .returned (.tuple #[.bool (opB ⟨#[43]⟩ ⟨#[45]⟩ true l).1, .bool (opB ⟨#[43]⟩ ⟨#[45]⟩ true l).2.1]) ∧ Cu W w' g (opB ⟨#[43]⟩ ⟨#[45]⟩ true l).2.2 ∧ w.grownBy w' (some g) := by
  have C1 := hide (operator_any ⟨#[43]⟩ ⟨#[45]⟩ true W w g l hC)
  have c0 := hB.cell
  clear hC hB
  generalize opB ⟨#[43]⟩ ⟨#[45]⟩ true l = o at *
  go_enter Tryd.func92, Tryd.ntmps92
  go_wp2_with (go_at_call 93; refine C1.out.mono ?_; rintro e w1 ⟨rfl, D1, M1⟩; have HC := hide D1; have HM := hide M1; clear D1 M1 C1)
  go_ret2
  exact ⟨rfl, HC.out, HM.out⟩
set_option maxRecDepth 100000 in
set_option maxHeartbeats 4000000 in
/-- One operand alone, and no operator behind it. -/
theorem chainP_one (W w : World) (q g : Nat) (k : Int) (s : ByteArray) (n d : Int) (i h : Bool) (ks r : List VT) (hB : Bx w q g) (hqg : q ≠ g) (hC : Cu W w g (.mk ⟨12, s, n, d, i, h⟩ ks :: r)) (hop : opB ⟨#[42]⟩ ⟨#[47]⟩ false r = (false, false, r)) (hs : s.size ≤ 1000000000) (hU : Uni W) (hk : (unB s : Int) = k) (hk0 : ¬ k = 0) (n1 : -9223372036854775808 ≤ n) (n2 : n ≤ 9223372036854775807) (d1 : -9223372036854775808 ≤ d) (d2 : d ≤ 9223372036854775807) (hm : mayB n d = true) :
    Calls Tryd.prog 89 #[.int .i64 4, .int .i64 5, .func (.func 96) #[] #[.pointer (some ⟨q, 0, none⟩)], .func (.func 98) #[] #[.pointer (some ⟨q, 0, none⟩)]] w fun e w' => e = .returned (.tuple #[.agg #[.int .i64 1, .int .i64 n, .int .i64 d, .int .i64 k, .slice none 0 0], .bool true]) ∧ Cu W w' g r ∧ w.grownBy w' (some g) := by
  have hg := hC.lt
  have gw := hC.wid
  have C1 := hide (fun (w1 : World) (hB : Bx w1 q g) (h1 : Cu W w1 g (.mk ⟨12, s, n, d, i, h⟩ ks :: r)) => productF_dim W w1 q g k s n d i h ks r hB h1 hs hU hk hk0 n1 n2 d1 d2 hm)
  have C2 := hide (fun (w1 : World) (hB : Bx w1 q g) (h1 : Cu W w1 g r) => productF_op W w1 q g r hB h1)
  rw [hop] at C2
  simp only at C2
  have PR := hide (heap_alloc_new w z5)
  have HC := hide (hC.low (bplus (Below.refl _ _) z5))
  have HM := hide (Mod.of g (bplus (Below.refl w.heap.size w) z5))
  have HX := hide (hB.low (bplus (Below.refl w.heap.size w) z5))
  have ng : w.heap.size ≠ g := by omega
  unfold z5 at PR HC HM HX
  clear hC hm hk hU hB hop
  go_enter Tryd.func89, Tryd.ntmps89
  go_wp2_with (first
    | (go_at_call 96; refine (C1.out _ HX.out HC.out).mono ?_; rintro e w1 ⟨rfl, D1, M1⟩; replace PR := hide (keepM PR.out ng M1); replace HX := hide (HX.out.mod hqg M1); have PF := hide (heap_alloc_new w1 (.cells #[.int .i64 1, .int .i64 n, .int .i64 d, .int .i64 k, .slice none 0 0] 26)); have nf : w1.heap.size ≠ g := Nat.ne_of_gt D1.lt; replace HC := hide D1; replace HM := hide (Mod.trans HM.out M1); clear D1 M1 C1)
    | (go_at_call 98; refine (C2.out _ (HX.out.low (bplus (bplus (Below.refl _ _) _) _)) (HC.out.low (bplus (bplus (Below.refl _ _) _) _))).mono ?_; rintro e w2 ⟨rfl, D2, M2⟩; replace PR := hide (keepM (more_blk (more_blk PR.out _) _) ng M2); replace PF := hide (keepM (more_blk PF.out _) nf M2); replace HC := hide D2; replace HM := hide (Mod.trans (Mod.trans HM.out (Mod.of g (bplus (bplus (Below.refl _ _) _) _))) M2); obtain ⟨r0, r1, r2, r3, r4⟩ := bxk_5c PR.out; have fz := fz_of PR.out; obtain ⟨f0, f1, f2, f3, f4⟩ := bxk_5c PF.out; clear D2 M2 C2))
  refine wp_loop_rounds 1 ?_
  rw [rounds_succ]
  go_wp2
  exact ret5 (v0 := .int .i64 1) (v1 := .int .i64 n) (v2 := .int .i64 d) (v3 := .int .i64 k) (v4 := .slice none 0 0) (v := .bool true) Tryd.results89 rfl rfl PR.out rfl ⟨rfl, set5_cu HC.out ng gw _ _ _ _ _, set5_mod HM.out (Nat.le_refl _) _ _ _ _ _⟩
set_option maxRecDepth 100000 in
set_option maxHeartbeats 4000000 in
theorem product_one (W w : World) (g : Nat) (k : Int) (s : ByteArray) (n d : Int) (i h : Bool) (ks r : List VT) (hC : Cu W w g (.mk ⟨12, s, n, d, i, h⟩ ks :: r)) (hop : opB ⟨#[42]⟩ ⟨#[47]⟩ false r = (false, false, r)) (hs : s.size ≤ 1000000000) (hU : Uni W) (hk : (unB s : Int) = k) (hk0 : ¬ k = 0) (n1 : -9223372036854775808 ≤ n) (n2 : n ≤ 9223372036854775807) (d1 : -9223372036854775808 ≤ d) (d2 : d ≤ 9223372036854775807) (hm : mayB n d = true) :
    Calls Tryd.prog 91 #[.pointer (some ⟨g, 0, none⟩)] w fun e w' => e = .returned (.tuple #[.agg #[.int .i64 1, .int .i64 n, .int .i64 d, .int .i64 k, .slice none 0 0], .bool true]) ∧ Cu W w' g r ∧ w.grownBy w' (some g) := by
  have hg := hC.lt
  have gw := hC.wid
  have C1 := hide (fun (w1 : World) (hB : Bx w1 w.heap.size g) (h1 : Cu W w1 g (.mk ⟨12, s, n, d, i, h⟩ ks :: r)) => chainP_one W w1 w.heap.size g k s n d i h ks r hB (by omega) h1 hop hs hU hk hk0 n1 n2 d1 d2 hm)
  have nR := (show (w.alloc (.cells #[.pointer (some ⟨g, 0, none⟩)] 72)).heap.size = w.heap.size + 1 by simp)
  have PR := hide (heap_alloc_new (w.alloc (.cells #[.pointer (some ⟨g, 0, none⟩)] 72)) z5)
  rw [nR] at PR
  have HC := hide (hC.low (bplus (bplus (Below.refl _ _) (.cells #[.pointer (some ⟨g, 0, none⟩)] 72)) z5))
  have HM := hide (Mod.of g (bplus (bplus (Below.refl w.heap.size w) (.cells #[.pointer (some ⟨g, 0, none⟩)] 72)) z5))
  have HX := hide (show Bx _ w.heap.size g from more_blk (heap_alloc_new w (.cells #[.pointer (some ⟨g, 0, none⟩)] 72)) z5)
  have ng : w.heap.size + 1 ≠ g := by omega
  unfold z5 at PR HC HM HX
  clear hC hm hk hU hop nR
  go_enter Tryd.func91, Tryd.ntmps91
  go_wp2_with (go_at_call 89; refine (C1.out _ HX.out HC.out).mono ?_; rintro e w1 ⟨rfl, D1, M1⟩; replace PR := hide (keepM PR.out ng M1); replace HC := hide D1; replace HM := hide (Mod.trans HM.out M1); obtain ⟨r0, r1, r2, r3, r4⟩ := bxk_5c PR.out; have fz := fz_of PR.out; clear D1 M1 C1)
  exact ret5 (v0 := .int .i64 1) (v1 := .int .i64 n) (v2 := .int .i64 d) (v3 := .int .i64 k) (v4 := .slice none 0 0) (v := .bool true) Tryd.results91 rfl rfl PR.out rfl ⟨rfl, set5_cu HC.out ng (by omega) _ _ _ _ _, set5_mod HM.out (by omega) _ _ _ _ _⟩
set_option maxRecDepth 100000 in
set_option maxHeartbeats 4000000 in
theorem sumF_one (W w : World) (q g : Nat) (k : Int) (s : ByteArray) (n d : Int) (i h : Bool) (ks r : List VT) (hB : Bx w q g) (hC : Cu W w g (.mk ⟨12, s, n, d, i, h⟩ ks :: r)) (hop : opB ⟨#[42]⟩ ⟨#[47]⟩ false r = (false, false, r)) (hs : s.size ≤ 1000000000) (hU : Uni W) (hk : (unB s : Int) = k) (hk0 : ¬ k = 0) (n1 : -9223372036854775808 ≤ n) (n2 : n ≤ 9223372036854775807) (d1 : -9223372036854775808 ≤ d) (d2 : d ≤ 9223372036854775807) (hm : mayB n d = true) :
    Calls Tryd.prog 90 #[.pointer (some ⟨q, 0, none⟩)] w fun e w' => e = .returned (.tuple #[.agg #[.int .i64 1, .int .i64 n, .int .i64 d, .int .i64 k, .slice none 0 0], .bool true]) ∧ Cu W w' g r ∧ w.grownBy w' (some g) := by
  have hg := hC.lt
  have gw := hC.wid
  have C1 := hide (fun (w1 : World) (h1 : Cu W w1 g (.mk ⟨12, s, n, d, i, h⟩ ks :: r)) => product_one W w1 g k s n d i h ks r h1 hop hs hU hk hk0 n1 n2 d1 d2 hm)
  have PR := hide (heap_alloc_new w z5)
  have HC := hide (hC.low (bplus (Below.refl _ _) z5))
  have HM := hide (Mod.of g (bplus (Below.refl w.heap.size w) z5))
  have c0 := (hB.low (bplus (Below.refl _ _) z5)).cell
  have ng : w.heap.size ≠ g := by omega
  have nq : q ≠ w.heap.size := by have := (Array.getElem?_eq_some_iff.1 hB).1; omega
  have c1 := hB.cell
  unfold z5 at PR HC HM c0
  clear hC hm hk hU hB hop
  go_enter Tryd.func90, Tryd.ntmps90
  go_wp2_with (go_at_call 91; refine (C1.out _ HC.out).mono ?_; rintro e w1 ⟨rfl, D1, M1⟩; replace PR := hide (keepM PR.out ng M1); replace HC := hide D1; replace HM := hide (Mod.trans HM.out M1); obtain ⟨r0, r1, r2, r3, r4⟩ := bxk_5c PR.out; have fz := fz_of PR.out; clear D1 M1 C1)
  exact ret5 (v0 := .int .i64 1) (v1 := .int .i64 n) (v2 := .int .i64 d) (v3 := .int .i64 k) (v4 := .slice none 0 0) (v := .bool true) Tryd.results90 rfl rfl PR.out rfl ⟨rfl, set5_cu HC.out ng gw _ _ _ _ _, set5_mod HM.out (Nat.le_refl _) _ _ _ _ _⟩
end Go.Proofs.YtlkocepoohhglaaDoor.cc
