/-
  Plain: what each call tells may be; operations of fractions, run once more.
-/
import Derived.Test.YthnkaimhmldjoaaDoorLowA
import Derived.Test.YthnkaimhmldjoaaDoorWalksX
import Derived.Test.YthnkaimhmldjoaaDoorRegD
set_option linter.unusedVariables false
set_option linter.unusedSimpArgs false
namespace Go.Proofs.YthnkaimhmldjoaaDoor
open Go.RowKit

def Good (p : Int × Int) : Prop := mayB p.1 p.2 = true ∧ I64 p.1 ∧ I64 p.2
theorem may0 : mayB 0 0 = true := by decide
theorem i0 : I64 0 := by unfold I64; omega
theorem good0 : Good (0, 0) := ⟨may0, i0, i0⟩
theorem add_may (n d m e : Int) : mayB (addN n d m e) (addD n d m e) = true := by
  unfold addN addD
  cases h : (isV n d && isV m e) with
  | false => exact may0
  | true =>
    rw [Bool.and_eq_true] at h
    have h1 := isV_den h.1
    have h2 := isV_den h.2
    exact low_may _ (mg_pos (Int.mul_nonneg (ab_nn _) (by omega)) (Int.mul_nonneg (ab_nn _) (by omega)))
theorem mul_may (n d m e : Int) : mayB (mulN n d m e) (mulD n d m e) = true := by
  unfold mulN mulD
  cases h : (isV n d && isV m e) with
  | false => exact may0
  | true => exact low_may _ (Int.mul_nonneg (ab_nn _) (ab_nn _))
theorem div_good (n d m e : Int) : Good (divN n d m e, divD n d m e) := by
  unfold divN divD
  cases h : (isV n d && isV m e && (m != 0)) with
  | false => exact good0
  | true =>
    rw [Bool.and_eq_true, Bool.and_eq_true] at h
    have h1 := isV_den h.1.1
    have h2 := isV_den h.1.2
    have hp : 0 ≤ ab n * e := Int.mul_nonneg (ab_nn _) (by omega)
    have hq : 0 ≤ d * ab m := Int.mul_nonneg (by omega) (ab_nn _)
    exact ⟨low_may _ hp, low_I64 _ hp hq⟩
theorem neg_good {n d : Int} (hn : I64 n) (hd : I64 d) : Good (ngN n d, ngD n d) := by
  refine ⟨?_, ng_I64 hn hd⟩
  unfold ngN ngD
  cases h : isV n d with
  | false => exact may0
  | true =>
    show mayB (-n) d = true
    unfold mayB
    rw [turn_isV hn h]; simp
theorem sub_good (n d m e : Int) : Good (sbN n d m e, sbD n d m e) := ⟨add_may _ _ _ _, add_I64' _ _ _ _⟩
theorem add2_good (x y : Int × Int) : Good (addAll [x, y]) := ⟨add_may _ _ _ _, add_I64' _ _ _ _⟩
theorem add1_good (x : Int × Int) : Good (addAll [x]) := ⟨add_may _ _ _ _, add_I64' _ _ _ _⟩
theorem mul2_good (x y : Int × Int) : Good (mulAll [x, y]) := ⟨mul_may _ _ _ _, mul_I64' _ _ _ _⟩
theorem mul1_good (x : Int × Int) : Good (mulAll [x]) := ⟨mul_may _ _ _ _, mul_I64' _ _ _ _⟩
theorem utS_good {k : Int} {o : Option (Int × Int)} {r z : Int × Int} (h : utS k o r = some z) : isV z.1 z.2 = true ∧ (z = r ∨ o = some z) := by
  unfold utS at h
  cases o with
  | none => cases h
  | some b =>
    simp only [Option.bind_some] at h
    split at h
    · rename_i hv
      rw [Bool.and_eq_true] at hv
      have h := Option.some.inj h
      split at h
      · subst h; exact ⟨hv.1, .inl rfl⟩
      · subst h; exact ⟨hv.2, .inr rfl⟩
    · cases h
theorem ut_good (k : Int) {a b : Int × Int} (ia : I64 a.1 ∧ I64 a.2) (ib : I64 b.1 ∧ I64 b.2) : Good (utAll k [a, b]) := by
  show Good ((utS k (utS k (some a) a) b).getD (0, 0))
  cases h : utS k (utS k (some a) a) b with
  | none => exact good0
  | some z =>
    obtain ⟨v, h1⟩ := utS_good h
    refine ⟨by show mayB z.1 z.2 = true; unfold mayB; rw [v]; simp, ?_⟩
    show I64 z.1 ∧ I64 z.2
    rcases h1 with rfl | h1
    · exact ib
    · obtain ⟨_, h2⟩ := utS_good h1
      rcases h2 with rfl | h2
      · exact ia
      · obtain rfl := Option.some.inj h2
        exact ia
theorem mk_lowp (s : Bool) {P Q : Int} (hQ : 0 < Q) : mkN s (P / gc P Q) (Q / gc P Q) = lowN s P Q ∧ mkD (P / gc P Q) (Q / gc P Q) = lowD P Q := by
  have h : fits P Q = decide (P / gc P Q ≤ 9223372036854775807 ∧ Q / gc P Q ≤ 9223372036854775807) := by
    unfold fits
    rw [decide_eq_true hQ, Bool.true_and, ← Bool.decide_and]
  unfold mkN mkD lowN lowD
  rw [h]
  by_cases c : P / gc P Q ≤ 9223372036854775807 ∧ Q / gc P Q ≤ 9223372036854775807
  · rw [if_pos c, if_pos c, decide_eq_true c]; exact ⟨rfl, rfl⟩
  · rw [if_neg c, if_neg c, decide_eq_false c]; exact ⟨rfl, rfl⟩
def ofP (n d : Int) : Int × Int := if d = 0 then (0, 0) else (lowN (ng n d) (ab n) (ab d), lowD (ab n) (ab d))
theorem ofP_any (n d : Int) (w : World) (hn : I64 n) (hd : I64 d) :
    Calls Tryd.prog 15 #[.int .i64 n, .int .i64 d] w fun e w' => e = .returned (.agg #[.int .i64 (ofP n d).1, .int .i64 (ofP n d).2]) ∧ Up w w' := by
  by_cases h : d = 0
  · subst h; exact of_zero n w
  · have q : 0 < ab d := by unfold ab; split <;> omega
    obtain ⟨e1, e2⟩ := mk_lowp (ng n d) (P := ab n) q
    have := of_any n d w hn.1 hn.2 hd.1 hd.2 h
    rw [e1, e2] at this
    unfold ofP
    rw [if_neg h]
    exact this
theorem ofP_good (n d : Int) : Good (ofP n d) := by
  unfold ofP
  split
  · exact good0
  · exact ⟨low_may _ (ab_nn _), low_I64 _ (ab_nn _) (ab_nn _)⟩
theorem run_mv {ρ : Operand → Value} {w : World} {o : Oper} {x : Operand} {v : Value} (ho : o.op = .move x) (hx : ρ x = v) : (execOp ρ o).run Tryd.prog w = .ok (.value v) w := by
  unfold execOp
  rw [ho]
  simp [go_sem, hx]
theorem run_len {ρ : Operand → Value} {w : World} {o : Oper} {x : Operand} {p : Option Addr} {k c : Nat} (ho : o.op = .call { callee := .builtin .len, args := #[x], argTypes := #[30] }) (hx : ρ x = .slice p k c) : (execOp ρ o).run Tryd.prog w = .ok (.value (.int .i64 k)) w := by
  unfold execOp
  rw [ho]
  simp [go_sem, hx, Builtin.len_, Tryd.underlying30]
theorem run_bs1 {ρ : Operand → Value} {w : World} {o : Oper} {x : Operand} {p q : Int} (ho : o.op = .buildSlice 30 1 #[(0, x)]) (hx : ρ x = .agg #[.int .i64 p, .int .i64 q]) :
    (execOp ρ o).run Tryd.prog w = .ok (.value (.slice (some ⟨w.heap.size, 0, none⟩) 1 1)) (w.alloc (.cells #[.int .i64 p, .int .i64 q] 23)) := by
  unfold execOp
  rw [ho]
  simp [go_sem, hx]
theorem run_cl2 {ρ : Operand → Value} {w : World} {o : Oper} {f : FuncId} {x y : Operand} {ty : Array TypeId} (ho : o.op = .call { callee := .value (.func f), args := #[x, y], argTypes := ty }) (h0 : ρ (.func f) = .func (.func f) #[] #[]) (hf : ∀ v u, (callFunc f #[v, u]).run Tryd.prog w = .ok (.enter f #[v, u]) w) :
    (execOp ρ o).run Tryd.prog w = .ok (.enter f #[ρ x, ρ y]) w := by
  have h1 := hf (ρ x) (ρ y)
  unfold execOp
  rw [ho]
  simp [go_sem, h0, h1]
def rtp (p : Int × Int) : Value := .agg #[.int .i64 p.1, .int .i64 p.2]
theorem run_bs10 {ρ : Operand → Value} {w : World} {o : Oper} {x0 x1 x2 x3 x4 x5 x6 x7 x8 x9 : Operand} {p0 p1 p2 p3 p4 p5 p6 p7 p8 p9 : Int × Int} (ho : o.op = .buildSlice 30 10 #[(0, x0), (1, x1), (2, x2), (3, x3), (4, x4), (5, x5), (6, x6), (7, x7), (8, x8), (9, x9)])
    (h0 : ρ x0 = rtp p0) (h1 : ρ x1 = rtp p1) (h2 : ρ x2 = rtp p2) (h3 : ρ x3 = rtp p3) (h4 : ρ x4 = rtp p4) (h5 : ρ x5 = rtp p5) (h6 : ρ x6 = rtp p6) (h7 : ρ x7 = rtp p7) (h8 : ρ x8 = rtp p8) (h9 : ρ x9 = rtp p9) :
    (execOp ρ o).run Tryd.prog w = .ok (.value (.slice (some ⟨w.heap.size, 0, none⟩) 10 10)) (w.alloc (.cells #[.int .i64 p0.1, .int .i64 p0.2, .int .i64 p1.1, .int .i64 p1.2, .int .i64 p2.1, .int .i64 p2.2, .int .i64 p3.1, .int .i64 p3.2, .int .i64 p4.1, .int .i64 p4.2, .int .i64 p5.1, .int .i64 p5.2, .int .i64 p6.1, .int .i64 p6.2, .int .i64 p7.1, .int .i64 p7.2, .int .i64 p8.1, .int .i64 p8.2, .int .i64 p9.1, .int .i64 p9.2] 23)) := by
  unfold rtp at *
  unfold execOp
  rw [ho]
  simp [go_sem, h0, h1, h2, h3, h4, h5, h6, h7, h8, h9]
theorem row1h {W : World} {b : Nat} {x y : Int} {T : TypeId} (h : W.heap[b]? = some (.cells #[.int .i64 x, .int .i64 y] T)) : Row W (.slice (some ⟨b, 0, none⟩) 1 1) [(x, y)] := by
  refine Or.inr ⟨b, 0, 1, rfl, (Array.getElem?_eq_some_iff.1 h).1, by simp, ?_⟩
  intro i hi
  have : i = 0 := by simp at hi; omega
  subst this
  simp [World.cell?, h]
/-- The ten, in memory. -/
def RB (wr : World) (B : Nat) (rs : List (Int × Int)) : Prop := B < wr.heap.size ∧ ∀ i (h : i < rs.length), wr.cell? ⟨B, i * 2, none⟩ = some (.int .i64 rs[i].1) ∧ wr.cell? ⟨B, i * 2 + 1, none⟩ = some (.int .i64 rs[i].2)
theorem RB.up {w w' : World} {B : Nat} {rs : List (Int × Int)} (h : RB w B rs) (u : Up w w') : RB w' B rs :=
  ⟨Nat.lt_of_lt_of_le h.1 u.size, fun i hi => ⟨(u.cell _ _ h.1).trans (h.2 i hi).1, (u.cell _ _ h.1).trans (h.2 i hi).2⟩⟩
theorem RB.of {W : World} {b : Nat} {p0 p1 p2 p3 p4 p5 p6 p7 p8 p9 : Int × Int} {T : TypeId} (h : W.heap[b]? = some (.cells #[.int .i64 p0.1, .int .i64 p0.2, .int .i64 p1.1, .int .i64 p1.2, .int .i64 p2.1, .int .i64 p2.2, .int .i64 p3.1, .int .i64 p3.2, .int .i64 p4.1, .int .i64 p4.2, .int .i64 p5.1, .int .i64 p5.2, .int .i64 p6.1, .int .i64 p6.2, .int .i64 p7.1, .int .i64 p7.2, .int .i64 p8.1, .int .i64 p8.2, .int .i64 p9.1, .int .i64 p9.2] T)) : RB W b [p0, p1, p2, p3, p4, p5, p6, p7, p8, p9] := by
  refine ⟨(Array.getElem?_eq_some_iff.1 h).1, fun i hi => ?_⟩
  have : i = 0 ∨ i = 1 ∨ i = 2 ∨ i = 3 ∨ i = 4 ∨ i = 5 ∨ i = 6 ∨ i = 7 ∨ i = 8 ∨ i = 9 := by simp at hi; omega
  rcases this with rfl | rfl | rfl | rfl | rfl | rfl | rfl | rfl | rfl | rfl <;> simp [World.cell?, h]
theorem good_cases {x y : Int} (h : mayB x y = true) : (x = 0 ∧ y = 0) ∨ ((y == 0) = false ∧ 1 ≤ y ∧ (x == -9223372036854775808) = false ∧ Int.gcd (ab x) y = 1) := by
  unfold mayB at h
  rw [Bool.or_eq_true] at h
  rcases h with h | h
  · left; simpa using h
  · right
    have h1 := isV_den h
    unfold isV at h
    simp at h
    refine ⟨by simp; omega, h1, by simpa using h.1.2, ?_⟩
    have := h.2
    unfold gc at this
    omega
end Go.Proofs.YthnkaimhmldjoaaDoor
