/-
  Each once: cells that ask the cells ahead of them: the law.
-/
import Derived.Test.YtbigejdabeibeaaMemP
import Derived.Laws.MakeOwn
set_option linter.unusedVariables false
set_option linter.unusedSimpArgs false
namespace Go.Proofs.Ytbigejdabeibeaa
open Go.RowKit

theorem size_of (n : Int) (h1 : -9223372036854775808 ≤ n) (h2 : n ≤ 9223372036854775807) : ∃ m : Nat, (n.tmod 20 + 20).tmod 20 + 1 = (m : Int) ∧ 1 ≤ m ∧ m ≤ 20 := by
  have a1 := Int.tmod_lt_of_pos n (show (0 : Int) < 20 by omega)
  have a2 : -20 < n.tmod 20 := by
    have := Int.lt_tmod_of_pos n (show (0 : Int) < 20 by omega)
    omega
  have b1 := Int.tmod_lt_of_pos (n.tmod 20 + 20) (show (0 : Int) < 20 by omega)
  have b2 := Int.tmod_nonneg (a := n.tmod 20 + 20) 20 (by omega)
  refine ⟨((n.tmod 20 + 20).tmod 20 + 1).toNat, ?_, ?_, ?_⟩ <;> omega
theorem made_int (m : Nat) (hm : m ≤ 20) (W : World) : (Instr.makeSlice 22 (.int .i64 m) (.int .i64 m)).run Try.prog W = .ok (.slice (some ⟨W.heap.size, 0, none⟩) m m) (W.alloc (.cells (madeCells #[.int .i64 0] m) 3)) := by
  have h := run_make (P := Try.prog) W 22 3 Try.t3 (.int .i64 0) Try.underlying22 (by kernel_rfl) (by kernel_rfl) .i64 .i64 m m (by omega) (Int.le_refl _) (by show ((8 : Nat) : Int) * m ≤ _; omega) (by omega)
  have e : ((m : Int).toNat * Try.t3.size) = m := by show (m : Int).toNat * 1 = m; simp
  rw [e, Int.toNat_natCast] at h
  exact h
theorem made_ptr (m : Nat) (hm : m ≤ 20) (W : World) : (Instr.makeSlice 73 (.int .i64 m) (.int .i64 m)).run Try.prog W = .ok (.slice (some ⟨W.heap.size, 0, none⟩) m m) (W.alloc (.cells (madeCells #[.pointer none] m) 23)) := by
  have h := run_make (P := Try.prog) W 73 23 Try.t23 (.pointer none) Try.underlying73 (by kernel_rfl) (by kernel_rfl) .i64 .i64 m m (by omega) (Int.le_refl _) (by show ((8 : Nat) : Int) * m ≤ _; omega) (by omega)
  have e : ((m : Int).toNat * Try.t23.size) = m := by show (m : Int).toNat * 1 = m; simp
  rw [e, Int.toNat_natCast] at h
  exact h
theorem made_at (z : Value) {m j : Nat} (h : j < m) : (madeCells #[z] m)[j]? = some z := by simp [madeCells, h, Nat.mod_one]
theorem cell_blk0 {w : World} {b : Nat} {cs : Array Value} {t : TypeId} (h : w.heap[b]? = some (.cells cs t)) (j : Nat) : w.cell? ⟨b, j, none⟩ = cs[j]? := by simp [World.cell?, h]
theorem frozen_blk0 {w : World} {b : Nat} {cs : Array Value} {t : TypeId} (h : w.heap[b]? = some (.cells cs t)) (j : Nat) : w.frozen? ⟨b, j, none⟩ = false := by simp [World.frozen?, h]
theorem heap_new0 (w : World) (o : Obj) : (w.alloc o).heap[w.heap.size]? = some o := by show (w.heap.push _)[w.heap.size]? = _; simp
theorem cell_new (w : World) (cs : Array Value) (t : TypeId) (j : Nat) : (w.alloc (.cells cs t)).cell? ⟨w.heap.size, j, none⟩ = cs[j]? := cell_blk0 (heap_new0 _ _) j
theorem frozen_new (w : World) (cs : Array Value) (t : TypeId) (j : Nat) : (w.alloc (.cells cs t)).frozen? ⟨w.heap.size, j, none⟩ = false := frozen_blk0 (heap_new0 _ _) j
theorem StAt.cong {L L' : Lay} {w : World} {j s : Nat} (h : StAt L w j s) (e1 : L'.bs j = L.bs j) (e2 : L'.ks j = L.ks j) (e3 : L'.r = L.r) (e4 : L'.c = L.c) : StAt L' w j s := by
  match s, h with
  | 0, h => unfold StAt at *; rw [e1, e2, e3, e4]; exact h
  | 1, h => unfold StAt at *; rw [e1]; exact h
  | _ + 2, h => unfold StAt at *; rw [e1]; exact h
/-- The first lay: no cell is there. -/
def lay0 (m s : Nat) : Lay := ⟨m, s + 1, s + 1 + 1 + 1, s, s + 1 + 1, fun _ => 0, fun _ => 0⟩
theorem chain0 (m : Nat) (w : World) : Chain (lay0 m w.heap.size) 0 ((((w.alloc (.cells (madeCells #[.int .i64 0] m) 3)).alloc (.cells #[.slice (some ⟨w.heap.size, 0, none⟩) m m] 22)).alloc (.cells (madeCells #[.pointer none] m) 23)).alloc (.cells #[.slice (some ⟨w.heap.size + 1 + 1, 0, none⟩) m m] 73)) (fun _ => 0) (fun _ => 0) ∧ Ch (fun _ => False) w ((((w.alloc (.cells (madeCells #[.int .i64 0] m) 3)).alloc (.cells #[.slice (some ⟨w.heap.size, 0, none⟩) m m] 22)).alloc (.cells (madeCells #[.pointer none] m) 23)).alloc (.cells #[.slice (some ⟨w.heap.size + 1 + 1, 0, none⟩) m m] 73)) := by
  obtain ⟨w1, hw1⟩ : ∃ w1, w.alloc (.cells (madeCells #[.int .i64 0] m) 3) = w1 := ⟨_, rfl⟩
  have s1 : w1.heap.size = w.heap.size + 1 := by rw [← hw1]; simp
  have a1 : ∀ j, j < m → w1.cell? ⟨w.heap.size, j, none⟩ = some (.int .i64 0) := fun j hj => by rw [← hw1, cell_new]; exact made_at _ hj
  have z1 : ∀ j, w1.frozen? ⟨w.heap.size, j, none⟩ = false := fun j => by rw [← hw1]; exact frozen_new _ _ _ _
  have k1 : Ch (fun _ => False) w w1 := by rw [← hw1]; exact (Ch.refl _ _).alloc _
  rw [hw1]
  obtain ⟨w2, hw2⟩ : ∃ w2, w1.alloc (.cells #[.slice (some ⟨w.heap.size, 0, none⟩) m m] 22) = w2 := ⟨_, rfl⟩
  have s2 : w2.heap.size = w.heap.size + 1 + 1 := by rw [← hw2]; simp [s1]
  have k2 : Ch (fun _ => False) w1 w2 := by rw [← hw2]; exact (Ch.refl _ _).alloc _
  have a2 : w2.cell? ⟨w.heap.size + 1, 0, none⟩ = some (.slice (some ⟨w.heap.size, 0, none⟩) m m) := by rw [← hw2, ← s1, cell_new]; rfl
  rw [hw2]
  obtain ⟨w3, hw3⟩ : ∃ w3, w2.alloc (.cells (madeCells #[.pointer none] m) 23) = w3 := ⟨_, rfl⟩
  have s3 : w3.heap.size = w.heap.size + 1 + 1 + 1 := by rw [← hw3]; simp [s2]
  have k3 : Ch (fun _ => False) w2 w3 := by rw [← hw3]; exact (Ch.refl _ _).alloc _
  have a3 : ∀ j, j < m → w3.cell? ⟨w.heap.size + 1 + 1, j, none⟩ = some (.pointer none) := fun j hj => by rw [← hw3, ← s2, cell_new]; exact made_at _ hj
  have z3 : ∀ j, w3.frozen? ⟨w.heap.size + 1 + 1, j, none⟩ = false := fun j => by rw [← hw3, ← s2]; exact frozen_new _ _ _ _
  rw [hw3]
  obtain ⟨w4, hw4⟩ : ∃ w4, w3.alloc (.cells #[.slice (some ⟨w.heap.size + 1 + 1, 0, none⟩) m m] 73) = w4 := ⟨_, rfl⟩
  have s4 : w4.heap.size = w.heap.size + 1 + 1 + 1 + 1 := by rw [← hw4]; simp [s3]
  have k4 : Ch (fun _ => False) w3 w4 := by rw [← hw4]; exact (Ch.refl _ _).alloc _
  have a4 : w4.cell? ⟨w.heap.size + 1 + 1 + 1, 0, none⟩ = some (.slice (some ⟨w.heap.size + 1 + 1, 0, none⟩) m m) := by rw [← hw4, ← s3, cell_new]; rfl
  rw [hw4]
  have k34 := k3.trans k4
  have k24 := k2.trans k34
  have no : ∀ i : Nat, ¬ (fun _ : Nat => False) i := fun _ f => f
  refine ⟨⟨?_, (k34.cell (by simp only [lay0]; omega) (fun f => f) 0).trans a2, ?_, a4, ?_, fun j hj => (k24.cell (by simp only [lay0]; omega) (fun f => f) j).trans (a1 j hj), fun j => (k24.frozen (by simp only [lay0]; omega) (fun f => f) j).trans (z1 j), ?_, fun j hj => ⟨_, (k4.cell (by simp only [lay0]; omega) (fun f => f) j).trans (a3 j hj)⟩, fun j => (k4.frozen (by simp only [lay0]; omega) (fun f => f) j).trans (z3 j), fun j hj => by omega, fun j hj => by omega, fun j hj => by omega, fun j hj => by omega⟩, k1.trans k24⟩
  all_goals (simp only [lay0]; omega)
theorem apart0 (m s : Nat) : Apart (lay0 m s) 0 :=
  ⟨fun i j h => by omega, fun j h => by omega, fun j h => by omega, fun j h => by omega, fun j h => by omega, fun i j h => by omega, fun j h => by omega, by simp only [lay0]; omega, by simp only [lay0]; omega, by simp only [lay0]; omega, by simp only [lay0]; omega, by simp only [lay0]; omega, fun j h => by omega⟩
def more (L : Lay) (p b k : Nat) : Lay := { L with bs := fun j => if j = p then b else L.bs j, ks := fun j => if j = p then k else L.ks j }
/-- One cell more. -/
theorem Chain.grow {L : Lay} {p : Nat} {w W0 wl : World} (h : Chain L p w (fun _ => 0) (fun _ => 0)) (A : Apart L p) (hp : p < L.m) (c1 : Ch (fun _ => False) (w.alloc (.cells #[.int .i64 p] 3)) W0) (c2 : Ch (fun _ => False) W0 wl)
    (n : CellAt wl W0.heap.size 0 0 (.func (.func 32) #[] #[.pointer (some ⟨L.r, 0, none⟩), .pointer (some ⟨w.heap.size, 0, none⟩), .pointer (some ⟨L.c, 0, none⟩)]) (.int .i64 0) 0 0) :
    Chain (more L p W0.heap.size w.heap.size) (p + 1) (wl.setCell ⟨L.cb, p, none⟩ (.pointer (some ⟨W0.heap.size, 0, none⟩))) (fun _ => 0) (fun _ => 0) ∧ Apart (more L p W0.heap.size w.heap.size) (p + 1) := by
  have s0 : w.heap.size + 1 ≤ W0.heap.size := by have := c1.size; simpa using this
  have s1 := c2.size
  have s2 := n.lt
  have c0 : Ch (fun _ => False) w wl := (((Ch.refl _ _).alloc _).trans c1).trans c2
  have cs : Ch (fun i => i = L.cb) wl (wl.setCell ⟨L.cb, p, none⟩ (.pointer (some ⟨W0.heap.size, 0, none⟩))) := (Ch.refl _ _).setb _
  have c : Ch (fun i => i = L.cb) w (wl.setCell ⟨L.cb, p, none⟩ (.pointer (some ⟨W0.heap.size, 0, none⟩))) := (c0.mono (fun _ _ f => f.elim)).trans cs
  have rl := h.rl; have cl := h.cl; have rbl := h.rbl; have cbl := h.cbl
  have kp : (w.alloc (.cells #[.int .i64 p] 3)).cell? ⟨w.heap.size, 0, none⟩ = some (.int .i64 p) := by rw [cell_new]; rfl
  have kp2 : wl.cell? ⟨w.heap.size, 0, none⟩ = some (.int .i64 p) := ((c1.trans c2).cell (by simp) (fun f => f) 0).trans kp
  have no : ∀ i : Nat, ¬ (fun _ : Nat => False) i := fun _ f => f
  have sz : wl.heap.size ≤ (wl.setCell ⟨L.cb, p, none⟩ (.pointer (some ⟨W0.heap.size, 0, none⟩))).heap.size := cs.size
  have hcb : ∀ j, j < L.m → ∃ v, wl.cell? ⟨L.cb, j, none⟩ = some v := fun j hj => by obtain ⟨v, hv⟩ := h.cv j hj; exact ⟨v, (c0.cell cbl (fun f => f) j).trans hv⟩
  have cr := And.intro A.c1 A.c2
  have bl : ∀ j, j < p → L.bs j < w.heap.size := fun j hj => (h.ce j hj).lt
  refine ⟨⟨by simp only [more]; omega, (c.cell rl (fun e => cr.1 e.symm) 0).trans h.r0, by simp only [more]; omega, (c.cell cl (fun e => cr.2 e.symm) 0).trans h.c0, by simp only [more]; omega,
    fun j hj => (c.cell rbl A.r3 j).trans (h.ra j hj), fun j => (c.frozen rbl A.r3 j).trans (h.rz j), by simp only [more]; omega, fun j hj => ?_, fun j => set_z ((c0.frozen cbl (fun f => f) j).trans (h.cz j)), fun j hj => ?_, fun j hj => ?_, fun j hj => ?_, fun j hj => ?_⟩, ?_⟩
  · by_cases e : j = p
    · subst e; obtain ⟨v, hv⟩ := hcb j hj; exact ⟨_, set_s hv⟩
    · obtain ⟨v, hv⟩ := hcb j hj; exact ⟨v, set_o hv (fun g => e g.symm)⟩
  · simp only [more]
    by_cases e : j = p
    · subst e; rw [if_pos rfl]; obtain ⟨v, hv⟩ := hcb j hp; exact set_s hv
    · rw [if_neg e]; exact set_o ((c0.cell cbl (fun f => f) j).trans (h.ca j (by omega))) (fun g => e g.symm)
  · simp only [more]
    by_cases e : j = p
    · rw [if_pos e]; omega
    · rw [if_neg e]; have := h.kl j (by omega); omega
  · simp only [more]
    by_cases e : j = p
    · subst e; rw [if_pos rfl]; exact (cs.cell (by omega) (fun g => by omega) 0).trans kp2
    · rw [if_neg e]
      have kj := h.kl j (by omega)
      exact (c.cell kj (fun g => A.ck j (by omega) g.symm) 0).trans (h.ka j (by omega))
  · by_cases e : j = p
    · subst e
      have n' : CellAt (wl.setCell ⟨L.cb, j, none⟩ (.pointer (some ⟨W0.heap.size, 0, none⟩))) W0.heap.size 0 0 (.func (.func 32) #[] #[.pointer (some ⟨L.r, 0, none⟩), .pointer (some ⟨w.heap.size, 0, none⟩), .pointer (some ⟨L.c, 0, none⟩)]) (.int .i64 0) 0 0 := n.ch cs (fun g => by omega)
      unfold StAt
      simp only [more, if_true]
      exact n'
    · have hj' : j < p := by omega
      have := (h.ce j hj').ch c (A.bcb j hj')
      exact this.cong (by simp [more, e]) (by simp [more, e]) rfl rfl
  · have kl := h.kl
    refine ⟨fun i j hi hj e => ?_, fun j hj => ?_, fun j hj => ?_, fun j hj => ?_, fun j hj => ?_, fun i j hi hj => ?_, fun j hj => ?_, A.r1, A.r2, A.r3, A.c1, A.c2, fun j hj => ?_⟩
    · simp only [more] at e
      by_cases ei : i = p
      · by_cases ej : j = p
        · omega
        · rw [if_pos ei, if_neg ej] at e; have := bl j (by omega); omega
      · by_cases ej : j = p
        · rw [if_neg ei, if_pos ej] at e; have := bl i (by omega); omega
        · rw [if_neg ei, if_neg ej] at e; exact A.inj i j (by omega) (by omega) e
    · simp only [more]
      by_cases ej : j = p
      · rw [if_pos ej]; omega
      · rw [if_neg ej]; exact A.br j (by omega)
    · simp only [more]
      by_cases ej : j = p
      · rw [if_pos ej]; omega
      · rw [if_neg ej]; exact A.bc j (by omega)
    · simp only [more]
      by_cases ej : j = p
      · rw [if_pos ej]; omega
      · rw [if_neg ej]; exact A.brb j (by omega)
    · simp only [more]
      by_cases ej : j = p
      · rw [if_pos ej]; omega
      · rw [if_neg ej]; exact A.bcb j (by omega)
    · simp only [more]
      by_cases ei : i = p
      · by_cases ej : j = p
        · rw [if_pos ei, if_pos ej]; omega
        · rw [if_pos ei, if_neg ej]; have := kl j (by omega); omega
      · by_cases ej : j = p
        · rw [if_neg ei, if_pos ej]; have := bl i (by omega); omega
        · rw [if_neg ei, if_neg ej]; exact A.bk i j (by omega) (by omega)
    · simp only [more]
      by_cases ej : j = p
      · rw [if_pos ej]; omega
      · rw [if_neg ej]; exact A.rk j (by omega)
    · simp only [more]
      by_cases ej : j = p
      · rw [if_pos ej]; omega
      · rw [if_neg ej]; exact A.ck j (by omega)
end Go.Proofs.Ytbigejdabeibeaa
