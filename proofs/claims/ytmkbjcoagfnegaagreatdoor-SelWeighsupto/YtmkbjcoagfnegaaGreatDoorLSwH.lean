/-
  What the selectors of a list weigh, by the program.
-/
import Derived.Test.YtmkbjcoagfnegaaGreatDoorLSwG
import Derived.Deep.OwnRows
set_option linter.unusedVariables false
set_option linter.unusedSimpArgs false
namespace Go.Proofs.YtmkbjcoagfnegaaGreatDoor
open Go.RowKit

theorem made_w (m : Nat) (hm : m ≤ 1000000000) (W : World) : (Instr.makeSlice 43 (.int .i64 m) (.int .i64 m)).run Tryz.prog W = .ok (.slice (some ⟨W.heap.size, 0, none⟩) m m) (W.alloc (.cells (madeCells #[.int .i64 0, .int .i64 0, .int .i64 0] (m * 3)) 42)) := by
  have h := run_make (P := Tryz.prog) W 43 42 Tryz.t42 (.agg #[.int .i64 0, .int .i64 0, .int .i64 0]) Tryz.underlying43 (by kernel_rfl) (by kernel_rfl) .i64 .i64 m m (by omega) (Int.le_refl _) (by show ((24 : Nat) : Int) * m ≤ _; omega) (by omega)
  have e : ((m : Int).toNat * Tryz.t42.size) = m * 3 := by show (m : Int).toNat * 3 = m * 3; simp
  rw [e, Int.toNat_natCast] at h
  exact h
/-- An own row of weights, the first k of them written. -/
def Rw3 (w : World) (g n k : Nat) (ws : List Wt) : Prop := ∃ cs : Array Value, w.heap[g]? = some (.cells cs 42) ∧ cs.size = n * 3 ∧ ∀ j x, j < k → ws[j]? = some x → cs[j * 3]? = some (.int .i64 x.1) ∧ cs[j * 3 + 1]? = some (.int .i64 x.2.1) ∧ cs[j * 3 + 2]? = some (.int .i64 x.2.2)
theorem Rw3.new (W : World) (n : Nat) (ws : List Wt) : Rw3 (W.alloc (.cells (madeCells #[.int .i64 0, .int .i64 0, .int .i64 0] (n * 3)) 42)) W.heap.size n 0 ws := ⟨_, heap_alloc_new W _, size_madeCells _ _, fun j x hj => by omega⟩
theorem Rw3.lt {w : World} {g n k : Nat} {ws : List Wt} (h : Rw3 w g n k ws) : g < w.heap.size := by obtain ⟨cs, h1, _⟩ := h; exact (Array.getElem?_eq_some_iff.1 h1).1
theorem Rw3.up {w w' : World} {g n k : Nat} {ws : List Wt} (h : Rw3 w g n k ws) (hw : Below w.heap.size w w') : Rw3 w' g n k ws := by
  have hl := h.lt
  obtain ⟨cs, h1, h2⟩ := h
  exact ⟨cs, (hw.block _ hl).trans h1, h2⟩
theorem Rw3.more {w : World} {g n k : Nat} {ws : List Wt} (h : Rw3 w g n k ws) (o : Obj) : Rw3 (w.alloc o) g n k ws := by
  have hl := h.lt
  obtain ⟨cs, h1, h2⟩ := h
  exact ⟨cs, (Below.heap_alloc w o g hl).trans h1, h2⟩
theorem Rw3.there {w : World} {g n k : Nat} {ws : List Wt} (h : Rw3 w g n k ws) {j : Nat} (hj : j < n * 3) : (∃ v, w.cell? ⟨g, j, none⟩ = some v) ∧ w.frozen? ⟨g, j, none⟩ = false := by
  obtain ⟨cs, h1, h2, _⟩ := h
  exact ⟨⟨_, by rw [row_blk h1]; exact Array.getElem?_eq_getElem (by omega)⟩, by simp [World.frozen?, h1]⟩
theorem Rw3.put {w : World} {g n k : Nat} {ws : List Wt} (h : Rw3 w g n k ws) (hk : k < n) {y : Wt} (hy : ws[k]? = some y) : Rw3 (((w.setCell ⟨g, k * 3, none⟩ (.int .i64 y.1)).setCell ⟨g, k * 3 + 1, none⟩ (.int .i64 y.2.1)).setCell ⟨g, k * 3 + 2, none⟩ (.int .i64 y.2.2)) g n (k + 1) ws := by
  obtain ⟨cs, h1, h2, h3⟩ := h
  refine ⟨_, setCell_blk (setCell_blk (setCell_blk h1 _) _) _, by simp [h2], fun j x hj hx => ?_⟩
  by_cases e : j = k
  · subst e
    obtain rfl : y = x := Option.some.inj (hy.symm.trans hx)
    refine ⟨?_, ?_, ?_⟩
    · simp only [Array.set!_eq_setIfInBounds, Array.getElem?_setIfInBounds, Array.size_setIfInBounds]
      rw [if_neg (by omega), if_neg (by omega), if_pos trivial, if_pos (by omega)]
    · simp only [Array.set!_eq_setIfInBounds, Array.getElem?_setIfInBounds, Array.size_setIfInBounds]
      rw [if_neg (by omega), if_pos trivial, if_pos (by omega)]
    · simp only [Array.set!_eq_setIfInBounds, Array.getElem?_setIfInBounds, Array.size_setIfInBounds]
      rw [if_pos trivial, if_pos (by omega)]
  · obtain ⟨i1, i2, i3⟩ := h3 j x (by omega) hx
    refine ⟨?_, ?_, ?_⟩
    · simp only [Array.set!_eq_setIfInBounds, Array.getElem?_setIfInBounds, Array.size_setIfInBounds]
      rw [if_neg (by omega), if_neg (by omega), if_neg (by omega)]
      exact i1
    · simp only [Array.set!_eq_setIfInBounds, Array.getElem?_setIfInBounds, Array.size_setIfInBounds]
      rw [if_neg (by omega), if_neg (by omega), if_neg (by omega)]
      exact i2
    · simp only [Array.set!_eq_setIfInBounds, Array.getElem?_setIfInBounds, Array.size_setIfInBounds]
      rw [if_neg (by omega), if_neg (by omega), if_neg (by omega)]
      exact i3
theorem Rw3.row {w : World} {g n : Nat} {ws : List Wt} (h : Rw3 w g n n ws) (hn : ws.length = n) (h9 : n ≤ 1000000000) : WsM w (.slice (some ⟨g, 0, none⟩) n n) ws := by
  by_cases h0 : n = 0
  · subst h0; exact .inl ⟨_, _, rfl, List.eq_nil_of_length_eq_zero hn⟩
  · have hl := h.lt
    obtain ⟨cs, h1, h2, h3⟩ := h
    refine .inr ⟨g, 0, n, by rw [hn], by omega, hl, by omega, by omega, by omega, fun i x hi => ?_⟩
    obtain ⟨i1, i2, i3⟩ := h3 i x (by have := (List.getElem?_eq_some_iff.1 hi).1; omega) hi
    exact ⟨by rw [row_blk h1, Nat.zero_add]; exact i1, by rw [row_blk h1, Nat.zero_add]; exact i2, by rw [row_blk h1, Nat.zero_add]; exact i3⟩
/-- The state of the loop over a list's selectors. -/
def RelWl (w : World) (n : Nat) (ws : List Wt) (i : Value) (wr : World) : Prop := ∃ k : Nat, i = .int .i64 k ∧ k ≤ n ∧ Hid (Rw3 wr w.heap.size n k ws ∧ Below w.heap.size w wr)
theorem RelWl.mk {w : World} {n : Nat} {ws : List Wt} {i : Value} {wr : World} (k : Nat) (h : i = .int .i64 k) (hk : k ≤ n) (h1 : Rw3 wr w.heap.size n k ws) (h3 : Below w.heap.size w wr) : RelWl w n ws i wr := ⟨k, h, hk, h1, h3⟩
set_option maxRecDepth 100000 in
set_option maxHeartbeats 4000000 in
theorem weightsOf_any (n : Nat) : WtLs n := by
  induction n with
  | zero =>
    intro l v w hv hz
    obtain ⟨rfl, a, c, rfl⟩ := hv
    have hmk : (Instr.makeSlice 43 (.int .i64 0) (.int .i64 0)).run Tryz.prog w = .ok (.slice (some ⟨w.heap.size, 0, none⟩) 0 0) (w.alloc (.cells (madeCells #[.int .i64 0, .int .i64 0, .int .i64 0] 0) 42)) := made_w 0 (by omega) w
    have B0 := hide (bplus (Below.refl w.heap.size w) (.cells (madeCells #[.int .i64 0, .int .i64 0, .int .i64 0] (0 * 3)) 42))
    rw [Nat.zero_mul] at B0
    generalize madeCells #[.int .i64 0, .int .i64 0, .int .i64 0] 0 = M0 at hmk B0
    have E := hide (show wsL 0 [] = [] from rfl)
    go_enter Tryz.func93, Tryz.ntmps93
    go_wp2_with fail
    go_loopw [11] (fun i wr => i = .int .i64 0 ∧ Hid (Below w.heap.size w wr)) (fun i _ => 0)
    case atStart => exact ⟨rfl, B0.out⟩
    case round =>
      obtain ⟨rfl, R⟩ := hrel
      go_wp2
      go_ret
      exact ⟨_, rfl, .inl ⟨_, _, rfl, E.out⟩, R.out⟩
  | succ n ih =>
    intro l v w hv hz
    obtain ⟨a, c, rfl, h9⟩ := hv.shape
    have HV := hide hv
    have CS := hide (fun (i : Nat) (s : Cx) (u : Value) (W : World) (hs : l[i]? = some s) (hW : Below w.heap.size w W) (hu : PsM w n u s) => weightOf_any n s u W (hu.low hW) (Nat.le_trans (szM_at hs) hz) ih)
    clear hv ih hz
    have WL := hide (show (wsL (n + 1) l).length = l.length by simp [wsL])
    have WA := hide (show ∀ (i : Nat) (s : Cx), l[i]? = some s → (wsL (n + 1) l)[i]? = some (wtC (wtM n) s) by intro i s h; simp [wsL, h])
    generalize wsL (n + 1) l = ws at WL WA ⊢
    have hmk := made_w l.length h9 w
    obtain ⟨W1, hW1⟩ : ∃ W1, w.alloc (.cells (madeCells #[.int .i64 0, .int .i64 0, .int .i64 0] (l.length * 3)) 42) = W1 := ⟨_, rfl⟩
    have B0 := hide (show Below w.heap.size w W1 by rw [← hW1]; exact bplus (Below.refl _ _) _)
    have P0 := hide (show Rw3 W1 w.heap.size l.length 0 ws by rw [← hW1]; exact Rw3.new w l.length ws)
    rw [hW1] at hmk
    clear hW1
    go_enter Tryz.func93, Tryz.ntmps93
    go_wp2_with fail
    go_loopw [11] (fun i wr => RelWl w l.length ws i wr) (fun i _ => l.length - (intOf i).toNat)
    case atStart => exact .mk 0 rfl (by omega) P0.out B0.out
    case round =>
      obtain ⟨k, rfl, hk, R⟩ := hrel
      have Q := hide R.out.1
      have BE := hide R.out.2
      clear R P0 B0 hmk
      by_cases hlt : k < l.length
      · obtain ⟨s, hs⟩ : ∃ s, l[k]? = some s := ⟨_, List.getElem?_eq_getElem hlt⟩
        obtain ⟨b, o, c', u, hv', hb, e0, hu⟩ := HV.out.at hs
        obtain ⟨rfl, rfl⟩ : a = some ⟨b, o, none⟩ ∧ c = c' := by cases hv'; exact ⟨rfl, rfl⟩
        have hlt' : (k : Int) < l.length := by omega
        have f0 := (BE.out.cell (p := ⟨b, o + k * 1, none⟩) hb).trans e0
        rw [Nat.mul_one] at f0
        have hbw : b < wr.heap.size := by have := BE.out.size; omega
        have nb : b ≠ wr.heap.size := by omega
        have CS1 := hide (fun (W : World) (hW : Below w.heap.size w W) => CS.out k s u W hs hW hu)
        have WY := hide (WA.out k s hs)
        obtain ⟨ua, uc, hus, _⟩ := hu.shape
        clear e0 hv' hs hu CS WA HV
        have BB := hide (bplus BE.out (.cells #[u] 40))
        have QQ := hide (Q.out.more (.cells #[u] 40))
        subst hus
        generalize wtC (wtM n) s = y at CS1 WY
        generalize List.length s = ln at *
        unfold wV at CS1
        have PP := hide (fun (W : World) (h : Rw3 W w.heap.size l.length k ws) => h.put hlt WY.out)
        obtain ⟨y0, y1, y2⟩ := y
        simp only at CS1 PP
        go_wp2_with (go_at_call 39; refine (CS1.out _ BB.out).mono ?_; rintro e w2 ⟨rfl, B2⟩; replace BB := hide (bto BB.out B2); replace QQ := hide (QQ.out.up B2); obtain ⟨⟨z0, t0⟩, v0⟩ := QQ.out.there (j := k * 3) (by omega); obtain ⟨⟨z1, t1⟩, v1⟩ := QQ.out.there (j := k * 3 + 1) (by omega); obtain ⟨⟨z2, t2⟩, v2⟩ := QQ.out.there (j := k * 3 + 2) (by omega); clear B2)
        go_roundw
        case rel => exact .mk (k + 1) (by go_num) (by omega) (PP.out _ QQ.out) (((BB.out.setCell (p := ⟨w.heap.size, _, none⟩) (Nat.le_refl _) _).setCell (p := ⟨w.heap.size, _, none⟩) (Nat.le_refl _) _).setCell (p := ⟨w.heap.size, _, none⟩) (Nat.le_refl _) _)
        case measure => simp [intOf]; omega
      · have hlt' : ¬ (k : Int) < l.length := by omega
        obtain rfl : k = l.length := by omega
        have F := hide (Q.out.row WL.out h9)
        clear HV CS WA
        go_wp2
        go_ret
        exact ⟨_, rfl, F.out, BE.out⟩
end Go.Proofs.YtmkbjcoagfnegaaGreatDoor
