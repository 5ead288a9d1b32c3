/-
  Blocks of fractions; nothing of each unit: by the program.
-/
import Derived.Test.YticgcokhdipomaaDoorLNoB
import Derived.Test.YticgcokhdipomaaDoorN11
import Derived.Deep.RegionHeld3
import Derived.Deep.RegionWith
import Derived.Deep.MidRow
import Derived.Test.YticgcokhdipomaaDoorN21
import Derived.Deep.DeepCutAuto
set_option linter.unusedVariables false
set_option linter.unusedSimpArgs false
namespace Go.Proofs.YticgcokhdipomaaDoor.nm
open Go.RowKit

theorem bxk_2g {w : World} {b : Nat} {u0 u1 : Value} {T : TypeId} (h : w.heap[b]? = some (.cells #[u0, u1] T)) : w.cell? ⟨b, 0, none⟩ = some u0 ∧ w.cell? ⟨b, 1, none⟩ = some u1 :=
  ⟨by rw [row_blk h]; rfl, by rw [row_blk h]; rfl⟩
theorem two_new (w : World) (A B : Obj) : ((w.alloc A).alloc B).heap[w.heap.size]? = some A ∧ ((w.alloc A).alloc B).heap[w.heap.size + 1]? = some B := by
  refine ⟨((bplus (Below.refl (w.alloc A).heap.size (w.alloc A)) B).block _ (by simp)).trans (heap_alloc_new w A), ?_⟩
  have := heap_alloc_new (w.alloc A) B
  rwa [show (w.alloc A).heap.size = w.heap.size + 1 by simp] at this
/-- A block that holds these values. -/
def Bk (w : World) (b : Nat) (T : TypeId) (cs : List Value) : Prop := w.heap[b]? = some (.cells cs.toArray T)
theorem Bk.lt {w : World} {b : Nat} {T : TypeId} {cs : List Value} (h : Bk w b T cs) : b < w.heap.size := (Array.getElem?_eq_some_iff.1 h).1
theorem Bk.fz {w : World} {b : Nat} {T : TypeId} {cs : List Value} (h : Bk w b T cs) : ∀ j, w.frozen? ⟨b, j, none⟩ = false := fun j => by simp [World.frozen?, show w.heap[b]? = _ from h]
theorem Bk.low {w w' : World} {b B : Nat} {T : TypeId} {cs : List Value} (h : Bk w b T cs) (hw : Below B w w') (hb : b < B) : Bk w' b T cs := (hw.block _ hb).trans h
theorem Bk.up {w w' : World} {b : Nat} {T : TypeId} {cs : List Value} (h : Bk w b T cs) (hw : Below w.heap.size w w') : Bk w' b T cs := h.low hw h.lt
theorem Bk.new (w : World) (T : TypeId) (cs : List Value) : Bk (w.alloc (.cells cs.toArray T)) w.heap.size T cs := heap_alloc_new w _
theorem Bk.more {w : World} {b : Nat} {T : TypeId} {cs : List Value} (h : Bk w b T cs) (o : Obj) : Bk (w.alloc o) b T cs := (Below.heap_alloc w o b h.lt).trans h
theorem Bk.far {w : World} {b r : Nat} {T : TypeId} {cs : List Value} (h : Bk w b T cs) (hr : b ≠ r) (i : Nat) (u : Value) : Bk (w.setCell ⟨r, i, none⟩ u) b T cs := (Below.heap_setCell w ⟨r, i, none⟩ u b hr).trans h
theorem Bk.drew {w : World} {b : Nat} {T : TypeId} {cs : List Value} (h : Bk w b T cs) : Bk w.drew b T cs := h
theorem Bk.cell {w : World} {b : Nat} {T : TypeId} {cs : List Value} (h : Bk w b T cs) (j : Nat) : w.cell? ⟨b, j, none⟩ = cs[j]? := by rw [row_blk h]; simp
theorem Bk.put {w : World} {b : Nat} {T : TypeId} {cs : List Value} (h : Bk w b T cs) (j : Nat) (v : Value) : Bk (w.setCell ⟨b, j, none⟩ v) b T (cs.set j v) := by
  have h1 : w.heap[b]? = some (.cells cs.toArray T) := h
  have := setCell_blk (j := j) h1 v
  unfold Bk
  rw [this]
  simp
/-- One fraction of seven is set. -/
theorem usL_set {us : List (Int × Int)} {k : Nat} (hk : k < us.length) (n d : Int) : usL (us.set k (n, d)) = ((usL us).set (k * 2) (.int .i64 n)).set (k * 2 + 1) (.int .i64 d) := by
  induction us generalizing k with
  | nil => simp at hk
  | cons r us ih =>
    cases k with
    | zero => rfl
    | succ k =>
      have := ih (k := k) (by simpa using hk)
      simp only [usL, List.set_cons_succ, List.flatMap_cons, List.cons_append, List.nil_append] at this ⊢
      rw [this, show (k + 1) * 2 = k * 2 + 1 + 1 by omega]
      rfl
theorem usL_len (us : List (Int × Int)) : (usL us).length = us.length * 2 := by
  induction us with
  | nil => rfl
  | cons r us ih => simp only [usL, List.flatMap_cons, List.cons_append, List.nil_append, List.length_cons] at ih ⊢; omega
theorem usL_at {us : List (Int × Int)} {k : Nat} {n d : Int} (h : us[k]? = some (n, d)) : (usL us)[k * 2]? = some (.int .i64 n) ∧ (usL us)[k * 2 + 1]? = some (.int .i64 d) := by
  induction us generalizing k with
  | nil => simp at h
  | cons r us ih =>
    cases k with
    | zero => simp at h; subst h; exact ⟨rfl, rfl⟩
    | succ k =>
      have := ih (k := k) (by simpa using h)
      simp only [usL, List.flatMap_cons, List.cons_append, List.nil_append] at this ⊢
      rw [show (k + 1) * 2 = k * 2 + 1 + 1 by omega]
      simpa using this
/-- A form in a block of its own; seven fractions in one. -/
def BF (w : World) (b : Nat) (us : List (Int × Int)) (u : Value) : Prop := Bk w b 29 (usL us ++ [u])
def BU (w : World) (b : Nat) (T : TypeId) (us : List (Int × Int)) : Prop := Bk w b T (usL us)
theorem BF.at {w : World} {b : Nat} {us : List (Int × Int)} {u : Value} (h : BF w b us u) (hu : us.length = 7) {k : Nat} {n d : Int} (hk : us[k]? = some (n, d)) : w.cell? ⟨b, k * 2, none⟩ = some (.int .i64 n) ∧ w.cell? ⟨b, k * 2 + 1, none⟩ = some (.int .i64 d) := by
  obtain ⟨h1, h2⟩ := usL_at hk
  have hl := usL_len us
  have hk7 := (List.getElem?_eq_some_iff.1 hk).1
  exact ⟨by rw [Bk.cell h, List.getElem?_append_left (by omega), h1], by rw [Bk.cell h, List.getElem?_append_left (by omega), h2]⟩
theorem BF.last {w : World} {b : Nat} {us : List (Int × Int)} {u : Value} (h : BF w b us u) (hu : us.length = 7) : w.cell? ⟨b, 14, none⟩ = some u := by
  have hl := usL_len us
  rw [Bk.cell h, List.getElem?_append_right (by omega), show 14 - (usL us).length = 0 by omega]; rfl
theorem BF.put {w : World} {b : Nat} {us : List (Int × Int)} {u : Value} (h : BF w b us u) {k : Nat} (hk : k < us.length) (n d : Int) : BF ((w.setCell ⟨b, k * 2, none⟩ (.int .i64 n)).setCell ⟨b, k * 2 + 1, none⟩ (.int .i64 d)) b (us.set k (n, d)) u := by
  have hl := usL_len us
  have := Bk.put (Bk.put h (k * 2) (.int .i64 n)) (k * 2 + 1) (.int .i64 d)
  unfold BF
  rw [usL_set hk, ]
  rwa [List.set_append_left _ _ (by omega), List.set_append_left _ _ (by rw [List.length_set]; omega)] at this
theorem BU.at {w : World} {b : Nat} {T : TypeId} {us : List (Int × Int)} (h : BU w b T us) {k : Nat} {n d : Int} (hk : us[k]? = some (n, d)) : w.cell? ⟨b, k * 2, none⟩ = some (.int .i64 n) ∧ w.cell? ⟨b, k * 2 + 1, none⟩ = some (.int .i64 d) := by
  obtain ⟨h1, h2⟩ := usL_at hk
  exact ⟨by rw [Bk.cell h, h1], by rw [Bk.cell h, h2]⟩
theorem BU.put {w : World} {b : Nat} {T : TypeId} {us : List (Int × Int)} (h : BU w b T us) {k : Nat} (hk : k < us.length) (n d : Int) : BU ((w.setCell ⟨b, k * 2, none⟩ (.int .i64 n)).setCell ⟨b, k * 2 + 1, none⟩ (.int .i64 d)) b T (us.set k (n, d)) := by
  have := Bk.put (Bk.put h (k * 2) (.int .i64 n)) (k * 2 + 1) (.int .i64 d)
  unfold BU
  rw [usL_set hk]
  exact this
/-- The variable that is nothing. -/
def Nth (w : World) : Prop := 0 < w.heap.size ∧ w.cell? ⟨0, 0, none⟩ = some (.int .i64 0) ∧ w.cell? ⟨0, 1, none⟩ = some (.int .i64 1)
theorem Nth.low {w w' : World} (h : Nth w) (hw : Below w.heap.size w w') : Nth w' := ⟨Nat.lt_of_lt_of_le h.1 hw.size, (hw.cell (p := ⟨0, 0, none⟩) h.1).trans h.2.1, (hw.cell (p := ⟨0, 1, none⟩) h.1).trans h.2.2⟩
def z00 : List (Int × Int) := [(0, 0), (0, 0), (0, 0), (0, 0), (0, 0), (0, 0), (0, 0)]
def z01 : List (Int × Int) := [(0, 1), (0, 1), (0, 1), (0, 1), (0, 1), (0, 1), (0, 1)]
def zK (k : Nat) : List (Int × Int) := z01.take k ++ z00.drop k
theorem zK_step {k : Nat} (h : k < 7) : (zK k).set k (0, 1) = zK (k + 1) := by
  rcases (show k = 0 ∨ k = 1 ∨ k = 2 ∨ k = 3 ∨ k = 4 ∨ k = 5 ∨ k = 6 by omega) with rfl | rfl | rfl | rfl | rfl | rfl | rfl <;> rfl
theorem zK_len {k : Nat} (h : k ≤ 7) : (zK k).length = 7 := by
  rcases (show k = 0 ∨ k = 1 ∨ k = 2 ∨ k = 3 ∨ k = 4 ∨ k = 5 ∨ k = 6 ∨ k = 7 by omega) with rfl | rfl | rfl | rfl | rfl | rfl | rfl | rfl <;> rfl
theorem zK_at {k : Nat} (h : k < 7) : (zK k)[k]? = some (0, 0) := by
  rcases (show k = 0 ∨ k = 1 ∨ k = 2 ∨ k = 3 ∨ k = 4 ∨ k = 5 ∨ k = 6 by omega) with rfl | rfl | rfl | rfl | rfl | rfl | rfl <;> rfl
def nilS : Value := .slice none 0 0
def RelZ (w : World) (i : Value) (wr : World) : Prop := ∃ k : Nat, i = .int .i64 k ∧ k ≤ 7 ∧ Hid (BF wr w.heap.size z00 nilS ∧ BF wr (w.heap.size + 1) (zK k) nilS ∧ Below w.heap.size w wr)
theorem RelZ.mk {w : World} {i : Value} {wr : World} (k : Nat) (h1 : i = .int .i64 k) (h2 : k ≤ 7) (h3 : BF wr w.heap.size z00 nilS) (h4 : BF wr (w.heap.size + 1) (zK k) nilS) (h5 : Below w.heap.size w wr) : RelZ w i wr := ⟨k, h1, h2, h3, h4, h5⟩
theorem zus : Us z01 := ⟨rfl, by intro r hr; simp [z01] at hr; subst hr; exact ⟨⟨by decide, by decide⟩, ⟨by decide, by decide⟩⟩⟩
set_option maxRecDepth 100000 in
set_option maxHeartbeats 8000000 in
theorem zero_any (w : World) (hN : Nth w) : Calls Tryd.prog 7 #[] w fun e w' => e = .returned (foV z01 nilS) ∧ Below w.heap.size w w' := by
  have HN := hide hN
  clear hN
  obtain ⟨W1, hW1⟩ : ∃ W1, (w.alloc (.cells (usL z00 ++ [nilS]).toArray 29)).alloc (.cells (usL z00 ++ [nilS]).toArray 29) = W1 := ⟨_, rfl⟩
  have B0 := hide (show Below w.heap.size w W1 by rw [← hW1]; exact bplus (bplus (Below.refl _ _) _) _)
  have P0 := hide (show BF W1 w.heap.size z00 nilS by rw [← hW1]; exact (Bk.new w _ _).more _)
  have P1 := hide (show BF W1 (w.heap.size + 1) z00 nilS by rw [← hW1]; have := Bk.new (w.alloc (.cells (usL z00 ++ [nilS]).toArray 29)) 29 (usL z00 ++ [nilS]); rwa [show (w.alloc (.cells (usL z00 ++ [nilS]).toArray 29)).heap.size = w.heap.size + 1 by simp] at this)
  have HW1 := hide hW1
  clear hW1
  go_enter Tryd.func7, Tryd.ntmps7
  go_wp2_with fail
  rw [show (w.alloc (.cells #[.int .i64 0, .int .i64 0, .int .i64 0, .int .i64 0, .int .i64 0, .int .i64 0, .int .i64 0, .int .i64 0, .int .i64 0, .int .i64 0, .int .i64 0, .int .i64 0, .int .i64 0, .int .i64 0, .slice none 0 0] 29)).alloc (.cells #[.int .i64 0, .int .i64 0, .int .i64 0, .int .i64 0, .int .i64 0, .int .i64 0, .int .i64 0, .int .i64 0, .int .i64 0, .int .i64 0, .int .i64 0, .int .i64 0, .int .i64 0, .int .i64 0, .slice none 0 0] 29) = W1 from HW1.out]
  go_loopw [3] (fun i wr => RelZ w i wr) (fun i _ => 7 - (intOf i).toNat)
  case atStart => exact .mk 0 rfl (by omega) P0.out P1.out B0.out
  case round =>
    obtain ⟨k, rfl, hk, R⟩ := hrel
    have Q0 := hide R.out.1
    have Q1 := hide R.out.2.1
    have BW := hide R.out.2.2
    clear R P0 P1 B0 HW1
    by_cases hlt : k < 7
    · have hlt' : (k : Int) < 7 := by omega
      obtain ⟨-, t0, t1⟩ := HN.out.low BW.out
      obtain ⟨c0, c1⟩ := BF.at Q1.out (zK_len (by omega)) (zK_at hlt)
      have z0 := Bk.fz Q1.out (k * 2)
      have z1 := Bk.fz Q1.out (k * 2 + 1)
      have N0 := hide (show BF ((wr.setCell ⟨w.heap.size + 1, k * 2, none⟩ (.int .i64 0)).setCell ⟨w.heap.size + 1, k * 2 + 1, none⟩ (.int .i64 1)) w.heap.size z00 nilS from Bk.far (Bk.far Q0.out (by omega) _ _) (by omega) _ _)
      have N1 := hide (show BF ((wr.setCell ⟨w.heap.size + 1, k * 2, none⟩ (.int .i64 0)).setCell ⟨w.heap.size + 1, k * 2 + 1, none⟩ (.int .i64 1)) (w.heap.size + 1) (zK (k + 1)) nilS by have := BF.put Q1.out (k := k) (by rw [zK_len (by omega)]; omega) 0 1; rwa [zK_step hlt] at this)
      have N2 := hide (show Below w.heap.size w ((wr.setCell ⟨w.heap.size + 1, k * 2, none⟩ (.int .i64 0)).setCell ⟨w.heap.size + 1, k * 2 + 1, none⟩ (.int .i64 1)) from (BW.out.setCell (by simp) _).setCell (by simp) _)
      clear Q0 Q1 BW
      go_wp2
      go_roundw
      case rel => exact .mk (k + 1) (by go_num) (by omega) N0.out N1.out N2.out
      case measure => simp [intOf]; omega
    · obtain rfl : k = 7 := by omega
      have q0 : wr.heap[w.heap.size]? = some (.cells (usL z00 ++ [nilS]).toArray 29) := Q0.out
      have q1 : wr.heap[w.heap.size + 1]? = some (.cells (usL z01 ++ [nilS]).toArray 29) := Q1.out
      replace q0 := hide q0
      replace q1 := hide q1
      clear Q0 Q1
      go_upto_region 7 with fail
      refine wp_region_list ?_
      refine wpList_load_mid rfl 29 (.tmp 1) rfl (w.heap.size + 1) 0 rfl (usL z01 ++ [nilS]) _ (range_blk q1.out) Tryd.underlying29 rfl (by kernel_rfl) ?_
      refine wpList_store_mid rfl 29 (.tmp 0) (.tmp 11) rfl w.heap.size 0 (usL z01 ++ [nilS]).toArray rfl rfl (there_blk q0.out rfl) (by kernel_rfl) (by simp [Value.oneCell', usL, z01, nilS]) ?_
      go_wp2_with fail
      refine ret_cell (b := w.heap.size) (cs := usL z01 ++ [nilS]) Tryd.results7 rfl (World.rangeAt_setCells_same _ _ _ _ (there_blk q0.out rfl)) Tryd.underlying29 rfl (by kernel_rfl) rfl ?_
      exact ⟨rfl, BW.out.grown (setCells_grown _ _ _ _) BW.out.size (fun k hk => by cases hk; exact Nat.le_refl _)⟩
end Go.Proofs.YticgcokhdipomaaDoor.nm
