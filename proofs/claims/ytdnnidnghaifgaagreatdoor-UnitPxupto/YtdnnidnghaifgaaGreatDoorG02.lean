/-
  Blocks of fractions; nothing of each unit: by the program.
  One unit's form; sums of seven fractions: by the program.
  What an expression comes to: plain.
  What an expression of numbers comes to: by the program.
-/
import Derived.Test.YtdnnidnghaifgaaGreatDoorMNoB
import Derived.Test.YtdnnidnghaifgaaGreatDoorN11
import Derived.Deep.RegionHeld3
import Derived.Deep.RegionWith
import Derived.Deep.MidRow
import Derived.Test.YtdnnidnghaifgaaGreatDoorN21
import Derived.Deep.DeepCutAuto
import Derived.Test.YtdnnidnghaifgaaGreatDoorG01
import Derived.Deep.OwnRows
set_option linter.unusedVariables false
set_option linter.unusedSimpArgs false
namespace Go.Proofs.YtdnnidnghaifgaaGreatDoor.nm
open Go.RowKit

theorem bxk_2g {w : World} {b : Nat} {u0 u1 : Value} {T : TypeId} (h : w.heap[b]? = some (.cells #[u0, u1] T)) : w.cell? ⟨b, 0, none⟩ = some u0 ∧ w.cell? ⟨b, 1, none⟩ = some u1 :=
  ⟨by rw [row_blk h]; rfl, by rw [row_blk h]; rfl⟩
theorem two_new (w : World) (A B : Obj) : ((w.alloc A).alloc B).heap[w.heap.size]? = some A ∧ ((w.alloc A).alloc B).heap[w.heap.size + 1]? = some B := by
  refine ⟨((bplus (Below.refl (w.alloc A).heap.size (w.alloc A)) B).block _ (by simp)).trans (heap_alloc_new w A), ?_⟩
  have := heap_alloc_new (w.alloc A) B
  rwa [show (w.alloc A).heap.size = w.heap.size + 1 by simp] at this
/-- A block that holds these values. -/
def Bk (w : World) (b : Nat) (T : TypeId) (cs : List Value) : Prop := w.heap[b]? = some (.cells cs.toArray T)
theorem Bk.lt {w : World} {b : Nat} {T : TypeId} {cs : List Value} (h : Bk w b T cs) : b < w.heap.size := (Array.getElem?_eq_some_iff.1 h).1
theorem Bk.fz {w : World} {b : Nat} {T : TypeId} {cs : List Value} (h : Bk w b T cs) : ∀ j, w.frozen? ⟨b, j, none⟩ = false := fun j => by simp [World.frozen?, show w.heap[b]? = _ from h]
theorem Bk.low {w w' : World} {b B : Nat} {T : TypeId} {cs : List Value} (h : Bk w b T cs) (hw : Below B w w') (hb : b < B) : Bk w' b T cs := (hw.block _ hb).trans h
theorem Bk.up {w w' : World} {b : Nat} {T : TypeId} {cs : List Value} (h : Bk w b T cs) (hw : Below w.heap.size w w') : Bk w' b T cs := h.low hw h.lt
theorem Bk.new (w : World) (T : TypeId) (cs : List Value) : Bk (w.alloc (.cells cs.toArray T)) w.heap.size T cs := heap_alloc_new w _
theorem Bk.more {w : World} {b : Nat} {T : TypeId} {cs : List Value} (h : Bk w b T cs) (o : Obj) : Bk (w.alloc o) b T cs := (Below.heap_alloc w o b h.lt).trans h
theorem Bk.far {w : World} {b r : Nat} {T : TypeId} {cs : List Value} (h : Bk w b T cs) (hr : b ≠ r) (i : Nat) (u : Value) : Bk (w.setCell ⟨r, i, none⟩ u) b T cs := (Below.heap_setCell w ⟨r, i, none⟩ u b hr).trans h
theorem Bk.drew {w : World} {b : Nat} {T : TypeId} {cs : List Value} (h : Bk w b T cs) : Bk w.drew b T cs := h
theorem Bk.cell {w : World} {b : Nat} {T : TypeId} {cs : List Value} (h : Bk w b T cs) (j : Nat) : w.cell? ⟨b, j, none⟩ = cs[j]? := by rw [row_blk h]; simp
theorem Bk.put {w : World} {b : Nat} {T : TypeId} {cs : List Value} (h : Bk w b T cs) (j : Nat) (v : Value) : Bk (w.setCell ⟨b, j, none⟩ v) b T (cs.set j v) := by
  have h1 : w.heap[b]? = some (.cells cs.toArray T) := h
  have := setCell_blk (j := j) h1 v
  unfold Bk
  rw [this]
  simp
/-- One fraction of seven is set. -/
theorem usL_set {us : List (Int × Int)} {k : Nat} (hk : k < us.length) (n d : Int) : usL (us.set k (n, d)) = ((usL us).set (k * 2) (.int .i64 n)).set (k * 2 + 1) (.int .i64 d) := by
  induction us generalizing k with
  | nil => simp at hk
  | cons r us ih =>
    cases k with
    | zero => rfl
    | succ k =>
      have := ih (k := k) (by simpa using hk)
      simp only [usL, List.set_cons_succ, List.flatMap_cons, List.cons_append, List.nil_append] at this ⊢
      rw [this, show (k + 1) * 2 = k * 2 + 1 + 1 by omega]
      rfl
theorem usL_len (us : List (Int × Int)) : (usL us).length = us.length * 2 := by
  induction us with
  | nil => rfl
  | cons r us ih => simp only [usL, List.flatMap_cons, List.cons_append, List.nil_append, List.length_cons] at ih ⊢; omega
theorem usL_at {us : List (Int × Int)} {k : Nat} {n d : Int} (h : us[k]? = some (n, d)) : (usL us)[k * 2]? = some (.int .i64 n) ∧ (usL us)[k * 2 + 1]? = some (.int .i64 d) := by
  induction us generalizing k with
  | nil => simp at h
  | cons r us ih =>
    cases k with
    | zero => simp at h; subst h; exact ⟨rfl, rfl⟩
    | succ k =>
      have := ih (k := k) (by simpa using h)
      simp only [usL, List.flatMap_cons, List.cons_append, List.nil_append] at this ⊢
      rw [show (k + 1) * 2 = k * 2 + 1 + 1 by omega]
      simpa using this
/-- A form in a block of its own; seven fractions in one. -/
def BF (w : World) (b : Nat) (us : List (Int × Int)) (u : Value) : Prop := Bk w b 36 (usL us ++ [u])
def BU (w : World) (b : Nat) (T : TypeId) (us : List (Int × Int)) : Prop := Bk w b T (usL us)
theorem BF.at {w : World} {b : Nat} {us : List (Int × Int)} {u : Value} (h : BF w b us u) (hu : us.length = 7) {k : Nat} {n d : Int} (hk : us[k]? = some (n, d)) : w.cell? ⟨b, k * 2, none⟩ = some (.int .i64 n) ∧ w.cell? ⟨b, k * 2 + 1, none⟩ = some (.int .i64 d) := by
  obtain ⟨h1, h2⟩ := usL_at hk
  have hl := usL_len us
  have hk7 := (List.getElem?_eq_some_iff.1 hk).1
  exact ⟨by rw [Bk.cell h, List.getElem?_append_left (by omega), h1], by rw [Bk.cell h, List.getElem?_append_left (by omega), h2]⟩
theorem BF.last {w : World} {b : Nat} {us : List (Int × Int)} {u : Value} (h : BF w b us u) (hu : us.length = 7) : w.cell? ⟨b, 14, none⟩ = some u := by
  have hl := usL_len us
  rw [Bk.cell h, List.getElem?_append_right (by omega), show 14 - (usL us).length = 0 by omega]; rfl
theorem BF.put {w : World} {b : Nat} {us : List (Int × Int)} {u : Value} (h : BF w b us u) {k : Nat} (hk : k < us.length) (n d : Int) : BF ((w.setCell ⟨b, k * 2, none⟩ (.int .i64 n)).setCell ⟨b, k * 2 + 1, none⟩ (.int .i64 d)) b (us.set k (n, d)) u := by
  have hl := usL_len us
  have := Bk.put (Bk.put h (k * 2) (.int .i64 n)) (k * 2 + 1) (.int .i64 d)
  unfold BF
  rw [usL_set hk, ]
  rwa [List.set_append_left _ _ (by omega), List.set_append_left _ _ (by rw [List.length_set]; omega)] at this
theorem BU.at {w : World} {b : Nat} {T : TypeId} {us : List (Int × Int)} (h : BU w b T us) {k : Nat} {n d : Int} (hk : us[k]? = some (n, d)) : w.cell? ⟨b, k * 2, none⟩ = some (.int .i64 n) ∧ w.cell? ⟨b, k * 2 + 1, none⟩ = some (.int .i64 d) := by
  obtain ⟨h1, h2⟩ := usL_at hk
  exact ⟨by rw [Bk.cell h, h1], by rw [Bk.cell h, h2]⟩
theorem BU.put {w : World} {b : Nat} {T : TypeId} {us : List (Int × Int)} (h : BU w b T us) {k : Nat} (hk : k < us.length) (n d : Int) : BU ((w.setCell ⟨b, k * 2, none⟩ (.int .i64 n)).setCell ⟨b, k * 2 + 1, none⟩ (.int .i64 d)) b T (us.set k (n, d)) := by
  have := Bk.put (Bk.put h (k * 2) (.int .i64 n)) (k * 2 + 1) (.int .i64 d)
  unfold BU
  rw [usL_set hk]
  exact this
/-- The variable that is nothing. -/
def Nth (w : World) : Prop := 1 < w.heap.size ∧ w.cell? ⟨1, 0, none⟩ = some (.int .i64 0) ∧ w.cell? ⟨1, 1, none⟩ = some (.int .i64 1)
theorem Nth.low {w w' : World} (h : Nth w) (hw : Below w.heap.size w w') : Nth w' := ⟨Nat.lt_of_lt_of_le h.1 hw.size, (hw.cell (p := ⟨1, 0, none⟩) h.1).trans h.2.1, (hw.cell (p := ⟨1, 1, none⟩) h.1).trans h.2.2⟩
def z00 : List (Int × Int) := [(0, 0), (0, 0), (0, 0), (0, 0), (0, 0), (0, 0), (0, 0)]
def z01 : List (Int × Int) := [(0, 1), (0, 1), (0, 1), (0, 1), (0, 1), (0, 1), (0, 1)]
def zK (k : Nat) : List (Int × Int) := z01.take k ++ z00.drop k
theorem zK_step {k : Nat} (h : k < 7) : (zK k).set k (0, 1) = zK (k + 1) := by
  rcases (show k = 0 ∨ k = 1 ∨ k = 2 ∨ k = 3 ∨ k = 4 ∨ k = 5 ∨ k = 6 by omega) with rfl | rfl | rfl | rfl | rfl | rfl | rfl <;> rfl
theorem zK_len {k : Nat} (h : k ≤ 7) : (zK k).length = 7 := by
  rcases (show k = 0 ∨ k = 1 ∨ k = 2 ∨ k = 3 ∨ k = 4 ∨ k = 5 ∨ k = 6 ∨ k = 7 by omega) with rfl | rfl | rfl | rfl | rfl | rfl | rfl | rfl <;> rfl
theorem zK_at {k : Nat} (h : k < 7) : (zK k)[k]? = some (0, 0) := by
  rcases (show k = 0 ∨ k = 1 ∨ k = 2 ∨ k = 3 ∨ k = 4 ∨ k = 5 ∨ k = 6 by omega) with rfl | rfl | rfl | rfl | rfl | rfl | rfl <;> rfl
def nilS : Value := .slice none 0 0
def RelZ (w : World) (i : Value) (wr : World) : Prop := ∃ k : Nat, i = .int .i64 k ∧ k ≤ 7 ∧ Hid (BF wr w.heap.size z00 nilS ∧ BF wr (w.heap.size + 1) (zK k) nilS ∧ Below w.heap.size w wr)
theorem RelZ.mk {w : World} {i : Value} {wr : World} (k : Nat) (h1 : i = .int .i64 k) (h2 : k ≤ 7) (h3 : BF wr w.heap.size z00 nilS) (h4 : BF wr (w.heap.size + 1) (zK k) nilS) (h5 : Below w.heap.size w wr) : RelZ w i wr := ⟨k, h1, h2, h3, h4, h5⟩
theorem zus : Us z01 := ⟨rfl, by intro r hr; simp [z01] at hr; subst hr; exact ⟨⟨by decide, by decide⟩, ⟨by decide, by decide⟩⟩⟩
set_option maxRecDepth 100000 in
set_option maxHeartbeats 8000000 in
theorem zero_any (w : World) (hN : Nth w) : Calls Tryz.prog 60 #[] w fun e w' => e = .returned (foV z01 nilS) ∧ Below w.heap.size w w' := by
  have HN := hide hN
  clear hN
  obtain ⟨W1, hW1⟩ : ∃ W1, (w.alloc (.cells (usL z00 ++ [nilS]).toArray 36)).alloc (.cells (usL z00 ++ [nilS]).toArray 36) = W1 := ⟨_, rfl⟩
  have B0 := hide (show Below w.heap.size w W1 by rw [← hW1]; exact bplus (bplus (Below.refl _ _) _) _)
  have P0 := hide (show BF W1 w.heap.size z00 nilS by rw [← hW1]; exact (Bk.new w _ _).more _)
  have P1 := hide (show BF W1 (w.heap.size + 1) z00 nilS by rw [← hW1]; have := Bk.new (w.alloc (.cells (usL z00 ++ [nilS]).toArray 36)) 36 (usL z00 ++ [nilS]); rwa [show (w.alloc (.cells (usL z00 ++ [nilS]).toArray 36)).heap.size = w.heap.size + 1 by simp] at this)
  have HW1 := hide hW1
  clear hW1
  go_enter Tryz.func60, Tryz.ntmps60
  go_wp2_with fail
  rw [show (w.alloc (.cells #[.int .i64 0, .int .i64 0, .int .i64 0, .int .i64 0, .int .i64 0, .int .i64 0, .int .i64 0, .int .i64 0, .int .i64 0, .int .i64 0, .int .i64 0, .int .i64 0, .int .i64 0, .int .i64 0, .slice none 0 0] 36)).alloc (.cells #[.int .i64 0, .int .i64 0, .int .i64 0, .int .i64 0, .int .i64 0, .int .i64 0, .int .i64 0, .int .i64 0, .int .i64 0, .int .i64 0, .int .i64 0, .int .i64 0, .int .i64 0, .int .i64 0, .slice none 0 0] 36) = W1 from HW1.out]
  go_loopw [3] (fun i wr => RelZ w i wr) (fun i _ => 7 - (intOf i).toNat)
  case atStart => exact .mk 0 rfl (by omega) P0.out P1.out B0.out
  case round =>
    obtain ⟨k, rfl, hk, R⟩ := hrel
    have Q0 := hide R.out.1
    have Q1 := hide R.out.2.1
    have BW := hide R.out.2.2
    clear R P0 P1 B0 HW1
    by_cases hlt : k < 7
    · have hlt' : (k : Int) < 7 := by omega
      obtain ⟨-, t0, t1⟩ := HN.out.low BW.out
      obtain ⟨c0, c1⟩ := BF.at Q1.out (zK_len (by omega)) (zK_at hlt)
      have z0 := Bk.fz Q1.out (k * 2)
      have z1 := Bk.fz Q1.out (k * 2 + 1)
      have N0 := hide (show BF ((wr.setCell ⟨w.heap.size + 1, k * 2, none⟩ (.int .i64 0)).setCell ⟨w.heap.size + 1, k * 2 + 1, none⟩ (.int .i64 1)) w.heap.size z00 nilS from Bk.far (Bk.far Q0.out (by omega) _ _) (by omega) _ _)
      have N1 := hide (show BF ((wr.setCell ⟨w.heap.size + 1, k * 2, none⟩ (.int .i64 0)).setCell ⟨w.heap.size + 1, k * 2 + 1, none⟩ (.int .i64 1)) (w.heap.size + 1) (zK (k + 1)) nilS by have := BF.put Q1.out (k := k) (by rw [zK_len (by omega)]; omega) 0 1; rwa [zK_step hlt] at this)
      have N2 := hide (show Below w.heap.size w ((wr.setCell ⟨w.heap.size + 1, k * 2, none⟩ (.int .i64 0)).setCell ⟨w.heap.size + 1, k * 2 + 1, none⟩ (.int .i64 1)) from (BW.out.setCell (by simp) _).setCell (by simp) _)
      clear Q0 Q1 BW
      go_wp2
      go_roundw
      case rel => exact .mk (k + 1) (by go_num) (by omega) N0.out N1.out N2.out
      case measure => simp [intOf]; omega
    · obtain rfl : k = 7 := by omega
      have q0 : wr.heap[w.heap.size]? = some (.cells (usL z00 ++ [nilS]).toArray 36) := Q0.out
      have q1 : wr.heap[w.heap.size + 1]? = some (.cells (usL z01 ++ [nilS]).toArray 36) := Q1.out
      replace q0 := hide q0
      replace q1 := hide q1
      clear Q0 Q1
      go_upto_region 7 with fail
      refine wp_region_list ?_
      refine wpList_load_mid rfl 36 (.tmp 1) rfl (w.heap.size + 1) 0 rfl (usL z01 ++ [nilS]) _ (range_blk q1.out) Tryz.underlying36 rfl (by kernel_rfl) ?_
      refine wpList_store_mid rfl 36 (.tmp 0) (.tmp 11) rfl w.heap.size 0 (usL z01 ++ [nilS]).toArray rfl rfl (there_blk q0.out rfl) (by kernel_rfl) (by simp [Value.oneCell', usL, z01, nilS]) ?_
      go_wp2_with fail
      refine ret_cell (b := w.heap.size) (cs := usL z01 ++ [nilS]) Tryz.results60 rfl (World.rangeAt_setCells_same _ _ _ _ (there_blk q0.out rfl)) Tryz.underlying36 rfl (by kernel_rfl) rfl ?_
      exact ⟨rfl, BW.out.grown (setCells_grown _ _ _ _) BW.out.size (fun k hk => by cases hk; exact Nat.le_refl _)⟩
end Go.Proofs.YtdnnidnghaifgaaGreatDoor.nm
set_option linter.unusedVariables false
set_option linter.unusedSimpArgs false
namespace Go.Proofs.YtdnnidnghaifgaaGreatDoor.nm
open Go.RowKit

/-- What a fraction counts as. -/
def ctR (r : Int × Int) : Int × Int := if mayB r.1 r.2 then r else (0, 0)
theorem counted_any (n d : Int) (w : World) (hn : i64 n) (hd : i64 d) : Calls Tryz.prog 62 #[.agg #[.int .i64 n, .int .i64 d]] w fun e w' => e = .returned (.agg #[.int .i64 (ctR (n, d)).1, .int .i64 (ctR (n, d)).2]) ∧ Below w.heap.size w w' := by
  obtain ⟨n1, n2⟩ := hn
  obtain ⟨d1, d2⟩ := hd
  have C := hide (fun (W : World) => may_any n d W n1 n2 d1 d2)
  obtain ⟨W1, hW1⟩ : ∃ W1, (w.alloc (.cells #[.int .i64 n, .int .i64 d] 23)).alloc (.cells #[.int .i64 0, .int .i64 0] 23) = W1 := ⟨_, rfl⟩
  have B0 := hide (show Below w.heap.size w W1 by rw [← hW1]; exact bplus (bplus (Below.refl _ _) _) _)
  have P0 := hide (show Bk W1 w.heap.size 23 [.int .i64 n, .int .i64 d] by rw [← hW1]; exact (Bk.new w _ _).more _)
  have P1 := hide (show Bk W1 (w.heap.size + 1) 23 [.int .i64 0, .int .i64 0] by rw [← hW1]; have := Bk.new (w.alloc (.cells #[.int .i64 n, .int .i64 d] 23)) 23 [.int .i64 0, .int .i64 0]; rwa [show (w.alloc (.cells #[.int .i64 n, .int .i64 d] 23)).heap.size = w.heap.size + 1 by simp] at this)
  have HW1 := hide hW1
  clear hW1
  have a0 := Bk.cell P0.out 0
  have a1 := Bk.cell P0.out 1
  simp at a0 a1
  cases hm : mayB n d
  · have HM := hide hm
    have F := hide (show ctR (n, d) = (0, 0) by unfold ctR; simp [hm])
    clear hm
    go_enter Tryz.func62, Tryz.ntmps62
    go_upto_region 1 with fail
    rw [HW1.out]
    go_wp2_with (go_at_call 94; refine (C.out _).mono ?_; rintro e w1 ⟨rfl, U1⟩; rw [HM.out]; have Q1 := Bk.up P1.out U1.1; have b0 := Bk.cell Q1 0; have b1 := Bk.cell Q1 1; have z0 := Bk.fz Q1 0; have z1 := Bk.fz Q1 1; simp at b0 b1; replace Q1 := hide Q1; have U2 := hide (bto B0.out U1.1); clear U1)
    exact bodyPost_ret (v := .agg #[.int .i64 0, .int .i64 0]) (by simp [results, Tryz.results62, go_sem, *]) rfl ⟨by rw [F.out], (U2.out.setCell (by simp) _).setCell (by simp) _⟩
  · have HM := hide hm
    have F := hide (show ctR (n, d) = (n, d) by unfold ctR; simp [hm])
    clear hm
    go_enter Tryz.func62, Tryz.ntmps62
    go_upto_region 1 with fail
    rw [HW1.out]
    go_wp2_with (go_at_call 94; refine (C.out _).mono ?_; rintro e w1 ⟨rfl, U1⟩; rw [HM.out]; have Q1 := Bk.up P1.out U1.1; have b0 := Bk.cell Q1 0; have b1 := Bk.cell Q1 1; have z0 := Bk.fz Q1 0; have z1 := Bk.fz Q1 1; simp at b0 b1; replace Q1 := hide Q1; have Q2 := Bk.up P0.out U1.1; have d0 := Bk.cell Q2 0; have d1 := Bk.cell Q2 1; simp at d0 d1; clear Q2; have U2 := hide (bto B0.out U1.1); clear U1)
    exact bodyPost_ret (v := .agg #[.int .i64 n, .int .i64 d]) (by simp [results, Tryz.results62, go_sem, *]) rfl ⟨by rw [F.out], (U2.out.setCell (by simp) _).setCell (by simp) _⟩
theorem ct_i64 {n d : Int} (hn : i64 n) (hd : i64 d) : i64 (ctR (n, d)).1 ∧ i64 (ctR (n, d)).2 := by
  unfold ctR; split
  · exact ⟨hn, hd⟩
  · exact ⟨⟨by decide, by decide⟩, ⟨by decide, by decide⟩⟩
/-- The sum of two fractions. -/
def adR (r s : Int × Int) : Int × Int := wk.addAll [r, s]
theorem ad_i64 (r s : Int × Int) : i64 (adR r s).1 ∧ i64 (adR r s).2 := wk.addAll_I64 _
theorem add2_any (W : World) (T : TypeId) (n d m e : Int) (hn : i64 n) (hd : i64 d) (hm : i64 m) (he : i64 e) : Calls Tryz.prog 72 #[.slice (some ⟨W.heap.size, 0, none⟩) 2 2] (W.alloc (.cells #[.int .i64 n, .int .i64 d, .int .i64 m, .int .i64 e] T)) fun x w' => x = .returned (.agg #[.int .i64 (adR (n, d) (m, e)).1, .int .i64 (adR (n, d) (m, e)).2]) ∧ Below W.heap.size W w' := by
  refine (wk.addP_any _ [(n, d), (m, e)] _ (wk.row_two W n d m e T) (by intro r hr; simp at hr; rcases hr with rfl | rfl; exact ⟨hn, hd⟩; exact ⟨hm, he⟩)).mono ?_
  rintro x w1 ⟨rfl, U⟩
  exact ⟨rfl, bto (bplus (Below.refl _ _) _) U.1⟩
theorem add2_drew (W : World) (T : TypeId) (n d m e : Int) (hn : i64 n) (hd : i64 d) (hm : i64 m) (he : i64 e) : Calls Tryz.prog 72 #[.slice (some ⟨W.heap.size, 0, none⟩) 2 2] (W.alloc (.cells #[.int .i64 n, .int .i64 d, .int .i64 m, .int .i64 e] T)).drew fun x w' => x = .returned (.agg #[.int .i64 (adR (n, d) (m, e)).1, .int .i64 (adR (n, d) (m, e)).2]) ∧ Below W.heap.size W w' := by
  refine (wk.addP_any _ [(n, d), (m, e)] _ ((wk.row_two W n d m e T).up ((wk.Up.refl _).drew)) (by intro r hr; simp at hr; rcases hr with rfl | rfl; exact ⟨hn, hd⟩; exact ⟨hm, he⟩)).mono ?_
  rintro x w1 ⟨rfl, U⟩
  exact ⟨rfl, bto (bplus (Below.refl _ _) _).drew U.1⟩
/-- The first k are summed up. -/
def mxU (k : Nat) (us vs : List (Int × Int)) : List (Int × Int) := (List.zipWith adR us vs).take k ++ us.drop k
def plU (us vs : List (Int × Int)) : List (Int × Int) := List.zipWith adR us vs
theorem mxU_len {us vs : List (Int × Int)} (h1 : us.length = 7) (h2 : vs.length = 7) {k : Nat} (hk : k ≤ 7) : (mxU k us vs).length = 7 := by simp [mxU, h1, h2]; omega
theorem mxU_at {us vs : List (Int × Int)} (h1 : us.length = 7) (h2 : vs.length = 7) {k : Nat} (hk : k < 7) : (mxU k us vs)[k]? = us[k]? := by
  unfold mxU
  rw [List.getElem?_append_right (by simp [h1, h2]; omega)]
  simp [h1, h2]
  rw [show min k 7 = k by omega, Nat.sub_self, Nat.add_zero]
theorem mxU_step {us vs : List (Int × Int)} (h1 : us.length = 7) (h2 : vs.length = 7) {k : Nat} (hk : k < 7) {r s : Int × Int} (hr : us[k]? = some r) (hs : vs[k]? = some s) : (mxU k us vs).set k (adR r s) = mxU (k + 1) us vs := by
  have hz : (List.zipWith adR us vs)[k]? = some (adR r s) := by rw [List.getElem?_zipWith, hr, hs]
  have hlz : (List.zipWith adR us vs).length = 7 := by simp [h1, h2]
  unfold mxU
  rw [List.set_append_right _ _ (by simp [h1, h2]; omega)]
  rw [show k - ((List.zipWith adR us vs).take k).length = 0 by rw [List.length_take, hlz]; omega]
  rw [drop_atE hr, List.set_cons_zero, List.take_add_one, hz]
  simp
theorem mxU_end {us vs : List (Int × Int)} (h1 : us.length = 7) (h2 : vs.length = 7) : mxU 7 us vs = plU us vs := by
  unfold mxU plU
  rw [List.take_of_length_le (by simp [h1, h2]), List.drop_of_length_le (by omega), List.append_nil]
theorem plU_us {us vs : List (Int × Int)} (h1 : Us us) (h2 : Us vs) : Us (plU us vs) := by
  refine ⟨by simp [plU, h1.1, h2.1], fun r hr => ?_⟩
  obtain ⟨i, hi, rfl⟩ := List.mem_iff_getElem.1 hr
  simp only [plU, List.getElem_zipWith]
  exact ad_i64 _ _
def RelPl (w : World) (us vs : List (Int × Int)) (i : Value) (wr : World) : Prop := ∃ k : Nat, i = .int .i64 k ∧ k ≤ 7 ∧ Hid (BU wr w.heap.size 99 (mxU k us vs) ∧ BU wr (w.heap.size + 1) 99 vs ∧ BU wr (w.heap.size + 2) 99 z00 ∧ Below w.heap.size w wr)
theorem RelPl.mk {w : World} {us vs : List (Int × Int)} {i : Value} {wr : World} (k : Nat) (h1 : i = .int .i64 k) (h2 : k ≤ 7) (h3 : BU wr w.heap.size 99 (mxU k us vs)) (h4 : BU wr (w.heap.size + 1) 99 vs) (h5 : BU wr (w.heap.size + 2) 99 z00) (h6 : Below w.heap.size w wr) : RelPl w us vs i wr := ⟨k, h1, h2, h3, h4, h5, h6⟩
theorem three_new (w : World) (A B C : Obj) : (((w.alloc A).alloc B).alloc C).heap[w.heap.size]? = some A ∧ (((w.alloc A).alloc B).alloc C).heap[w.heap.size + 1]? = some B ∧ (((w.alloc A).alloc B).alloc C).heap[w.heap.size + 2]? = some C := by
  have h1 : (w.alloc A).heap.size = w.heap.size + 1 := by simp
  have h2 : ((w.alloc A).alloc B).heap.size = w.heap.size + 2 := by simp
  have a := heap_alloc_new w A
  have b := heap_alloc_new (w.alloc A) B
  have c := heap_alloc_new ((w.alloc A).alloc B) C
  rw [h1] at b
  rw [h2] at c
  refine ⟨?_, ?_, c⟩
  · exact (Below.heap_alloc _ C _ (by omega)).trans ((Below.heap_alloc _ B _ (by omega)).trans a)
  · exact (Below.heap_alloc _ C _ (by omega)).trans b
set_option maxRecDepth 100000 in
set_option maxHeartbeats 8000000 in
theorem plus_any (us vs : List (Int × Int)) (w : World) (hus : Us us) (hvs : Us vs) : Calls Tryz.prog 115 #[usV us, usV vs] w fun e w' => e = .returned (usV (plU us vs)) ∧ Below w.heap.size w w' := by
  have l1 := hus.1
  have l2 := hvs.1
  have HU := hide hus
  have HV := hide hvs
  obtain ⟨W1, hW1⟩ : ∃ W1, ((w.alloc (.cells (usL us).toArray 99)).alloc (.cells (usL vs).toArray 99)).alloc (.cells (usL z00).toArray 99) = W1 := ⟨_, rfl⟩
  have B0 := hide (show Below w.heap.size w W1 by rw [← hW1]; exact bplus (bplus (bplus (Below.refl _ _) _) _) _)
  have P0 := hide (show BU W1 w.heap.size 99 us by rw [← hW1]; exact (three_new w _ _ _).1)
  have P1 := hide (show BU W1 (w.heap.size + 1) 99 vs by rw [← hW1]; exact (three_new w _ _ _).2.1)
  have P2 := hide (show BU W1 (w.heap.size + 2) 99 z00 by rw [← hW1]; exact (three_new w _ _ _).2.2)
  have HW1 := hide hW1
  clear hW1
  unfold usV
  have C := hide (fun (W : World) (T : TypeId) (n d m e : Int) => add2_drew W T n d m e)
  obtain ⟨ul, hul⟩ : ∃ ul, (usL us).toArray = ul := ⟨_, rfl⟩
  obtain ⟨vl, hvl⟩ : ∃ vl, (usL vs).toArray = vl := ⟨_, rfl⟩
  rw [hul, hvl]
  rw [hul, hvl] at HW1
  have hsu : ul.size = 14 := by rw [← hul]; simp [usL_len, l1]
  have hsv : vl.size = 14 := by rw [← hvl]; simp [usL_len, l2]
  clear hul hvl
  go_enter Tryz.func115, Tryz.ntmps115
  go_upto_region 1 with fail
  rw [show (((w.alloc (.cells ul 99)).alloc (.cells vl 99)).alloc (.cells #[.int .i64 0, .int .i64 0, .int .i64 0, .int .i64 0, .int .i64 0, .int .i64 0, .int .i64 0, .int .i64 0, .int .i64 0, .int .i64 0, .int .i64 0, .int .i64 0, .int .i64 0, .int .i64 0] 99)) = W1 from HW1.out]
  go_wp2_with fail
  go_loopw [6] (fun i wr => RelPl w us vs i wr) (fun i _ => 7 - (intOf i).toNat)
  case atStart => exact .mk 0 rfl (by omega) P0.out P1.out P2.out B0.out
  case round =>
    obtain ⟨k, rfl, hk, R⟩ := hrel
    have Q0 := hide R.out.1
    have Q1 := hide R.out.2.1
    have Q2 := hide R.out.2.2.1
    have BW := hide R.out.2.2.2
    clear R P0 P1 P2 B0 HW1
    by_cases hlt : k < 7
    · have hlt' : (k : Int) < 7 := by omega
      obtain ⟨rn, rd, hr, hrn, hrd⟩ := us_at HU.out hlt
      obtain ⟨sn, sd, hs, hsn, hsd⟩ := us_at HV.out hlt
      have C2 := hide (fun (W : World) (T : TypeId) => C.out W T rn rd sn sd hrn hrd hsn hsd)
      have ST := hide (mxU_step l1 l2 hlt hr hs)
      obtain ⟨ad, had⟩ : ∃ ad, adR (rn, rd) (sn, sd) = ad := ⟨_, rfl⟩
      rw [had] at C2 ST
      clear had
      obtain ⟨c0, c1⟩ := BU.at Q0.out ((mxU_at l1 l2 hlt).trans hr)
      obtain ⟨d0, d1⟩ := BU.at Q1.out hs
      have ha1 : w.heap.size < wr.heap.size := Bk.lt Q0.out
      have ha2 : w.heap.size + 1 < wr.heap.size := Bk.lt Q1.out
      have ha3 : w.heap.size ≠ wr.heap.size := by omega
      have ha4 : w.heap.size + 1 ≠ wr.heap.size := by omega
      have NX := hide (fun (W : World) (h : Below wr.heap.size wr W) => show BU ((W.setCell ⟨w.heap.size, k * 2, none⟩ (.int .i64 ad.1)).setCell ⟨w.heap.size, k * 2 + 1, none⟩ (.int .i64 ad.2)) w.heap.size 99 (mxU (k + 1) us vs) by
        have := BU.put (Bk.up Q0.out h : BU W w.heap.size 99 (mxU k us vs)) (k := k) (by rw [mxU_len l1 l2 hk]; omega) ad.1 ad.2
        rwa [show ((ad.1, ad.2) : Int × Int) = ad from rfl, ST.out] at this)
      have NY := hide (fun (W : World) (h : Below wr.heap.size wr W) => show BU ((W.setCell ⟨w.heap.size, k * 2, none⟩ (.int .i64 ad.1)).setCell ⟨w.heap.size, k * 2 + 1, none⟩ (.int .i64 ad.2)) (w.heap.size + 1) 99 vs from Bk.far (Bk.far (Bk.up Q1.out h) (by omega) _ _) (by omega) _ _)
      have NZ := hide (fun (W : World) (h : Below wr.heap.size wr W) => show BU ((W.setCell ⟨w.heap.size, k * 2, none⟩ (.int .i64 ad.1)).setCell ⟨w.heap.size, k * 2 + 1, none⟩ (.int .i64 ad.2)) (w.heap.size + 2) 99 z00 from Bk.far (Bk.far (Bk.up Q2.out h) (by omega) _ _) (by omega) _ _)
      have NB := hide (fun (W : World) (h : Below wr.heap.size wr W) => show Below w.heap.size w ((W.setCell ⟨w.heap.size, k * 2, none⟩ (.int .i64 ad.1)).setCell ⟨w.heap.size, k * 2 + 1, none⟩ (.int .i64 ad.2)) from ((bto BW.out h).setCell (by simp) _).setCell (by simp) _)
      have KC := hide (fun (W : World) (h : Below wr.heap.size wr W) => And.intro ((BU.at (Bk.up Q0.out h : BU W w.heap.size 99 (mxU k us vs)) ((mxU_at l1 l2 hlt).trans hr))) (Bk.fz (Bk.up Q0.out h)))
      clear hr hs ST Q0 Q1 Q2
      go_wp2
      go_region_with ((go_at_call 72; refine (C2.out _ _).mono ?_; rintro e w4 ⟨rfl, B4⟩; replace B4 := hide (show Below wr.heap.size wr w4 from B4); obtain ⟨⟨v0, v1⟩, vz⟩ := KC.out w4 B4.out; have vz0 := vz (k * 2); have vz1 := vz (k * 2 + 1); clear vz))
      all_goals
        go_wp2_with fail
        go_roundw
        case rel => exact .mk (k + 1) (by go_num) (by omega) (NX.out _ B4.out) (NY.out _ B4.out) (NZ.out _ B4.out) (NB.out _ B4.out)
        case measure => simp [intOf]; omega
    · obtain rfl : k = 7 := by omega
      have q0 := hide (show wr.heap[w.heap.size]? = some (.cells (usL (plU us vs)).toArray 99) by rw [← mxU_end l1 l2]; exact Q0.out)
      have q2 := hide (show wr.heap[w.heap.size + 2]? = some (.cells (usL z00).toArray 99) from Q2.out)
      have l3 : (usL (plU us vs)).length = 14 := by rw [usL_len, (plU_us HU.out HV.out).1]
      have oc : ∀ v ∈ usL (plU us vs), v.oneCell' = true := by
        intro v hv
        simp only [usL, List.mem_flatMap] at hv
        obtain ⟨r, -, hv⟩ := hv
        simp at hv
        rcases hv with rfl | rfl <;> rfl
      clear Q0 Q1 Q2
      go_upto_region 6 with fail
      refine wp_region_list ?_
      refine wpList_load_mid rfl 99 (.tmp 2) rfl w.heap.size 0 rfl (usL (plU us vs)) _ (range_blk q0.out) Tryz.underlying99 rfl (by rw [l3]; kernel_rfl) ?_
      refine wpList_store_mid rfl 99 (.tmp 4) (.tmp 20) rfl (w.heap.size + 2) 0 (usL (plU us vs)).toArray rfl rfl (there_blk q2.out (by simp only [List.size_toArray, l3]; rfl)) (by rw [List.size_toArray, l3]; kernel_rfl) (all_oneCell_toArray oc) ?_
      go_wp2_with fail
      refine ret_cell (b := w.heap.size + 2) (cs := usL (plU us vs)) Tryz.results115 rfl (World.rangeAt_setCells_same _ _ _ _ (there_blk q2.out (by simp only [List.size_toArray, l3]; rfl))) Tryz.underlying99 rfl (by rw [l3]; kernel_rfl) rfl ?_
      exact ⟨rfl, BW.out.grown (setCells_grown _ _ _ _) BW.out.size (fun k hk => by cases hk; simp)⟩
end Go.Proofs.YtdnnidnghaifgaaGreatDoor.nm
set_option linter.unusedVariables false
set_option linter.unusedSimpArgs false
namespace Go.Proofs.YtdnnidnghaifgaaGreatDoor.nm
open Go.RowKit cc

/-- An expression whose numbers are of 64 bits, however deep they stand. -/
inductive OkX : Ex → Prop
  | mk (k n d u : Int) (ks : List Ex) (h1 : (Ex.mk k n d u ks).Ok) (h2 : ∀ y, y ∈ ks → OkX y) : OkX (.mk k n d u ks)
theorem OkX.ok {x : Ex} (h : OkX x) : x.Ok := by cases h; assumption
theorem OkX.kids {x : Ex} (h : OkX x) : ∀ y ∈ x.ks, OkX y := by cases h; assumption
theorem em_okx {w : World} {v : Value} {l : List Ex} (h : EM w v l) : ∀ y ∈ l, OkX y := by
  induction h with
  | nil a c => intro y hy; cases hy
  | row b o c l u h0 hb hc hn hm hx ht hu hk ih =>
    intro y hy
    obtain ⟨i, hi⟩ := List.mem_iff_getElem?.1 hy
    obtain ⟨k, n, d, q, ks⟩ := y
    exact .mk k n d q ks (hx i _ hi) (ih i _ hi)
/-- The place i, or over. -/
def rAt (rs : List (Int × Int)) (i : Nat) : Int × Int := rs.getD i (0, 0)
def ngR (r : Int × Int) : Int × Int := (wk.ngN r.1 r.2, wk.ngD r.1 r.2)
def dvR (r s : Int × Int) : Int × Int := (wk.divN r.1 r.2 s.1 s.2, wk.divD r.1 r.2 s.1 s.2)
/-- What a node comes to, by what its kids come to. -/
def rkK (k : Int) (rs : List (Int × Int)) : Int × Int :=
  if k = 2 then wk.addAll rs else if k = 3 then ngR (rAt rs 0) else if k = 4 then wk.mulAll rs else if k = 5 then dvR (1, 1) (rAt rs 0) else if k = 6 then wk.utAll (-1) rs else if k = 7 then wk.utAll 1 rs else wk.utAll 1 [rAt rs 0, wk.utAll (-1) [rAt rs 1, rAt rs 2]]
mutual
/-- What an expression comes to; sz: the units' sizes. -/
def rkE (sz : Int → Int × Int) : Ex → Int × Int
  | .mk k n d u ks => if k = 1 then (if u = 0 then (n, d) else wk.mulAll [(n, d), sz u]) else rkK k (rkEs sz ks)
def rkEs (sz : Int → Int × Int) : List Ex → List (Int × Int)
  | [] => []
  | e :: es => rkE sz e :: rkEs sz es
end
theorem rkEs_map (sz : Int → Int × Int) (l : List Ex) : rkEs sz l = l.map (rkE sz) := by
  induction l with
  | nil => rw [rkEs]; rfl
  | cons x r ih => rw [rkEs, ih]; rfl
theorem rkE_mk (sz : Int → Int × Int) (k n d u : Int) (ks : List Ex) : rkE sz (.mk k n d u ks) = if k = 1 then (if u = 0 then (n, d) else wk.mulAll [(n, d), sz u]) else rkK k (ks.map (rkE sz)) := by rw [rkE, rkEs_map]
def R64 (r : Int × Int) : Prop := i64 r.1 ∧ i64 r.2
theorem r64_zero : R64 (0, 0) := ⟨⟨by decide, by decide⟩, ⟨by decide, by decide⟩⟩
theorem rAt_64 {rs : List (Int × Int)} (h : ∀ r ∈ rs, R64 r) (i : Nat) : R64 (rAt rs i) := by
  unfold rAt
  rw [List.getD_eq_getElem?_getD]
  cases hi : rs[i]? with
  | none => exact r64_zero
  | some r => exact h r (List.mem_of_getElem? hi)
theorem utF_64 (k : Int) : ∀ (rs : List (Int × Int)) (o : Option (Int × Int)), (∀ r ∈ rs, R64 r) → (∀ r, o = some r → R64 r) → ∀ r, rs.foldl (wk.utS k) o = some r → R64 r := by
  intro rs
  induction rs with
  | nil => intro o _ ho r hr; exact ho r hr
  | cons x l ih =>
    intro o hl ho r hr
    refine ih (wk.utS k o x) (fun y hy => hl y (by simp [hy])) (fun y hy => ?_) r hr
    unfold wk.utS at hy
    cases o with
    | none => simp at hy
    | some b =>
      simp only [Option.bind_some] at hy
      split at hy
      · simp only [Option.some.injEq] at hy
        split at hy
        · subst hy; exact hl _ (by simp)
        · subst hy; exact ho _ rfl
      · simp at hy
theorem ut_64 (k : Int) {rs : List (Int × Int)} (h : ∀ r ∈ rs, R64 r) : R64 (wk.utAll k rs) := by
  cases rs with
  | nil => exact r64_zero
  | cons x l =>
    show R64 ((wk.utF k (x :: l) x).getD (0, 0))
    cases hq : wk.utF k (x :: l) x with
    | none => exact r64_zero
    | some r => exact utF_64 k (x :: l) (some x) h (fun y hy => by cases hy; exact h x (by simp)) r hq
theorem ng_64 {r : Int × Int} (h : R64 r) : R64 (ngR r) := wk.ng_I64 h.1 h.2
theorem dv_64 {r s : Int × Int} (h : R64 s) : R64 (dvR r s) := by
  unfold dvR
  by_cases v : wk.isV s.1 s.2 = true
  · obtain ⟨e1, e2⟩ := wk.div_eq (n := r.1) (d := r.2) h.1 h.2 v
    rw [← e1, ← e2]
    exact wk.mul_I64' _ _ _ _
  · have v' : wk.isV s.1 s.2 = false := by simpa using v
    obtain ⟨e1, e2⟩ := wk.div_no (n := r.1) (d := r.2) (m := s.1) (e := s.2) (by simp [v'])
    rw [e1, e2]
    exact r64_zero
theorem rkK_64 (k : Int) {rs : List (Int × Int)} (h : ∀ r ∈ rs, R64 r) : R64 (rkK k rs) := by
  unfold rkK
  have h0 := rAt_64 h 0
  have h1 := rAt_64 h 1
  have h2 := rAt_64 h 2
  split
  · exact wk.addAll_I64 rs
  split
  · exact ng_64 h0
  split
  · exact wk.mulAll_I64 rs
  split
  · exact dv_64 h0
  split
  · exact ut_64 _ h
  split
  · exact ut_64 _ h
  · refine ut_64 _ (fun r hr => ?_)
    simp at hr
    rcases hr with rfl | rfl
    · exact h0
    · refine ut_64 _ (fun r hr => ?_)
      simp at hr
      rcases hr with rfl | rfl
      · exact h1
      · exact h2
theorem rk_64 (sz : Int → Int × Int) {x : Ex} (h : OkX x) : R64 (rkE sz x) := by
  induction h with
  | mk k n d u ks h1 h2 ih =>
    rw [rkE_mk]
    split
    · split
      · exact ⟨h1.2.1, h1.2.2.1⟩
      · exact wk.mulAll_I64 _
    · refine rkK_64 k (fun r hr => ?_)
      obtain ⟨y, hy, rfl⟩ := List.mem_map.1 hr
      exact ih y hy
/-- Kids of an expression of numbers are such. -/
theorem kids_num {x : Ex} {j : Nat} (h : exM x j = true) (hk : ¬ x.k = 1) (h1 : kdE x = 1) : ∀ y ∈ x.ks, kdE y = 1 := by
  obtain ⟨k, n, d, u, ks⟩ := x
  rw [kd_rf h hk] at h1
  unfold rfK at h1
  have ha : cnK (ks.map kdE) 1 = ks.length := by
    split at h1
    · omega
    split at h1
    · omega
    split at h1
    · assumption
    split at h1 <;> omega
  have hb := all_cnt 1 (ks.map kdE)
  rw [List.length_map, ha] at hb
  simp only [decide_true, List.all_eq_true, beq_iff_eq] at hb
  intro y hy
  exact hb (kdE y) (List.mem_map.2 ⟨y, hy, rfl⟩)
theorem num_unit {n d u : Int} {ks : List Ex} (h : kdE (.mk 1 n d u ks) = 1) : u = 0 := by
  rw [kdE_mk, if_pos rfl] at h
  by_cases e : u = 0
  · exact e
  · rw [if_neg e] at h; omega
/-- How many kids. -/
theorem kids_len {x : Ex} {j : Nat} (h : exM x j = true) (hk : ¬ x.k = 1) : (x.k = 2 ∨ x.k = 3 ∨ x.k = 4 ∨ x.k = 5 ∨ x.k = 6 ∨ x.k = 7 ∨ x.k = 8) ∧ 1 ≤ x.ks.length ∧ (x.k = 8 → x.ks.length = 3) := by
  have h0 := exM_kids h hk
  rw [exM_eq, Bool.and_eq_true, if_neg hk, Bool.and_eq_true, Bool.and_eq_true] at h
  have hc := h.2.1.2
  unfold cntM at hc
  refine ⟨?_, h0.2, ?_⟩
  · split at hc
    · omega
    split at hc
    · omega
    split at hc
    · omega
    · cases hc
  · intro h8
    rw [h8] at hc
    simpa using hc
theorem exMs_mem {l : List Ex} {j : Nat} (h : exMs l j = true) : ∀ y ∈ l, exM y j = true := by
  induction l with
  | nil => intro y hy; cases hy
  | cons x r ih =>
    rw [exMs_cons, Bool.and_eq_true] at h
    intro y hy
    rcases List.mem_cons.1 hy with rfl | hy
    · exact h.1
    · exact ih h.2 y hy
end Go.Proofs.YtdnnidnghaifgaaGreatDoor.nm
set_option linter.unusedVariables false
set_option linter.unusedSimpArgs false
namespace Go.Proofs.YtdnnidnghaifgaaGreatDoor.nm
open Go.RowKit cc

def ratV (r : Int × Int) : Value := .agg #[.int .i64 r.1, .int .i64 r.2]
theorem madeR (m : Nat) (hm : m ≤ 1000000000) (W : World) : (Instr.makeSlice 71 (.int .i64 m) (.int .i64 m)).run Tryz.prog W = .ok (.slice (some ⟨W.heap.size, 0, none⟩) m m) (W.alloc (.cells (madeCells #[.int .i64 0, .int .i64 0] (m * 2)) 23)) := by
  have h := run_make (P := Tryz.prog) W 71 23 Tryz.t23 (.agg #[.int .i64 0, .int .i64 0]) Tryz.underlying71 (by kernel_rfl) (by kernel_rfl) .i64 .i64 m m (by omega) (Int.le_refl _) (by show ((16 : Nat) : Int) * m ≤ _; omega) (by omega)
  have e : ((m : Int).toNat * Tryz.t23.size) = m * 2 := by show (m : Int).toNat * 2 = m * 2; simp
  rw [e, Int.toNat_natCast] at h
  exact h
/-- An own row of fractions, the first k of them written. -/
def Rw2 (w : World) (g n k : Nat) (rs : List (Int × Int)) : Prop := ∃ cs : Array Value, w.heap[g]? = some (.cells cs 23) ∧ cs.size = n * 2 ∧ ∀ j x, j < k → rs[j]? = some x → cs[j * 2]? = some (.int .i64 x.1) ∧ cs[j * 2 + 1]? = some (.int .i64 x.2)
theorem Rw2.new (W : World) (n : Nat) (rs : List (Int × Int)) : Rw2 (W.alloc (.cells (madeCells #[.int .i64 0, .int .i64 0] (n * 2)) 23)) W.heap.size n 0 rs := ⟨_, heap_alloc_new W _, size_madeCells _ _, fun j x hj => by omega⟩
theorem Rw2.lt {w : World} {g n k : Nat} {rs : List (Int × Int)} (h : Rw2 w g n k rs) : g < w.heap.size := by obtain ⟨cs, h1, _⟩ := h; exact (Array.getElem?_eq_some_iff.1 h1).1
theorem Rw2.up {w w' : World} {g n k : Nat} {rs : List (Int × Int)} (h : Rw2 w g n k rs) (hw : Below w.heap.size w w') : Rw2 w' g n k rs := by
  have hl := h.lt
  obtain ⟨cs, h1, h2⟩ := h
  exact ⟨cs, (hw.block _ hl).trans h1, h2⟩
theorem Rw2.more {w : World} {g n k : Nat} {rs : List (Int × Int)} (h : Rw2 w g n k rs) (o : Obj) : Rw2 (w.alloc o) g n k rs := by
  have hl := h.lt
  obtain ⟨cs, h1, h2⟩ := h
  exact ⟨cs, (Below.heap_alloc w o g hl).trans h1, h2⟩
theorem Rw2.there {w : World} {g n k : Nat} {rs : List (Int × Int)} (h : Rw2 w g n k rs) {j : Nat} (hj : j < n * 2) : (∃ v, w.cell? ⟨g, j, none⟩ = some v) ∧ w.frozen? ⟨g, j, none⟩ = false := by
  obtain ⟨cs, h1, h2, _⟩ := h
  exact ⟨⟨_, by rw [row_blk h1]; exact Array.getElem?_eq_getElem (by omega)⟩, by simp [World.frozen?, h1]⟩
theorem Rw2.put {w : World} {g n k : Nat} {rs : List (Int × Int)} (h : Rw2 w g n k rs) (hk : k < n) {y : Int × Int} (hy : rs[k]? = some y) : Rw2 ((w.setCell ⟨g, k * 2, none⟩ (.int .i64 y.1)).setCell ⟨g, k * 2 + 1, none⟩ (.int .i64 y.2)) g n (k + 1) rs := by
  obtain ⟨cs, h1, h2, h3⟩ := h
  refine ⟨_, setCell_blk (setCell_blk h1 _) _, by simp [h2], fun j x hj hx => ?_⟩
  by_cases e : j = k
  · subst e
    obtain rfl : y = x := Option.some.inj (hy.symm.trans hx)
    refine ⟨?_, ?_⟩
    · simp only [Array.set!_eq_setIfInBounds, Array.getElem?_setIfInBounds, Array.size_setIfInBounds]
      rw [if_neg (by omega), if_pos trivial, if_pos (by omega)]
    · simp only [Array.set!_eq_setIfInBounds, Array.getElem?_setIfInBounds, Array.size_setIfInBounds]
      rw [if_pos trivial, if_pos (by omega)]
  · obtain ⟨i1, i2⟩ := h3 j x (by omega) hx
    refine ⟨?_, ?_⟩
    · simp only [Array.set!_eq_setIfInBounds, Array.getElem?_setIfInBounds, Array.size_setIfInBounds]
      rw [if_neg (by omega), if_neg (by omega)]
      exact i1
    · simp only [Array.set!_eq_setIfInBounds, Array.getElem?_setIfInBounds, Array.size_setIfInBounds]
      rw [if_neg (by omega), if_neg (by omega)]
      exact i2
theorem Rw2.at {w : World} {g n k : Nat} {rs : List (Int × Int)} (h : Rw2 w g n k rs) {i : Nat} {x : Int × Int} (hi : i < k) (hx : rs[i]? = some x) : w.cell? ⟨g, i * 2, none⟩ = some (.int .i64 x.1) ∧ w.cell? ⟨g, i * 2 + 1, none⟩ = some (.int .i64 x.2) := by
  obtain ⟨cs, h1, h2, h3⟩ := h
  obtain ⟨i1, i2⟩ := h3 i x hi hx
  exact ⟨by rw [row_blk h1]; exact i1, by rw [row_blk h1]; exact i2⟩
theorem Rw2.row {w : World} {g n : Nat} {rs : List (Int × Int)} (h : Rw2 w g n n rs) (hn : rs.length = n) (h9 : n ≤ 1000000000) : wk.Row w (.slice (some ⟨g, 0, none⟩) n n) rs := by
  refine .inr ⟨g, 0, n, by rw [hn], h.lt, by omega, fun i hi => ?_⟩
  obtain ⟨i1, i2⟩ := h.at (i := i) (x := rs[i]) (by omega) (List.getElem?_eq_getElem hi)
  rw [Nat.zero_add]
  exact ⟨i1, i2⟩
def RelNu (w : World) (rs : List (Int × Int)) (n : Nat) (e5 : List Value) (i : Value) (wr : World) : Prop := ∃ k : Nat, i = .int .i64 k ∧ k ≤ n ∧ Hid (Rw2 wr (w.heap.size + 2) n k rs ∧ Bk wr (w.heap.size + 1) 23 [.int .i64 0, .int .i64 0] ∧ Bk wr w.heap.size 42 e5 ∧ Below w.heap.size w wr)
theorem RelNu.mk {w : World} {rs : List (Int × Int)} {n : Nat} {e5 : List Value} {i : Value} {wr : World} (k : Nat) (h1 : i = .int .i64 k) (h2 : k ≤ n) (h3 : Rw2 wr (w.heap.size + 2) n k rs) (h4 : Bk wr (w.heap.size + 1) 23 [.int .i64 0, .int .i64 0]) (h5 : Bk wr w.heap.size 42 e5) (h6 : Below w.heap.size w wr) : RelNu w rs n e5 i wr := ⟨k, h1, h2, h3, h4, h5, h6⟩
def NuC (sz : Int → Int × Int) (N : Nat) : Prop := ∀ (x : Ex) (j : Nat) (u : Value) (w : World), szE x ≤ N → OkX x → exM x j = true → kdE x = 1 → EM w u x.ks → Calls Tryz.prog 114 #[exV x u] w fun e w' => e = .returned (ratV (rkE sz x)) ∧ Below w.heap.size w w'
/-- What the operations tell of a row, in a world that is grown. -/
def OpC (f : FuncId) (W0 : World) (v : Value) (r : Int × Int) : Prop := ∀ W, Below W0.heap.size W0 W → Calls Tryz.prog f #[v] W fun e w' => e = .returned (ratV r) ∧ Below W0.heap.size W0 w'
theorem row_low {w w' : World} {v : Value} {rs : List (Int × Int)} (h : wk.Row w v rs) (hw : Below w.heap.size w w') : wk.Row w' v rs := by
  rcases h with ⟨a, c, rfl, rfl⟩ | ⟨b, off, c, rfl, hb, hl, hrow⟩
  · exact .inl ⟨a, c, rfl, rfl⟩
  · exact .inr ⟨b, off, c, rfl, Nat.lt_of_lt_of_le hb hw.size, hl, fun i h => ⟨(hw.cell (p := ⟨b, off + i * 2, none⟩) hb).trans (hrow i h).1, (hw.cell (p := ⟨b, off + i * 2 + 1, none⟩) hb).trans (hrow i h).2⟩⟩
theorem addP_op {W0 : World} {v : Value} {rs : List (Int × Int)} (h : wk.Row W0 v rs) (hi : ∀ r ∈ rs, R64 r) : OpC 72 W0 v (wk.addAll rs) := fun W hW => (wk.addP_any v rs W (row_low h hW) hi).mono (by rintro e w1 ⟨rfl, U⟩; exact ⟨rfl, bto hW U.1⟩)
theorem mulP_op {W0 : World} {v : Value} {rs : List (Int × Int)} (h : wk.Row W0 v rs) (hi : ∀ r ∈ rs, R64 r) : OpC 70 W0 v (wk.mulAll rs) := fun W hW => (wk.mulP_any v rs W (row_low h hW) hi).mono (by rintro e w1 ⟨rfl, U⟩; exact ⟨rfl, bto hW U.1⟩)
theorem leastP_op {W0 : World} {v : Value} {rs : List (Int × Int)} (h : wk.Row W0 v rs) (hi : ∀ r ∈ rs, R64 r) : OpC 78 W0 v (wk.utAll (-1) rs) := fun W hW => (wk.leastP_any v rs W (row_low h hW) hi).mono (by rintro e w1 ⟨rfl, U⟩; exact ⟨rfl, bto hW U.1⟩)
theorem mostP_op {W0 : World} {v : Value} {rs : List (Int × Int)} (h : wk.Row W0 v rs) (hi : ∀ r ∈ rs, R64 r) : OpC 79 W0 v (wk.utAll 1 rs) := fun W hW => (wk.mostP_any v rs W (row_low h hW) hi).mono (by rintro e w1 ⟨rfl, U⟩; exact ⟨rfl, bto hW U.1⟩)
theorem negP_op {W0 : World} {r : Int × Int} (h : R64 r) : OpC 76 W0 (ratV r) (ngR r) := fun W hW => (wk.negP_any r.1 r.2 W h.1 h.2).mono (by rintro e w1 ⟨rfl, U⟩; exact ⟨rfl, bto hW U.1⟩)
theorem two_row {W : World} {r s : Int × Int} {T : TypeId} : wk.Row (W.alloc (.cells #[.int .i64 r.1, .int .i64 r.2, .int .i64 s.1, .int .i64 s.2] T)) (.slice (some ⟨W.heap.size, 0, none⟩) 2 2) [r, s] := wk.row_two W r.1 r.2 s.1 s.2 T
theorem two_drew {W : World} {r s : Int × Int} {T : TypeId} : wk.Row (W.alloc (.cells #[.int .i64 r.1, .int .i64 r.2, .int .i64 s.1, .int .i64 s.2] T)).drew (.slice (some ⟨W.heap.size, 0, none⟩) 2 2) [r, s] := (wk.row_two W r.1 r.2 s.1 s.2 T).up ((wk.Up.refl _).drew)
theorem in_two {r s : Int × Int} (hr : R64 r) (hs : R64 s) : ∀ x ∈ [r, s], R64 x := fun x hx => by
  simp at hx
  rcases hx with rfl | rfl
  · exact hr
  · exact hs
end Go.Proofs.YtdnnidnghaifgaaGreatDoor.nm
