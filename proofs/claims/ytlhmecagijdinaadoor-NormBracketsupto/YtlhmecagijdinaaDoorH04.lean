/-
  Blocks of fractions; nothing of each unit: by the program.
  One unit's form; sums of seven fractions: by the program.
  One unit's form: by the program.
-/
import Derived.Test.YtlhmecagijdinaaDoorMNoB
import Derived.Test.YtlhmecagijdinaaDoorN11
import Derived.Deep.RegionHeld3
import Derived.Deep.RegionWith
import Derived.Deep.MidRow
import Derived.Test.YtlhmecagijdinaaDoorN21
import Derived.Deep.DeepCutAuto
set_option linter.unusedVariables false
set_option linter.unusedSimpArgs false
namespace Go.Proofs.YtlhmecagijdinaaDoor.nm
open Go.RowKit

theorem bxk_2g {w : World} {b : Nat} {u0 u1 : Value} {T : TypeId} (h : w.heap[b]? = some (.cells #[u0, u1] T)) : w.cell? ⟨b, 0, none⟩ = some u0 ∧ w.cell? ⟨b, 1, none⟩ = some u1 :=
  ⟨by rw [row_blk h]; rfl, by rw [row_blk h]; rfl⟩
theorem two_new (w : World) (A B : Obj) : ((w.alloc A).alloc B).heap[w.heap.size]? = some A ∧ ((w.alloc A).alloc B).heap[w.heap.size + 1]? = some B := by
  refine ⟨((bplus (Below.refl (w.alloc A).heap.size (w.alloc A)) B).block _ (by simp)).trans (heap_alloc_new w A), ?_⟩
  have := heap_alloc_new (w.alloc A) B
  rwa [show (w.alloc A).heap.size = w.heap.size + 1 by simp] at this
/-- A block that holds these values. -/
def Bk (w : World) (b : Nat) (T : TypeId) (cs : List Value) : Prop := w.heap[b]? = some (.cells cs.toArray T)
theorem Bk.lt {w : World} {b : Nat} {T : TypeId} {cs : List Value} (h : Bk w b T cs) : b < w.heap.size := (Array.getElem?_eq_some_iff.1 h).1
theorem Bk.fz {w : World} {b : Nat} {T : TypeId} {cs : List Value} (h : Bk w b T cs) : ∀ j, w.frozen? ⟨b, j, none⟩ = false := fun j => by simp [World.frozen?, show w.heap[b]? = _ from h]
theorem Bk.low {w w' : World} {b B : Nat} {T : TypeId} {cs : List Value} (h : Bk w b T cs) (hw : Below B w w') (hb : b < B) : Bk w' b T cs := (hw.block _ hb).trans h
theorem Bk.up {w w' : World} {b : Nat} {T : TypeId} {cs : List Value} (h : Bk w b T cs) (hw : Below w.heap.size w w') : Bk w' b T cs := h.low hw h.lt
theorem Bk.new (w : World) (T : TypeId) (cs : List Value) : Bk (w.alloc (.cells cs.toArray T)) w.heap.size T cs := heap_alloc_new w _
theorem Bk.more {w : World} {b : Nat} {T : TypeId} {cs : List Value} (h : Bk w b T cs) (o : Obj) : Bk (w.alloc o) b T cs := (Below.heap_alloc w o b h.lt).trans h
theorem Bk.far {w : World} {b r : Nat} {T : TypeId} {cs : List Value} (h : Bk w b T cs) (hr : b ≠ r) (i : Nat) (u : Value) : Bk (w.setCell ⟨r, i, none⟩ u) b T cs := (Below.heap_setCell w ⟨r, i, none⟩ u b hr).trans h
theorem Bk.drew {w : World} {b : Nat} {T : TypeId} {cs : List Value} (h : Bk w b T cs) : Bk w.drew b T cs := h
theorem Bk.cell {w : World} {b : Nat} {T : TypeId} {cs : List Value} (h : Bk w b T cs) (j : Nat) : w.cell? ⟨b, j, none⟩ = cs[j]? := by rw [row_blk h]; simp
theorem Bk.put {w : World} {b : Nat} {T : TypeId} {cs : List Value} (h : Bk w b T cs) (j : Nat) (v : Value) : Bk (w.setCell ⟨b, j, none⟩ v) b T (cs.set j v) := by
  have h1 : w.heap[b]? = some (.cells cs.toArray T) := h
  have := setCell_blk (j := j) h1 v
  unfold Bk
  rw [this]
  simp
/-- One fraction of seven is set. -/
theorem usL_set {us : List (Int × Int)} {k : Nat} (hk : k < us.length) (n d : Int) : usL (us.set k (n, d)) = ((usL us).set (k * 2) (.int .i64 n)).set (k * 2 + 1) (.int .i64 d) := by
  induction us generalizing k with
  | nil => simp at hk
  | cons r us ih =>
    cases k with
    | zero => rfl
    | succ k =>
      have := ih (k := k) (by simpa using hk)
      simp only [usL, List.set_cons_succ, List.flatMap_cons, List.cons_append, List.nil_append] at this ⊢
      rw [this, show (k + 1) * 2 = k * 2 + 1 + 1 by omega]
      rfl
theorem usL_len (us : List (Int × Int)) : (usL us).length = us.length * 2 := by
  induction us with
  | nil => rfl
  | cons r us ih => simp only [usL, List.flatMap_cons, List.cons_append, List.nil_append, List.length_cons] at ih ⊢; omega
theorem usL_at {us : List (Int × Int)} {k : Nat} {n d : Int} (h : us[k]? = some (n, d)) : (usL us)[k * 2]? = some (.int .i64 n) ∧ (usL us)[k * 2 + 1]? = some (.int .i64 d) := by
  induction us generalizing k with
  | nil => simp at h
  | cons r us ih =>
    cases k with
    | zero => simp at h; subst h; exact ⟨rfl, rfl⟩
    | succ k =>
      have := ih (k := k) (by simpa using h)
      simp only [usL, List.flatMap_cons, List.cons_append, List.nil_append] at this ⊢
      rw [show (k + 1) * 2 = k * 2 + 1 + 1 by omega]
      simpa using this
/-- A form in a block of its own; seven fractions in one. -/
def BF (w : World) (b : Nat) (us : List (Int × Int)) (u : Value) : Prop := Bk w b 30 (usL us ++ [u])
def BU (w : World) (b : Nat) (T : TypeId) (us : List (Int × Int)) : Prop := Bk w b T (usL us)
theorem BF.at {w : World} {b : Nat} {us : List (Int × Int)} {u : Value} (h : BF w b us u) (hu : us.length = 7) {k : Nat} {n d : Int} (hk : us[k]? = some (n, d)) : w.cell? ⟨b, k * 2, none⟩ = some (.int .i64 n) ∧ w.cell? ⟨b, k * 2 + 1, none⟩ = some (.int .i64 d) := by
  obtain ⟨h1, h2⟩ := usL_at hk
  have hl := usL_len us
  have hk7 := (List.getElem?_eq_some_iff.1 hk).1
  exact ⟨by rw [Bk.cell h, List.getElem?_append_left (by omega), h1], by rw [Bk.cell h, List.getElem?_append_left (by omega), h2]⟩
theorem BF.last {w : World} {b : Nat} {us : List (Int × Int)} {u : Value} (h : BF w b us u) (hu : us.length = 7) : w.cell? ⟨b, 14, none⟩ = some u := by
  have hl := usL_len us
  rw [Bk.cell h, List.getElem?_append_right (by omega), show 14 - (usL us).length = 0 by omega]; rfl
theorem BF.put {w : World} {b : Nat} {us : List (Int × Int)} {u : Value} (h : BF w b us u) {k : Nat} (hk : k < us.length) (n d : Int) : BF ((w.setCell ⟨b, k * 2, none⟩ (.int .i64 n)).setCell ⟨b, k * 2 + 1, none⟩ (.int .i64 d)) b (us.set k (n, d)) u := by
  have hl := usL_len us
  have := Bk.put (Bk.put h (k * 2) (.int .i64 n)) (k * 2 + 1) (.int .i64 d)
  unfold BF
  rw [usL_set hk, ]
  rwa [List.set_append_left _ _ (by omega), List.set_append_left _ _ (by rw [List.length_set]; omega)] at this
theorem BU.at {w : World} {b : Nat} {T : TypeId} {us : List (Int × Int)} (h : BU w b T us) {k : Nat} {n d : Int} (hk : us[k]? = some (n, d)) : w.cell? ⟨b, k * 2, none⟩ = some (.int .i64 n) ∧ w.cell? ⟨b, k * 2 + 1, none⟩ = some (.int .i64 d) := by
  obtain ⟨h1, h2⟩ := usL_at hk
  exact ⟨by rw [Bk.cell h, h1], by rw [Bk.cell h, h2]⟩
theorem BU.put {w : World} {b : Nat} {T : TypeId} {us : List (Int × Int)} (h : BU w b T us) {k : Nat} (hk : k < us.length) (n d : Int) : BU ((w.setCell ⟨b, k * 2, none⟩ (.int .i64 n)).setCell ⟨b, k * 2 + 1, none⟩ (.int .i64 d)) b T (us.set k (n, d)) := by
  have := Bk.put (Bk.put h (k * 2) (.int .i64 n)) (k * 2 + 1) (.int .i64 d)
  unfold BU
  rw [usL_set hk]
  exact this
/-- The variable that is nothing. -/
def Nth (w : World) : Prop := 0 < w.heap.size ∧ w.cell? ⟨0, 0, none⟩ = some (.int .i64 0) ∧ w.cell? ⟨0, 1, none⟩ = some (.int .i64 1)
theorem Nth.low {w w' : World} (h : Nth w) (hw : Below w.heap.size w w') : Nth w' := ⟨Nat.lt_of_lt_of_le h.1 hw.size, (hw.cell (p := ⟨0, 0, none⟩) h.1).trans h.2.1, (hw.cell (p := ⟨0, 1, none⟩) h.1).trans h.2.2⟩
def z00 : List (Int × Int) := [(0, 0), (0, 0), (0, 0), (0, 0), (0, 0), (0, 0), (0, 0)]
def z01 : List (Int × Int) := [(0, 1), (0, 1), (0, 1), (0, 1), (0, 1), (0, 1), (0, 1)]
def zK (k : Nat) : List (Int × Int) := z01.take k ++ z00.drop k
theorem zK_step {k : Nat} (h : k < 7) : (zK k).set k (0, 1) = zK (k + 1) := by
  rcases (show k = 0 ∨ k = 1 ∨ k = 2 ∨ k = 3 ∨ k = 4 ∨ k = 5 ∨ k = 6 by omega) with rfl | rfl | rfl | rfl | rfl | rfl | rfl <;> rfl
theorem zK_len {k : Nat} (h : k ≤ 7) : (zK k).length = 7 := by
  rcases (show k = 0 ∨ k = 1 ∨ k = 2 ∨ k = 3 ∨ k = 4 ∨ k = 5 ∨ k = 6 ∨ k = 7 by omega) with rfl | rfl | rfl | rfl | rfl | rfl | rfl | rfl <;> rfl
theorem zK_at {k : Nat} (h : k < 7) : (zK k)[k]? = some (0, 0) := by
  rcases (show k = 0 ∨ k = 1 ∨ k = 2 ∨ k = 3 ∨ k = 4 ∨ k = 5 ∨ k = 6 by omega) with rfl | rfl | rfl | rfl | rfl | rfl | rfl <;> rfl
def nilS : Value := .slice none 0 0
def RelZ (w : World) (i : Value) (wr : World) : Prop := ∃ k : Nat, i = .int .i64 k ∧ k ≤ 7 ∧ Hid (BF wr w.heap.size z00 nilS ∧ BF wr (w.heap.size + 1) (zK k) nilS ∧ Below w.heap.size w wr)
theorem RelZ.mk {w : World} {i : Value} {wr : World} (k : Nat) (h1 : i = .int .i64 k) (h2 : k ≤ 7) (h3 : BF wr w.heap.size z00 nilS) (h4 : BF wr (w.heap.size + 1) (zK k) nilS) (h5 : Below w.heap.size w wr) : RelZ w i wr := ⟨k, h1, h2, h3, h4, h5⟩
theorem zus : Us z01 := ⟨rfl, by intro r hr; simp [z01] at hr; subst hr; exact ⟨⟨by decide, by decide⟩, ⟨by decide, by decide⟩⟩⟩
set_option maxRecDepth 100000 in
set_option maxHeartbeats 8000000 in
theorem zero_any (w : World) (hN : Nth w) : Calls Tryd.prog 21 #[] w fun e w' => e = .returned (foV z01 nilS) ∧ Below w.heap.size w w' := by
  have HN := hide hN
  clear hN
  obtain ⟨W1, hW1⟩ : ∃ W1, (w.alloc (.cells (usL z00 ++ [nilS]).toArray 30)).alloc (.cells (usL z00 ++ [nilS]).toArray 30) = W1 := ⟨_, rfl⟩
  have B0 := hide (show Below w.heap.size w W1 by rw [← hW1]; exact bplus (bplus (Below.refl _ _) _) _)
  have P0 := hide (show BF W1 w.heap.size z00 nilS by rw [← hW1]; exact (Bk.new w _ _).more _)
  have P1 := hide (show BF W1 (w.heap.size + 1) z00 nilS by rw [← hW1]; have := Bk.new (w.alloc (.cells (usL z00 ++ [nilS]).toArray 30)) 30 (usL z00 ++ [nilS]); rwa [show (w.alloc (.cells (usL z00 ++ [nilS]).toArray 30)).heap.size = w.heap.size + 1 by simp] at this)
  have HW1 := hide hW1
  clear hW1
  go_enter Tryd.func21, Tryd.ntmps21
  go_wp2_with fail
  rw [show (w.alloc (.cells #[.int .i64 0, .int .i64 0, .int .i64 0, .int .i64 0, .int .i64 0, .int .i64 0, .int .i64 0, .int .i64 0, .int .i64 0, .int .i64 0, .int .i64 0, .int .i64 0, .int .i64 0, .int .i64 0, .slice none 0 0] 30)).alloc (.cells #[.int .i64 0, .int .i64 0, .int .i64 0, .int .i64 0, .int .i64 0, .int .i64 0, .int .i64 0, .int .i64 0, .int .i64 0, .int .i64 0, .int .i64 0, .int .i64 0, .int .i64 0, .int .i64 0, .slice none 0 0] 30) = W1 from HW1.out]
  go_loopw [3] (fun i wr => RelZ w i wr) (fun i _ => 7 - (intOf i).toNat)
  case atStart => exact .mk 0 rfl (by omega) P0.out P1.out B0.out
  case round =>
    obtain ⟨k, rfl, hk, R⟩ := hrel
    have Q0 := hide R.out.1
    have Q1 := hide R.out.2.1
    have BW := hide R.out.2.2
    clear R P0 P1 B0 HW1
    by_cases hlt : k < 7
    · have hlt' : (k : Int) < 7 := by omega
      obtain ⟨-, t0, t1⟩ := HN.out.low BW.out
      obtain ⟨c0, c1⟩ := BF.at Q1.out (zK_len (by omega)) (zK_at hlt)
      have z0 := Bk.fz Q1.out (k * 2)
      have z1 := Bk.fz Q1.out (k * 2 + 1)
      have N0 := hide (show BF ((wr.setCell ⟨w.heap.size + 1, k * 2, none⟩ (.int .i64 0)).setCell ⟨w.heap.size + 1, k * 2 + 1, none⟩ (.int .i64 1)) w.heap.size z00 nilS from Bk.far (Bk.far Q0.out (by omega) _ _) (by omega) _ _)
      have N1 := hide (show BF ((wr.setCell ⟨w.heap.size + 1, k * 2, none⟩ (.int .i64 0)).setCell ⟨w.heap.size + 1, k * 2 + 1, none⟩ (.int .i64 1)) (w.heap.size + 1) (zK (k + 1)) nilS by have := BF.put Q1.out (k := k) (by rw [zK_len (by omega)]; omega) 0 1; rwa [zK_step hlt] at this)
      have N2 := hide (show Below w.heap.size w ((wr.setCell ⟨w.heap.size + 1, k * 2, none⟩ (.int .i64 0)).setCell ⟨w.heap.size + 1, k * 2 + 1, none⟩ (.int .i64 1)) from (BW.out.setCell (by simp) _).setCell (by simp) _)
      clear Q0 Q1 BW
      go_wp2
      go_roundw
      case rel => exact .mk (k + 1) (by go_num) (by omega) N0.out N1.out N2.out
      case measure => simp [intOf]; omega
    · obtain rfl : k = 7 := by omega
      have q0 : wr.heap[w.heap.size]? = some (.cells (usL z00 ++ [nilS]).toArray 30) := Q0.out
      have q1 : wr.heap[w.heap.size + 1]? = some (.cells (usL z01 ++ [nilS]).toArray 30) := Q1.out
      replace q0 := hide q0
      replace q1 := hide q1
      clear Q0 Q1
      go_upto_region 7 with fail
      refine wp_region_list ?_
      refine wpList_load_mid rfl 30 (.tmp 1) rfl (w.heap.size + 1) 0 rfl (usL z01 ++ [nilS]) _ (range_blk q1.out) Tryd.underlying30 rfl (by kernel_rfl) ?_
      refine wpList_store_mid rfl 30 (.tmp 0) (.tmp 11) rfl w.heap.size 0 (usL z01 ++ [nilS]).toArray rfl rfl (there_blk q0.out rfl) (by kernel_rfl) (by simp [Value.oneCell', usL, z01, nilS]) ?_
      go_wp2_with fail
      refine ret_cell (b := w.heap.size) (cs := usL z01 ++ [nilS]) Tryd.results21 rfl (World.rangeAt_setCells_same _ _ _ _ (there_blk q0.out rfl)) Tryd.underlying30 rfl (by kernel_rfl) rfl ?_
      exact ⟨rfl, BW.out.grown (setCells_grown _ _ _ _) BW.out.size (fun k hk => by cases hk; exact Nat.le_refl _)⟩
end Go.Proofs.YtlhmecagijdinaaDoor.nm
set_option linter.unusedVariables false
set_option linter.unusedSimpArgs false
namespace Go.Proofs.YtlhmecagijdinaaDoor.nm
open Go.RowKit

/-- What a fraction counts as. -/
def ctR (r : Int × Int) : Int × Int := if mayB r.1 r.2 then r else (0, 0)
theorem counted_any (n d : Int) (w : World) (hn : i64 n) (hd : i64 d) : Calls Tryd.prog 23 #[.agg #[.int .i64 n, .int .i64 d]] w fun e w' => e = .returned (.agg #[.int .i64 (ctR (n, d)).1, .int .i64 (ctR (n, d)).2]) ∧ Below w.heap.size w w' := by
  obtain ⟨n1, n2⟩ := hn
  obtain ⟨d1, d2⟩ := hd
  have C := hide (fun (W : World) => may_any n d W n1 n2 d1 d2)
  obtain ⟨W1, hW1⟩ : ∃ W1, (w.alloc (.cells #[.int .i64 n, .int .i64 d] 23)).alloc (.cells #[.int .i64 0, .int .i64 0] 23) = W1 := ⟨_, rfl⟩
  have B0 := hide (show Below w.heap.size w W1 by rw [← hW1]; exact bplus (bplus (Below.refl _ _) _) _)
  have P0 := hide (show Bk W1 w.heap.size 23 [.int .i64 n, .int .i64 d] by rw [← hW1]; exact (Bk.new w _ _).more _)
  have P1 := hide (show Bk W1 (w.heap.size + 1) 23 [.int .i64 0, .int .i64 0] by rw [← hW1]; have := Bk.new (w.alloc (.cells #[.int .i64 n, .int .i64 d] 23)) 23 [.int .i64 0, .int .i64 0]; rwa [show (w.alloc (.cells #[.int .i64 n, .int .i64 d] 23)).heap.size = w.heap.size + 1 by simp] at this)
  have HW1 := hide hW1
  clear hW1
  have a0 := Bk.cell P0.out 0
  have a1 := Bk.cell P0.out 1
  simp at a0 a1
  cases hm : mayB n d
  · have HM := hide hm
    have F := hide (show ctR (n, d) = (0, 0) by unfold ctR; simp [hm])
    clear hm
    go_enter Tryd.func23, Tryd.ntmps23
    go_upto_region 1 with fail
    rw [HW1.out]
    go_wp2_with (go_at_call 40; refine (C.out _).mono ?_; rintro e w1 ⟨rfl, U1⟩; rw [HM.out]; have Q1 := Bk.up P1.out U1.1; have b0 := Bk.cell Q1 0; have b1 := Bk.cell Q1 1; have z0 := Bk.fz Q1 0; have z1 := Bk.fz Q1 1; simp at b0 b1; replace Q1 := hide Q1; have U2 := hide (bto B0.out U1.1); clear U1)
    exact bodyPost_ret (v := .agg #[.int .i64 0, .int .i64 0]) (by simp [results, Tryd.results23, go_sem, *]) rfl ⟨by rw [F.out], (U2.out.setCell (by simp) _).setCell (by simp) _⟩
  · have HM := hide hm
    have F := hide (show ctR (n, d) = (n, d) by unfold ctR; simp [hm])
    clear hm
    go_enter Tryd.func23, Tryd.ntmps23
    go_upto_region 1 with fail
    rw [HW1.out]
    go_wp2_with (go_at_call 40; refine (C.out _).mono ?_; rintro e w1 ⟨rfl, U1⟩; rw [HM.out]; have Q1 := Bk.up P1.out U1.1; have b0 := Bk.cell Q1 0; have b1 := Bk.cell Q1 1; have z0 := Bk.fz Q1 0; have z1 := Bk.fz Q1 1; simp at b0 b1; replace Q1 := hide Q1; have Q2 := Bk.up P0.out U1.1; have d0 := Bk.cell Q2 0; have d1 := Bk.cell Q2 1; simp at d0 d1; clear Q2; have U2 := hide (bto B0.out U1.1); clear U1)
    exact bodyPost_ret (v := .agg #[.int .i64 n, .int .i64 d]) (by simp [results, Tryd.results23, go_sem, *]) rfl ⟨by rw [F.out], (U2.out.setCell (by simp) _).setCell (by simp) _⟩
theorem ct_i64 {n d : Int} (hn : i64 n) (hd : i64 d) : i64 (ctR (n, d)).1 ∧ i64 (ctR (n, d)).2 := by
  unfold ctR; split
  · exact ⟨hn, hd⟩
  · exact ⟨⟨by decide, by decide⟩, ⟨by decide, by decide⟩⟩
/-- The sum of two fractions. -/
def adR (r s : Int × Int) : Int × Int := wk.addAll [r, s]
theorem ad_i64 (r s : Int × Int) : i64 (adR r s).1 ∧ i64 (adR r s).2 := wk.addAll_I64 _
theorem add2_drew (W : World) (T : TypeId) (n d m e : Int) (hn : i64 n) (hd : i64 d) (hm : i64 m) (he : i64 e) : Calls Tryd.prog 67 #[.slice (some ⟨W.heap.size, 0, none⟩) 2 2] (W.alloc (.cells #[.int .i64 n, .int .i64 d, .int .i64 m, .int .i64 e] T)).drew fun x w' => x = .returned (.agg #[.int .i64 (adR (n, d) (m, e)).1, .int .i64 (adR (n, d) (m, e)).2]) ∧ Below W.heap.size W w' := by
  refine (wk.addP_any _ [(n, d), (m, e)] _ ((wk.row_two W n d m e T).up ((wk.Up.refl _).drew)) (by intro r hr; simp at hr; rcases hr with rfl | rfl; exact ⟨hn, hd⟩; exact ⟨hm, he⟩)).mono ?_
  rintro x w1 ⟨rfl, U⟩
  exact ⟨rfl, bto (bplus (Below.refl _ _) _).drew U.1⟩
/-- The first k are summed up. -/
def mxU (k : Nat) (us vs : List (Int × Int)) : List (Int × Int) := (List.zipWith adR us vs).take k ++ us.drop k
def plU (us vs : List (Int × Int)) : List (Int × Int) := List.zipWith adR us vs
theorem mxU_len {us vs : List (Int × Int)} (h1 : us.length = 7) (h2 : vs.length = 7) {k : Nat} (hk : k ≤ 7) : (mxU k us vs).length = 7 := by simp [mxU, h1, h2]; omega
theorem mxU_at {us vs : List (Int × Int)} (h1 : us.length = 7) (h2 : vs.length = 7) {k : Nat} (hk : k < 7) : (mxU k us vs)[k]? = us[k]? := by
  unfold mxU
  rw [List.getElem?_append_right (by simp [h1, h2]; omega)]
  simp [h1, h2]
  rw [show min k 7 = k by omega, Nat.sub_self, Nat.add_zero]
theorem mxU_step {us vs : List (Int × Int)} (h1 : us.length = 7) (h2 : vs.length = 7) {k : Nat} (hk : k < 7) {r s : Int × Int} (hr : us[k]? = some r) (hs : vs[k]? = some s) : (mxU k us vs).set k (adR r s) = mxU (k + 1) us vs := by
  have hz : (List.zipWith adR us vs)[k]? = some (adR r s) := by rw [List.getElem?_zipWith, hr, hs]
  have hlz : (List.zipWith adR us vs).length = 7 := by simp [h1, h2]
  unfold mxU
  rw [List.set_append_right _ _ (by simp [h1, h2]; omega)]
  rw [show k - ((List.zipWith adR us vs).take k).length = 0 by rw [List.length_take, hlz]; omega]
  rw [drop_atE hr, List.set_cons_zero, List.take_add_one, hz]
  simp
theorem mxU_end {us vs : List (Int × Int)} (h1 : us.length = 7) (h2 : vs.length = 7) : mxU 7 us vs = plU us vs := by
  unfold mxU plU
  rw [List.take_of_length_le (by simp [h1, h2]), List.drop_of_length_le (by omega), List.append_nil]
theorem plU_us {us vs : List (Int × Int)} (h1 : Us us) (h2 : Us vs) : Us (plU us vs) := by
  refine ⟨by simp [plU, h1.1, h2.1], fun r hr => ?_⟩
  obtain ⟨i, hi, rfl⟩ := List.mem_iff_getElem.1 hr
  simp only [plU, List.getElem_zipWith]
  exact ad_i64 _ _
def RelPl (w : World) (us vs : List (Int × Int)) (i : Value) (wr : World) : Prop := ∃ k : Nat, i = .int .i64 k ∧ k ≤ 7 ∧ Hid (BU wr w.heap.size 67 (mxU k us vs) ∧ BU wr (w.heap.size + 1) 67 vs ∧ BU wr (w.heap.size + 2) 67 z00 ∧ Below w.heap.size w wr)
theorem RelPl.mk {w : World} {us vs : List (Int × Int)} {i : Value} {wr : World} (k : Nat) (h1 : i = .int .i64 k) (h2 : k ≤ 7) (h3 : BU wr w.heap.size 67 (mxU k us vs)) (h4 : BU wr (w.heap.size + 1) 67 vs) (h5 : BU wr (w.heap.size + 2) 67 z00) (h6 : Below w.heap.size w wr) : RelPl w us vs i wr := ⟨k, h1, h2, h3, h4, h5, h6⟩
theorem three_new (w : World) (A B C : Obj) : (((w.alloc A).alloc B).alloc C).heap[w.heap.size]? = some A ∧ (((w.alloc A).alloc B).alloc C).heap[w.heap.size + 1]? = some B ∧ (((w.alloc A).alloc B).alloc C).heap[w.heap.size + 2]? = some C := by
  have h1 : (w.alloc A).heap.size = w.heap.size + 1 := by simp
  have h2 : ((w.alloc A).alloc B).heap.size = w.heap.size + 2 := by simp
  have a := heap_alloc_new w A
  have b := heap_alloc_new (w.alloc A) B
  have c := heap_alloc_new ((w.alloc A).alloc B) C
  rw [h1] at b
  rw [h2] at c
  refine ⟨?_, ?_, c⟩
  · exact (Below.heap_alloc _ C _ (by omega)).trans ((Below.heap_alloc _ B _ (by omega)).trans a)
  · exact (Below.heap_alloc _ C _ (by omega)).trans b
set_option maxRecDepth 100000 in
set_option maxHeartbeats 8000000 in
theorem plus_any (us vs : List (Int × Int)) (w : World) (hus : Us us) (hvs : Us vs) : Calls Tryd.prog 47 #[usV us, usV vs] w fun e w' => e = .returned (usV (plU us vs)) ∧ Below w.heap.size w w' := by
  have l1 := hus.1
  have l2 := hvs.1
  have HU := hide hus
  have HV := hide hvs
  obtain ⟨W1, hW1⟩ : ∃ W1, ((w.alloc (.cells (usL us).toArray 67)).alloc (.cells (usL vs).toArray 67)).alloc (.cells (usL z00).toArray 67) = W1 := ⟨_, rfl⟩
  have B0 := hide (show Below w.heap.size w W1 by rw [← hW1]; exact bplus (bplus (bplus (Below.refl _ _) _) _) _)
  have P0 := hide (show BU W1 w.heap.size 67 us by rw [← hW1]; exact (three_new w _ _ _).1)
  have P1 := hide (show BU W1 (w.heap.size + 1) 67 vs by rw [← hW1]; exact (three_new w _ _ _).2.1)
  have P2 := hide (show BU W1 (w.heap.size + 2) 67 z00 by rw [← hW1]; exact (three_new w _ _ _).2.2)
  have HW1 := hide hW1
  clear hW1
  unfold usV
  have C := hide (fun (W : World) (T : TypeId) (n d m e : Int) => add2_drew W T n d m e)
  obtain ⟨ul, hul⟩ : ∃ ul, (usL us).toArray = ul := ⟨_, rfl⟩
  obtain ⟨vl, hvl⟩ : ∃ vl, (usL vs).toArray = vl := ⟨_, rfl⟩
  rw [hul, hvl]
  rw [hul, hvl] at HW1
  have hsu : ul.size = 14 := by rw [← hul]; simp [usL_len, l1]
  have hsv : vl.size = 14 := by rw [← hvl]; simp [usL_len, l2]
  clear hul hvl
  go_enter Tryd.func47, Tryd.ntmps47
  go_upto_region 1 with fail
  rw [show (((w.alloc (.cells ul 67)).alloc (.cells vl 67)).alloc (.cells #[.int .i64 0, .int .i64 0, .int .i64 0, .int .i64 0, .int .i64 0, .int .i64 0, .int .i64 0, .int .i64 0, .int .i64 0, .int .i64 0, .int .i64 0, .int .i64 0, .int .i64 0, .int .i64 0] 67)) = W1 from HW1.out]
  go_wp2_with fail
  go_loopw [6] (fun i wr => RelPl w us vs i wr) (fun i _ => 7 - (intOf i).toNat)
  case atStart => exact .mk 0 rfl (by omega) P0.out P1.out P2.out B0.out
  case round =>
    obtain ⟨k, rfl, hk, R⟩ := hrel
    have Q0 := hide R.out.1
    have Q1 := hide R.out.2.1
    have Q2 := hide R.out.2.2.1
    have BW := hide R.out.2.2.2
    clear R P0 P1 P2 B0 HW1
    by_cases hlt : k < 7
    · have hlt' : (k : Int) < 7 := by omega
      obtain ⟨rn, rd, hr, hrn, hrd⟩ := us_at HU.out hlt
      obtain ⟨sn, sd, hs, hsn, hsd⟩ := us_at HV.out hlt
      have C2 := hide (fun (W : World) (T : TypeId) => C.out W T rn rd sn sd hrn hrd hsn hsd)
      have ST := hide (mxU_step l1 l2 hlt hr hs)
      obtain ⟨ad, had⟩ : ∃ ad, adR (rn, rd) (sn, sd) = ad := ⟨_, rfl⟩
      rw [had] at C2 ST
      clear had
      obtain ⟨c0, c1⟩ := BU.at Q0.out ((mxU_at l1 l2 hlt).trans hr)
      obtain ⟨d0, d1⟩ := BU.at Q1.out hs
      have ha1 : w.heap.size < wr.heap.size := Bk.lt Q0.out
      have ha2 : w.heap.size + 1 < wr.heap.size := Bk.lt Q1.out
      have ha3 : w.heap.size ≠ wr.heap.size := by omega
      have ha4 : w.heap.size + 1 ≠ wr.heap.size := by omega
      have NX := hide (fun (W : World) (h : Below wr.heap.size wr W) => show BU ((W.setCell ⟨w.heap.size, k * 2, none⟩ (.int .i64 ad.1)).setCell ⟨w.heap.size, k * 2 + 1, none⟩ (.int .i64 ad.2)) w.heap.size 67 (mxU (k + 1) us vs) by
        have := BU.put (Bk.up Q0.out h : BU W w.heap.size 67 (mxU k us vs)) (k := k) (by rw [mxU_len l1 l2 hk]; omega) ad.1 ad.2
        rwa [show ((ad.1, ad.2) : Int × Int) = ad from rfl, ST.out] at this)
      have NY := hide (fun (W : World) (h : Below wr.heap.size wr W) => show BU ((W.setCell ⟨w.heap.size, k * 2, none⟩ (.int .i64 ad.1)).setCell ⟨w.heap.size, k * 2 + 1, none⟩ (.int .i64 ad.2)) (w.heap.size + 1) 67 vs from Bk.far (Bk.far (Bk.up Q1.out h) (by omega) _ _) (by omega) _ _)
      have NZ := hide (fun (W : World) (h : Below wr.heap.size wr W) => show BU ((W.setCell ⟨w.heap.size, k * 2, none⟩ (.int .i64 ad.1)).setCell ⟨w.heap.size, k * 2 + 1, none⟩ (.int .i64 ad.2)) (w.heap.size + 2) 67 z00 from Bk.far (Bk.far (Bk.up Q2.out h) (by omega) _ _) (by omega) _ _)
      have NB := hide (fun (W : World) (h : Below wr.heap.size wr W) => show Below w.heap.size w ((W.setCell ⟨w.heap.size, k * 2, none⟩ (.int .i64 ad.1)).setCell ⟨w.heap.size, k * 2 + 1, none⟩ (.int .i64 ad.2)) from ((bto BW.out h).setCell (by simp) _).setCell (by simp) _)
      have KC := hide (fun (W : World) (h : Below wr.heap.size wr W) => And.intro ((BU.at (Bk.up Q0.out h : BU W w.heap.size 67 (mxU k us vs)) ((mxU_at l1 l2 hlt).trans hr))) (Bk.fz (Bk.up Q0.out h)))
      clear hr hs ST Q0 Q1 Q2
      go_wp2
      go_region_with ((go_at_call 67; refine (C2.out _ _).mono ?_; rintro e w4 ⟨rfl, B4⟩; replace B4 := hide (show Below wr.heap.size wr w4 from B4); obtain ⟨⟨v0, v1⟩, vz⟩ := KC.out w4 B4.out; have vz0 := vz (k * 2); have vz1 := vz (k * 2 + 1); clear vz))
      all_goals
        go_wp2_with fail
        go_roundw
        case rel => exact .mk (k + 1) (by go_num) (by omega) (NX.out _ B4.out) (NY.out _ B4.out) (NZ.out _ B4.out) (NB.out _ B4.out)
        case measure => simp [intOf]; omega
    · obtain rfl : k = 7 := by omega
      have q0 := hide (show wr.heap[w.heap.size]? = some (.cells (usL (plU us vs)).toArray 67) by rw [← mxU_end l1 l2]; exact Q0.out)
      have q2 := hide (show wr.heap[w.heap.size + 2]? = some (.cells (usL z00).toArray 67) from Q2.out)
      have l3 : (usL (plU us vs)).length = 14 := by rw [usL_len, (plU_us HU.out HV.out).1]
      have oc : ∀ v ∈ usL (plU us vs), v.oneCell' = true := by
        intro v hv
        simp only [usL, List.mem_flatMap] at hv
        obtain ⟨r, -, hv⟩ := hv
        simp at hv
        rcases hv with rfl | rfl <;> rfl
      clear Q0 Q1 Q2
      go_upto_region 6 with fail
      refine wp_region_list ?_
      refine wpList_load_mid rfl 67 (.tmp 2) rfl w.heap.size 0 rfl (usL (plU us vs)) _ (range_blk q0.out) Tryd.underlying67 rfl (by rw [l3]; kernel_rfl) ?_
      refine wpList_store_mid rfl 67 (.tmp 4) (.tmp 20) rfl (w.heap.size + 2) 0 (usL (plU us vs)).toArray rfl rfl (there_blk q2.out (by simp only [List.size_toArray, l3]; rfl)) (by rw [List.size_toArray, l3]; kernel_rfl) (all_oneCell_toArray oc) ?_
      go_wp2_with fail
      refine ret_cell (b := w.heap.size + 2) (cs := usL (plU us vs)) Tryd.results47 rfl (World.rangeAt_setCells_same _ _ _ _ (there_blk q2.out (by simp only [List.size_toArray, l3]; rfl))) Tryd.underlying67 rfl (by rw [l3]; kernel_rfl) rfl ?_
      exact ⟨rfl, BW.out.grown (setCells_grown _ _ _ _) BW.out.size (fun k hk => by cases hk; simp)⟩
end Go.Proofs.YtlhmecagijdinaaDoor.nm
set_option linter.unusedVariables false
set_option linter.unusedSimpArgs false
namespace Go.Proofs.YtlhmecagijdinaaDoor.nm
open Go.RowKit

/-- So much of one unit. -/
def oneU (u : Int) (r : Int × Int) : List (Int × Int) := if 1 ≤ u ∧ u ≤ 7 then z01.set (u - 1).toNat (ctR r) else z01
theorem one_us (u n d : Int) (hn : i64 n) (hd : i64 d) : Us (oneU u (n, d)) := by
  unfold oneU
  split
  · refine ⟨by rw [List.length_set]; rfl, fun r hr => ?_⟩
    rcases List.mem_or_eq_of_mem_set hr with h | h
    · exact zus.2 r h
    · rw [h]; exact ct_i64 hn hd
  · exact zus
theorem us_one {us : List (Int × Int)} {u : Value} (hu : u.oneCell' = true) : ∀ v ∈ usL us ++ [u], v.oneCell' = true := by
  intro v hv
  rcases List.mem_append.1 hv with hv | hv
  · simp only [usL, List.mem_flatMap] at hv
    obtain ⟨r, -, hv⟩ := hv
    simp at hv
    rcases hv with rfl | rfl <;> rfl
  · simp at hv; subst hv; exact hu
set_option maxRecDepth 100000 in
set_option maxHeartbeats 8000000 in
theorem oneF_any (u n d : Int) (w : World) (hN : Nth w) (hu : i64 u) (hn : i64 n) (hd : i64 d) : Calls Tryd.prog 32 #[.int .i64 u, .agg #[.int .i64 n, .int .i64 d]] w fun e w' => e = .returned (foV (oneU u (n, d)) nilS) ∧ Below w.heap.size w w' := by
  have CZ := hide (fun (W : World) (h : Below w.heap.size w W) => zero_any W (hN.low h))
  rw [show foV z01 nilS = .agg #[.int .i64 0, .int .i64 1, .int .i64 0, .int .i64 1, .int .i64 0, .int .i64 1, .int .i64 0, .int .i64 1, .int .i64 0, .int .i64 1, .int .i64 0, .int .i64 1, .int .i64 0, .int .i64 1, .slice none 0 0] from rfl] at CZ
  have CC := hide (fun (W : World) => counted_any n d W hn hd)
  have US := hide (one_us u n d hn hd)
  obtain ⟨US2, hUS2⟩ : ∃ x, oneU u (n, d) = x := ⟨_, rfl⟩
  rw [hUS2] at US ⊢
  have HUS2 := hide hUS2
  clear hUS2
  obtain ⟨u1, u2⟩ := hu
  obtain ⟨W1, hW1⟩ : ∃ W1, (w.alloc (.cells #[.int .i64 n, .int .i64 d] 23)).alloc (.cells #[.int .i64 0, .int .i64 0, .int .i64 0, .int .i64 0, .int .i64 0, .int .i64 0, .int .i64 0, .int .i64 0, .int .i64 0, .int .i64 0, .int .i64 0, .int .i64 0, .int .i64 0, .int .i64 0, .slice none 0 0] 30) = W1 := ⟨_, rfl⟩
  have B0 := hide (show Below w.heap.size w W1 by rw [← hW1]; exact bplus (bplus (Below.refl _ _) _) _)
  have P0 := hide (show Bk W1 w.heap.size 23 [.int .i64 n, .int .i64 d] by rw [← hW1]; exact (two_new w _ _).1)
  have P1 := hide (show BF W1 (w.heap.size + 1) z00 nilS by rw [← hW1]; exact (two_new w _ _).2)
  have HW1 := hide hW1
  clear hW1 hN
  go_enter Tryd.func32, Tryd.ntmps32
  go_upto_region 1 with fail
  rw [HW1.out]
  clear HW1
  go_upto_region 2 with (go_at_call 21; refine (CZ.out _ B0.out).mono ?_; rintro e wz ⟨rfl, BZ⟩; replace BZ := hide BZ; clear CZ)
  have hz : w.heap.size + 1 < wz.heap.size := Nat.lt_of_lt_of_le (Bk.lt P1.out) BZ.out.size
  have B2 := hide (show Below w.heap.size w (wz.alloc (.cells #[.int .i64 0, .int .i64 1, .int .i64 0, .int .i64 1, .int .i64 0, .int .i64 1, .int .i64 0, .int .i64 1, .int .i64 0, .int .i64 1, .int .i64 0, .int .i64 1, .int .i64 0, .int .i64 1, .slice none 0 0] 30)) from bplus (bto B0.out BZ.out) _)
  have F0 := hide (show BF (wz.alloc (.cells #[.int .i64 0, .int .i64 1, .int .i64 0, .int .i64 1, .int .i64 0, .int .i64 1, .int .i64 0, .int .i64 1, .int .i64 0, .int .i64 1, .int .i64 0, .int .i64 1, .int .i64 0, .int .i64 1, .slice none 0 0] 30)) wz.heap.size z01 nilS from Bk.new wz _ _)
  have F1 := hide (show BF (wz.alloc (.cells #[.int .i64 0, .int .i64 1, .int .i64 0, .int .i64 1, .int .i64 0, .int .i64 1, .int .i64 0, .int .i64 1, .int .i64 0, .int .i64 1, .int .i64 0, .int .i64 1, .int .i64 0, .int .i64 1, .slice none 0 0] 30)) (w.heap.size + 1) z00 nilS from (Bk.up P1.out BZ.out).more _)
  have F2 := hide (show Bk (wz.alloc (.cells #[.int .i64 0, .int .i64 1, .int .i64 0, .int .i64 1, .int .i64 0, .int .i64 1, .int .i64 0, .int .i64 1, .int .i64 0, .int .i64 1, .int .i64 0, .int .i64 1, .int .i64 0, .int .i64 1, .slice none 0 0] 30)) w.heap.size 23 [.int .i64 n, .int .i64 d] from (Bk.up P0.out BZ.out).more _)
  clear P0 P1 B0 BZ
  generalize wz.alloc (.cells #[.int .i64 0, .int .i64 1, .int .i64 0, .int .i64 1, .int .i64 0, .int .i64 1, .int .i64 0, .int .i64 1, .int .i64 0, .int .i64 1, .int .i64 0, .int .i64 1, .int .i64 0, .int .i64 1, .slice none 0 0] 30) = W2 at *
  generalize wz.heap.size = fb at *
  have a0 := Bk.cell F2.out 0
  have a1 := Bk.cell F2.out 1
  simp at a0 a1
  by_cases hin : 1 ≤ u ∧ u ≤ 7
  · obtain ⟨i1, i2⟩ := hin
    obtain ⟨k, hk⟩ : ∃ k : Nat, u - 1 = (k : Int) := ⟨(u - 1).toNat, by omega⟩
    have k7 : k < 7 := by omega
    have wr1 : IntKind.i64.wrap (u - 1) = (k : Int) := by rw [← hk]; simp [IntKind.wrap, go_sem]; omega
    have k7' : (k : Int) < 7 := by omega
    have EU := hide (show US2 = z01.set k (ctR (n, d)) by rw [← HUS2.out]; unfold oneU; rw [if_pos ⟨i1, i2⟩, hk]; rfl)
    clear HUS2
    obtain ⟨ct, hct⟩ : ∃ ct, ctR (n, d) = ct := ⟨_, rfl⟩
    rw [hct] at CC EU
    clear hct hk
    have KC := hide (fun (W : World) (h : Below W2.heap.size W2 W) => And.intro (BF.at (Bk.up F0.out h : BF W fb z01 nilS) rfl (k := k) (n := 0) (d := 1) (by rcases (show k = 0 ∨ k = 1 ∨ k = 2 ∨ k = 3 ∨ k = 4 ∨ k = 5 ∨ k = 6 by omega) with rfl | rfl | rfl | rfl | rfl | rfl | rfl <;> rfl)) (Bk.fz (Bk.up F0.out h)))
    have NF := hide (fun (W : World) (h : Below W2.heap.size W2 W) => show BF ((W.setCell ⟨fb, k * 2, none⟩ (.int .i64 ct.1)).setCell ⟨fb, k * 2 + 1, none⟩ (.int .i64 ct.2)) fb US2 nilS by
      have := BF.put (Bk.up F0.out h : BF W fb z01 nilS) (k := k) k7 ct.1 ct.2
      rwa [show ((ct.1, ct.2) : Int × Int) = ct from rfl, ← EU.out] at this)
    have NR := hide (fun (W : World) (h : Below W2.heap.size W2 W) => show BF ((W.setCell ⟨fb, k * 2, none⟩ (.int .i64 ct.1)).setCell ⟨fb, k * 2 + 1, none⟩ (.int .i64 ct.2)) (w.heap.size + 1) z00 nilS from Bk.far (Bk.far (Bk.up F1.out h) (by omega) _ _) (by omega) _ _)
    have NB := hide (fun (W : World) (h : Below W2.heap.size W2 W) => show Below w.heap.size w ((W.setCell ⟨fb, k * 2, none⟩ (.int .i64 ct.1)).setCell ⟨fb, k * 2 + 1, none⟩ (.int .i64 ct.2)) from ((bto B2.out h).setCell (by simp; omega) _).setCell (by simp; omega) _)
    clear F0 F1 F2 B2
    go_upto_region 4 with (go_at_call 23; refine (CC.out _).mono ?_; rintro e wc ⟨rfl, BC⟩; replace BC := hide BC; obtain ⟨⟨v0, v1⟩, vz⟩ := KC.out wc BC.out; have vz0 := vz (k * 2); have vz1 := vz (k * 2 + 1); clear vz)
    replace NF := hide (NF.out wc BC.out)
    replace NR := hide (NR.out wc BC.out)
    replace NB := hide (NB.out wc BC.out)
    clear KC BC v0 v1 vz0 vz1 EU CC
    generalize (wc.setCell ⟨fb, k * 2, none⟩ (.int .i64 ct.1)).setCell ⟨fb, k * 2 + 1, none⟩ (.int .i64 ct.2) = W3 at *
    have q0 := hide (show W3.heap[fb]? = some (.cells (usL US2 ++ [nilS]).toArray 30) from NF.out)
    have q2 := hide (show W3.heap[w.heap.size + 1]? = some (.cells (usL z00 ++ [nilS]).toArray 30) from NR.out)
    have l3 : (usL US2 ++ [nilS]).length = 15 := by rw [List.length_append, usL_len, US.out.1]; rfl
    refine wp_region_list ?_
    refine wpList_load_mid rfl 30 (.tmp 5) rfl fb 0 rfl (usL US2 ++ [nilS]) _ (range_blk q0.out) Tryd.underlying30 rfl (by rw [l3]; kernel_rfl) ?_
    refine wpList_store_mid rfl 30 (.tmp 4) (.tmp 19) rfl (w.heap.size + 1) 0 (usL US2 ++ [nilS]).toArray rfl rfl (there_blk q2.out (by simp only [List.size_toArray, l3]; rfl)) (by rw [List.size_toArray, l3]; kernel_rfl) (all_oneCell_toArray (us_one rfl)) ?_
    go_wp2_with fail
    refine ret_cell (b := w.heap.size + 1) (cs := usL US2 ++ [nilS]) Tryd.results32 rfl (World.rangeAt_setCells_same _ _ _ _ (there_blk q2.out (by simp only [List.size_toArray, l3]; rfl))) Tryd.underlying30 rfl (by rw [l3]; kernel_rfl) rfl ?_
    exact ⟨rfl, NB.out.grown (setCells_grown _ _ _ _) NB.out.size (fun k hk => by cases hk; simp)⟩
  · obtain rfl : US2 = z01 := by rw [← HUS2.out]; unfold oneU; rw [if_neg hin]
    clear HUS2
    have q0 := hide (show W2.heap[fb]? = some (.cells (usL z01 ++ [nilS]).toArray 30) from F0.out)
    have q2 := hide (show W2.heap[w.heap.size + 1]? = some (.cells (usL z00 ++ [nilS]).toArray 30) from F1.out)
    clear CC US F0 F1 F2 a0 a1
    rcases (show u < 1 ∨ (1 ≤ u ∧ 7 < u) by omega) with hlo | ⟨hlo, hhi⟩
    all_goals
      (try have hl1 : ¬ 1 ≤ u := (by omega))
      (try have hl2 : ¬ u ≤ 7 := (by omega))
      (try have hl3 : decide (1 ≤ u) = false := (by simp; omega))
      (try have hl4 : decide (1 ≤ u) = true := (by simp; omega))
      go_upto_region 4 with fail
      refine wp_region_list ?_
      refine wpList_load_mid rfl 30 (.tmp 5) rfl fb 0 rfl (usL z01 ++ [nilS]) _ (range_blk q0.out) Tryd.underlying30 rfl (by kernel_rfl) ?_
      refine wpList_store_mid rfl 30 (.tmp 4) (.tmp 19) rfl (w.heap.size + 1) 0 (usL z01 ++ [nilS]).toArray rfl rfl (there_blk q2.out rfl) (by kernel_rfl) (all_oneCell_toArray (us_one rfl)) ?_
      go_wp2_with fail
      refine ret_cell (b := w.heap.size + 1) (cs := usL z01 ++ [nilS]) Tryd.results32 rfl (World.rangeAt_setCells_same _ _ _ _ (there_blk q2.out rfl)) Tryd.underlying30 rfl (by kernel_rfl) rfl ?_
      exact ⟨rfl, B2.out.grown (setCells_grown _ _ _ _) B2.out.size (fun k hk => by cases hk; simp)⟩
end Go.Proofs.YtlhmecagijdinaaDoor.nm
