/-
  The statement RatLowest, by one region and two loops.
-/
import Derived.Test.YtnabdpmkhanfjaaLowB
set_option linter.unusedVariables false
set_option linter.unusedSimpArgs false
namespace Go.Proofs.Ytnabdpmkhanfjaa
open Go.RowKit

theorem hide {p : Prop} (h : p) : Hid p := h
def rt (n d : Int) : Value := .agg #[.int .i64 n, .int .i64 d]
theorem row2h {W : World} {b : Nat} {x y z t : Int} {T : TypeId} (h : W.heap[b]? = some (.cells #[.int .i64 x, .int .i64 y, .int .i64 z, .int .i64 t] T)) : Row W (.slice (some ⟨b, 0, none⟩) 2 2) [(x, y), (z, t)] := by
  refine Or.inr ⟨b, 0, 2, rfl, (Array.getElem?_eq_some_iff.1 h).1, by simp, ?_⟩
  intro i hi
  have : i = 0 ∨ i = 1 := by simp at hi; omega
  rcases this with rfl | rfl <;> simp [World.cell?, h]
theorem sub_pair (n d m e : Int) (w : World) (hn : I64 n) (hd : I64 d) (hm : I64 m) (he : I64 e) :
    Calls Try.prog 6 #[.agg #[.int .i64 n, .int .i64 d], .agg #[.int .i64 m, .int .i64 e]] w fun x w' => x = .returned (rtp (sbN n d m e, sbD n d m e)) ∧ Up w w' := subP_any n d m e w hn hd hm he
theorem div_pair (n d m e : Int) (w : World) (hn : I64 n) (hd : I64 d) (hm : I64 m) (he : I64 e) :
    Calls Try.prog 8 #[.agg #[.int .i64 n, .int .i64 d], .agg #[.int .i64 m, .int .i64 e]] w fun x w' => x = .returned (rtp (divN n d m e, divD n d m e)) ∧ Up w w' := divP_any n d m e w hn hd hm he
theorem neg_pair (n d : Int) (w : World) (hn : I64 n) (hd : I64 d) :
    Calls Try.prog 9 #[.agg #[.int .i64 n, .int .i64 d]] w fun x w' => x = .returned (rtp (ngN n d, ngD n d)) ∧ Up w w' := negP_any n d w hn hd
/-! ### Two fractions in memory -/
def SL (w wr : World) (n d m e : Int) : Prop := Up w wr ∧ w.heap.size + 1 < wr.heap.size ∧
  wr.cell? ⟨w.heap.size, 0, none⟩ = some (.int .i64 n) ∧ wr.cell? ⟨w.heap.size, 1, none⟩ = some (.int .i64 d) ∧
  wr.cell? ⟨w.heap.size + 1, 0, none⟩ = some (.int .i64 m) ∧ wr.cell? ⟨w.heap.size + 1, 1, none⟩ = some (.int .i64 e)
theorem SL.start (w : World) (n d m e : Int) : SL w ((w.alloc (.cells #[.int .i64 n, .int .i64 d] 23)).alloc (.cells #[.int .i64 m, .int .i64 e] 23)) n d m e := by
  refine ⟨((Up.refl _).alloc _ _).alloc _ _, ?_, ?_, ?_, ?_, ?_⟩ <;> simp [go_sem]
theorem SL.up {w wr wl : World} {n d m e : Int} (s : SL w wr n d m e) (h : Up wr wl) : SL w wl n d m e := by
  obtain ⟨s0, s1, s2, s3, s4, s5⟩ := s
  exact ⟨s0.trans h, Nat.lt_of_lt_of_le s1 h.size, (h.cell _ _ (by omega)).trans s2, (h.cell _ _ (by omega)).trans s3, (h.cell _ _ (by omega)).trans s4, (h.cell _ _ (by omega)).trans s5⟩
def kdL (n d m e num den : Int) (p0 p1 p2 p3 p4 p5 p6 p7 p8 p9 : Int × Int) : Nat → Kd
  | 0 => .val (.int .i64 num)
  | 1 => .val (.int .i64 den)
  | 2 => .call (rtp p0)
  | 3 => .val (rt n d)
  | 4 => .val (rt m e)
  | 5 => .row #[.int .i64 n, .int .i64 d, .int .i64 m, .int .i64 e] 23 2
  | 6 => .call (rtp p1)
  | 7 => .val (rt n d)
  | 8 => .val (rt m e)
  | 9 => .call (rtp p2)
  | 10 => .val (rt n d)
  | 11 => .val (rt m e)
  | 12 => .row #[.int .i64 n, .int .i64 d, .int .i64 m, .int .i64 e] 23 2
  | 13 => .call (rtp p3)
  | 14 => .val (rt n d)
  | 15 => .val (rt m e)
  | 16 => .call (rtp p4)
  | 17 => .val (rt n d)
  | 18 => .call (rtp p5)
  | 19 => .val (rt n d)
  | 20 => .val (rt m e)
  | 21 => .row #[.int .i64 n, .int .i64 d, .int .i64 m, .int .i64 e] 23 2
  | 22 => .call (rtp p6)
  | 23 => .val (rt n d)
  | 24 => .val (rt m e)
  | 25 => .row #[.int .i64 n, .int .i64 d, .int .i64 m, .int .i64 e] 23 2
  | 26 => .call (rtp p7)
  | 27 => .val (rt n d)
  | 28 => .row #[.int .i64 n, .int .i64 d] 23 1
  | 29 => .call (rtp p8)
  | 30 => .val (rt m e)
  | 31 => .row #[.int .i64 m, .int .i64 e] 23 1
  | 32 => .call (rtp p9)
  | 33 => .row #[.int .i64 p0.1, .int .i64 p0.2, .int .i64 p1.1, .int .i64 p1.2, .int .i64 p2.1, .int .i64 p2.2, .int .i64 p3.1, .int .i64 p3.2, .int .i64 p4.1, .int .i64 p4.2, .int .i64 p5.1, .int .i64 p5.2, .int .i64 p6.1, .int .i64 p6.2, .int .i64 p7.1, .int .i64 p7.2, .int .i64 p8.1, .int .i64 p8.2, .int .i64 p9.1, .int .i64 p9.2] 23 10
  | 34 => .val (.int .i64 10)
  | 35 => .val (.int .i64 0)
  | _ => .val undef
set_option maxRecDepth 100000 in
set_option maxHeartbeats 80000000 in
theorem law_lowest (n d m e num den : Int) (w : World) (hn : I64 n) (hd : I64 d) (hm : I64 m) (he : I64 e) (hnum : I64 num) (hden : I64 den) :
    Calls Try.prog 3 #[.agg #[.int .i64 n, .int .i64 d], .agg #[.int .i64 m, .int .i64 e], .int .i64 num, .int .i64 den] w fun x w' => x = .returned (.bool true) ∧ Up w w' := by
  have s := SL.start w n d m e
  have hin : In64 [(n, d), (m, e)] := by intro r hr; simp at hr; rcases hr with rfl | rfl <;> exact ⟨by assumption, by assumption⟩
  have hina : In64 [(n, d)] := by intro r hr; simp at hr; subst hr; exact ⟨by assumption, by assumption⟩
  have hinb : In64 [(m, e)] := by intro r hr; simp at hr; subst hr; exact ⟨by assumption, by assumption⟩
  obtain ⟨p0, h0⟩ : ∃ p, ofP num den = p := ⟨_, rfl⟩
  have C0 := fun (W : World) => h0 ▸ ofP_any num den W hnum hden
  have G0 : Good p0 := h0 ▸ ofP_good num den
  obtain ⟨p1, h1⟩ : ∃ p, addAll [(n, d), (m, e)] = p := ⟨_, rfl⟩
  have C1 := fun (W : World) v (h : Row W v [(n, d), (m, e)]) => h1 ▸ addP_any v [(n, d), (m, e)] W h hin
  have G1 : Good p1 := h1 ▸ add2_good (n, d) (m, e)
  obtain ⟨p2, h2⟩ : ∃ p, ((sbN n d m e, sbD n d m e) : Int × Int) = p := ⟨_, rfl⟩
  have C2 := fun (W : World) => h2 ▸ sub_pair n d m e W hn hd hm he
  have G2 : Good p2 := h2 ▸ sub_good n d m e
  obtain ⟨p3, h3⟩ : ∃ p, mulAll [(n, d), (m, e)] = p := ⟨_, rfl⟩
  have C3 := fun (W : World) v (h : Row W v [(n, d), (m, e)]) => h3 ▸ mulP_any v [(n, d), (m, e)] W h hin
  have G3 : Good p3 := h3 ▸ mul2_good (n, d) (m, e)
  obtain ⟨p4, h4⟩ : ∃ p, ((divN n d m e, divD n d m e) : Int × Int) = p := ⟨_, rfl⟩
  have C4 := fun (W : World) => h4 ▸ div_pair n d m e W hn hd hm he
  have G4 : Good p4 := h4 ▸ div_good n d m e
  obtain ⟨p5, h5⟩ : ∃ p, ((ngN n d, ngD n d) : Int × Int) = p := ⟨_, rfl⟩
  have C5 := fun (W : World) => h5 ▸ neg_pair n d W hn hd
  have G5 : Good p5 := h5 ▸ neg_good hn hd
  obtain ⟨p6, h6⟩ : ∃ p, utAll (-1) [(n, d), (m, e)] = p := ⟨_, rfl⟩
  have C6 := fun (W : World) v (h : Row W v [(n, d), (m, e)]) => h6 ▸ leastP_any v [(n, d), (m, e)] W h hin
  have G6 : Good p6 := h6 ▸ ut_good (-1) (a := (n, d)) (b := (m, e)) ⟨hn, hd⟩ ⟨hm, he⟩
  obtain ⟨p7, h7⟩ : ∃ p, utAll 1 [(n, d), (m, e)] = p := ⟨_, rfl⟩
  have C7 := fun (W : World) v (h : Row W v [(n, d), (m, e)]) => h7 ▸ mostP_any v [(n, d), (m, e)] W h hin
  have G7 : Good p7 := h7 ▸ ut_good 1 (a := (n, d)) (b := (m, e)) ⟨hn, hd⟩ ⟨hm, he⟩
  obtain ⟨p8, h8⟩ : ∃ p, addAll [(n, d)] = p := ⟨_, rfl⟩
  have C8 := fun (W : World) v (h : Row W v [(n, d)]) => h8 ▸ addP_any v [(n, d)] W h hina
  have G8 : Good p8 := h8 ▸ add1_good (n, d)
  obtain ⟨p9, h9⟩ : ∃ p, mulAll [(m, e)] = p := ⟨_, rfl⟩
  have C9 := fun (W : World) v (h : Row W v [(m, e)]) => h9 ▸ mulP_any v [(m, e)] W h hinb
  have G9 : Good p9 := h9 ▸ mul1_good (m, e)
  go_enter Try.func3, Try.ntmps3
  go_upto_region 1 with fail
  refine wp_region_kd (by kernel_rfl) (kdL n d m e num den p0 p1 p2 p3 p4 p5 p6 p7 p8 p9) (Stat.of (by kernel_rfl)) (acy_of (by kernel_rfl)) ?_ ?_
  · as_aux_lemma =>
      intro i o ho blk listed a wx I hd
      have hi : i < 36 := (Array.getElem?_eq_some_iff.1 ho).1
      obtain ⟨_, _, t2', t3', t4', t5'⟩ := s.up I.up
      rcases (show i = 0 ∨ i = 1 ∨ i = 2 ∨ i = 3 ∨ i = 4 ∨ i = 5 ∨ i = 6 ∨ i = 7 ∨ i = 8 ∨ i = 9 ∨ i = 10 ∨ i = 11 ∨ i = 12 ∨ i = 13 ∨ i = 14 ∨ i = 15 ∨ i = 16 ∨ i = 17 ∨ i = 18 ∨ i = 19 ∨ i = 20 ∨ i = 21 ∨ i = 22 ∨ i = 23 ∨ i = 24 ∨ i = 25 ∨ i = 26 ∨ i = 27 ∨ i = 28 ∨ i = 29 ∨ i = 30 ∨ i = 31 ∨ i = 32 ∨ i = 33 ∨ i = 34 ∨ i = 35 by omega) with rfl | rfl | rfl | rfl | rfl | rfl | rfl | rfl | rfl | rfl | rfl | rfl | rfl | rfl | rfl | rfl | rfl | rfl | rfl | rfl | rfl | rfl | rfl | rfl | rfl | rfl | rfl | rfl | rfl | rfl | rfl | rfl | rfl | rfl | rfl | rfl
      · obtain rfl := Option.some.inj ho
        exact wpOp_val rfl rfl (run_mv rfl (show a.tmps.getD 2 undef = _ from (I.oth_at (by kernel_rfl)).trans rfl)) (show _ ∧ _ from ⟨rfl, Up.refl _⟩)
      · obtain rfl := Option.some.inj ho
        exact wpOp_val rfl rfl (run_mv rfl (show a.tmps.getD 3 undef = _ from (I.oth_at (by kernel_rfl)).trans rfl)) (show _ ∧ _ from ⟨rfl, Up.refl _⟩)
      · obtain rfl := Option.some.inj ho
        have v1 := I.val_at (i := 0) (by decide) (hd ⟨0, .data⟩ (by simp) rfl) (.inl rfl) rfl
        have v2 := I.val_at (i := 1) (by decide) (hd ⟨1, .data⟩ (by simp) rfl) (.inl rfl) rfl
        refine wpOp_call rfl rfl (run_cl2 rfl rfl (fun v u => enters_of Try.func4 (by kernel_rfl) rfl #[v, u] wx)) ?_
        refine (show Calls Try.prog 4 #[a.tmps.getD _ undef, a.tmps.getD _ undef] wx _ from ?_)
        rw [v1, v2]
        exact (C0 wx).mono (by rintro e w' ⟨rfl, hu⟩; exact ⟨_, rfl, (show _ ∧ _ from ⟨rfl, hu⟩)⟩)
      · obtain rfl := Option.some.inj ho
        exact wpOp_val rfl rfl (run_ld rfl (show a.tmps.getD 4 undef = _ from (I.oth_at (by kernel_rfl)).trans rfl) t2' t3') (show _ ∧ _ from ⟨rfl, Up.refl _⟩)
      · obtain rfl := Option.some.inj ho
        exact wpOp_val rfl rfl (run_ld rfl (show a.tmps.getD 5 undef = _ from (I.oth_at (by kernel_rfl)).trans rfl) t4' t5') (show _ ∧ _ from ⟨rfl, Up.refl _⟩)
      · obtain rfl := Option.some.inj ho
        exact wpOp_val rfl rfl (run_bs2 rfl (I.val_at (by decide) (hd ⟨3, .data⟩ (by simp) rfl) (.inl rfl) rfl) (I.val_at (by decide) (hd ⟨4, .data⟩ (by simp) rfl) (.inl rfl) rfl)) (show _ ∧ _ from ⟨rfl, rfl⟩)
      · obtain rfl := Option.some.inj ho
        obtain ⟨r1, r2⟩ := I.row_at (i := 5) (by decide) (hd ⟨5, .data⟩ (by simp) rfl) rfl rfl
        refine wpOp_call rfl rfl (run_cl1 rfl rfl (fun v => enters_of Try.func5 (by kernel_rfl) rfl #[v] wx)) ?_
        refine (show Calls Try.prog 5 #[a.tmps.getD _ undef] wx _ from ?_)
        rw [r1]
        exact (C1 wx _ (row2h r2)).mono (by rintro e w' ⟨rfl, hu⟩; exact ⟨_, rfl, (show _ ∧ _ from ⟨rfl, hu⟩)⟩)
      · obtain rfl := Option.some.inj ho
        exact wpOp_val rfl rfl (run_ld rfl (show a.tmps.getD 4 undef = _ from (I.oth_at (by kernel_rfl)).trans rfl) t2' t3') (show _ ∧ _ from ⟨rfl, Up.refl _⟩)
      · obtain rfl := Option.some.inj ho
        exact wpOp_val rfl rfl (run_ld rfl (show a.tmps.getD 5 undef = _ from (I.oth_at (by kernel_rfl)).trans rfl) t4' t5') (show _ ∧ _ from ⟨rfl, Up.refl _⟩)
      · obtain rfl := Option.some.inj ho
        have v1 := I.val_at (i := 7) (by decide) (hd ⟨7, .data⟩ (by simp) rfl) (.inl rfl) rfl
        have v2 := I.val_at (i := 8) (by decide) (hd ⟨8, .data⟩ (by simp) rfl) (.inl rfl) rfl
        refine wpOp_call rfl rfl (run_cl2 rfl rfl (fun v u => enters_of Try.func6 (by kernel_rfl) rfl #[v, u] wx)) ?_
        refine (show Calls Try.prog 6 #[a.tmps.getD _ undef, a.tmps.getD _ undef] wx _ from ?_)
        rw [v1, v2]
        exact (C2 wx).mono (by rintro e w' ⟨rfl, hu⟩; exact ⟨_, rfl, (show _ ∧ _ from ⟨rfl, hu⟩)⟩)
      · obtain rfl := Option.some.inj ho
        exact wpOp_val rfl rfl (run_ld rfl (show a.tmps.getD 4 undef = _ from (I.oth_at (by kernel_rfl)).trans rfl) t2' t3') (show _ ∧ _ from ⟨rfl, Up.refl _⟩)
      · obtain rfl := Option.some.inj ho
        exact wpOp_val rfl rfl (run_ld rfl (show a.tmps.getD 5 undef = _ from (I.oth_at (by kernel_rfl)).trans rfl) t4' t5') (show _ ∧ _ from ⟨rfl, Up.refl _⟩)
      · obtain rfl := Option.some.inj ho
        exact wpOp_val rfl rfl (run_bs2 rfl (I.val_at (by decide) (hd ⟨10, .data⟩ (by simp) rfl) (.inl rfl) rfl) (I.val_at (by decide) (hd ⟨11, .data⟩ (by simp) rfl) (.inl rfl) rfl)) (show _ ∧ _ from ⟨rfl, rfl⟩)
      · obtain rfl := Option.some.inj ho
        obtain ⟨r1, r2⟩ := I.row_at (i := 12) (by decide) (hd ⟨12, .data⟩ (by simp) rfl) rfl rfl
        refine wpOp_call rfl rfl (run_cl1 rfl rfl (fun v => enters_of Try.func7 (by kernel_rfl) rfl #[v] wx)) ?_
        refine (show Calls Try.prog 7 #[a.tmps.getD _ undef] wx _ from ?_)
        rw [r1]
        exact (C3 wx _ (row2h r2)).mono (by rintro e w' ⟨rfl, hu⟩; exact ⟨_, rfl, (show _ ∧ _ from ⟨rfl, hu⟩)⟩)
      · obtain rfl := Option.some.inj ho
        exact wpOp_val rfl rfl (run_ld rfl (show a.tmps.getD 4 undef = _ from (I.oth_at (by kernel_rfl)).trans rfl) t2' t3') (show _ ∧ _ from ⟨rfl, Up.refl _⟩)
      · obtain rfl := Option.some.inj ho
        exact wpOp_val rfl rfl (run_ld rfl (show a.tmps.getD 5 undef = _ from (I.oth_at (by kernel_rfl)).trans rfl) t4' t5') (show _ ∧ _ from ⟨rfl, Up.refl _⟩)
      · obtain rfl := Option.some.inj ho
        have v1 := I.val_at (i := 14) (by decide) (hd ⟨14, .data⟩ (by simp) rfl) (.inl rfl) rfl
        have v2 := I.val_at (i := 15) (by decide) (hd ⟨15, .data⟩ (by simp) rfl) (.inl rfl) rfl
        refine wpOp_call rfl rfl (run_cl2 rfl rfl (fun v u => enters_of Try.func8 (by kernel_rfl) rfl #[v, u] wx)) ?_
        refine (show Calls Try.prog 8 #[a.tmps.getD _ undef, a.tmps.getD _ undef] wx _ from ?_)
        rw [v1, v2]
        exact (C4 wx).mono (by rintro e w' ⟨rfl, hu⟩; exact ⟨_, rfl, (show _ ∧ _ from ⟨rfl, hu⟩)⟩)
      · obtain rfl := Option.some.inj ho
        exact wpOp_val rfl rfl (run_ld rfl (show a.tmps.getD 4 undef = _ from (I.oth_at (by kernel_rfl)).trans rfl) t2' t3') (show _ ∧ _ from ⟨rfl, Up.refl _⟩)
      · obtain rfl := Option.some.inj ho
        have v1 := I.val_at (i := 17) (by decide) (hd ⟨17, .data⟩ (by simp) rfl) (.inl rfl) rfl
        refine wpOp_call rfl rfl (run_cl1 rfl rfl (fun v => enters_of Try.func9 (by kernel_rfl) rfl #[v] wx)) ?_
        refine (show Calls Try.prog 9 #[a.tmps.getD _ undef] wx _ from ?_)
        rw [v1]
        exact (C5 wx).mono (by rintro e w' ⟨rfl, hu⟩; exact ⟨_, rfl, (show _ ∧ _ from ⟨rfl, hu⟩)⟩)
      · obtain rfl := Option.some.inj ho
        exact wpOp_val rfl rfl (run_ld rfl (show a.tmps.getD 4 undef = _ from (I.oth_at (by kernel_rfl)).trans rfl) t2' t3') (show _ ∧ _ from ⟨rfl, Up.refl _⟩)
      · obtain rfl := Option.some.inj ho
        exact wpOp_val rfl rfl (run_ld rfl (show a.tmps.getD 5 undef = _ from (I.oth_at (by kernel_rfl)).trans rfl) t4' t5') (show _ ∧ _ from ⟨rfl, Up.refl _⟩)
      · obtain rfl := Option.some.inj ho
        exact wpOp_val rfl rfl (run_bs2 rfl (I.val_at (by decide) (hd ⟨19, .data⟩ (by simp) rfl) (.inl rfl) rfl) (I.val_at (by decide) (hd ⟨20, .data⟩ (by simp) rfl) (.inl rfl) rfl)) (show _ ∧ _ from ⟨rfl, rfl⟩)
      · obtain rfl := Option.some.inj ho
        obtain ⟨r1, r2⟩ := I.row_at (i := 21) (by decide) (hd ⟨21, .data⟩ (by simp) rfl) rfl rfl
        refine wpOp_call rfl rfl (run_cl1 rfl rfl (fun v => enters_of Try.func10 (by kernel_rfl) rfl #[v] wx)) ?_
        refine (show Calls Try.prog 10 #[a.tmps.getD _ undef] wx _ from ?_)
        rw [r1]
        exact (C6 wx _ (row2h r2)).mono (by rintro e w' ⟨rfl, hu⟩; exact ⟨_, rfl, (show _ ∧ _ from ⟨rfl, hu⟩)⟩)
      · obtain rfl := Option.some.inj ho
        exact wpOp_val rfl rfl (run_ld rfl (show a.tmps.getD 4 undef = _ from (I.oth_at (by kernel_rfl)).trans rfl) t2' t3') (show _ ∧ _ from ⟨rfl, Up.refl _⟩)
      · obtain rfl := Option.some.inj ho
        exact wpOp_val rfl rfl (run_ld rfl (show a.tmps.getD 5 undef = _ from (I.oth_at (by kernel_rfl)).trans rfl) t4' t5') (show _ ∧ _ from ⟨rfl, Up.refl _⟩)
      · obtain rfl := Option.some.inj ho
        exact wpOp_val rfl rfl (run_bs2 rfl (I.val_at (by decide) (hd ⟨23, .data⟩ (by simp) rfl) (.inl rfl) rfl) (I.val_at (by decide) (hd ⟨24, .data⟩ (by simp) rfl) (.inl rfl) rfl)) (show _ ∧ _ from ⟨rfl, rfl⟩)
      · obtain rfl := Option.some.inj ho
        obtain ⟨r1, r2⟩ := I.row_at (i := 25) (by decide) (hd ⟨25, .data⟩ (by simp) rfl) rfl rfl
        refine wpOp_call rfl rfl (run_cl1 rfl rfl (fun v => enters_of Try.func11 (by kernel_rfl) rfl #[v] wx)) ?_
        refine (show Calls Try.prog 11 #[a.tmps.getD _ undef] wx _ from ?_)
        rw [r1]
        exact (C7 wx _ (row2h r2)).mono (by rintro e w' ⟨rfl, hu⟩; exact ⟨_, rfl, (show _ ∧ _ from ⟨rfl, hu⟩)⟩)
      · obtain rfl := Option.some.inj ho
        exact wpOp_val rfl rfl (run_ld rfl (show a.tmps.getD 4 undef = _ from (I.oth_at (by kernel_rfl)).trans rfl) t2' t3') (show _ ∧ _ from ⟨rfl, Up.refl _⟩)
      · obtain rfl := Option.some.inj ho
        exact wpOp_val rfl rfl (run_bs1 rfl (I.val_at (by decide) (hd ⟨27, .data⟩ (by simp) rfl) (.inl rfl) rfl)) (show _ ∧ _ from ⟨rfl, rfl⟩)
      · obtain rfl := Option.some.inj ho
        obtain ⟨r1, r2⟩ := I.row_at (i := 28) (by decide) (hd ⟨28, .data⟩ (by simp) rfl) rfl rfl
        refine wpOp_call rfl rfl (run_cl1 rfl rfl (fun v => enters_of Try.func5 (by kernel_rfl) rfl #[v] wx)) ?_
        refine (show Calls Try.prog 5 #[a.tmps.getD _ undef] wx _ from ?_)
        rw [r1]
        exact (C8 wx _ (row1h r2)).mono (by rintro e w' ⟨rfl, hu⟩; exact ⟨_, rfl, (show _ ∧ _ from ⟨rfl, hu⟩)⟩)
      · obtain rfl := Option.some.inj ho
        exact wpOp_val rfl rfl (run_ld rfl (show a.tmps.getD 5 undef = _ from (I.oth_at (by kernel_rfl)).trans rfl) t4' t5') (show _ ∧ _ from ⟨rfl, Up.refl _⟩)
      · obtain rfl := Option.some.inj ho
        exact wpOp_val rfl rfl (run_bs1 rfl (I.val_at (by decide) (hd ⟨30, .data⟩ (by simp) rfl) (.inl rfl) rfl)) (show _ ∧ _ from ⟨rfl, rfl⟩)
      · obtain rfl := Option.some.inj ho
        obtain ⟨r1, r2⟩ := I.row_at (i := 31) (by decide) (hd ⟨31, .data⟩ (by simp) rfl) rfl rfl
        refine wpOp_call rfl rfl (run_cl1 rfl rfl (fun v => enters_of Try.func7 (by kernel_rfl) rfl #[v] wx)) ?_
        refine (show Calls Try.prog 7 #[a.tmps.getD _ undef] wx _ from ?_)
        rw [r1]
        exact (C9 wx _ (row1h r2)).mono (by rintro e w' ⟨rfl, hu⟩; exact ⟨_, rfl, (show _ ∧ _ from ⟨rfl, hu⟩)⟩)
      · obtain rfl := Option.some.inj ho
        exact wpOp_val rfl rfl (run_bs10 rfl (I.val_at (by decide) (hd ⟨2, .data⟩ (by simp) rfl) (.inr rfl) rfl) (I.val_at (by decide) (hd ⟨6, .data⟩ (by simp) rfl) (.inr rfl) rfl) (I.val_at (by decide) (hd ⟨9, .data⟩ (by simp) rfl) (.inr rfl) rfl) (I.val_at (by decide) (hd ⟨13, .data⟩ (by simp) rfl) (.inr rfl) rfl) (I.val_at (by decide) (hd ⟨16, .data⟩ (by simp) rfl) (.inr rfl) rfl) (I.val_at (by decide) (hd ⟨18, .data⟩ (by simp) rfl) (.inr rfl) rfl) (I.val_at (by decide) (hd ⟨22, .data⟩ (by simp) rfl) (.inr rfl) rfl) (I.val_at (by decide) (hd ⟨26, .data⟩ (by simp) rfl) (.inr rfl) rfl) (I.val_at (by decide) (hd ⟨29, .data⟩ (by simp) rfl) (.inr rfl) rfl) (I.val_at (by decide) (hd ⟨32, .data⟩ (by simp) rfl) (.inr rfl) rfl)) (show _ ∧ _ from ⟨rfl, rfl⟩)
      · obtain rfl := Option.some.inj ho
        obtain ⟨r1, r2⟩ := I.row_at (i := 33) (by decide) (hd ⟨33, .data⟩ (by simp) rfl) rfl rfl
        exact wpOp_val rfl rfl (run_len rfl r1) (show _ ∧ _ from ⟨rfl, Up.refl _⟩)
      · obtain rfl := Option.some.inj ho
        exact wpOp_val rfl rfl (run_mv rfl rfl) (show _ ∧ _ from ⟨rfl, Up.refl _⟩)
  · intro blk listed a wx I hall
    have fr := I.frame [(13, (.int .i64 num)), (14, (.int .i64 den)), (15, (rtp p0)), (16, (rt n d)), (17, (rt m e)), (18, (.slice (some ⟨blk 5, 0, none⟩) 2 2)), (19, (rtp p1)), (20, (rt n d)), (21, (rt m e)), (22, (rtp p2)), (23, (rt n d)), (24, (rt m e)), (25, (.slice (some ⟨blk 12, 0, none⟩) 2 2)), (26, (rtp p3)), (27, (rt n d)), (28, (rt m e)), (29, (rtp p4)), (30, (rt n d)), (31, (rtp p5)), (32, (rt n d)), (33, (rt m e)), (34, (.slice (some ⟨blk 21, 0, none⟩) 2 2)), (35, (rtp p6)), (36, (rt n d)), (37, (rt m e)), (38, (.slice (some ⟨blk 25, 0, none⟩) 2 2)), (39, (rtp p7)), (40, (rt n d)), (41, (.slice (some ⟨blk 28, 0, none⟩) 1 1)), (42, (rtp p8)), (43, (rt m e)), (44, (.slice (some ⟨blk 31, 0, none⟩) 1 1)), (45, (rtp p9)), (46, (.slice (some ⟨blk 33, 0, none⟩) 10 10)), (47, (.int .i64 10)), (48, (.int .i64 0))] (by
      intro p hp
      simp only [List.mem_cons, List.not_mem_nil, or_false] at hp
      rcases hp with rfl | rfl | rfl | rfl | rfl | rfl | rfl | rfl | rfl | rfl | rfl | rfl | rfl | rfl | rfl | rfl | rfl | rfl | rfl | rfl | rfl | rfl | rfl | rfl | rfl | rfl | rfl | rfl | rfl | rfl | rfl | rfl | rfl | rfl | rfl | rfl
      · exact ⟨by simp, I.val_at (i := 0) (by decide) (hall _ (by decide)) (.inl rfl) rfl⟩
      · exact ⟨by simp, I.val_at (i := 1) (by decide) (hall _ (by decide)) (.inl rfl) rfl⟩
      · exact ⟨by simp, I.val_at (i := 2) (by decide) (hall _ (by decide)) (.inr rfl) rfl⟩
      · exact ⟨by simp, I.val_at (i := 3) (by decide) (hall _ (by decide)) (.inl rfl) rfl⟩
      · exact ⟨by simp, I.val_at (i := 4) (by decide) (hall _ (by decide)) (.inl rfl) rfl⟩
      · exact ⟨by simp, (I.row_at (i := 5) (by decide) (hall _ (by decide)) rfl rfl).1⟩
      · exact ⟨by simp, I.val_at (i := 6) (by decide) (hall _ (by decide)) (.inr rfl) rfl⟩
      · exact ⟨by simp, I.val_at (i := 7) (by decide) (hall _ (by decide)) (.inl rfl) rfl⟩
      · exact ⟨by simp, I.val_at (i := 8) (by decide) (hall _ (by decide)) (.inl rfl) rfl⟩
      · exact ⟨by simp, I.val_at (i := 9) (by decide) (hall _ (by decide)) (.inr rfl) rfl⟩
      · exact ⟨by simp, I.val_at (i := 10) (by decide) (hall _ (by decide)) (.inl rfl) rfl⟩
      · exact ⟨by simp, I.val_at (i := 11) (by decide) (hall _ (by decide)) (.inl rfl) rfl⟩
      · exact ⟨by simp, (I.row_at (i := 12) (by decide) (hall _ (by decide)) rfl rfl).1⟩
      · exact ⟨by simp, I.val_at (i := 13) (by decide) (hall _ (by decide)) (.inr rfl) rfl⟩
      · exact ⟨by simp, I.val_at (i := 14) (by decide) (hall _ (by decide)) (.inl rfl) rfl⟩
      · exact ⟨by simp, I.val_at (i := 15) (by decide) (hall _ (by decide)) (.inl rfl) rfl⟩
      · exact ⟨by simp, I.val_at (i := 16) (by decide) (hall _ (by decide)) (.inr rfl) rfl⟩
      · exact ⟨by simp, I.val_at (i := 17) (by decide) (hall _ (by decide)) (.inl rfl) rfl⟩
      · exact ⟨by simp, I.val_at (i := 18) (by decide) (hall _ (by decide)) (.inr rfl) rfl⟩
      · exact ⟨by simp, I.val_at (i := 19) (by decide) (hall _ (by decide)) (.inl rfl) rfl⟩
      · exact ⟨by simp, I.val_at (i := 20) (by decide) (hall _ (by decide)) (.inl rfl) rfl⟩
      · exact ⟨by simp, (I.row_at (i := 21) (by decide) (hall _ (by decide)) rfl rfl).1⟩
      · exact ⟨by simp, I.val_at (i := 22) (by decide) (hall _ (by decide)) (.inr rfl) rfl⟩
      · exact ⟨by simp, I.val_at (i := 23) (by decide) (hall _ (by decide)) (.inl rfl) rfl⟩
      · exact ⟨by simp, I.val_at (i := 24) (by decide) (hall _ (by decide)) (.inl rfl) rfl⟩
      · exact ⟨by simp, (I.row_at (i := 25) (by decide) (hall _ (by decide)) rfl rfl).1⟩
      · exact ⟨by simp, I.val_at (i := 26) (by decide) (hall _ (by decide)) (.inr rfl) rfl⟩
      · exact ⟨by simp, I.val_at (i := 27) (by decide) (hall _ (by decide)) (.inl rfl) rfl⟩
      · exact ⟨by simp, (I.row_at (i := 28) (by decide) (hall _ (by decide)) rfl rfl).1⟩
      · exact ⟨by simp, I.val_at (i := 29) (by decide) (hall _ (by decide)) (.inr rfl) rfl⟩
      · exact ⟨by simp, I.val_at (i := 30) (by decide) (hall _ (by decide)) (.inl rfl) rfl⟩
      · exact ⟨by simp, (I.row_at (i := 31) (by decide) (hall _ (by decide)) rfl rfl).1⟩
      · exact ⟨by simp, I.val_at (i := 32) (by decide) (hall _ (by decide)) (.inr rfl) rfl⟩
      · exact ⟨by simp, (I.row_at (i := 33) (by decide) (hall _ (by decide)) rfl rfl).1⟩
      · exact ⟨by simp, I.val_at (i := 34) (by decide) (hall _ (by decide)) (.inl rfl) rfl⟩
      · exact ⟨by simp, I.val_at (i := 35) (by decide) (hall _ (by decide)) (.inl rfl) rfl⟩) (by kernel_rfl)
    have rb := RB.of (I.row_at (i := 33) (by decide) (hall _ (by decide)) rfl rfl).2
    have u0 : Up w wx := s.1.trans I.up
    have gs : ∀ i (h : i < [p0, p1, p2, p3, p4, p5, p6, p7, p8, p9].length), Good ([p0, p1, p2, p3, p4, p5, p6, p7, p8, p9][i]'h) := by
      intro i h
      have : i = 0 ∨ i = 1 ∨ i = 2 ∨ i = 3 ∨ i = 4 ∨ i = 5 ∨ i = 6 ∨ i = 7 ∨ i = 8 ∨ i = 9 := by simp at h; omega
      rcases this with rfl | rfl | rfl | rfl | rfl | rfl | rfl | rfl | rfl | rfl <;> simpa using by assumption
    have hlen : [p0, p1, p2, p3, p4, p5, p6, p7, p8, p9].length = 10 := rfl
    clear I hall s hin hina hinb C0 h0 C1 h1 C2 h2 C3 h3 C4 h4 C5 h5 C6 h6 C7 h7 C8 h8 C9 h9
    subst fr
    replace rb := hide rb
    generalize [p0, p1, p2, p3, p4, p5, p6, p7, p8, p9] = rs at *
    generalize blk 33 = bB at *
    generalize blk 5 = bb5 at *
    generalize blk 12 = bb12 at *
    generalize blk 21 = bb21 at *
    generalize blk 25 = bb25 at *
    generalize blk 28 = bb28 at *
    generalize blk 31 = bb31 at *
    simp only [putsOf, Act.put, rt, rtp, List.setIfInBounds_toArray, List.set_cons_zero, List.set_cons_succ]
    clear G0 G1 G2 G3 G4 G5 G6 G7 G8 G9
    go_wp2_with fail
    go_loopg [48] 10 (fun g j wr => ∃ i : Nat, j = .int .i64 i ∧ i + g = 10 ∧ Hid (RB wr bB rs) ∧ Up w wr)
    case atStart => exact ⟨0, rfl, by omega, rb, u0⟩
    case round =>
      obtain ⟨i, rfl, hi2, rbi, ui⟩ := hrel
      by_cases hlt : i < 10
      · have hlt2 : (i : Int) < 10 := by omega
        have hlr : i < rs.length := by omega
        obtain ⟨r0, r1⟩ := rbi.out.2 i hlr
        obtain ⟨g1, g2, g3⟩ := gs i hlr
        have nb := rbi.out.1
        clear gs
        generalize rs[i].1 = x at *
        generalize rs[i].2 = y at *
        obtain ⟨x1, x2⟩ := id g2
        obtain ⟨y1, y2⟩ := id g3
        have HG := hide (good_cases g1)
        go_upto_region 6 with (go_at_call 12; refine (may_any _ _ _ x1 x2 y1 y2).mono ?_; rintro _ wl ⟨rfl, hl⟩; simp only [g1])
        have c0 := hl.cell wr.heap.size 0 (by simp)
        have c1 := hl.cell wr.heap.size 1 (by simp)
        simp [go_sem] at c0 c1
        have uw : Up wr wl := by repeat (first | exact Up.refl _ | apply Up.alloc | (refine Up.setCell ?_ (by simp) _) | (refine Up.trans ?_ hl))
        clear r0 r1 hl
        go_quiet (fail)
        have uq : Up wr (wl.drewN nq) := uw.drewN nq
        clear c0 c1 uw
        generalize wl.drewN nq = wq at *
        have rbq := hide (rbi.out.up uq)
        have uwq := ui.trans uq
        clear rbi uq ui g1 g2 g3 nb
        rcases HG.out with ⟨rfl, rfl⟩ | ⟨z0, z1, z2, z3⟩
        · go_wp2_with fail
          go_roundg (gk - 1)
          case measure => omega
          case rel => exact ⟨i + 1, by go_num, by omega, rbq, uwq⟩
        · have z4 : ¬ y < 1 := by omega
          have z5 : ¬ x = -9223372036854775808 := by simpa using z2
          have hx0 : 0 ≤ ab x := ab_nn x
          have hx1 : ab x ≤ 9223372036854775807 := by unfold ab; split <;> omega
          replace z3 := hide z3
          clear HG
          by_cases hx : x < 0
          · skip
            obtain ⟨ax, hax⟩ : ∃ ax, ax = ab x := ⟨_, rfl⟩
            have HX := hide (show ab x = -x by unfold ab; rw [if_pos hx])
            rw [← hax] at hx0 hx1 z3
            go_wp2_with fail
            go_loopw [11, 12] (fun u v wz => ∃ p q : Int, u = .int .i64 p ∧ v = .int .i64 q ∧ 0 ≤ p ∧ p ≤ 9223372036854775807 ∧ 1 ≤ q ∧ q ≤ 9223372036854775807 ∧ Hid (Int.gcd p q = 1) ∧ wz = wq) (fun u _ _ => (intOf u).toNat)
            case atStart => exact ⟨ax, y, by rw [hax, HX.out], rfl, hx0, hx1, z1, y2, z3, rfl⟩
            case round =>
              obtain ⟨p, q, rfl, rfl, p0, p1, q0, q1, hg, rfl⟩ := hrel
              by_cases hp : 0 < p
              · have hp2 : ¬ p = 0 := by omega
                have hm0 : 0 ≤ q % p := Int.emod_nonneg _ hp2
                have hm1 : q % p < p := Int.emod_lt_of_pos _ hp
                have ht : q.tmod p = q % p := Int.tmod_eq_emod_of_nonneg (by omega)
                have hgs := hide ((Int.gcd_comm (q % p) p).trans ((gcd_step q p (by omega) hp).trans ((Int.gcd_comm q p).trans hg.out)))
                go_wp2
                exact ⟨⟨q % p, p, rfl, rfl, by omega, by omega, by omega, by omega, hgs, trivial⟩, by simp [intOf]; omega⟩
              · have hp0 : p = 0 := by omega
                subst hp0
                have hq1 : q = 1 := by have := hg.out; simp at this; omega
                subst hq1
                clear hg
                go_wp2
                go_roundg (gk - 1)
                case measure => omega
                case rel => exact ⟨i + 1, by go_num, by omega, rbq, uwq⟩
          · skip
            obtain ⟨ax, hax⟩ : ∃ ax, ax = ab x := ⟨_, rfl⟩
            have HX := hide (show ab x = x by unfold ab; rw [if_neg hx])
            rw [← hax] at hx0 hx1 z3
            go_wp2_with fail
            go_loopw [11, 12] (fun u v wz => ∃ p q : Int, u = .int .i64 p ∧ v = .int .i64 q ∧ 0 ≤ p ∧ p ≤ 9223372036854775807 ∧ 1 ≤ q ∧ q ≤ 9223372036854775807 ∧ Hid (Int.gcd p q = 1) ∧ wz = wq) (fun u _ _ => (intOf u).toNat)
            case atStart => exact ⟨ax, y, by rw [hax, HX.out], rfl, hx0, hx1, z1, y2, z3, rfl⟩
            case round =>
              obtain ⟨p, q, rfl, rfl, p0, p1, q0, q1, hg, rfl⟩ := hrel
              by_cases hp : 0 < p
              · have hp2 : ¬ p = 0 := by omega
                have hm0 : 0 ≤ q % p := Int.emod_nonneg _ hp2
                have hm1 : q % p < p := Int.emod_lt_of_pos _ hp
                have ht : q.tmod p = q % p := Int.tmod_eq_emod_of_nonneg (by omega)
                have hgs := hide ((Int.gcd_comm (q % p) p).trans ((gcd_step q p (by omega) hp).trans ((Int.gcd_comm q p).trans hg.out)))
                go_wp2
                exact ⟨⟨q % p, p, rfl, rfl, by omega, by omega, by omega, by omega, hgs, trivial⟩, by simp [intOf]; omega⟩
              · have hp0 : p = 0 := by omega
                subst hp0
                have hq1 : q = 1 := by have := hg.out; simp at this; omega
                subst hq1
                clear hg
                go_wp2
                go_roundg (gk - 1)
                case measure => omega
                case rel => exact ⟨i + 1, by go_num, by omega, rbq, uwq⟩
      · have hlt2 : ¬ (i : Int) < 10 := by omega
        go_wp2_with (first
          | (go_at_call 13; refine (awake_any _).mono ?_; rintro _ wn ⟨rfl, hnn⟩)
          | (go_at_call 12; refine (may_any 2 4 _ (by omega) (by omega) (by omega) (by omega)).mono ?_; rintro _ wl ⟨rfl, hl⟩; simp only [show mayB 2 4 = false by decide]))
        go_ret
        exact ⟨by simp, (ui.trans hnn).trans hl⟩
end Go.Proofs.Ytnabdpmkhanfjaa
