/-
  The walk of the statement RatOrder, where all three are values.
-/
import Derived.Test.YtjeflecigeamnaaWalksX
import Derived.Test.YtjeflecigeamnaaRegE
import Derived.Test.YtjeflecigeamnaaLowB
import Derived.Deep.RegionHeld3
import Derived.Deep.DrawnRows
import Derived.Deep.DeepCutAuto
set_option linter.unusedVariables false
namespace Go.Proofs.Ytjeflecigeamnaa
open Go.RowKit
attribute [local go_sem ↓] Go.wp_at_zero Go.wp_at_succ
def neP (x y : Int × Int) : Prop := ¬ x.1 = y.1 ∨ (x.1 = y.1 ∧ ¬ x.2 = y.2)
theorem ne_of {x y : Int × Int} (h : ¬ x = y) : neP x y := by
  by_cases h1 : x.1 = y.1
  · exact .inr ⟨h1, fun h2 => h (Prod.ext h1 h2)⟩
  · exact .inl h1
theorem first3 {R a b c : Int × Int} (h : R = a ∨ R = b ∨ R = c) : R = a ∨ (R = b ∧ neP b a) ∨ (R = c ∧ neP c a ∧ neP c b) := by
  by_cases h1 : R = a
  · exact .inl h1
  by_cases h2 : R = b
  · exact .inr (.inl ⟨h2, ne_of (fun e => h1 (h2.trans e))⟩)
  · have h3 : R = c := (h.resolve_left h1).resolve_left h2
    exact .inr (.inr ⟨h3, ne_of (fun e => h1 (h3.trans e)), ne_of (fun e => h2 (h3.trans e))⟩)
theorem hide {p : Prop} (h : p) : Hid p := h
theorem row2h {W : World} {b : Nat} {x y z t : Int} {T : TypeId} (h : W.heap[b]? = some (.cells #[.int .i64 x, .int .i64 y, .int .i64 z, .int .i64 t] T)) : Row W (.slice (some ⟨b, 0, none⟩) 2 2) [(x, y), (z, t)] := by
  refine Or.inr ⟨b, 0, 2, rfl, (Array.getElem?_eq_some_iff.1 h).1, by simp, ?_⟩
  intro i hi
  have : i = 0 ∨ i = 1 := by simp at hi; omega
  rcases this with rfl | rfl <;> simp [World.cell?, h]
theorem row3h {W : World} {b : Nat} {x y z t u v : Int} {T : TypeId} (h : W.heap[b]? = some (.cells #[.int .i64 x, .int .i64 y, .int .i64 z, .int .i64 t, .int .i64 u, .int .i64 v] T)) : Row W (.slice (some ⟨b, 0, none⟩) 3 3) [(x, y), (z, t), (u, v)] := by
  refine Or.inr ⟨b, 0, 3, rfl, (Array.getElem?_eq_some_iff.1 h).1, by simp, ?_⟩
  intro i hi
  have : i = 0 ∨ i = 1 ∨ i = 2 := by simp at hi; omega
  rcases this with rfl | rfl | rfl <;> simp [World.cell?, h]
theorem idP {p : Prop} (h : p) : p := h
/-- A fraction in memory. -/
def Bx (wr : World) (k : Nat) (p : Int × Int) : Prop := k < wr.heap.size ∧ wr.cell? ⟨k, 0, none⟩ = some (.int .i64 p.1) ∧ wr.cell? ⟨k, 1, none⟩ = some (.int .i64 p.2)
theorem Bx.up {w w' : World} {k : Nat} {p : Int × Int} (h : Bx w k p) (u : Up w w') : Bx w' k p := ⟨Nat.lt_of_lt_of_le h.1 u.size, (u.cell _ _ h.1).trans h.2.1, (u.cell _ _ h.1).trans h.2.2⟩
def kd25 (n d m e f g : Int) (mm nn : Int × Int) (E1 E2 F1 F2 : Bool) : Nat → Kd
  | 0 => .val (rtq mm)
  | 1 => .val (rtq (n, d))
  | 2 => .val (.bool E1)
  | 3 => .val (.bool E1)
  | 4 => .val (cond E1 undef (rtq mm))
  | 5 => .val (cond E1 undef (rtq (m, e)))
  | 6 => .val (cond E1 undef (.bool E2))
  | 7 => .val (.bool (E1 || E2))
  | 8 => .val (.bool (E1 || E2))
  | 9 => .val (cond E1 undef (cond E2 undef (rtq mm)))
  | 10 => .val (cond E1 undef (cond E2 undef (rtq (f, g))))
  | 11 => .val (cond E1 undef (cond E2 undef (.bool true)))
  | 12 => .val (.bool true)
  | 13 => .val (.bool true)
  | 14 => .val (rtq nn)
  | 15 => .val (rtq (n, d))
  | 16 => .val (.bool F1)
  | 17 => .val (.bool F1)
  | 18 => .val (cond F1 undef (rtq nn))
  | 19 => .val (cond F1 undef (rtq (m, e)))
  | 20 => .val (cond F1 undef (.bool F2))
  | 21 => .val (.bool (F1 || F2))
  | 22 => .val (.bool (F1 || F2))
  | 23 => .val (cond F1 undef (cond F2 undef (rtq nn)))
  | 24 => .val (cond F1 undef (cond F2 undef (rtq (f, g))))
  | 25 => .val (cond F1 undef (cond F2 undef (.bool true)))
  | 26 => .val (.bool true)
  | 27 => .val (.bool true)
  | 28 => .val (.bool true)
  | _ => .val undef
def rt (n d : Int) : Value := .agg #[.int .i64 n, .int .i64 d]
/-- What the operations of the two sums do. -/
def kd14 (n d m e f g : Int) (pp qq : Int × Int) : Nat → Kd
  | 0 => .val (rt n d)
  | 1 => .val (rt f g)
  | 2 => .row #[.int .i64 n, .int .i64 d, .int .i64 f, .int .i64 g] 23 2
  | 3 => .call (rt pp.1 pp.2)
  | 4 => .val (rt m e)
  | 5 => .val (rt f g)
  | 6 => .row #[.int .i64 m, .int .i64 e, .int .i64 f, .int .i64 g] 23 2
  | 7 => .call (rt qq.1 qq.2)
  | 8 => .box 23
  | 9 => .box 23
  | 10 => .put 8 (.int .i64 pp.1) (.int .i64 pp.2)
  | 11 => .put 9 (.int .i64 qq.1) (.int .i64 qq.2)
  | _ => .val undef
/-- What the operations of the least and the greatest do. -/
def kd24 (n d m e f g : Int) (pp qq : Int × Int) : Nat → Kd
  | 0 => .val (rt n d)
  | 1 => .val (rt m e)
  | 2 => .val (rt f g)
  | 3 => .row #[.int .i64 n, .int .i64 d, .int .i64 m, .int .i64 e, .int .i64 f, .int .i64 g] 23 3
  | 4 => .call (rt pp.1 pp.2)
  | 5 => .val (rt n d)
  | 6 => .val (rt m e)
  | 7 => .val (rt f g)
  | 8 => .row #[.int .i64 n, .int .i64 d, .int .i64 m, .int .i64 e, .int .i64 f, .int .i64 g] 23 3
  | 9 => .call (rt qq.1 qq.2)
  | 10 => .box 23
  | 11 => .box 23
  | 12 => .put 10 (.int .i64 pp.1) (.int .i64 pp.2)
  | 13 => .put 11 (.int .i64 qq.1) (.int .i64 qq.2)
  | _ => .val undef
theorem cells2 {W : World} {b : Nat} {x y : Value} {T : TypeId} (h : W.heap[b]? = some (.cells #[x, y] T)) : W.cell? ⟨b, 0, none⟩ = some x ∧ W.cell? ⟨b, 1, none⟩ = some y ∧ b < W.heap.size := ⟨by simp [World.cell?, h], by simp [World.cell?, h], (Array.getElem?_eq_some_iff.1 h).1⟩
set_option maxRecDepth 100000 in
set_option maxHeartbeats 80000000 in
theorem order_all (n d m e f g : Int) (w : World) (hn : I64 n) (hd : I64 d) (hm : I64 m) (he : I64 e) (hf : I64 f) (hg : I64 g) (va : isV n d = true) (vb : isV m e = true) (vc : isV f g = true) :
    Calls Try.prog 3 #[.agg #[.int .i64 n, .int .i64 d], .agg #[.int .i64 m, .int .i64 e], .agg #[.int .i64 f, .int .i64 g]] w fun x w' => x = .returned (.bool true) ∧ Up w w' := by
  have s := S3.start w n d m e f g
  obtain ⟨b1, b2⟩ := cm_bd (n * e) (m * d)
  have C1 : Hid (cmpR n d m e = .tuple #[.int .i64 (cq n d m e), .bool true]) := by simp [Hid, cmpR, va, vb]
  have C2 : Hid (cmpR m e n d = .tuple #[.int .i64 (-cq n d m e), .bool true]) := by rw [Hid, ← cq_swap]; simp [cmpR, va, vb]
  have n1 : Hid (ngN n d = -n ∧ ngD n d = d) := by simp [Hid, ngN, ngD, va]
  have n2 : Hid (ngN m e = -m ∧ ngD m e = e) := by simp [Hid, ngN, ngD, vb]
  obtain ⟨i1, i2⟩ := ng_I64 hn hd
  obtain ⟨i3, i4⟩ := ng_I64 hm he
  have C3 : Hid (cmpR (ngN n d) (ngD n d) (ngN m e) (ngD m e) = .tuple #[.int .i64 (-cq n d m e), .bool true]) := by
    rw [Hid, n1.out.1, n1.out.2, n2.out.1, n2.out.2, ← cq_turn]; simp [cmpR, turn_isV hn va, turn_isV hm vb]
  have HZ : Hid _ := cq_zero va vb
  change -1 ≤ cq n d m e at b1
  change cq n d m e ≤ 1 at b2
  clear n1 n2
  generalize hX : cq n d m e = X at *
  have HX : Hid _ := hX
  clear hX
  go_enter Try.func3, Try.ntmps3
  go_wp2_with (first
      | (go_at_call 4; refine (awake_any _).mono ?_; rintro _ wa ⟨rfl, ha⟩; replace s := s.up ha; obtain ⟨t0, t1, t2, t3, t4, t5, t6, t7⟩ := id s; clear t0 ha)
      | (go_at_call 5; refine (cmp_any _ _ _ _ _ (by assumption) (by assumption) (by assumption) (by assumption)).mono ?_; rintro _ wb ⟨rfl, hb⟩; replace s := s.up hb; clear t1 t2 t3 t4 t5 t6 t7 hb; obtain ⟨t0, t1, t2, t3, t4, t5, t6, t7⟩ := id s; clear t0; simp only [C1.out, C2.out])
      | (go_at_call 6; refine (isL_any _ _ _ (by assumption) (by assumption)).mono ?_; rintro _ wc ⟨rfl, hc⟩; replace s := s.up hc; clear t1 t2 t3 t4 t5 t6 t7 hc; obtain ⟨t0, t1, t2, t3, t4, t5, t6, t7⟩ := id s; clear t0; simp only [va, vb]))
  go_region_held3 (fun w' => w'.cell? ⟨w.heap.size, 0, none⟩ = some (.int .i64 n) ∧ w'.cell? ⟨w.heap.size, 1, none⟩ = some (.int .i64 d) ∧ w'.cell? ⟨w.heap.size + 1, 0, none⟩ = some (.int .i64 m) ∧ w'.cell? ⟨w.heap.size + 1, 1, none⟩ = some (.int .i64 e) ∧ w'.cell? ⟨w.heap.size + 1 + 1, 0, none⟩ = some (.int .i64 f) ∧ w'.cell? ⟨w.heap.size + 1 + 1, 1, none⟩ = some (.int .i64 g))
    ((refine (s.up ?_).cells; (repeat (first | exact Up.refl _ | apply Up.drewN | apply Up.drew | (refine Up.trans ?_ (by assumption)))); done))
    (first
      | (go_at_call 7; refine (negP_any _ _ _ (by assumption) (by assumption)).mono ?_; rintro _ wl ⟨rfl, hl⟩)
      | (go_at_call 5; refine (cmp_any _ _ _ _ _ i1 i2 i3 i4).mono ?_; rintro _ wl ⟨rfl, hl⟩; simp only [C3.out]))
  replace s := s.up (show Up _ wl by repeat (first | exact Up.refl _ | apply Up.drewN | apply Up.drew | (refine Up.trans ?_ (by assumption))))
  clear t1 t2 t3 t4 t5 t6 t7 hl
  obtain ⟨t0, t1, t2, t3, t4, t5, t6, t7⟩ := id s
  clear t0 C1 C2 C3 i1 i2 i3 i4
  have hcases : (X = 0 ∧ n = m ∧ d = e) ∨ ((X == 0) = false ∧ ¬ n = m) ∨ ((X == 0) = false ∧ n = m ∧ ¬ d = e) := by
    by_cases h : X = 0
    · exact Or.inl ⟨h, HZ.out.mp h⟩
    · have h' : (X == 0) = false := by simpa using h
      by_cases k : n = m
      · exact Or.inr (Or.inr ⟨h', k, fun l => h (HZ.out.mpr ⟨k, l⟩)⟩)
      · exact Or.inr (Or.inl ⟨h', k⟩)
  go_upto_region 10 with fail
  go_cut [87] (fun t wx => wl = wx ∧ t = .bool false)
  case first =>
    rcases hcases with ⟨hx, hnm, hde⟩ | ⟨hx, hnm⟩ | ⟨hx, hnm, hde⟩
    · subst hx; subst hnm; subst hde
      go_wp2_with fail
      go_meet
      exact ⟨rfl, rfl⟩
    · go_wp2_with fail
      go_meet
      exact ⟨rfl, by simp; omega⟩
    · subst hnm
      go_wp2_with fail
      go_meet
      exact ⟨rfl, by simp; omega⟩
  case rest =>
    obtain ⟨rfl, rfl⟩ := hcut
    go_wp2_with (go_at_call 6; refine (isL_any _ _ _ hf hg).mono ?_; rintro _ wc ⟨rfl, hc⟩; replace s := s.up hc; simp only [vc])
    clear t1 t2 t3 t4 t5 t6 t7 hc
    obtain ⟨t0, t1, t2, t3, t4, t5, t6, t7⟩ := id s
    clear t0
    have hin1 : In64 [(n, d), (f, g)] := by intro r hr; simp at hr; rcases hr with rfl | rfl <;> exact ⟨by assumption, by assumption⟩
    have hin2 : In64 [(m, e), (f, g)] := by intro r hr; simp at hr; rcases hr with rfl | rfl <;> exact ⟨by assumption, by assumption⟩
    obtain ⟨pp, hpp⟩ : ∃ pp, addAll [(n, d), (f, g)] = pp := ⟨_, rfl⟩
    obtain ⟨qq, hqq⟩ : ∃ qq, addAll [(m, e), (f, g)] = qq := ⟨_, rfl⟩
    have CP := fun (W : World) v (h : Row W v [(n, d), (f, g)]) => hpp ▸ addP_any v [(n, d), (f, g)] W h hin1
    have CQ := fun (W : World) v (h : Row W v [(m, e), (f, g)]) => hqq ▸ addP_any v [(m, e), (f, g)] W h hin2
    refine wp_region_kd (by kernel_rfl) (kd14 n d m e f g pp qq) (Stat.of (by kernel_rfl)) (acy_of (by kernel_rfl)) ?_ ?_
    · intro i o ho blk listed a wx I hd
      have hi : i < 12 := (Array.getElem?_eq_some_iff.1 ho).1
      obtain ⟨_, _, t2', t3', t4', t5', t6', t7'⟩ := s.up I.up
      rcases (show i = 0 ∨ i = 1 ∨ i = 2 ∨ i = 3 ∨ i = 4 ∨ i = 5 ∨ i = 6 ∨ i = 7 ∨ i = 8 ∨ i = 9 ∨ i = 10 ∨ i = 11 by omega) with rfl | rfl | rfl | rfl | rfl | rfl | rfl | rfl | rfl | rfl | rfl | rfl
      · obtain rfl := Option.some.inj ho
        exact wpOp_val rfl rfl (run_ld rfl (show a.tmps.getD 3 undef = _ from (I.oth_at (by kernel_rfl)).trans rfl) t2' t3') (show _ ∧ _ from ⟨rfl, Up.refl _⟩)
      · obtain rfl := Option.some.inj ho
        exact wpOp_val rfl rfl (run_ld rfl (show a.tmps.getD 5 undef = _ from (I.oth_at (by kernel_rfl)).trans rfl) t6' t7') (show _ ∧ _ from ⟨rfl, Up.refl _⟩)
      · obtain rfl := Option.some.inj ho
        exact wpOp_val rfl rfl (run_bs2 rfl (I.val_at (by decide) (hd ⟨0, .data⟩ (by simp) rfl) (.inl rfl) rfl) (I.val_at (by decide) (hd ⟨1, .data⟩ (by simp) rfl) (.inl rfl) rfl)) (show _ ∧ _ from ⟨rfl, rfl⟩)
      · obtain rfl := Option.some.inj ho
        obtain ⟨r1, r2⟩ := I.row_at (i := 2) (by decide) (hd ⟨2, .data⟩ (by simp) rfl) rfl rfl
        refine wpOp_call rfl rfl (run_cl1 rfl rfl (fun v => enters_of Try.func8 (by kernel_rfl) rfl #[v] wx)) ?_
        refine (show Calls Try.prog 8 #[a.tmps.getD _ undef] wx _ from ?_)
        rw [r1]
        exact (CP wx _ (row2h r2)).mono (by rintro e w' ⟨rfl, hu⟩; exact ⟨_, rfl, (show _ ∧ _ from ⟨rfl, hu⟩)⟩)
      · obtain rfl := Option.some.inj ho
        exact wpOp_val rfl rfl (run_ld rfl (show a.tmps.getD 4 undef = _ from (I.oth_at (by kernel_rfl)).trans rfl) t4' t5') (show _ ∧ _ from ⟨rfl, Up.refl _⟩)
      · obtain rfl := Option.some.inj ho
        exact wpOp_val rfl rfl (run_ld rfl (show a.tmps.getD 5 undef = _ from (I.oth_at (by kernel_rfl)).trans rfl) t6' t7') (show _ ∧ _ from ⟨rfl, Up.refl _⟩)
      · obtain rfl := Option.some.inj ho
        exact wpOp_val rfl rfl (run_bs2 rfl (I.val_at (by decide) (hd ⟨4, .data⟩ (by simp) rfl) (.inl rfl) rfl) (I.val_at (by decide) (hd ⟨5, .data⟩ (by simp) rfl) (.inl rfl) rfl)) (show _ ∧ _ from ⟨rfl, rfl⟩)
      · obtain rfl := Option.some.inj ho
        obtain ⟨r1, r2⟩ := I.row_at (i := 6) (by decide) (hd ⟨6, .data⟩ (by simp) rfl) rfl rfl
        refine wpOp_call rfl rfl (run_cl1 rfl rfl (fun v => enters_of Try.func8 (by kernel_rfl) rfl #[v] wx)) ?_
        refine (show Calls Try.prog 8 #[a.tmps.getD _ undef] wx _ from ?_)
        rw [r1]
        exact (CQ wx _ (row2h r2)).mono (by rintro e w' ⟨rfl, hu⟩; exact ⟨_, rfl, (show _ ∧ _ from ⟨rfl, hu⟩)⟩)
      · obtain rfl := Option.some.inj ho
        exact wpOp_val rfl rfl (run_alc rfl) (show ∃ _ _, _ ∧ _ from ⟨_, _, rfl, rfl⟩)
      · obtain rfl := Option.some.inj ho
        exact wpOp_val rfl rfl (run_alc rfl) (show ∃ _ _, _ ∧ _ from ⟨_, _, rfl, rfl⟩)
      · obtain rfl := Option.some.inj ho
        obtain ⟨r1, c0, c1, r2⟩ := I.box_at (i := 8) (by decide) (hd ⟨8, .data⟩ (by simp) rfl) rfl rfl
        have v1 := I.val_at (i := 3) (by decide) (hd ⟨3, .data⟩ (by simp) rfl) (.inr rfl) rfl
        have L8 := hd ⟨8, .data⟩ (by simp) rfl
        exact wpOp_st rfl rfl rfl r1 v1 r2 (fun v => (show _ ∧ _ ∧ _ from ⟨L8, ⟨_, rfl⟩, rfl⟩))
      · obtain rfl := Option.some.inj ho
        obtain ⟨r1, c0, c1, r2⟩ := I.box_at (i := 9) (by decide) (hd ⟨9, .data⟩ (by simp) rfl) rfl rfl
        have v1 := I.val_at (i := 7) (by decide) (hd ⟨7, .data⟩ (by simp) rfl) (.inr rfl) rfl
        have L8 := hd ⟨9, .data⟩ (by simp) rfl
        exact wpOp_st rfl rfl rfl r1 v1 r2 (fun v => (show _ ∧ _ ∧ _ from ⟨L8, ⟨_, rfl⟩, rfl⟩))
    · intro blk listed a wx I hall
      have fr := I.frameL [(91, rt n d), (92, rt f g), (93, .slice (some ⟨blk 2, 0, none⟩) 2 2), (94, rt pp.1 pp.2), (95, rt m e), (96, rt f g), (97, .slice (some ⟨blk 6, 0, none⟩) 2 2), (98, rt qq.1 qq.2), (13, .pointer (some ⟨blk 8, 0, none⟩)), (14, .pointer (some ⟨blk 9, 0, none⟩))] (by
        intro p hp
        simp only [List.mem_cons, List.not_mem_nil, or_false] at hp
        rcases hp with rfl | rfl | rfl | rfl | rfl | rfl | rfl | rfl | rfl | rfl
        · exact ⟨by simp, I.val_at (i := 0) (by decide) (hall _ (by decide)) (.inl rfl) rfl⟩
        · exact ⟨by simp, I.val_at (i := 1) (by decide) (hall _ (by decide)) (.inl rfl) rfl⟩
        · exact ⟨by simp, (I.row_at (i := 2) (by decide) (hall _ (by decide)) rfl rfl).1⟩
        · exact ⟨by simp, I.val_at (i := 3) (by decide) (hall _ (by decide)) (.inr rfl) rfl⟩
        · exact ⟨by simp, I.val_at (i := 4) (by decide) (hall _ (by decide)) (.inl rfl) rfl⟩
        · exact ⟨by simp, I.val_at (i := 5) (by decide) (hall _ (by decide)) (.inl rfl) rfl⟩
        · exact ⟨by simp, (I.row_at (i := 6) (by decide) (hall _ (by decide)) rfl rfl).1⟩
        · exact ⟨by simp, I.val_at (i := 7) (by decide) (hall _ (by decide)) (.inr rfl) rfl⟩
        · exact ⟨by simp, (I.box_at (i := 8) (by decide) (hall _ (by decide)) rfl rfl).1⟩
        · exact ⟨by simp, (I.box_at (i := 9) (by decide) (hall _ (by decide)) rfl rfl).1⟩) (by kernel_rfl)
      obtain ⟨T8, h8⟩ := I.put_at (i := 10) (by decide) (hall _ (by decide)) rfl
      obtain ⟨T9, h9⟩ := I.put_at (i := 11) (by decide) (hall _ (by decide)) rfl
      obtain ⟨p0, p1, p2⟩ := cells2 h8
      obtain ⟨q0, q1, q2⟩ := cells2 h9
      replace s := s.up I.up
      clear t1 t2 t3 t4 t5 t6 t7 I hall h8 h9 CP CQ hin1 hin2
      obtain ⟨t0, t1, t2, t3, t4, t5, t6, t7⟩ := id s
      clear t0
      subst fr
      generalize blk 8 = bp at *
      generalize blk 9 = bq at *
      generalize blk 2 = b2 at *
      generalize blk 6 = b6 at *
      obtain ⟨ip1, ip2⟩ : I64 pp.1 ∧ I64 pp.2 := by rw [← hpp]; exact addAll_I64 _
      obtain ⟨iq1, iq2⟩ : I64 qq.1 ∧ I64 qq.2 := by rw [← hqq]; exact addAll_I64 _
      obtain ⟨x', bb, hc, hbb⟩ : ∃ (x' : Int) (bb : Bool), cmpR pp.1 pp.2 qq.1 qq.2 = .tuple #[.int .i64 x', .bool bb] ∧ (bb = true → x' = X) := by
        cases hv : (isV pp.1 pp.2 && isV qq.1 qq.2) with
        | false => exact ⟨0, false, by unfold cmpR; rw [hv]; rfl, fun h => by cases h⟩
        | true =>
          refine ⟨cq pp.1 pp.2 qq.1 qq.2, true, by unfold cmpR; rw [hv]; rfl, fun _ => ?_⟩
          rw [addAll2 hn hd va] at hpp
          rw [addAll2 hm he vb] at hqq
          rw [Bool.and_eq_true] at hv
          rw [← hpp, ← hqq] at hv ⊢
          rw [cq_add va vb vc hv.1 hv.2]
          exact HX.out
      replace hc := hide hc
      replace hbb := hide hbb
      have CU := hide (show cmpR m e f g = .tuple #[.int .i64 (cq m e f g), .bool true] by simp [cmpR, vb, vc])
      have CV := hide (show cmpR n d f g = .tuple #[.int .i64 (cq n d f g), .bool true] by simp [cmpR, va, vc])
      obtain ⟨ub1, ub2⟩ := cm_bd (m * g) (f * e)
      obtain ⟨vb1, vb2⟩ := cm_bd (n * g) (f * d)
      change -1 ≤ cq m e f g at ub1
      change cq m e f g ≤ 1 at ub2
      change -1 ≤ cq n d f g at vb1
      change cq n d f g ≤ 1 at vb2
      have T1 := hide (fun (h : X ≤ 0) (k : cq m e f g ≤ 0) => cq_trans (isV_den va) (isV_den vb) (isV_den vc) (by rw [HX.out]; exact h) k)
      have T2 := hide (fun (h : X ≤ 0) (k : cq m e f g ≤ 0) (s : X < 0 ∨ cq m e f g < 0) => cq_trans' (isV_den va) (isV_den vb) (isV_den vc) (by rw [HX.out]; exact h) k (by rw [HX.out]; exact s))
      generalize cq m e f g = U at *
      generalize cq n d f g = V at *
      clear hpp hqq HX HZ hcases
      dsimp only [setsL, List.set_cons_zero, List.set_cons_succ, rt]
      go_upto_region 16 with (go_at_call 5; refine (cmp_any _ _ _ _ _ ip1 ip2 iq1 iq2).mono ?_; rintro _ wb ⟨rfl, hb⟩; replace s := s.up hb; clear t1 t2 t3 t4 t5 t6 t7 p0 p1 q0 q1 hb; obtain ⟨t0, t1, t2, t3, t4, t5, t6, t7⟩ := id s; clear t0; simp only [hc.out])
      go_cut [110] (fun t wy => wb = wy ∧ t = .bool false)
      case first =>
        cases bb with
        | false =>
          go_wp2_with fail
          go_meet
          exact ⟨rfl, rfl⟩
        | true =>
          obtain rfl := hbb.out rfl
          go_wp2_with fail
          go_meet
          exact ⟨rfl, by simp⟩
      case rest =>
        obtain ⟨rfl, rfl⟩ := hcut
        go_upto_region 20 with (first
          | (go_at_call_of 5 (Value.agg #[.int .i64 m, .int .i64 e]); refine (cmp_any _ _ _ _ _ hm he hf hg).mono ?_; rintro _ wc ⟨rfl, hb⟩; replace s := s.up hb; clear t1 t2 t3 t4 t5 t6 t7 hb; obtain ⟨t0, t1, t2, t3, t4, t5, t6, t7⟩ := id s; clear t0; simp only [CU.out])
          | (go_at_call 5; refine (cmp_any _ _ _ _ _ hn hd hf hg).mono ?_; rintro _ wd ⟨rfl, hb⟩; replace s := s.up hb; clear t1 t2 t3 t4 t5 t6 t7 hb; obtain ⟨t0, t1, t2, t3, t4, t5, t6, t7⟩ := id s; clear t0; simp only [CV.out]))
        go_cut [132] (fun t wy => wd = wy ∧ t = .bool false)
        case first =>
          by_cases hX : X ≤ 0
          · by_cases hU : U ≤ 0
            · have hV : ¬ 0 < V := by have := T1.out hX hU; omega
              go_wp2_with fail
              go_meet
              exact ⟨rfl, rfl⟩
            · go_wp2_with fail
              go_meet
              exact ⟨rfl, rfl⟩
          · go_wp2_with fail
            go_meet
            exact ⟨rfl, rfl⟩
        case rest =>
          obtain ⟨rfl, rfl⟩ := hcut
          go_upto_region 22 with fail
          go_cut [150] (fun t wy => wd = wy ∧ t = .bool false)
          case first =>
            by_cases h1 : X < 0
            · have h2 : X ≤ 0 := by omega
              by_cases hU : U ≤ 0
              · have hV : V = -1 := T2.out h2 hU (.inl h1)
                have hV2 : (V != -1) = false := by rw [hV]; rfl
                clear hV
                go_wp2_with fail
                go_meet
                exact ⟨rfl, rfl⟩
              · go_wp2_with fail
                go_meet
                exact ⟨rfl, rfl⟩
            · by_cases h3 : U < 0
              · have hU : U ≤ 0 := by omega
                by_cases h2 : X ≤ 0
                · have hV : V = -1 := T2.out h2 hU (.inr h3)
                  have hV2 : (V != -1) = false := by rw [hV]; rfl
                  clear hV
                  go_wp2_with fail
                  go_meet
                  exact ⟨rfl, rfl⟩
                · go_wp2_with fail
                  go_meet
                  exact ⟨rfl, rfl⟩
              · go_wp2_with fail
                go_meet
                exact ⟨rfl, rfl⟩
          case rest =>
            obtain ⟨rfl, rfl⟩ := hcut
            have hin3 : In64 [(n, d), (m, e), (f, g)] := by intro r hr; simp at hr; rcases hr with rfl | rfl | rfl <;> exact ⟨by assumption, by assumption⟩
            obtain ⟨mm, hmm⟩ : ∃ mm, utAll (-1) [(n, d), (m, e), (f, g)] = mm := ⟨_, rfl⟩
            obtain ⟨nn, hnn⟩ : ∃ nn, utAll 1 [(n, d), (m, e), (f, g)] = nn := ⟨_, rfl⟩
            have CM := fun (W : World) v (h : Row W v [(n, d), (m, e), (f, g)]) => hmm ▸ leastP_any v [(n, d), (m, e), (f, g)] W h hin3
            have CN := fun (W : World) v (h : Row W v [(n, d), (m, e), (f, g)]) => hnn ▸ mostP_any v [(n, d), (m, e), (f, g)] W h hin3
            have MM := hide (idP (hmm ▸ utAll3 (-1) (a := (n, d)) (b := (m, e)) (c := (f, g)) va vb vc))
            have NN := hide (idP (hnn ▸ utAll3 1 (a := (n, d)) (b := (m, e)) (c := (f, g)) va vb vc))
            go_upto_region 24 with fail
            refine wp_region_kd (by kernel_rfl) (kd24 n d m e f g mm nn) (Stat.of (by kernel_rfl)) (acy_of (by kernel_rfl)) ?_ ?_
            · intro i o ho blk listed a wx I hd
              have hi : i < 14 := (Array.getElem?_eq_some_iff.1 ho).1
              obtain ⟨_, _, t2', t3', t4', t5', t6', t7'⟩ := s.up I.up
              rcases (show i = 0 ∨ i = 1 ∨ i = 2 ∨ i = 3 ∨ i = 4 ∨ i = 5 ∨ i = 6 ∨ i = 7 ∨ i = 8 ∨ i = 9 ∨ i = 10 ∨ i = 11 ∨ i = 12 ∨ i = 13 by omega) with rfl | rfl | rfl | rfl | rfl | rfl | rfl | rfl | rfl | rfl | rfl | rfl | rfl | rfl
              · obtain rfl := Option.some.inj ho
                exact wpOp_val rfl rfl (run_ld rfl (show a.tmps.getD 3 undef = _ from (I.oth_at (by kernel_rfl)).trans rfl) t2' t3') (show _ ∧ _ from ⟨rfl, Up.refl _⟩)
              · obtain rfl := Option.some.inj ho
                exact wpOp_val rfl rfl (run_ld rfl (show a.tmps.getD 4 undef = _ from (I.oth_at (by kernel_rfl)).trans rfl) t4' t5') (show _ ∧ _ from ⟨rfl, Up.refl _⟩)
              · obtain rfl := Option.some.inj ho
                exact wpOp_val rfl rfl (run_ld rfl (show a.tmps.getD 5 undef = _ from (I.oth_at (by kernel_rfl)).trans rfl) t6' t7') (show _ ∧ _ from ⟨rfl, Up.refl _⟩)
              · obtain rfl := Option.some.inj ho
                exact wpOp_val rfl rfl (run_bs3 rfl (I.val_at (by decide) (hd ⟨0, .data⟩ (by simp) rfl) (.inl rfl) rfl) (I.val_at (by decide) (hd ⟨1, .data⟩ (by simp) rfl) (.inl rfl) rfl) (I.val_at (by decide) (hd ⟨2, .data⟩ (by simp) rfl) (.inl rfl) rfl)) (show _ ∧ _ from ⟨rfl, rfl⟩)
              · obtain rfl := Option.some.inj ho
                obtain ⟨r1, r2⟩ := I.row_at (i := 3) (by decide) (hd ⟨3, .data⟩ (by simp) rfl) rfl rfl
                refine wpOp_call rfl rfl (run_cl1 rfl rfl (fun v => enters_of Try.func9 (by kernel_rfl) rfl #[v] wx)) ?_
                refine (show Calls Try.prog 9 #[a.tmps.getD _ undef] wx _ from ?_)
                rw [r1]
                exact (CM wx _ (row3h r2)).mono (by rintro e w' ⟨rfl, hu⟩; exact ⟨_, rfl, (show _ ∧ _ from ⟨rfl, hu⟩)⟩)
              · obtain rfl := Option.some.inj ho
                exact wpOp_val rfl rfl (run_ld rfl (show a.tmps.getD 3 undef = _ from (I.oth_at (by kernel_rfl)).trans rfl) t2' t3') (show _ ∧ _ from ⟨rfl, Up.refl _⟩)
              · obtain rfl := Option.some.inj ho
                exact wpOp_val rfl rfl (run_ld rfl (show a.tmps.getD 4 undef = _ from (I.oth_at (by kernel_rfl)).trans rfl) t4' t5') (show _ ∧ _ from ⟨rfl, Up.refl _⟩)
              · obtain rfl := Option.some.inj ho
                exact wpOp_val rfl rfl (run_ld rfl (show a.tmps.getD 5 undef = _ from (I.oth_at (by kernel_rfl)).trans rfl) t6' t7') (show _ ∧ _ from ⟨rfl, Up.refl _⟩)
              · obtain rfl := Option.some.inj ho
                exact wpOp_val rfl rfl (run_bs3 rfl (I.val_at (by decide) (hd ⟨5, .data⟩ (by simp) rfl) (.inl rfl) rfl) (I.val_at (by decide) (hd ⟨6, .data⟩ (by simp) rfl) (.inl rfl) rfl) (I.val_at (by decide) (hd ⟨7, .data⟩ (by simp) rfl) (.inl rfl) rfl)) (show _ ∧ _ from ⟨rfl, rfl⟩)
              · obtain rfl := Option.some.inj ho
                obtain ⟨r1, r2⟩ := I.row_at (i := 8) (by decide) (hd ⟨8, .data⟩ (by simp) rfl) rfl rfl
                refine wpOp_call rfl rfl (run_cl1 rfl rfl (fun v => enters_of Try.func10 (by kernel_rfl) rfl #[v] wx)) ?_
                refine (show Calls Try.prog 10 #[a.tmps.getD _ undef] wx _ from ?_)
                rw [r1]
                exact (CN wx _ (row3h r2)).mono (by rintro e w' ⟨rfl, hu⟩; exact ⟨_, rfl, (show _ ∧ _ from ⟨rfl, hu⟩)⟩)
              · obtain rfl := Option.some.inj ho
                exact wpOp_val rfl rfl (run_alc rfl) (show ∃ _ _, _ ∧ _ from ⟨_, _, rfl, rfl⟩)
              · obtain rfl := Option.some.inj ho
                exact wpOp_val rfl rfl (run_alc rfl) (show ∃ _ _, _ ∧ _ from ⟨_, _, rfl, rfl⟩)
              · obtain rfl := Option.some.inj ho
                obtain ⟨r1, c0, c1, r2⟩ := I.box_at (i := 10) (by decide) (hd ⟨10, .data⟩ (by simp) rfl) rfl rfl
                have v1 := I.val_at (i := 4) (by decide) (hd ⟨4, .data⟩ (by simp) rfl) (.inr rfl) rfl
                have L8 := hd ⟨10, .data⟩ (by simp) rfl
                exact wpOp_st rfl rfl rfl r1 v1 r2 (fun v => (show _ ∧ _ ∧ _ from ⟨L8, ⟨_, rfl⟩, rfl⟩))
              · obtain rfl := Option.some.inj ho
                obtain ⟨r1, c0, c1, r2⟩ := I.box_at (i := 11) (by decide) (hd ⟨11, .data⟩ (by simp) rfl) rfl rfl
                have v1 := I.val_at (i := 9) (by decide) (hd ⟨9, .data⟩ (by simp) rfl) (.inr rfl) rfl
                have L8 := hd ⟨11, .data⟩ (by simp) rfl
                exact wpOp_st rfl rfl rfl r1 v1 r2 (fun v => (show _ ∧ _ ∧ _ from ⟨L8, ⟨_, rfl⟩, rfl⟩))
            · intro blk listed a wx I hall
              have fr := I.frameL [(151, rt n d), (152, rt m e), (153, rt f g), (154, .slice (some ⟨blk 3, 0, none⟩) 3 3), (155, rt mm.1 mm.2), (156, rt n d), (157, rt m e), (158, rt f g), (159, .slice (some ⟨blk 8, 0, none⟩) 3 3), (160, rt nn.1 nn.2), (21, .pointer (some ⟨blk 10, 0, none⟩)), (22, .pointer (some ⟨blk 11, 0, none⟩))] (by
                intro p hp
                simp only [List.mem_cons, List.not_mem_nil, or_false] at hp
                rcases hp with rfl | rfl | rfl | rfl | rfl | rfl | rfl | rfl | rfl | rfl | rfl | rfl
                · exact ⟨by simp, I.val_at (i := 0) (by decide) (hall _ (by decide)) (.inl rfl) rfl⟩
                · exact ⟨by simp, I.val_at (i := 1) (by decide) (hall _ (by decide)) (.inl rfl) rfl⟩
                · exact ⟨by simp, I.val_at (i := 2) (by decide) (hall _ (by decide)) (.inl rfl) rfl⟩
                · exact ⟨by simp, (I.row_at (i := 3) (by decide) (hall _ (by decide)) rfl rfl).1⟩
                · exact ⟨by simp, I.val_at (i := 4) (by decide) (hall _ (by decide)) (.inr rfl) rfl⟩
                · exact ⟨by simp, I.val_at (i := 5) (by decide) (hall _ (by decide)) (.inl rfl) rfl⟩
                · exact ⟨by simp, I.val_at (i := 6) (by decide) (hall _ (by decide)) (.inl rfl) rfl⟩
                · exact ⟨by simp, I.val_at (i := 7) (by decide) (hall _ (by decide)) (.inl rfl) rfl⟩
                · exact ⟨by simp, (I.row_at (i := 8) (by decide) (hall _ (by decide)) rfl rfl).1⟩
                · exact ⟨by simp, I.val_at (i := 9) (by decide) (hall _ (by decide)) (.inr rfl) rfl⟩
                · exact ⟨by simp, (I.box_at (i := 10) (by decide) (hall _ (by decide)) rfl rfl).1⟩
                · exact ⟨by simp, (I.box_at (i := 11) (by decide) (hall _ (by decide)) rfl rfl).1⟩) (by kernel_rfl)
              obtain ⟨T8, h8⟩ := I.put_at (i := 12) (by decide) (hall _ (by decide)) rfl
              obtain ⟨T9, h9⟩ := I.put_at (i := 13) (by decide) (hall _ (by decide)) rfl
              obtain ⟨p0, p1, p2⟩ := cells2 h8
              obtain ⟨q0, q1, q2⟩ := cells2 h9
              replace s := s.up I.up
              clear t1 t2 t3 t4 t5 t6 t7 I hall h8 h9 CM CN hin3 hmm hnn
              obtain ⟨t0, t1, t2, t3, t4, t5, t6, t7⟩ := id s
              clear t0
              subst fr
              generalize blk 10 = bm at *
              generalize blk 11 = bn at *
              generalize blk 3 = b3 at *
              generalize blk 8 = b8 at *
              clear T1 T2 CU CV hc hbb
              dsimp only [setsL, List.set_cons_zero, List.set_cons_succ, rt]
              have ua := s.1
              have ha1 : Bx wx w.heap.size (n, d) := ⟨by omega, t2, t3⟩
              have hb1 : Bx wx (w.heap.size + 1) (m, e) := ⟨by omega, t4, t5⟩
              have hc1 : Bx wx (w.heap.size + 1 + 1) (f, g) := ⟨by omega, t6, t7⟩
              have hm1 : Bx wx bm mm := ⟨p2, p0, p1⟩
              have hn1 : Bx wx bn nn := ⟨q2, q0, q1⟩
              clear s va vb vc hn hd hm he hf hg ip1 ip2 iq1 iq2 b1 b2 ub1 ub2 vb1 vb2 t1 t2 t3 t4 t5 t6 t7 p0 p1 p2 q0 q1 q2
              have M1 := MM.out
              have N1 := NN.out
              clear MM NN
              obtain ⟨E1, h1⟩ : ∃ t, decide (mm = (n, d)) = t := ⟨_, rfl⟩
              obtain ⟨E2, h2⟩ : ∃ t, decide (mm = (m, e)) = t := ⟨_, rfl⟩
              obtain ⟨F1, k1⟩ : ∃ t, decide (nn = (n, d)) = t := ⟨_, rfl⟩
              obtain ⟨F2, k2⟩ : ∃ t, decide (nn = (m, e)) = t := ⟨_, rfl⟩
              have h3 : E1 = false → E2 = false → decide (mm = (f, g)) = true := by
                intro x y
                rw [x] at h1; rw [y] at h2
                exact decide_eq_true ((M1.resolve_left (of_decide_eq_false h1)).resolve_left (of_decide_eq_false h2))
              have k3 : F1 = false → F2 = false → decide (nn = (f, g)) = true := by
                intro x y
                rw [x] at k1; rw [y] at k2
                exact decide_eq_true ((N1.resolve_left (of_decide_eq_false k1)).resolve_left (of_decide_eq_false k2))
              clear M1 N1
              go_upto_region 25 with fail
              refine wp_region_sqQ (kd25 n d m e f g mm nn E1 E2 F1 F2) (Stat.of (by kernel_rfl)) ?_ ?_
              · as_aux_lemma =>
                  intro Q' i o ho blk listed a wx I hl
                  have hi : i < 29 := (Array.getElem?_eq_some_iff.1 ho).1
                  have hm1' := hm1.up I.up
                  have hn1' := hn1.up I.up
                  have ha1' := ha1.up I.up
                  have hb1' := hb1.up I.up
                  have hc1' := hc1.up I.up
                  rcases (show i = 0 ∨ i = 1 ∨ i = 2 ∨ i = 3 ∨ i = 4 ∨ i = 5 ∨ i = 6 ∨ i = 7 ∨ i = 8 ∨ i = 9 ∨ i = 10 ∨ i = 11 ∨ i = 12 ∨ i = 13 ∨ i = 14 ∨ i = 15 ∨ i = 16 ∨ i = 17 ∨ i = 18 ∨ i = 19 ∨ i = 20 ∨ i = 21 ∨ i = 22 ∨ i = 23 ∨ i = 24 ∨ i = 25 ∨ i = 26 ∨ i = 27 ∨ i = 28 by omega) with rfl | rfl | rfl | rfl | rfl | rfl | rfl | rfl | rfl | rfl | rfl | rfl | rfl | rfl | rfl | rfl | rfl | rfl | rfl | rfl | rfl | rfl | rfl | rfl | rfl | rfl | rfl | rfl | rfl
                  · obtain rfl := Option.some.inj ho
                    exact wpOp_valW rfl (wn rfl) (run_ld rfl (show a.tmps.getD 21 undef = _ from (I.oth_at (by kernel_rfl)).trans rfl) hm1'.2.1 hm1'.2.2) (show _ ∧ _ from ⟨rfl, Up.refl _⟩)
                  · obtain rfl := Option.some.inj ho
                    exact wpOp_valW rfl (wn rfl) (run_ld rfl (show a.tmps.getD 3 undef = _ from (I.oth_at (by kernel_rfl)).trans rfl) ha1'.2.1 ha1'.2.2) (show _ ∧ _ from ⟨rfl, Up.refl _⟩)
                  · obtain rfl := Option.some.inj ho
                    exact wpOp_valW rfl (wn rfl) (run_eqz (p := mm) (q := (n, d)) rfl (I.val_at (i := 0) (by decide) (hl 0 (by omega)) (.inl rfl) rfl) (I.val_at (i := 1) (by decide) (hl 1 (by omega)) (.inl rfl) rfl) h1) (show _ ∧ _ from ⟨rfl, Up.refl _⟩)
                  · obtain rfl := Option.some.inj ho
                    exact wpOp_valW rfl (wn rfl) (run_mv rfl (I.val_at (i := 2) (by decide) (hl 2 (by omega)) (.inl rfl) rfl)) (show _ ∧ _ from ⟨rfl, Up.refl _⟩)
                  · obtain rfl := Option.some.inj ho
                    cases E1 with
                    | true => exact wpOp_notW rfl (wgF (c := true) rfl rfl (I.val_at (i := 3) (by decide) (hl 3 (by omega)) (.inl rfl) rfl) rfl) (show _ ∧ _ from ⟨rfl, Up.refl _⟩)
                    | false =>
                      exact wpOp_valW rfl (wgT (c := false) rfl rfl (I.val_at (i := 3) (by decide) (hl 3 (by omega)) (.inl rfl) rfl) rfl) (run_ld rfl (show a.tmps.getD 21 undef = _ from (I.oth_at (by kernel_rfl)).trans rfl) hm1'.2.1 hm1'.2.2) (show _ ∧ _ from ⟨rfl, Up.refl _⟩)
                  · obtain rfl := Option.some.inj ho
                    cases E1 with
                    | true => exact wpOp_notW rfl (wgF (c := true) rfl rfl (I.val_at (i := 3) (by decide) (hl 3 (by omega)) (.inl rfl) rfl) rfl) (show _ ∧ _ from ⟨rfl, Up.refl _⟩)
                    | false =>
                      exact wpOp_valW rfl (wgT (c := false) rfl rfl (I.val_at (i := 3) (by decide) (hl 3 (by omega)) (.inl rfl) rfl) rfl) (run_ld rfl (show a.tmps.getD 4 undef = _ from (I.oth_at (by kernel_rfl)).trans rfl) hb1'.2.1 hb1'.2.2) (show _ ∧ _ from ⟨rfl, Up.refl _⟩)
                  · obtain rfl := Option.some.inj ho
                    cases E1 with
                    | true => exact wpOp_notW rfl (wgF (c := true) rfl rfl (I.val_at (i := 3) (by decide) (hl 3 (by omega)) (.inl rfl) rfl) rfl) (show _ ∧ _ from ⟨rfl, Up.refl _⟩)
                    | false =>
                      exact wpOp_valW rfl (wgT (c := false) rfl rfl (I.val_at (i := 3) (by decide) (hl 3 (by omega)) (.inl rfl) rfl) rfl) (run_eqz (p := mm) (q := (m, e)) rfl (I.val_at (i := 4) (by decide) (hl 4 (by omega)) (.inl rfl) rfl) (I.val_at (i := 5) (by decide) (hl 5 (by omega)) (.inl rfl) rfl) h2) (show _ ∧ _ from ⟨rfl, Up.refl _⟩)
                  · obtain rfl := Option.some.inj ho
                    cases E1 with
                    | true => exact wpOp_valW rfl (wn rfl) (run_pickT rfl (I.val_at (i := 3) (by decide) (hl 3 (by omega)) (.inl rfl) rfl) rfl) (show _ ∧ _ from ⟨rfl, Up.refl _⟩)
                    | false => exact wpOp_valW rfl (wn rfl) (run_pickF rfl (I.val_at (i := 3) (by decide) (hl 3 (by omega)) (.inl rfl) rfl) (I.val_at (i := 6) (by decide) (hl 6 (by omega)) (.inl rfl) rfl)) (show _ ∧ _ from ⟨rfl, Up.refl _⟩)
                  · obtain rfl := Option.some.inj ho
                    exact wpOp_valW rfl (wn rfl) (run_mv rfl (I.val_at (i := 7) (by decide) (hl 7 (by omega)) (.inl rfl) rfl)) (show _ ∧ _ from ⟨rfl, Up.refl _⟩)
                  · obtain rfl := Option.some.inj ho
                    cases E1 with
                    | true => exact wpOp_notW rfl (wgF (c := true) rfl rfl (I.val_at (i := 8) (by decide) (hl 8 (by omega)) (.inl rfl) rfl) rfl) (show _ ∧ _ from ⟨rfl, Up.refl _⟩)
                    | false =>
                      cases E2 with
                      | true => exact wpOp_notW rfl (wgF (c := true) rfl rfl (I.val_at (i := 8) (by decide) (hl 8 (by omega)) (.inl rfl) rfl) rfl) (show _ ∧ _ from ⟨rfl, Up.refl _⟩)
                      | false =>
                        exact wpOp_valW rfl (wgT (c := false) rfl rfl (I.val_at (i := 8) (by decide) (hl 8 (by omega)) (.inl rfl) rfl) rfl) (run_ld rfl (show a.tmps.getD 21 undef = _ from (I.oth_at (by kernel_rfl)).trans rfl) hm1'.2.1 hm1'.2.2) (show _ ∧ _ from ⟨rfl, Up.refl _⟩)
                  · obtain rfl := Option.some.inj ho
                    cases E1 with
                    | true => exact wpOp_notW rfl (wgF (c := true) rfl rfl (I.val_at (i := 8) (by decide) (hl 8 (by omega)) (.inl rfl) rfl) rfl) (show _ ∧ _ from ⟨rfl, Up.refl _⟩)
                    | false =>
                      cases E2 with
                      | true => exact wpOp_notW rfl (wgF (c := true) rfl rfl (I.val_at (i := 8) (by decide) (hl 8 (by omega)) (.inl rfl) rfl) rfl) (show _ ∧ _ from ⟨rfl, Up.refl _⟩)
                      | false =>
                        exact wpOp_valW rfl (wgT (c := false) rfl rfl (I.val_at (i := 8) (by decide) (hl 8 (by omega)) (.inl rfl) rfl) rfl) (run_ld rfl (show a.tmps.getD 5 undef = _ from (I.oth_at (by kernel_rfl)).trans rfl) hc1'.2.1 hc1'.2.2) (show _ ∧ _ from ⟨rfl, Up.refl _⟩)
                  · obtain rfl := Option.some.inj ho
                    cases E1 with
                    | true => exact wpOp_notW rfl (wgF (c := true) rfl rfl (I.val_at (i := 8) (by decide) (hl 8 (by omega)) (.inl rfl) rfl) rfl) (show _ ∧ _ from ⟨rfl, Up.refl _⟩)
                    | false =>
                      cases E2 with
                      | true => exact wpOp_notW rfl (wgF (c := true) rfl rfl (I.val_at (i := 8) (by decide) (hl 8 (by omega)) (.inl rfl) rfl) rfl) (show _ ∧ _ from ⟨rfl, Up.refl _⟩)
                      | false =>
                        exact wpOp_valW rfl (wgT (c := false) rfl rfl (I.val_at (i := 8) (by decide) (hl 8 (by omega)) (.inl rfl) rfl) rfl) (run_eqz (p := mm) (q := (f, g)) rfl (I.val_at (i := 9) (by decide) (hl 9 (by omega)) (.inl rfl) rfl) (I.val_at (i := 10) (by decide) (hl 10 (by omega)) (.inl rfl) rfl) (h3 rfl rfl)) (show _ ∧ _ from ⟨rfl, Up.refl _⟩)
                  · obtain rfl := Option.some.inj ho
                    cases E1 with
                    | true => exact wpOp_valW rfl (wn rfl) (run_pickT rfl (I.val_at (i := 8) (by decide) (hl 8 (by omega)) (.inl rfl) rfl) rfl) (show _ ∧ _ from ⟨rfl, Up.refl _⟩)
                    | false =>
                      cases E2 with
                      | true => exact wpOp_valW rfl (wn rfl) (run_pickT rfl (I.val_at (i := 8) (by decide) (hl 8 (by omega)) (.inl rfl) rfl) rfl) (show _ ∧ _ from ⟨rfl, Up.refl _⟩)
                      | false => exact wpOp_valW rfl (wn rfl) (run_pickF rfl (I.val_at (i := 8) (by decide) (hl 8 (by omega)) (.inl rfl) rfl) (I.val_at (i := 11) (by decide) (hl 11 (by omega)) (.inl rfl) rfl)) (show _ ∧ _ from ⟨rfl, Up.refl _⟩)
                  · obtain rfl := Option.some.inj ho
                    exact wpOp_valW rfl (wn rfl) (run_mv rfl (I.val_at (i := 12) (by decide) (hl 12 (by omega)) (.inl rfl) rfl)) (show _ ∧ _ from ⟨rfl, Up.refl _⟩)
                  · obtain rfl := Option.some.inj ho
                    exact wpOp_valW rfl (wgT (c := true) rfl rfl (I.val_at (i := 13) (by decide) (hl 13 (by omega)) (.inl rfl) rfl) rfl) (run_ld rfl (show a.tmps.getD 22 undef = _ from (I.oth_at (by kernel_rfl)).trans rfl) hn1'.2.1 hn1'.2.2) (show _ ∧ _ from ⟨rfl, Up.refl _⟩)
                  · obtain rfl := Option.some.inj ho
                    exact wpOp_valW rfl (wgT (c := true) rfl rfl (I.val_at (i := 13) (by decide) (hl 13 (by omega)) (.inl rfl) rfl) rfl) (run_ld rfl (show a.tmps.getD 3 undef = _ from (I.oth_at (by kernel_rfl)).trans rfl) ha1'.2.1 ha1'.2.2) (show _ ∧ _ from ⟨rfl, Up.refl _⟩)
                  · obtain rfl := Option.some.inj ho
                    exact wpOp_valW rfl (wgT (c := true) rfl rfl (I.val_at (i := 13) (by decide) (hl 13 (by omega)) (.inl rfl) rfl) rfl) (run_eqz (p := nn) (q := (n, d)) rfl (I.val_at (i := 14) (by decide) (hl 14 (by omega)) (.inl rfl) rfl) (I.val_at (i := 15) (by decide) (hl 15 (by omega)) (.inl rfl) rfl) k1) (show _ ∧ _ from ⟨rfl, Up.refl _⟩)
                  · obtain rfl := Option.some.inj ho
                    exact wpOp_valW rfl (wgT (c := true) rfl rfl (I.val_at (i := 13) (by decide) (hl 13 (by omega)) (.inl rfl) rfl) rfl) (run_mv rfl (I.val_at (i := 16) (by decide) (hl 16 (by omega)) (.inl rfl) rfl)) (show _ ∧ _ from ⟨rfl, Up.refl _⟩)
                  · obtain rfl := Option.some.inj ho
                    cases F1 with
                    | true => exact wpOp_notW rfl (wgF (c := true) rfl rfl (I.val_at (i := 17) (by decide) (hl 17 (by omega)) (.inl rfl) rfl) rfl) (show _ ∧ _ from ⟨rfl, Up.refl _⟩)
                    | false =>
                      exact wpOp_valW rfl (wgT (c := false) rfl rfl (I.val_at (i := 17) (by decide) (hl 17 (by omega)) (.inl rfl) rfl) rfl) (run_ld rfl (show a.tmps.getD 22 undef = _ from (I.oth_at (by kernel_rfl)).trans rfl) hn1'.2.1 hn1'.2.2) (show _ ∧ _ from ⟨rfl, Up.refl _⟩)
                  · obtain rfl := Option.some.inj ho
                    cases F1 with
                    | true => exact wpOp_notW rfl (wgF (c := true) rfl rfl (I.val_at (i := 17) (by decide) (hl 17 (by omega)) (.inl rfl) rfl) rfl) (show _ ∧ _ from ⟨rfl, Up.refl _⟩)
                    | false =>
                      exact wpOp_valW rfl (wgT (c := false) rfl rfl (I.val_at (i := 17) (by decide) (hl 17 (by omega)) (.inl rfl) rfl) rfl) (run_ld rfl (show a.tmps.getD 4 undef = _ from (I.oth_at (by kernel_rfl)).trans rfl) hb1'.2.1 hb1'.2.2) (show _ ∧ _ from ⟨rfl, Up.refl _⟩)
                  · obtain rfl := Option.some.inj ho
                    cases F1 with
                    | true => exact wpOp_notW rfl (wgF (c := true) rfl rfl (I.val_at (i := 17) (by decide) (hl 17 (by omega)) (.inl rfl) rfl) rfl) (show _ ∧ _ from ⟨rfl, Up.refl _⟩)
                    | false =>
                      exact wpOp_valW rfl (wgT (c := false) rfl rfl (I.val_at (i := 17) (by decide) (hl 17 (by omega)) (.inl rfl) rfl) rfl) (run_eqz (p := nn) (q := (m, e)) rfl (I.val_at (i := 18) (by decide) (hl 18 (by omega)) (.inl rfl) rfl) (I.val_at (i := 19) (by decide) (hl 19 (by omega)) (.inl rfl) rfl) k2) (show _ ∧ _ from ⟨rfl, Up.refl _⟩)
                  · obtain rfl := Option.some.inj ho
                    cases F1 with
                    | true => exact wpOp_valW rfl (wgT (c := true) rfl rfl (I.val_at (i := 13) (by decide) (hl 13 (by omega)) (.inl rfl) rfl) rfl) (run_pickT rfl (I.val_at (i := 17) (by decide) (hl 17 (by omega)) (.inl rfl) rfl) rfl) (show _ ∧ _ from ⟨rfl, Up.refl _⟩)
                    | false => exact wpOp_valW rfl (wgT (c := true) rfl rfl (I.val_at (i := 13) (by decide) (hl 13 (by omega)) (.inl rfl) rfl) rfl) (run_pickF rfl (I.val_at (i := 17) (by decide) (hl 17 (by omega)) (.inl rfl) rfl) (I.val_at (i := 20) (by decide) (hl 20 (by omega)) (.inl rfl) rfl)) (show _ ∧ _ from ⟨rfl, Up.refl _⟩)
                  · obtain rfl := Option.some.inj ho
                    exact wpOp_valW rfl (wgT (c := true) rfl rfl (I.val_at (i := 13) (by decide) (hl 13 (by omega)) (.inl rfl) rfl) rfl) (run_mv rfl (I.val_at (i := 21) (by decide) (hl 21 (by omega)) (.inl rfl) rfl)) (show _ ∧ _ from ⟨rfl, Up.refl _⟩)
                  · obtain rfl := Option.some.inj ho
                    cases F1 with
                    | true => exact wpOp_notW rfl (wgF (c := true) rfl rfl (I.val_at (i := 22) (by decide) (hl 22 (by omega)) (.inl rfl) rfl) rfl) (show _ ∧ _ from ⟨rfl, Up.refl _⟩)
                    | false =>
                      cases F2 with
                      | true => exact wpOp_notW rfl (wgF (c := true) rfl rfl (I.val_at (i := 22) (by decide) (hl 22 (by omega)) (.inl rfl) rfl) rfl) (show _ ∧ _ from ⟨rfl, Up.refl _⟩)
                      | false =>
                        exact wpOp_valW rfl (wgT (c := false) rfl rfl (I.val_at (i := 22) (by decide) (hl 22 (by omega)) (.inl rfl) rfl) rfl) (run_ld rfl (show a.tmps.getD 22 undef = _ from (I.oth_at (by kernel_rfl)).trans rfl) hn1'.2.1 hn1'.2.2) (show _ ∧ _ from ⟨rfl, Up.refl _⟩)
                  · obtain rfl := Option.some.inj ho
                    cases F1 with
                    | true => exact wpOp_notW rfl (wgF (c := true) rfl rfl (I.val_at (i := 22) (by decide) (hl 22 (by omega)) (.inl rfl) rfl) rfl) (show _ ∧ _ from ⟨rfl, Up.refl _⟩)
                    | false =>
                      cases F2 with
                      | true => exact wpOp_notW rfl (wgF (c := true) rfl rfl (I.val_at (i := 22) (by decide) (hl 22 (by omega)) (.inl rfl) rfl) rfl) (show _ ∧ _ from ⟨rfl, Up.refl _⟩)
                      | false =>
                        exact wpOp_valW rfl (wgT (c := false) rfl rfl (I.val_at (i := 22) (by decide) (hl 22 (by omega)) (.inl rfl) rfl) rfl) (run_ld rfl (show a.tmps.getD 5 undef = _ from (I.oth_at (by kernel_rfl)).trans rfl) hc1'.2.1 hc1'.2.2) (show _ ∧ _ from ⟨rfl, Up.refl _⟩)
                  · obtain rfl := Option.some.inj ho
                    cases F1 with
                    | true => exact wpOp_notW rfl (wgF (c := true) rfl rfl (I.val_at (i := 22) (by decide) (hl 22 (by omega)) (.inl rfl) rfl) rfl) (show _ ∧ _ from ⟨rfl, Up.refl _⟩)
                    | false =>
                      cases F2 with
                      | true => exact wpOp_notW rfl (wgF (c := true) rfl rfl (I.val_at (i := 22) (by decide) (hl 22 (by omega)) (.inl rfl) rfl) rfl) (show _ ∧ _ from ⟨rfl, Up.refl _⟩)
                      | false =>
                        exact wpOp_valW rfl (wgT (c := false) rfl rfl (I.val_at (i := 22) (by decide) (hl 22 (by omega)) (.inl rfl) rfl) rfl) (run_eqz (p := nn) (q := (f, g)) rfl (I.val_at (i := 23) (by decide) (hl 23 (by omega)) (.inl rfl) rfl) (I.val_at (i := 24) (by decide) (hl 24 (by omega)) (.inl rfl) rfl) (k3 rfl rfl)) (show _ ∧ _ from ⟨rfl, Up.refl _⟩)
                  · obtain rfl := Option.some.inj ho
                    cases F1 with
                    | true => exact wpOp_valW rfl (wgT (c := true) rfl rfl (I.val_at (i := 13) (by decide) (hl 13 (by omega)) (.inl rfl) rfl) rfl) (run_pickT rfl (I.val_at (i := 22) (by decide) (hl 22 (by omega)) (.inl rfl) rfl) rfl) (show _ ∧ _ from ⟨rfl, Up.refl _⟩)
                    | false =>
                      cases F2 with
                      | true => exact wpOp_valW rfl (wgT (c := true) rfl rfl (I.val_at (i := 13) (by decide) (hl 13 (by omega)) (.inl rfl) rfl) rfl) (run_pickT rfl (I.val_at (i := 22) (by decide) (hl 22 (by omega)) (.inl rfl) rfl) rfl) (show _ ∧ _ from ⟨rfl, Up.refl _⟩)
                      | false => exact wpOp_valW rfl (wgT (c := true) rfl rfl (I.val_at (i := 13) (by decide) (hl 13 (by omega)) (.inl rfl) rfl) rfl) (run_pickF rfl (I.val_at (i := 22) (by decide) (hl 22 (by omega)) (.inl rfl) rfl) (I.val_at (i := 25) (by decide) (hl 25 (by omega)) (.inl rfl) rfl)) (show _ ∧ _ from ⟨rfl, Up.refl _⟩)
                  · obtain rfl := Option.some.inj ho
                    exact wpOp_valW rfl (wn rfl) (run_pickT rfl (I.val_at (i := 13) (by decide) (hl 13 (by omega)) (.inl rfl) rfl) (I.val_at (i := 26) (by decide) (hl 26 (by omega)) (.inl rfl) rfl)) (show _ ∧ _ from ⟨rfl, Up.refl _⟩)
                  · obtain rfl := Option.some.inj ho
                    exact wpOp_valW rfl (wn rfl) (run_as rfl (I.val_at (i := 27) (by decide) (hl 27 (by omega)) (.inl rfl) rfl)) (show _ ∧ _ from ⟨rfl, Up.refl _⟩)
              · intro blk listed a' wx I hall
                have fr := I.frameL [(161, (rtq mm)), (162, (rtq (n, d))), (163, (.bool E1)), (164, (.bool E1)), (165, (cond E1 undef (rtq mm))), (166, (cond E1 undef (rtq (m, e)))), (167, (cond E1 undef (.bool E2))), (168, (.bool (E1 || E2))), (169, (.bool (E1 || E2))), (170, (cond E1 undef (cond E2 undef (rtq mm)))), (171, (cond E1 undef (cond E2 undef (rtq (f, g))))), (172, (cond E1 undef (cond E2 undef (.bool true)))), (173, (.bool true)), (174, (.bool true)), (175, (rtq nn)), (176, (rtq (n, d))), (177, (.bool F1)), (178, (.bool F1)), (179, (cond F1 undef (rtq nn))), (180, (cond F1 undef (rtq (m, e)))), (181, (cond F1 undef (.bool F2))), (182, (.bool (F1 || F2))), (183, (.bool (F1 || F2))), (184, (cond F1 undef (cond F2 undef (rtq nn)))), (185, (cond F1 undef (cond F2 undef (rtq (f, g))))), (186, (cond F1 undef (cond F2 undef (.bool true)))), (187, (.bool true)), (188, (.bool true)), (6, (.bool true))] (by
                  intro p hp
                  simp only [List.mem_cons, List.not_mem_nil, or_false] at hp
                  rcases hp with rfl | rfl | rfl | rfl | rfl | rfl | rfl | rfl | rfl | rfl | rfl | rfl | rfl | rfl | rfl | rfl | rfl | rfl | rfl | rfl | rfl | rfl | rfl | rfl | rfl | rfl | rfl | rfl | rfl
                  · exact ⟨by simp, I.val_at (i := 0) (by decide) (hall _ (by decide)) (.inl rfl) rfl⟩
                  · exact ⟨by simp, I.val_at (i := 1) (by decide) (hall _ (by decide)) (.inl rfl) rfl⟩
                  · exact ⟨by simp, I.val_at (i := 2) (by decide) (hall _ (by decide)) (.inl rfl) rfl⟩
                  · exact ⟨by simp, I.val_at (i := 3) (by decide) (hall _ (by decide)) (.inl rfl) rfl⟩
                  · exact ⟨by simp, I.val_at (i := 4) (by decide) (hall _ (by decide)) (.inl rfl) rfl⟩
                  · exact ⟨by simp, I.val_at (i := 5) (by decide) (hall _ (by decide)) (.inl rfl) rfl⟩
                  · exact ⟨by simp, I.val_at (i := 6) (by decide) (hall _ (by decide)) (.inl rfl) rfl⟩
                  · exact ⟨by simp, I.val_at (i := 7) (by decide) (hall _ (by decide)) (.inl rfl) rfl⟩
                  · exact ⟨by simp, I.val_at (i := 8) (by decide) (hall _ (by decide)) (.inl rfl) rfl⟩
                  · exact ⟨by simp, I.val_at (i := 9) (by decide) (hall _ (by decide)) (.inl rfl) rfl⟩
                  · exact ⟨by simp, I.val_at (i := 10) (by decide) (hall _ (by decide)) (.inl rfl) rfl⟩
                  · exact ⟨by simp, I.val_at (i := 11) (by decide) (hall _ (by decide)) (.inl rfl) rfl⟩
                  · exact ⟨by simp, I.val_at (i := 12) (by decide) (hall _ (by decide)) (.inl rfl) rfl⟩
                  · exact ⟨by simp, I.val_at (i := 13) (by decide) (hall _ (by decide)) (.inl rfl) rfl⟩
                  · exact ⟨by simp, I.val_at (i := 14) (by decide) (hall _ (by decide)) (.inl rfl) rfl⟩
                  · exact ⟨by simp, I.val_at (i := 15) (by decide) (hall _ (by decide)) (.inl rfl) rfl⟩
                  · exact ⟨by simp, I.val_at (i := 16) (by decide) (hall _ (by decide)) (.inl rfl) rfl⟩
                  · exact ⟨by simp, I.val_at (i := 17) (by decide) (hall _ (by decide)) (.inl rfl) rfl⟩
                  · exact ⟨by simp, I.val_at (i := 18) (by decide) (hall _ (by decide)) (.inl rfl) rfl⟩
                  · exact ⟨by simp, I.val_at (i := 19) (by decide) (hall _ (by decide)) (.inl rfl) rfl⟩
                  · exact ⟨by simp, I.val_at (i := 20) (by decide) (hall _ (by decide)) (.inl rfl) rfl⟩
                  · exact ⟨by simp, I.val_at (i := 21) (by decide) (hall _ (by decide)) (.inl rfl) rfl⟩
                  · exact ⟨by simp, I.val_at (i := 22) (by decide) (hall _ (by decide)) (.inl rfl) rfl⟩
                  · exact ⟨by simp, I.val_at (i := 23) (by decide) (hall _ (by decide)) (.inl rfl) rfl⟩
                  · exact ⟨by simp, I.val_at (i := 24) (by decide) (hall _ (by decide)) (.inl rfl) rfl⟩
                  · exact ⟨by simp, I.val_at (i := 25) (by decide) (hall _ (by decide)) (.inl rfl) rfl⟩
                  · exact ⟨by simp, I.val_at (i := 26) (by decide) (hall _ (by decide)) (.inl rfl) rfl⟩
                  · exact ⟨by simp, I.val_at (i := 27) (by decide) (hall _ (by decide)) (.inl rfl) rfl⟩
                  · exact ⟨by simp, I.val_at (i := 28) (by decide) (hall _ (by decide)) (.inl rfl) rfl⟩) (by kernel_rfl)
                replace ua := ua.trans I.up
                clear I hall
                subst fr
                dsimp only [setsL, List.set_cons_zero, List.set_cons_succ, rtq]
                go_wp2_with fail
                go_ret
                exact ⟨rfl, ua⟩
end Go.Proofs.Ytjeflecigeamnaa
