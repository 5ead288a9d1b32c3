/-
  The walk of the statement RatOrder.
-/
import Derived.Test.YtjeflecigeamnaaWalksU
import Derived.Deep.RegionHeld3
import Derived.Deep.DrawnRows
import Derived.Deep.DeepCutAuto
set_option linter.unusedVariables false
namespace Go.Proofs.Ytjeflecigeamnaa
open Go.RowKit

def S3 (w wr : World) (n d m e f g : Int) : Prop := Up w wr ∧ w.heap.size + 1 + 1 < wr.heap.size ∧
  wr.cell? ⟨w.heap.size, 0, none⟩ = some (.int .i64 n) ∧ wr.cell? ⟨w.heap.size, 1, none⟩ = some (.int .i64 d) ∧
  wr.cell? ⟨w.heap.size + 1, 0, none⟩ = some (.int .i64 m) ∧ wr.cell? ⟨w.heap.size + 1, 1, none⟩ = some (.int .i64 e) ∧
  wr.cell? ⟨w.heap.size + 1 + 1, 0, none⟩ = some (.int .i64 f) ∧ wr.cell? ⟨w.heap.size + 1 + 1, 1, none⟩ = some (.int .i64 g)
theorem S3.start (w : World) (n d m e f g : Int) : S3 w (((w.alloc (.cells #[.int .i64 n, .int .i64 d] 23)).alloc (.cells #[.int .i64 m, .int .i64 e] 23)).alloc (.cells #[.int .i64 f, .int .i64 g] 23)) n d m e f g := by
  refine ⟨(((Up.refl _).alloc _ _).alloc _ _).alloc _ _, ?_, ?_, ?_, ?_, ?_, ?_, ?_⟩ <;> simp [go_sem]
theorem S3.up {w wr wl : World} {n d m e f g : Int} (s : S3 w wr n d m e f g) (h : Up wr wl) : S3 w wl n d m e f g := by
  obtain ⟨s0, s1, s2, s3, s4, s5, s6, s7⟩ := s
  exact ⟨s0.trans h, Nat.lt_of_lt_of_le s1 h.size, (h.cell _ _ (by omega)).trans s2, (h.cell _ _ (by omega)).trans s3, (h.cell _ _ (by omega)).trans s4, (h.cell _ _ (by omega)).trans s5, (h.cell _ _ (by omega)).trans s6, (h.cell _ _ (by omega)).trans s7⟩
theorem S3.cells {w wr : World} {n d m e f g : Int} (s : S3 w wr n d m e f g) : wr.cell? ⟨w.heap.size, 0, none⟩ = some (.int .i64 n) ∧ wr.cell? ⟨w.heap.size, 1, none⟩ = some (.int .i64 d) ∧
  wr.cell? ⟨w.heap.size + 1, 0, none⟩ = some (.int .i64 m) ∧ wr.cell? ⟨w.heap.size + 1, 1, none⟩ = some (.int .i64 e) ∧ wr.cell? ⟨w.heap.size + 1 + 1, 0, none⟩ = some (.int .i64 f) ∧ wr.cell? ⟨w.heap.size + 1 + 1, 1, none⟩ = some (.int .i64 g) := s.2.2
set_option maxRecDepth 100000 in
set_option maxHeartbeats 8000000 in
theorem order_no (n d m e f g : Int) (w : World) (hn : I64 n) (hd : I64 d) (hm : I64 m) (he : I64 e) (hf : I64 f) (hg : I64 g) (hv : (isV n d && isV m e) = false) :
    Calls Try.prog 3 #[.agg #[.int .i64 n, .int .i64 d], .agg #[.int .i64 m, .int .i64 e], .agg #[.int .i64 f, .int .i64 g]] w fun x w' => x = .returned (.bool true) ∧ Up w w' := by
  have s := S3.start w n d m e f g
  have C : Hid (cmpR n d m e = .tuple #[.int .i64 0, .bool false]) := by simp [Hid, cmpR, hv]
  have hcase : (isV n d = true ∧ isV m e = false) ∨ isV n d = false := by
    cases h : isV n d <;> simp [h] at hv ⊢; exact hv
  rcases hcase with ⟨va, vb⟩ | va
  all_goals
    go_enter Try.func3, Try.ntmps3
    go_wp2_with (first
      | (go_at_call 4; refine (awake_any _).mono ?_; rintro _ wa ⟨rfl, ha⟩; have sa := s.up ha; obtain ⟨t0, t1, t2, t3, t4, t5, t6, t7⟩ := id sa)
      | (go_at_call 5; refine (cmp_any _ _ _ _ _ hn hd hm he).mono ?_; rintro _ wb ⟨rfl, hb⟩; have sb := sa.up hb; obtain ⟨v0, v1, v2, v3, v4, v5, v6, v7⟩ := id sb; simp only [C.out])
      | (go_at_call_of 6 (Value.agg #[.int .i64 n, .int .i64 d]); refine (isL_any _ _ _ hn hd).mono ?_; rintro _ wc ⟨rfl, hc⟩; have sc := sb.up hc; obtain ⟨p0, p1, p2, p3, p4, p5, p6, p7⟩ := id sc; simp only [va])
      | (go_at_call 6; refine (isL_any _ _ _ hm he).mono ?_; rintro _ wd ⟨rfl, hd'⟩; have sd := sc.up hd'; obtain ⟨o0, o1, o2, o3, o4, o5, o6, o7⟩ := id sd; simp only [vb]))
    go_ret
    first
      | exact ⟨rfl, sd.1⟩
      | exact ⟨rfl, sc.1⟩
theorem turn_isV {n d : Int} (hn : I64 n) (va : isV n d = true) : isV (-n) d = true := by
  have := isV_num va
  have h2 := hn
  unfold I64 at h2
  unfold isV at *
  rw [show ab (-n) = ab n by unfold ab; split <;> split <;> omega]
  simp at va ⊢
  omega
attribute [local go_sem ↓] Go.wp_at_zero Go.wp_at_succ
set_option maxRecDepth 100000 in
set_option maxHeartbeats 8000000 in
theorem order_mid (n d m e f g : Int) (w : World) (hn : I64 n) (hd : I64 d) (hm : I64 m) (he : I64 e) (hf : I64 f) (hg : I64 g) (va : isV n d = true) (vb : isV m e = true) (vc' : isV f g = false) :
    Calls Try.prog 3 #[.agg #[.int .i64 n, .int .i64 d], .agg #[.int .i64 m, .int .i64 e], .agg #[.int .i64 f, .int .i64 g]] w fun x w' => x = .returned (.bool true) ∧ Up w w' := by
  have s := S3.start w n d m e f g
  obtain ⟨b1, b2⟩ := cm_bd (n * e) (m * d)
  have C1 : Hid (cmpR n d m e = .tuple #[.int .i64 (cq n d m e), .bool true]) := by simp [Hid, cmpR, va, vb]
  have C2 : Hid (cmpR m e n d = .tuple #[.int .i64 (-cq n d m e), .bool true]) := by rw [Hid, ← cq_swap]; simp [cmpR, va, vb]
  have n1 : Hid (ngN n d = -n ∧ ngD n d = d) := by simp [Hid, ngN, ngD, va]
  have n2 : Hid (ngN m e = -m ∧ ngD m e = e) := by simp [Hid, ngN, ngD, vb]
  obtain ⟨i1, i2⟩ := ng_I64 hn hd
  obtain ⟨i3, i4⟩ := ng_I64 hm he
  have C3 : Hid (cmpR (ngN n d) (ngD n d) (ngN m e) (ngD m e) = .tuple #[.int .i64 (-cq n d m e), .bool true]) := by
    rw [Hid, n1.out.1, n1.out.2, n2.out.1, n2.out.2, ← cq_turn]; simp [cmpR, turn_isV hn va, turn_isV hm vb]
  have HZ : Hid _ := cq_zero va vb
  change -1 ≤ cq n d m e at b1
  change cq n d m e ≤ 1 at b2
  clear n1 n2
  generalize hX : cq n d m e = X at *
  have HX : Hid _ := hX
  clear hX
  go_enter Try.func3, Try.ntmps3
  go_wp2_with (first
      | (go_at_call 4; refine (awake_any _).mono ?_; rintro _ wa ⟨rfl, ha⟩; replace s := s.up ha; obtain ⟨t0, t1, t2, t3, t4, t5, t6, t7⟩ := id s; clear t0 ha)
      | (go_at_call 5; refine (cmp_any _ _ _ _ _ (by assumption) (by assumption) (by assumption) (by assumption)).mono ?_; rintro _ wb ⟨rfl, hb⟩; replace s := s.up hb; clear t1 t2 t3 t4 t5 t6 t7 hb; obtain ⟨t0, t1, t2, t3, t4, t5, t6, t7⟩ := id s; clear t0; simp only [C1.out, C2.out])
      | (go_at_call 6; refine (isL_any _ _ _ (by assumption) (by assumption)).mono ?_; rintro _ wc ⟨rfl, hc⟩; replace s := s.up hc; clear t1 t2 t3 t4 t5 t6 t7 hc; obtain ⟨t0, t1, t2, t3, t4, t5, t6, t7⟩ := id s; clear t0; simp only [va, vb]))
  go_region_held3 (fun w' => w'.cell? ⟨w.heap.size, 0, none⟩ = some (.int .i64 n) ∧ w'.cell? ⟨w.heap.size, 1, none⟩ = some (.int .i64 d) ∧ w'.cell? ⟨w.heap.size + 1, 0, none⟩ = some (.int .i64 m) ∧ w'.cell? ⟨w.heap.size + 1, 1, none⟩ = some (.int .i64 e) ∧ w'.cell? ⟨w.heap.size + 1 + 1, 0, none⟩ = some (.int .i64 f) ∧ w'.cell? ⟨w.heap.size + 1 + 1, 1, none⟩ = some (.int .i64 g))
    ((refine (s.up ?_).cells; (repeat (first | exact Up.refl _ | apply Up.drewN | apply Up.drew | (refine Up.trans ?_ (by assumption)))); done))
    (first
      | (go_at_call 7; refine (negP_any _ _ _ (by assumption) (by assumption)).mono ?_; rintro _ wl ⟨rfl, hl⟩)
      | (go_at_call 5; refine (cmp_any _ _ _ _ _ i1 i2 i3 i4).mono ?_; rintro _ wl ⟨rfl, hl⟩; simp only [C3.out]))
  replace s := s.up (show Up _ wl by repeat (first | exact Up.refl _ | apply Up.drewN | apply Up.drew | (refine Up.trans ?_ (by assumption))))
  clear t1 t2 t3 t4 t5 t6 t7 hl
  obtain ⟨t0, t1, t2, t3, t4, t5, t6, t7⟩ := id s
  clear t0 C1 C2 C3 i1 i2 i3 i4
  have hcases : (X = 0 ∧ n = m ∧ d = e) ∨ ((X == 0) = false ∧ ¬ n = m) ∨ ((X == 0) = false ∧ n = m ∧ ¬ d = e) := by
    by_cases h : X = 0
    · exact Or.inl ⟨h, HZ.out.mp h⟩
    · have h' : (X == 0) = false := by simpa using h
      by_cases k : n = m
      · exact Or.inr (Or.inr ⟨h', k, fun l => h (HZ.out.mpr ⟨k, l⟩)⟩)
      · exact Or.inr (Or.inl ⟨h', k⟩)
  rcases hcases with ⟨hx, hnm, hde⟩ | ⟨hx, hnm⟩ | ⟨hx, hnm, hde⟩
  · subst hx; subst hnm; subst hde
    go_wp2_with (go_at_call 6; refine (isL_any _ _ _ hf hg).mono ?_; rintro _ wc ⟨rfl, hc⟩; replace s := s.up hc; simp only [vc'])
    go_ret
    exact ⟨rfl, s.1⟩
  · go_wp2_with (go_at_call 6; refine (isL_any _ _ _ hf hg).mono ?_; rintro _ wc ⟨rfl, hc⟩; replace s := s.up hc; simp only [vc'])
    go_ret
    exact ⟨rfl, s.1⟩
  · subst hnm
    go_wp2_with (go_at_call 6; refine (isL_any _ _ _ hf hg).mono ?_; rintro _ wc ⟨rfl, hc⟩; replace s := s.up hc; simp only [vc'])
    go_ret
    exact ⟨rfl, s.1⟩
end Go.Proofs.Ytjeflecigeamnaa
