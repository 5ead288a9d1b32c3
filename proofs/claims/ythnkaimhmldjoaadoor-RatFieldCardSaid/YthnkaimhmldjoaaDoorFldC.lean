/-
  The statement RatField, whole.
-/
import Derived.Test.YthnkaimhmldjoaaDoorFldB
set_option linter.unusedVariables false
set_option linter.unusedSimpArgs false
namespace Go.Proofs.YthnkaimhmldjoaaDoor
open Go.RowKit

theorem row3h {W : World} {b : Nat} {x y z t u v : Int} {T : TypeId} (h : W.heap[b]? = some (.cells #[.int .i64 x, .int .i64 y, .int .i64 z, .int .i64 t, .int .i64 u, .int .i64 v] T)) : Row W (.slice (some ⟨b, 0, none⟩) 3 3) [(x, y), (z, t), (u, v)] := by
  refine Or.inr ⟨b, 0, 3, rfl, (Array.getElem?_eq_some_iff.1 h).1, by simp, ?_⟩
  intro i hi
  have : i = 0 ∨ i = 1 ∨ i = 2 := by simp at hi; omega
  rcases this with rfl | rfl | rfl <;> simp [World.cell?, h]
theorem row_three (w : World) (n d m e f g : Int) (t : TypeId) : Row (w.alloc (.cells #[.int .i64 n, .int .i64 d, .int .i64 m, .int .i64 e, .int .i64 f, .int .i64 g] t)) (.slice (some ⟨w.heap.size, 0, none⟩) 3 3) [(n, d), (m, e), (f, g)] := by
  refine Or.inr ⟨w.heap.size, 0, 3, rfl, by simp, by simp, ?_⟩
  intro i h
  have : i = 0 ∨ i = 1 ∨ i = 2 := by simp at h; omega
  rcases this with rfl | rfl | rfl <;> simp [go_sem]
theorem add3_good (x y z : Int × Int) : Good (addAll [x, y, z]) := ⟨add_may _ _ _ _, add_I64' _ _ _ _⟩
set_option maxRecDepth 100000 in
set_option maxHeartbeats 8000000 in
theorem field_no (n d m e f g : Int) (w : World) (hn : I64 n) (hd : I64 d) (hm : I64 m) (he : I64 e) (hf : I64 f) (hg : I64 g) (hv : isV n d = false ∨ (isV n d = true ∧ isV m e = false) ∨ (isV n d = true ∧ isV m e = true ∧ isV f g = false)) :
    Calls Tryd.prog 3 #[.agg #[.int .i64 n, .int .i64 d], .agg #[.int .i64 m, .int .i64 e], .agg #[.int .i64 f, .int .i64 g]] w fun x w' => x = .returned (.bool true) ∧ Up w w' := by
  have s := S3.start w n d m e f g
  have hin : In64 [(n, d), (m, e), (f, g)] := by intro r hr; simp at hr; rcases hr with rfl | rfl | rfl <;> exact ⟨by assumption, by assumption⟩
  obtain ⟨⟨z1, z2⟩, hz⟩ : ∃ z, addAll [(n, d), (m, e), (f, g)] = z := ⟨_, rfl⟩
  have CA := fun (W : World) v (h : Row W v [(n, d), (m, e), (f, g)]) => hz ▸ addP_any v [(n, d), (m, e), (f, g)] W h hin
  obtain ⟨G1, G2, G3⟩ : Good (z1, z2) := hz ▸ add3_good _ _ _
  have hcase : (z1 = 0 ∧ z2 = 0) ∨ (¬ z1 = 0 ∧ isV z1 z2 = true) ∨ (z1 = 0 ∧ ¬ z2 = 0 ∧ isV z1 z2 = true) := by
    have G1' : mayB z1 z2 = true := G1
    unfold mayB at G1'
    by_cases h1 : z1 = 0
    · by_cases h2 : z2 = 0
      · exact .inl ⟨h1, h2⟩
      · right; right
        have : ((z1 == 0) && (z2 == 0)) = false := by simp [h2]
        rw [this, Bool.false_or] at G1'
        exact ⟨h1, h2, G1'⟩
    · right; left
      have : ((z1 == 0) && (z2 == 0)) = false := by simp [h1]
      rw [this, Bool.false_or] at G1'
      exact ⟨h1, G1'⟩
  clear hz hin
  rcases hv with va | ⟨va, vb⟩ | ⟨va, vb, vc⟩
  all_goals
    go_enter Tryd.func3, Tryd.ntmps3
    go_upto_region 4 with (first
      | (go_at_call 4; refine (awake_any _).mono ?_; rintro _ wa ⟨rfl, ha⟩; replace s := s.up ha; obtain ⟨t0, t1, t2, t3, t4, t5, t6, t7⟩ := id s; clear t0 ha)
      | (go_at_call 5; refine (isL_any _ _ _ (by assumption) (by assumption)).mono ?_; rintro _ wx ⟨rfl, hc⟩; replace s := s.up hc; clear t1 t2 t3 t4 t5 t6 t7 hc; obtain ⟨t0, t1, t2, t3, t4, t5, t6, t7⟩ := id s; clear t0; (try simp only [va]); (try simp only [vb]); (try simp only [vc])))
    have ux := s.1
    rcases hcase with ⟨rfl, rfl⟩ | ⟨h1, hz⟩ | ⟨rfl, h2, hz⟩
    · go_wp2_with (go_at_call 6; refine (CA _ _ (row_three _ _ _ _ _ _ _ _)).mono ?_; rintro _ wl ⟨rfl, hl⟩)
      go_ret
      exact ⟨by simp, ux.trans (by repeat (first | exact Up.refl _ | apply Up.alloc | (refine Up.trans ?_ hl)))⟩
    all_goals
      go_wp2_with (first
        | (go_at_call 6; refine (CA _ _ (row_three _ _ _ _ _ _ _ _)).mono ?_; rintro _ wl ⟨rfl, hl⟩; replace s := s.up (show Up _ wl by repeat (first | exact Up.refl _ | apply Up.alloc | (refine Up.trans ?_ hl))); clear t1 t2 t3 t4 t5 t6 t7 hl; obtain ⟨t0, t1, t2, t3, t4, t5, t6, t7⟩ := id s; clear t0)
        | (go_at_call 5; refine (isL_any _ _ _ G2 G3).mono ?_; rintro _ wk ⟨rfl, hk⟩; simp only [hz]))
      go_ret
      exact ⟨by simp, s.1.trans hk⟩
theorem law_field (a b c : Int × Int) (w : World) (ja : J a) (jb : J b) (jc : J c) (hg : Bx w 0 (0, 1)) :
    Calls Tryd.prog 3 #[.agg #[.int .i64 a.1, .int .i64 a.2], .agg #[.int .i64 b.1, .int .i64 b.2], .agg #[.int .i64 c.1, .int .i64 c.2]] w fun x w' => x = .returned (.bool true) ∧ Up w w' := by
  cases va : isV a.1 a.2 with
  | false => exact field_no _ _ _ _ _ _ w ja.1 ja.2 jb.1 jb.2 jc.1 jc.2 (.inl va)
  | true =>
    cases vb : isV b.1 b.2 with
    | false => exact field_no _ _ _ _ _ _ w ja.1 ja.2 jb.1 jb.2 jc.1 jc.2 (.inr (.inl ⟨va, vb⟩))
    | true =>
      cases vc : isV c.1 c.2 with
      | false => exact field_no _ _ _ _ _ _ w ja.1 ja.2 jb.1 jb.2 jc.1 jc.2 (.inr (.inr ⟨va, vb, vc⟩))
      | true => exact field_all a b c w ja jb jc va vb vc hg
end Go.Proofs.YthnkaimhmldjoaaDoor
