/-
  Turned fractions, differences, and the sums of some fractions.
-/
import Derived.Test.YthnkaimhmldjoaaDoorWalksM
import Derived.Test.YthnkaimhmldjoaaDoorWalksR
set_option linter.unusedVariables false
namespace Go.Proofs.YthnkaimhmldjoaaDoor
open Go.RowKit

theorem mg_nonneg {n m X Y : Int} (x0 : 0 ≤ X) (y0 : 0 ≤ Y) : 0 ≤ mg n m X Y := by unfold mg; split <;> (try split) <;> omega
theorem add_I64' (n d m e : Int) : I64 (addN n d m e) ∧ I64 (addD n d m e) := by
  unfold addN addD
  by_cases h : (isV n d && isV m e) = true
  · rw [h]; simp only [if_true]
    simp at h
    have h1 := isV_den h.1
    have h2 := isV_den h.2
    have a1 : 0 ≤ ab n := by unfold ab; split <;> omega
    have a2 : 0 ≤ ab m := by unfold ab; split <;> omega
    exact low_I64 _ (mg_nonneg (Int.mul_nonneg a1 (by omega)) (Int.mul_nonneg a2 (by omega))) (Int.mul_nonneg (by omega) (by omega))
  · have h' : (isV n d && isV m e) = false := by simpa using h
    rw [h']; simp [I64]
theorem zero_add {n d : Int} (hn : I64 n) (hd : I64 d) : addN 0 1 n d = clN n d ∧ addD 0 1 n d = clD n d := by
  have h11 : isV 0 1 = true := by decide
  by_cases v : isV n d = true
  · obtain ⟨e1, e2⟩ := low_self hn hd v
    have hm : mayB n d = true := by simp [mayB, v]
    have a0 : ab 0 = 0 := rfl
    have hb : belw 0 n (ab 0 * d) (ab n * 1) = decide (n < 0) ∧ mg 0 n (ab 0 * d) (ab n * 1) = ab n := by
      rw [a0, Int.zero_mul, Int.mul_one]
      unfold belw mg
      by_cases h : n < 0
      · have : 0 < ab n := by unfold ab; split <;> omega
        simp [h, this]
      · simp [h]
    simp only [addN, addD, h11, v, hb.1, hb.2, Int.one_mul, clN, clD, hm, Bool.and_self, if_true]
    exact ⟨e1, e2⟩
  · have v' : isV n d = false := by simpa using v
    by_cases hm : mayB n d = true
    · have : n = 0 ∧ d = 0 := by simp [mayB, v'] at hm; exact hm
      obtain ⟨rfl, rfl⟩ := this
      simp [addN, addD, v', clN, clD]
    · have hm' : mayB n d = false := by simpa using hm
      simp [addN, addD, v', clN, clD, hm']
def addAll (rs : List (Int × Int)) : Int × Int := rs.foldl (fun p r => (addN p.1 p.2 r.1 r.2, addD p.1 p.2 r.1 r.2)) (0, 1)
theorem addAll_I64 (rs : List (Int × Int)) : I64 (addAll rs).1 ∧ I64 (addAll rs).2 := by
  unfold addAll
  have : ∀ (l : List (Int × Int)) (p : Int × Int), (I64 p.1 ∧ I64 p.2) → I64 (l.foldl (fun p r => (addN p.1 p.2 r.1 r.2, addD p.1 p.2 r.1 r.2)) p).1 ∧ I64 (l.foldl (fun p r => (addN p.1 p.2 r.1 r.2, addD p.1 p.2 r.1 r.2)) p).2 := by
    intro l
    induction l with
    | nil => intro p h; exact h
    | cons r l ih => intro p h; exact ih _ (add_I64' _ _ _ _)
  exact this rs (0, 1) (by simp [I64])
theorem addAll_snoc (rs : List (Int × Int)) (i : Nat) (h : i < rs.length) : addAll (rs.take (i + 1)) = (addN (addAll (rs.take i)).1 (addAll (rs.take i)).2 rs[i].1 rs[i].2, addD (addAll (rs.take i)).1 (addAll (rs.take i)).2 rs[i].1 rs[i].2) := by
  unfold addAll
  rw [List.take_succ_eq_append_getElem h, List.foldl_append]
  rfl
set_option maxHeartbeats 2000000 in
theorem addP_row (b off c : Nat) (rs : List (Int × Int)) (w : World) (hb : b < w.heap.size) (hlen : rs.length ≤ 9223372036854775807) (hin : In64 rs)
    (hrow : ∀ i (h : i < rs.length), w.cell? ⟨b, off + i * 2, none⟩ = some (.int .i64 rs[i].1) ∧ w.cell? ⟨b, off + i * 2 + 1, none⟩ = some (.int .i64 rs[i].2)) :
    Calls Tryd.prog 6 #[.slice (some ⟨b, off, none⟩) rs.length c] w fun e w' => e = .returned (.agg #[.int .i64 (addAll rs).1, .int .i64 (addAll rs).2]) ∧ Up w w' := by
  go_enter Tryd.func6, Tryd.ntmps6
  go_wp2_with fail
  go_loopg [9] rs.length (fun g j wr => ∃ i : Nat, j = .int .i64 i ∧ i + g = rs.length ∧ SA w wr (w.heap.size + 1) (addAll (rs.take i)).1 (addAll (rs.take i)).2)
  case atStart =>
    refine ⟨0, rfl, by omega, ?_⟩
    refine ⟨((Up.refl _).alloc _ _).alloc _ _, by omega, by simp, ?_, ?_, ?_, ?_⟩ <;> simp [go_sem, addAll]
  case round =>
    obtain ⟨i, rfl, hi2, s⟩ := hrel
    obtain ⟨c0, c1, c2, c3, c4, c5, c6⟩ := id s
    obtain ⟨f0, f1⟩ := s.fz
    by_cases hlt : i < rs.length
    · have hlt2 : (i : Int) < (rs.length : Int) := by omega
      obtain ⟨r0, r1⟩ := hrow i hlt
      have k0 := (c0.cell b (off + i * 2) hb).trans r0
      have k1 := (c0.cell b (off + i * 2 + 1) hb).trans r1
      have hsn := addAll_snoc rs i hlt
      have HS : Hid _ := hsn
      obtain ⟨i1, i2⟩ := addAll_I64 (rs.take i)
      obtain ⟨j1, j2⟩ := hin rs[i] (List.getElem_mem hlt)
      clear hsn hrow hin
      generalize (addAll (rs.take i)).1 = p at *
      generalize (addAll (rs.take i)).2 = q at *
      generalize rs[i].1 = x at *
      generalize rs[i].2 = y at *
      go_wp2_with (go_at_call 12; refine (plus_any _ _ _ _ _ i1 i2 j1 j2).mono ?_; rintro _ wl ⟨rfl, hl⟩; have sl := (s.up ((Up.refl _).alloc _ _)).up hl; obtain ⟨t0, t1, t2, t3, t4, t5, t6⟩ := id sl; obtain ⟨m0, m1⟩ := sl.fz)
      go_roundg (gk - 1)
      case measure => omega
      case rel => exact ⟨i + 1, by go_num, by omega, by rw [HS.out]; exact sl.set _ _⟩
    · have hlt2 : ¬ (i : Int) < (rs.length : Int) := by omega
      have hfin : Hid (addAll (rs.take i) = addAll rs) := by rw [Hid, List.take_of_length_le (by omega)]
      clear hrow hin
      generalize addAll (rs.take i) = z at *
      go_wp2
      exact bodyPost_ret (v := .agg #[.int .i64 z.1, .int .i64 z.2]) (by simp [results, Tryd.results6, go_sem, *]) rfl ⟨by rw [hfin.out], (c0.setCell (by simp) _).setCell (by simp) _⟩
theorem addP_nil (a : Option Addr) (c : Nat) (w : World) :
    Calls Tryd.prog 6 #[.slice a 0 c] w fun e w' => e = .returned (.agg #[.int .i64 0, .int .i64 1]) ∧ Up w w' := by
  go_enter Tryd.func6, Tryd.ntmps6
  go_wp2_with fail
  go_loopg [9] 0 (fun g j wr => j = .int .i64 0 ∧ SA w wr (w.heap.size + 1) 0 1)
  case atStart =>
    refine ⟨rfl, ?_⟩
    refine ⟨((Up.refl _).alloc _ _).alloc _ _, by omega, by simp, ?_, ?_, ?_, ?_⟩ <;> simp [go_sem]
  case round =>
    obtain ⟨rfl, s⟩ := hrel
    obtain ⟨c0, c1, c2, c3, c4, c5, c6⟩ := id s
    obtain ⟨f0, f1⟩ := s.fz
    go_wp2
    exact bodyPost_ret (v := .agg #[.int .i64 0, .int .i64 1]) (by simp [results, Tryd.results6, go_sem, *]) rfl ⟨rfl, (c0.setCell (by simp) _).setCell (by simp) _⟩
theorem addP_any (v : Value) (rs : List (Int × Int)) (w : World) (h : Row w v rs) (hin : In64 rs) :
    Calls Tryd.prog 6 #[v] w fun e w' => e = .returned (.agg #[.int .i64 (addAll rs).1, .int .i64 (addAll rs).2]) ∧ Up w w' := by
  rcases h with ⟨a, c, rfl, rfl⟩ | ⟨b, off, c, rfl, hb, hl, hrow⟩
  · exact addP_nil a c w
  · exact addP_row b off c rs w hb hl hin hrow
def ngN (n d : Int) : Int := if isV n d then -n else 0
def ngD (n d : Int) : Int := if isV n d then d else 0
theorem ng_I64 {n d : Int} (hn : I64 n) (hd : I64 d) : I64 (ngN n d) ∧ I64 (ngD n d) := by
  unfold ngN ngD
  by_cases v : isV n d = true
  · have := isV_num v
    simp only [v, if_true]
    unfold I64 at *
    omega
  · have v' : isV n d = false := by simpa using v
    simp [v', I64]
/-- A fraction and a result in memory. -/
theorem negP_any (n d : Int) (w : World) (hn : I64 n) (hd : I64 d) :
    Calls Tryd.prog 8 #[.agg #[.int .i64 n, .int .i64 d]] w fun e w' => e = .returned (.agg #[.int .i64 (ngN n d), .int .i64 (ngD n d)]) ∧ Up w w' := by
  obtain ⟨n1, n2⟩ := id hn; obtain ⟨d1, d2⟩ := id hd
  by_cases v : isV n d = true
  · rw [show ngN n d = -n by simp [ngN, v], show ngD n d = d by simp [ngD, v]]
    have hnm := isV_num v
    go_enter Tryd.func8, Tryd.ntmps8
    go_wp2_with (go_at_call 14; refine (isValue64 _ _ _ hn hd).mono ?_; rintro _ wl ⟨rfl, hl⟩; have c0 := hl.cell w.heap.size 0 (by simp; omega); have c1 := hl.cell w.heap.size 1 (by simp; omega); have c2 := hl.cell (w.heap.size + 1) 0 (by simp); have c3 := hl.cell (w.heap.size + 1) 1 (by simp); have m0 := hl.2 ⟨w.heap.size + 1, 0, none⟩; have m1 := hl.2 ⟨w.heap.size + 1, 1, none⟩; simp [go_sem] at c0 c1 c2 c3 m0 m1; simp only [v])
    exact bodyPost_ret (v := .agg #[.int .i64 (-n), .int .i64 d]) (by simp [results, Tryd.results8, go_sem, *]) rfl ⟨rfl, (((((Up.refl _).alloc _ _).alloc _ _).trans hl).setCell (by simp) _).setCell (by simp) _⟩
  · have v' : isV n d = false := by simpa using v
    rw [show ngN n d = 0 by simp [ngN, v'], show ngD n d = 0 by simp [ngD, v']]
    go_enter Tryd.func8, Tryd.ntmps8
    go_wp2_with (go_at_call 14; refine (isValue64 _ _ _ hn hd).mono ?_; rintro _ wl ⟨rfl, hl⟩; have c0 := hl.cell w.heap.size 0 (by simp; omega); have c1 := hl.cell w.heap.size 1 (by simp; omega); have c2 := hl.cell (w.heap.size + 1) 0 (by simp); have c3 := hl.cell (w.heap.size + 1) 1 (by simp); have m0 := hl.2 ⟨w.heap.size + 1, 0, none⟩; have m1 := hl.2 ⟨w.heap.size + 1, 1, none⟩; simp [go_sem] at c0 c1 c2 c3 m0 m1; simp only [v'])
    exact bodyPost_ret (v := .agg #[.int .i64 0, .int .i64 0]) (by simp [results, Tryd.results8, go_sem, *]) rfl ⟨rfl, (((((Up.refl _).alloc _ _).alloc _ _).trans hl).setCell (by simp) _).setCell (by simp) _⟩
def sbN (n d m e : Int) : Int := addN n d (ngN m e) (ngD m e)
def sbD (n d m e : Int) : Int := addD n d (ngN m e) (ngD m e)
attribute [local go_sem ↓] Go.wp_at_zero Go.wp_at_succ
set_option maxHeartbeats 4000000 in
theorem subP_any (n d m e : Int) (w : World) (hn : I64 n) (hd : I64 d) (hm : I64 m) (he : I64 e) :
    Calls Tryd.prog 9 #[.agg #[.int .i64 n, .int .i64 d], .agg #[.int .i64 m, .int .i64 e]] w fun x w' => x = .returned (.agg #[.int .i64 (sbN n d m e), .int .i64 (sbD n d m e)]) ∧ Up w w' := by
  have sb := S2.start w n d m e
  obtain ⟨i1, i2⟩ := ng_I64 hm he
  unfold sbN sbD
  go_enter Tryd.func9, Tryd.ntmps9
  go_wp2_with fail
  revert sb
  generalize ((w.alloc (.cells #[.int .i64 n, .int .i64 d] 23)).alloc (.cells #[.int .i64 m, .int .i64 e] 23)).alloc (.cells #[.int .i64 0, .int .i64 0] 23) = wb
  intro sb
  obtain ⟨t0, t1, t2, t3, t4, t5, t6, t7⟩ := id sb
  have f1 := sb.fz
  clear t0
  go_region_held3 (fun w' => w'.cell? ⟨w.heap.size, 0, none⟩ = some (.int .i64 n) ∧ w'.cell? ⟨w.heap.size, 1, none⟩ = some (.int .i64 d) ∧ w'.cell? ⟨w.heap.size + 1, 0, none⟩ = some (.int .i64 m) ∧ w'.cell? ⟨w.heap.size + 1, 1, none⟩ = some (.int .i64 e))
    (first | (refine (sb.up ?_).cells; (repeat (first | exact Up.refl _ | apply Up.drewN | apply Up.drew | (refine Up.trans ?_ (by assumption)))); done) | (simp [go_sem, *]; done))
    (first
      | (go_at_call 8; refine (negP_any _ _ _ hm he).mono ?_; rintro _ wl ⟨rfl, hl⟩)
      | (go_at_call 12; refine (plus_any _ _ _ _ _ hn hd i1 i2).mono ?_; rintro _ wl ⟨rfl, hl⟩; have sl := sb.up (show Up wb wl by repeat (first | exact Up.refl _ | apply Up.drewN | apply Up.drew | (refine Up.trans ?_ (by assumption)))); have f2 := sl.fz; obtain ⟨v0, v1, v2, v3, v4, v5, v6, v7⟩ := id sl; clear v0))
  all_goals
    go_wp2
    refine bodyPost_ret (v := .agg #[.int .i64 (addN n d (ngN m e) (ngD m e)), .int .i64 (addD n d (ngN m e) (ngD m e))]) (by simp [results, Tryd.results9, go_sem, *]) rfl ⟨rfl, ?_⟩
    repeat (first | exact sl.1 | apply Up.drewN | apply Up.drew | (refine Up.setCell ?_ (by simp; omega) _))
/-- Some fractions that the call itself lays into a row. -/
theorem row_two (w : World) (n d m e : Int) (t : TypeId) : Row (w.alloc (.cells #[.int .i64 n, .int .i64 d, .int .i64 m, .int .i64 e] t)) (.slice (some ⟨w.heap.size, 0, none⟩) 2 2) [(n, d), (m, e)] := by
  refine Or.inr ⟨w.heap.size, 0, 2, rfl, by simp, by simp, ?_⟩
  intro i h
  have : i = 0 ∨ i = 1 := by simp at h; omega
  rcases this with rfl | rfl <;> simp [go_sem]
theorem add_awake : addAll [(1, 2), (1, 3)] = (5, 6) := by decide
theorem in_awake : In64 [(1, 2), (1, 3)] := by intro r hr; simp at hr; rcases hr with rfl | rfl <;> simp [I64]
theorem awake_any (w : World) : Calls Tryd.prog 4 #[] w fun e w' => e = .returned (.bool true) ∧ Up w w' := by
  have E : Hid _ := add_awake
  go_enter Tryd.func4, Tryd.ntmps4
  go_wp2_with (go_at_call 6; refine (addP_any _ [(1, 2), (1, 3)] _ (row_two _ _ _ _ _ _) in_awake).mono ?_; rintro _ wl ⟨rfl, hl⟩; simp only [E.out])
  go_ret
  exact ⟨by simp, by repeat (first | exact Up.refl _ | apply Up.alloc | apply Up.drewN | apply Up.drew | (refine Up.trans ?_ (by assumption)))⟩
theorem neg_half : ngN 1 2 = -1 ∧ ngD 1 2 = 2 := by decide
end Go.Proofs.YthnkaimhmldjoaaDoor
