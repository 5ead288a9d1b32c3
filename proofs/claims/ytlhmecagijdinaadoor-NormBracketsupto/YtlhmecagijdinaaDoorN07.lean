/-
  The two quotients of fractions, and the walk of the statement RatDivs.
  The two products of some fractions, whatever they are.
-/
import Derived.Test.YtlhmecagijdinaaDoorN06
import Derived.Deep.LoopGhost
set_option linter.unusedVariables false
namespace Go.Proofs.YtlhmecagijdinaaDoor.wk
open Go.RowKit

theorem low_I64 (neg : Bool) {n d : Int} (n0 : 0 ≤ n) (d0 : 0 ≤ d) : I64 (lowN neg n d) ∧ I64 (lowD n d) := by
  by_cases h : fits n d = true
  · have k := h
    simp [fits] at k
    have g0 : 0 < gc n d := by rw [gc_comm]; exact gc_pos k.1.1
    obtain ⟨x0, x1⟩ := quo_bd n0 g0
    obtain ⟨y0, y1⟩ := quo_bd d0 g0
    simp only [lowN, lowD, h, if_true]
    refine ⟨?_, by unfold I64; omega⟩
    cases neg <;> (unfold I64; simp; omega)
  · have k : fits n d = false := by simpa using h
    simp [lowN, lowD, k, I64]
def divN (n d m e : Int) : Int := if isV n d && isV m e && (m != 0) then lowN (ng n m) (ab n * e) (d * ab m) else 0
def divD (n d m e : Int) : Int := if isV n d && isV m e && (m != 0) then lowD (ab n * e) (d * ab m) else 0
theorem div_no {n d m e : Int} (h : (isV n d && isV m e && (m != 0)) = false) : divN n d m e = 0 ∧ divD n d m e = 0 := by simp [divN, divD, h]
theorem gc_one_quo {n d : Int} (h : gc n d = 1) : n / gc n d = n ∧ d / gc n d = d := by rw [h]; simp
theorem ab_flip (m e : Int) (he : 1 ≤ e) : ab (if m < 0 then -e else e) = e := by unfold ab; split <;> split <;> omega
theorem flip {m e : Int} (hm : I64 m) (he : I64 e) (v : isV m e = true) (hz : m ≠ 0) :
    lowN (ng e m) (ab e) (ab m) = (if m < 0 then -e else e) ∧ lowD (ab e) (ab m) = ab m ∧ isV (if m < 0 then -e else e) (ab m) = true := by
  have h1 := isV_den v
  have h2 := isV_num v
  have h3 := isV_gcd v
  obtain ⟨m1, m2⟩ := hm; obtain ⟨e1, e2⟩ := he
  have ae : ab e = e := ab_pos (by omega)
  have am : 0 < ab m ∧ ab m ≤ 9223372036854775807 := by unfold ab; split <;> omega
  rw [gc_comm] at h3
  obtain ⟨q1, q2⟩ := gc_one_quo h3
  have f : fits e (ab m) = true := by simp [fits, q1, q2]; omega
  have hng : ng e m = decide (m < 0) := by
    have : decide (e < 0) = false := by simp; omega
    unfold ng; rw [this]; cases decide (m < 0) <;> rfl
  refine ⟨?_, ?_, ?_⟩
  · rw [ae, hng]; simp [lowN, f, q1]
  · rw [ae]; simp [lowD, f, q2]
  · unfold isV
    rw [ab_flip m e h1, h3]
    have : (if m < 0 then -e else e) ≠ -9223372036854775808 := by split <;> omega
    simp [this]; omega
theorem ng_flip (n m e : Int) (he : 1 ≤ e) : ng n (if m < 0 then -e else e) = ng n m := by
  unfold ng
  have : decide ((if m < 0 then -e else e) < 0) = decide (m < 0) := by rw [decide_eq_decide]; split <;> omega
  rw [this]
theorem div_eq {n d m e : Int} (hm : I64 m) (he : I64 e) (v : isV m e = true) :
    mulN n d (lowN (ng e m) (ab e) (ab m)) (lowD (ab e) (ab m)) = divN n d m e ∧ mulD n d (lowN (ng e m) (ab e) (ab m)) (lowD (ab e) (ab m)) = divD n d m e := by
  by_cases hz : m = 0
  · subst hz
    have e1 : lowN (ng e 0) (ab e) (ab 0) = 0 := by simp [lowN, fits, ab]
    have e2 : lowD (ab e) (ab 0) = 0 := by simp [lowD, fits, ab]
    rw [e1, e2]
    have h0 : isV 0 0 = false := by decide
    simp [mulN, mulD, divN, divD, h0]
  · obtain ⟨f1, f2, f3⟩ := flip hm he v hz
    have hz' : (m != 0) = true := by simpa using hz
    rw [f1, f2]
    unfold mulN mulD divN divD
    rw [f3, v, hz', ng_flip n m e (isV_den v), ab_flip m e (isV_den v)]
    simp
attribute [local go_sem ↓] Go.wp_at_zero Go.wp_at_succ
set_option maxHeartbeats 4000000 in
theorem divP_any (n d m e : Int) (w : World) (hn : I64 n) (hd : I64 d) (hm : I64 m) (he : I64 e) :
    Calls Tryd.prog 80 #[.agg #[.int .i64 n, .int .i64 d], .agg #[.int .i64 m, .int .i64 e]] w fun x w' => x = .returned (.agg #[.int .i64 (divN n d m e), .int .i64 (divD n d m e)]) ∧ Up w w' := by
  have s0 := S2.start w n d m e
  by_cases vb : isV m e = true
  rotate_left
  · have vb' : isV m e = false := by simpa using vb
    obtain ⟨e1, e2⟩ := div_no (n := n) (d := d) (m := m) (e := e) (by simp [vb'])
    rw [e1, e2]
    go_enter Tryd.func80, Tryd.ntmps80
    go_wp2_with (go_at_call 90; refine (isValue64 _ _ _ (by assumption) (by assumption)).mono ?_; rintro _ wa ⟨rfl, ha⟩; have sa := s0.up ha; obtain ⟨c0, c1, c2, c3, c4, c5, c6, c7⟩ := id sa; have f := sa.fz; simp only [vb'])
    exact bodyPost_ret (v := .agg #[.int .i64 0, .int .i64 0]) (by simp [results, Tryd.results80, go_sem, *]) rfl ⟨rfl, (sa.1.setCell (by simp; omega) _).setCell (by simp; omega) _⟩
  obtain ⟨E1, E2⟩ := div_eq (n := n) (d := d) hm he vb
  rw [← E1, ← E2]
  clear E1 E2
  obtain ⟨m1, m2⟩ := id hm; obtain ⟨e1, e2⟩ := id he
  obtain ⟨i1, i2⟩ := low_I64 (ng e m) (n := ab e) (d := ab m) (ab_bd e1 e2).1 (ab_bd m1 m2).1
  go_enter Tryd.func80, Tryd.ntmps80
  go_wp2_with (go_at_call 90; refine (isValue64 _ _ _ (by assumption) (by assumption)).mono ?_; rintro _ wb ⟨rfl, hb⟩; have sb := s0.up hb; simp only [vb])
  clear s0 hb
  obtain ⟨t0, t1, t2, t3, t4, t5, t6, t7⟩ := id sb
  have f1 := sb.fz
  go_region_held3 (fun w' => w'.cell? ⟨w.heap.size, 0, none⟩ = some (.int .i64 n) ∧ w'.cell? ⟨w.heap.size, 1, none⟩ = some (.int .i64 d) ∧ w'.cell? ⟨w.heap.size + 1, 0, none⟩ = some (.int .i64 m) ∧ w'.cell? ⟨w.heap.size + 1, 1, none⟩ = some (.int .i64 e))
    (first | (refine (sb.up ?_).cells; (repeat (first | exact Up.refl _ | apply Up.drewN | apply Up.drew | (refine Up.trans ?_ (by assumption)))); done) | (simp [go_sem, *]; done))
    (first
      | (go_at_call 34; refine (of_all _ _ _ e1 e2 m1 m2).mono ?_; rintro _ wl ⟨rfl, hl⟩)
      | (go_at_call 81; refine (times_any _ _ _ _ _ hn hd i1 i2).mono ?_; rintro _ wl ⟨rfl, hl⟩; have sl := sb.up (show Up wb wl by repeat (first | exact Up.refl _ | apply Up.drewN | apply Up.drew | (refine Up.trans ?_ (by assumption)))); have f2 := sl.fz; obtain ⟨v0, v1, v2, v3, v4, v5, v6, v7⟩ := id sl; clear v0))
  all_goals
    go_wp2
    refine bodyPost_ret (v := .agg #[.int .i64 (mulN n d (lowN (ng e m) (ab e) (ab m)) (lowD (ab e) (ab m))), .int .i64 (mulD n d (lowN (ng e m) (ab e) (ab m)) (lowD (ab e) (ab m)))]) (by simp [results, Tryd.results80, go_sem, *]) rfl ⟨rfl, ?_⟩
    repeat (first | exact sl.1 | apply Up.drewN | apply Up.drew | (refine Up.setCell ?_ (by simp; omega) _))
theorem div_half : divN 1 1 2 1 = 1 ∧ divD 1 1 2 1 = 2 := by decide
end Go.Proofs.YtlhmecagijdinaaDoor.wk
set_option linter.unusedVariables false
namespace Go.Proofs.YtlhmecagijdinaaDoor.wk
open Go.RowKit

theorem mul_I64 (n d m e : Int) (hd : 0 ≤ d ∨ isV n d = false) (he : 0 ≤ e ∨ isV m e = false) : I64 (mulN n d m e) ∧ I64 (mulD n d m e) := by
  unfold mulN mulD
  by_cases h : (isV n d && isV m e) = true
  · rw [h]; simp only [if_true]
    simp at h
    have h1 := isV_den h.1
    have h2 := isV_den h.2
    have a1 : 0 ≤ ab n := by unfold ab; split <;> omega
    have a2 : 0 ≤ ab m := by unfold ab; split <;> omega
    exact low_I64 _ (Int.mul_nonneg a1 a2) (Int.mul_nonneg (by omega) (by omega))
  · have h' : (isV n d && isV m e) = false := by simpa using h
    rw [h']; simp [I64]
theorem mul_I64' (n d m e : Int) : I64 (mulN n d m e) ∧ I64 (mulD n d m e) := by
  refine mul_I64 n d m e ?_ ?_
  · by_cases h : isV n d = true
    · left; have := isV_den h; omega
    · right; simpa using h
  · by_cases h : isV m e = true
    · left; have := isV_den h; omega
    · right; simpa using h
def clN (n d : Int) : Int := if mayB n d then n else 0
def clD (n d : Int) : Int := if mayB n d then d else 0
theorem low_self {n d : Int} (hn : I64 n) (hd : I64 d) (v : isV n d = true) : lowN (decide (n < 0)) (ab n) d = n ∧ lowD (ab n) d = d := by
  have h1 := isV_den v
  have h3 := isV_gcd v
  obtain ⟨n1, n2⟩ := hn; obtain ⟨d1, d2⟩ := hd
  obtain ⟨p1, p2⟩ := ab_bd' n1 n2 (isV_num v)
  obtain ⟨q1, q2⟩ := gc_one_quo h3
  have f : fits (ab n) d = true := by simp [fits, q1, q2]; omega
  refine ⟨?_, by simp [lowD, f, q2]⟩
  simp only [lowN, f, q1, if_true]
  unfold ab
  by_cases h : n < 0 <;> simp [h]
theorem one_mul {n d : Int} (hn : I64 n) (hd : I64 d) : mulN 1 1 n d = clN n d ∧ mulD 1 1 n d = clD n d := by
  have h11 : isV 1 1 = true := by decide
  by_cases v : isV n d = true
  · obtain ⟨e1, e2⟩ := low_self hn hd v
    have hm : mayB n d = true := by simp [mayB, v]
    have hng : ng 1 n = decide (n < 0) := by unfold ng; cases decide (n < 0) <;> rfl
    have a1 : ab 1 = 1 := rfl
    simp only [mulN, mulD, h11, v, hng, a1, Int.one_mul, clN, clD, hm, Bool.and_self, if_true]
    exact ⟨e1, e2⟩
  · have v' : isV n d = false := by simpa using v
    by_cases hm : mayB n d = true
    · have : n = 0 ∧ d = 0 := by simp [mayB, v'] at hm; exact hm
      obtain ⟨rfl, rfl⟩ := this
      simp [mulN, mulD, v', clN, clD]
    · have hm' : mayB n d = false := by simpa using hm
      simp [mulN, mulD, v', clN, clD, hm']
theorem clean_any (n d : Int) (w : World) (hn : I64 n) (hd : I64 d) :
    Calls Tryd.prog 25 #[.agg #[.int .i64 n, .int .i64 d]] w fun e w' => e = .returned (.agg #[.int .i64 (clN n d), .int .i64 (clD n d)]) ∧ Up w w' := by
  obtain ⟨n1, n2⟩ := hn; obtain ⟨d1, d2⟩ := hd
  have f0 := frozen_new w (w.heap.size + 1) 0 (by omega)
  have f1 := frozen_new w (w.heap.size + 1) 1 (by omega)
  by_cases hm : mayB n d = true
  · rw [show clN n d = n by simp [clN, hm], show clD n d = d by simp [clD, hm]]
    go_enter Tryd.func25, Tryd.ntmps25
    go_wp2_with (go_at_call 41; refine (rmay_any _ _ _ n1 n2 d1 d2).mono ?_; rintro _ wl ⟨rfl, hl⟩; have c0 := hl.cell w.heap.size 0 (by simp; omega); have c1 := hl.cell w.heap.size 1 (by simp; omega); have c2 := hl.cell (w.heap.size + 1) 0 (by simp); have c3 := hl.cell (w.heap.size + 1) 1 (by simp); have m0 := hl.2 ⟨w.heap.size + 1, 0, none⟩; have m1 := hl.2 ⟨w.heap.size + 1, 1, none⟩; simp [go_sem] at c0 c1 c2 c3 m0 m1; simp only [hm])
    exact bodyPost_ret (v := .agg #[.int .i64 n, .int .i64 d]) (by simp [results, Tryd.results25, go_sem, *]) rfl ⟨rfl, (((((Up.refl _).alloc _ _).alloc _ _).trans hl).setCell (by simp) _).setCell (by simp) _⟩
  · have hm' : mayB n d = false := by simpa using hm
    rw [show clN n d = 0 by simp [clN, hm'], show clD n d = 0 by simp [clD, hm']]
    go_enter Tryd.func25, Tryd.ntmps25
    go_wp2_with (first
      | (go_at_call 41; refine (rmay_any _ _ _ n1 n2 d1 d2).mono ?_; rintro _ wl ⟨rfl, hl⟩; have c0 := hl.cell w.heap.size 0 (by simp; omega); have c1 := hl.cell w.heap.size 1 (by simp; omega); have c2 := hl.cell (w.heap.size + 1) 0 (by simp); have c3 := hl.cell (w.heap.size + 1) 1 (by simp); have m0 := hl.2 ⟨w.heap.size + 1, 0, none⟩; have m1 := hl.2 ⟨w.heap.size + 1, 1, none⟩; have hz := hl.past (k := w.heap.size + 1) (by simp); simp [go_sem] at c0 c1 c2 c3 m0 m1; simp only [hm'])
      | (go_at_call 42; refine (over_any _).mono ?_; rintro _ _ ⟨rfl, cc, rfl⟩))
    exact bodyPost_ret (v := .agg #[.int .i64 0, .int .i64 0]) (by simp [results, Tryd.results25, go_sem, *]) rfl ⟨rfl, by repeat (first | exact Up.refl _ | apply Up.alloc | (refine Up.setCell ?_ (by simp) _) | (refine Up.trans ?_ (by assumption)))⟩

/-! ### Some fractions in memory -/
/-- The slice v holds the fractions rs. -/
def Row (w : World) (v : Value) (rs : List (Int × Int)) : Prop :=
  (∃ a c, v = .slice a 0 c ∧ rs = []) ∨
  ∃ b off c, v = .slice (some ⟨b, off, none⟩) rs.length c ∧ b < w.heap.size ∧ rs.length ≤ 9223372036854775807 ∧ ∀ i (h : i < rs.length), w.cell? ⟨b, off + i * 2, none⟩ = some (.int .i64 rs[i].1) ∧ w.cell? ⟨b, off + i * 2 + 1, none⟩ = some (.int .i64 rs[i].2)
def In64 (rs : List (Int × Int)) : Prop := ∀ r ∈ rs, I64 r.1 ∧ I64 r.2
def mulAll (rs : List (Int × Int)) : Int × Int := rs.foldl (fun p r => (mulN p.1 p.2 r.1 r.2, mulD p.1 p.2 r.1 r.2)) (1, 1)
theorem mulAll_I64 (rs : List (Int × Int)) : I64 (mulAll rs).1 ∧ I64 (mulAll rs).2 := by
  unfold mulAll
  have : ∀ (l : List (Int × Int)) (p : Int × Int), (I64 p.1 ∧ I64 p.2) → I64 (l.foldl (fun p r => (mulN p.1 p.2 r.1 r.2, mulD p.1 p.2 r.1 r.2)) p).1 ∧ I64 (l.foldl (fun p r => (mulN p.1 p.2 r.1 r.2, mulD p.1 p.2 r.1 r.2)) p).2 := by
    intro l
    induction l with
    | nil => intro p h; exact h
    | cons r l ih => intro p h; exact ih _ (mul_I64' _ _ _ _)
  exact this rs (1, 1) (by simp [I64])
theorem mulAll_snoc (rs : List (Int × Int)) (i : Nat) (h : i < rs.length) : mulAll (rs.take (i + 1)) = (mulN (mulAll (rs.take i)).1 (mulAll (rs.take i)).2 rs[i].1 rs[i].2, mulD (mulAll (rs.take i)).1 (mulAll (rs.take i)).2 rs[i].1 rs[i].2) := by
  unfold mulAll
  rw [List.take_succ_eq_append_getElem h, List.foldl_append]
  rfl
/-- The result, and what is gathered, in memory. -/
def SA (w wr : World) (b : Nat) (p q : Int) : Prop := Up w wr ∧ w.heap.size < b ∧ b < wr.heap.size ∧
  wr.cell? ⟨w.heap.size, 0, none⟩ = some (.int .i64 0) ∧ wr.cell? ⟨w.heap.size, 1, none⟩ = some (.int .i64 0) ∧
  wr.cell? ⟨b, 0, none⟩ = some (.int .i64 p) ∧ wr.cell? ⟨b, 1, none⟩ = some (.int .i64 q)
theorem SA.up {w wr wl : World} {b : Nat} {p q : Int} (s : SA w wr b p q) (h : Up wr wl) : SA w wl b p q := by
  obtain ⟨s0, s1, s2, s3, s4, s5, s6⟩ := s
  exact ⟨s0.trans h, s1, Nat.lt_of_lt_of_le s2 h.size, (h.cell _ _ (by omega)).trans s3, (h.cell _ _ (by omega)).trans s4, (h.cell _ _ (by omega)).trans s5, (h.cell _ _ (by omega)).trans s6⟩
theorem SA.set {w wr : World} {b : Nat} {p q : Int} (s : SA w wr b p q) (x y : Int) : SA w ((wr.setCell ⟨b, 0, none⟩ (.int .i64 x)).setCell ⟨b, 1, none⟩ (.int .i64 y)) b x y := by
  obtain ⟨s0, s1, s2, s3, s4, s5, s6⟩ := s
  have h1 : ¬ b = w.heap.size := by omega
  refine ⟨(s0.setCell (by simp; omega) _).setCell (by simp; omega) _, s1, by rw [size_set, size_set]; exact s2, ?_, ?_, ?_, ?_⟩ <;> simp [go_sem, *]
theorem SA.fz {w wr : World} {b : Nat} {p q : Int} (s : SA w wr b p q) : (∀ o, wr.frozen? ⟨w.heap.size, o, none⟩ = false) ∧ ∀ o, wr.frozen? ⟨b, o, none⟩ = false :=
  ⟨fun o => s.1.fz o (Nat.le_refl _), fun o => s.1.fz o (Nat.le_of_lt s.2.1)⟩
set_option maxHeartbeats 2000000 in
theorem mulP_row (b off c : Nat) (rs : List (Int × Int)) (w : World) (hb : b < w.heap.size) (hlen : rs.length ≤ 9223372036854775807) (hin : In64 rs)
    (hrow : ∀ i (h : i < rs.length), w.cell? ⟨b, off + i * 2, none⟩ = some (.int .i64 rs[i].1) ∧ w.cell? ⟨b, off + i * 2 + 1, none⟩ = some (.int .i64 rs[i].2)) :
    Calls Tryd.prog 56 #[.slice (some ⟨b, off, none⟩) rs.length c] w fun e w' => e = .returned (.agg #[.int .i64 (mulAll rs).1, .int .i64 (mulAll rs).2]) ∧ Up w w' := by
  go_enter Tryd.func56, Tryd.ntmps56
  go_wp2_with fail
  go_loopg [9] rs.length (fun g j wr => ∃ i : Nat, j = .int .i64 i ∧ i + g = rs.length ∧ SA w wr (w.heap.size + 1) (mulAll (rs.take i)).1 (mulAll (rs.take i)).2)
  case atStart =>
    refine ⟨0, rfl, by omega, ?_⟩
    refine ⟨((Up.refl _).alloc _ _).alloc _ _, by omega, by simp, ?_, ?_, ?_, ?_⟩ <;> simp [go_sem, mulAll]
  case round =>
    obtain ⟨i, rfl, hi2, s⟩ := hrel
    obtain ⟨c0, c1, c2, c3, c4, c5, c6⟩ := id s
    obtain ⟨f0, f1⟩ := s.fz
    by_cases hlt : i < rs.length
    · have hlt2 : (i : Int) < (rs.length : Int) := by omega
      obtain ⟨r0, r1⟩ := hrow i hlt
      have k0 := (c0.cell b (off + i * 2) hb).trans r0
      have k1 := (c0.cell b (off + i * 2 + 1) hb).trans r1
      have hsn := mulAll_snoc rs i hlt
      have HS : Hid _ := hsn
      obtain ⟨i1, i2⟩ := mulAll_I64 (rs.take i)
      obtain ⟨j1, j2⟩ := hin rs[i] (List.getElem_mem hlt)
      clear hsn hrow hin
      generalize (mulAll (rs.take i)).1 = p at *
      generalize (mulAll (rs.take i)).2 = q at *
      generalize rs[i].1 = x at *
      generalize rs[i].2 = y at *
      go_wp2_with (go_at_call 81; refine (times_any _ _ _ _ _ i1 i2 j1 j2).mono ?_; rintro _ wl ⟨rfl, hl⟩; have sl := (s.up ((Up.refl _).alloc _ _)).up hl; obtain ⟨t0, t1, t2, t3, t4, t5, t6⟩ := id sl; obtain ⟨m0, m1⟩ := sl.fz)
      go_roundg (gk - 1)
      case measure => omega
      case rel => exact ⟨i + 1, by go_num, by omega, by rw [HS.out]; exact sl.set _ _⟩
    · have hlt2 : ¬ (i : Int) < (rs.length : Int) := by omega
      have hfin : Hid (mulAll (rs.take i) = mulAll rs) := by rw [Hid, List.take_of_length_le (by omega)]
      clear hrow hin
      generalize mulAll (rs.take i) = z at *
      go_wp2
      exact bodyPost_ret (v := .agg #[.int .i64 z.1, .int .i64 z.2]) (by simp [results, Tryd.results56, go_sem, *]) rfl ⟨by rw [hfin.out], (c0.setCell (by simp) _).setCell (by simp) _⟩
theorem mulP_nil (a : Option Addr) (c : Nat) (w : World) :
    Calls Tryd.prog 56 #[.slice a 0 c] w fun e w' => e = .returned (.agg #[.int .i64 1, .int .i64 1]) ∧ Up w w' := by
  go_enter Tryd.func56, Tryd.ntmps56
  go_wp2_with fail
  go_loopg [9] 0 (fun g j wr => j = .int .i64 0 ∧ SA w wr (w.heap.size + 1) 1 1)
  case atStart =>
    refine ⟨rfl, ?_⟩
    refine ⟨((Up.refl _).alloc _ _).alloc _ _, by omega, by simp, ?_, ?_, ?_, ?_⟩ <;> simp [go_sem]
  case round =>
    obtain ⟨rfl, s⟩ := hrel
    obtain ⟨c0, c1, c2, c3, c4, c5, c6⟩ := id s
    obtain ⟨f0, f1⟩ := s.fz
    go_wp2
    exact bodyPost_ret (v := .agg #[.int .i64 1, .int .i64 1]) (by simp [results, Tryd.results56, go_sem, *]) rfl ⟨rfl, (c0.setCell (by simp) _).setCell (by simp) _⟩
theorem mulP_any (v : Value) (rs : List (Int × Int)) (w : World) (h : Row w v rs) (hin : In64 rs) :
    Calls Tryd.prog 56 #[v] w fun e w' => e = .returned (.agg #[.int .i64 (mulAll rs).1, .int .i64 (mulAll rs).2]) ∧ Up w w' := by
  rcases h with ⟨a, c, rfl, rfl⟩ | ⟨b, off, c, rfl, hb, hl, hrow⟩
  · exact mulP_nil a c w
  · exact mulP_row b off c rs w hb hl hin hrow
theorem int_any (n : Int) (w : World) : Calls Tryd.prog 24 #[.int .i64 n] w fun e w' => e = .returned (.agg #[.int .i64 n, .int .i64 1]) ∧ ∃ c, w' = w.alloc (.cells c 23) := by
  go_enter Tryd.func24, Tryd.ntmps24
  go_wp2
  exact bodyPost_ret (v := .agg #[.int .i64 n, .int .i64 1]) (by simp [results, Tryd.results24, go_sem]) rfl ⟨rfl, _, rfl⟩
set_option maxHeartbeats 2000000 in
theorem mulR_row (b off c : Nat) (rs : List (Int × Int)) (w : World) (hb : b < w.heap.size) (hlen : rs.length ≤ 9223372036854775807) (hin : In64 rs)
    (hrow : ∀ i (h : i < rs.length), w.cell? ⟨b, off + i * 2, none⟩ = some (.int .i64 rs[i].1) ∧ w.cell? ⟨b, off + i * 2 + 1, none⟩ = some (.int .i64 rs[i].2)) :
    Calls Tryd.prog 12 #[.slice (some ⟨b, off, none⟩) rs.length c] w fun e w' => e = .returned (.agg #[.int .i64 (mulAll rs).1, .int .i64 (mulAll rs).2]) ∧ Up w w' := by
  go_enter Tryd.func12, Tryd.ntmps12
  go_wp2_with (go_at_call 24; refine (int_any _ _).mono ?_; rintro _ _ ⟨rfl, cc, rfl⟩)
  go_loopg [4, 9] rs.length (fun g u j wr => ∃ i : Nat, j = .int .i64 i ∧ i + g = rs.length ∧ SA w wr (w.heap.size + 1 + 1) (mulAll (rs.take i)).1 (mulAll (rs.take i)).2)
  case atStart =>
    refine ⟨0, rfl, by omega, ?_⟩
    refine ⟨(((Up.refl _).alloc _ _).alloc _ _).alloc _ _, by omega, by simp, ?_, ?_, ?_, ?_⟩ <;> simp [go_sem, mulAll]
  case round =>
    obtain ⟨i, rfl, hi2, s⟩ := hrel
    obtain ⟨c0, c1, c2, c3, c4, c5, c6⟩ := id s
    obtain ⟨f0, f1⟩ := s.fz
    by_cases hlt : i < rs.length
    · have hlt2 : (i : Int) < (rs.length : Int) := by omega
      obtain ⟨r0, r1⟩ := hrow i hlt
      have k0 := (c0.cell b (off + i * 2) hb).trans r0
      have k1 := (c0.cell b (off + i * 2 + 1) hb).trans r1
      have hsn := mulAll_snoc rs i hlt
      obtain ⟨i1, i2⟩ := mulAll_I64 (rs.take i)
      obtain ⟨j1, j2⟩ := hin rs[i] (List.getElem_mem hlt)
      by_cases hi0 : i = 0
      · have z0 : ((i : Int) == 0) = true := by simp [hi0]
        have e0 : mulAll (rs.take i) = (1, 1) := by rw [hi0]; rfl
        rw [e0] at hsn
        obtain ⟨o1, o2⟩ := one_mul j1 j2
        have HS : Hid (mulAll (rs.take (i + 1)) = (clN rs[i].1 rs[i].2, clD rs[i].1 rs[i].2)) := by rw [Hid, hsn]; simp only [o1, o2]
        clear hsn hrow hin e0 o1 o2 hi0
        generalize (mulAll (rs.take i)).1 = p at *
        generalize (mulAll (rs.take i)).2 = q at *
        generalize rs[i].1 = x at *
        generalize rs[i].2 = y at *
        go_wp2_with (go_at_call 25; refine (clean_any _ _ _ j1 j2).mono ?_; rintro _ wl ⟨rfl, hl⟩; have sl := (s.up ((Up.refl _).alloc _ _)).up hl; obtain ⟨t0, t1, t2, t3, t4, t5, t6⟩ := id sl; obtain ⟨m0, m1⟩ := sl.fz)
        go_roundg (gk - 1)
        case measure => omega
        case rel => exact ⟨i + 1, by go_num, by omega, by rw [HS.out]; exact sl.set _ _⟩
      · have z0 : ((i : Int) == 0) = false := by simp; omega
        have HS : Hid _ := hsn
        clear hsn hrow hin hi0
        generalize (mulAll (rs.take i)).1 = p at *
        generalize (mulAll (rs.take i)).2 = q at *
        generalize rs[i].1 = x at *
        generalize rs[i].2 = y at *
        go_wp2_with (go_at_call 26; refine (mul2_any _ _ _ _ _ i1 i2 j1 j2).mono ?_; rintro _ wl ⟨rfl, hl⟩; have sl := (s.up ((Up.refl _).alloc _ _)).up hl; obtain ⟨t0, t1, t2, t3, t4, t5, t6⟩ := id sl; obtain ⟨m0, m1⟩ := sl.fz)
        go_roundg (gk - 1)
        case measure => omega
        case rel => exact ⟨i + 1, by go_num, by omega, by rw [HS.out]; exact sl.set _ _⟩
    · have hlt2 : ¬ (i : Int) < (rs.length : Int) := by omega
      have hfin : Hid (mulAll (rs.take i) = mulAll rs) := by rw [Hid, List.take_of_length_le (by omega)]
      clear hrow hin
      generalize mulAll (rs.take i) = z at *
      go_wp2
      exact bodyPost_ret (v := .agg #[.int .i64 z.1, .int .i64 z.2]) (by simp [results, Tryd.results12, go_sem, *]) rfl ⟨by rw [hfin.out], (c0.setCell (by simp) _).setCell (by simp) _⟩
theorem mulR_nil (a : Option Addr) (c : Nat) (w : World) :
    Calls Tryd.prog 12 #[.slice a 0 c] w fun e w' => e = .returned (.agg #[.int .i64 1, .int .i64 1]) ∧ Up w w' := by
  go_enter Tryd.func12, Tryd.ntmps12
  go_wp2_with (go_at_call 24; refine (int_any _ _).mono ?_; rintro _ _ ⟨rfl, cc, rfl⟩)
  go_loopg [4, 9] 0 (fun g u j wr => j = .int .i64 0 ∧ SA w wr (w.heap.size + 1 + 1) 1 1)
  case atStart =>
    refine ⟨rfl, ?_⟩
    refine ⟨(((Up.refl _).alloc _ _).alloc _ _).alloc _ _, by omega, by simp, ?_, ?_, ?_, ?_⟩ <;> simp [go_sem]
  case round =>
    obtain ⟨rfl, s⟩ := hrel
    obtain ⟨c0, c1, c2, c3, c4, c5, c6⟩ := id s
    obtain ⟨f0, f1⟩ := s.fz
    go_wp2
    exact bodyPost_ret (v := .agg #[.int .i64 1, .int .i64 1]) (by simp [results, Tryd.results12, go_sem, *]) rfl ⟨rfl, (c0.setCell (by simp) _).setCell (by simp) _⟩
theorem mulR_any (v : Value) (rs : List (Int × Int)) (w : World) (h : Row w v rs) (hin : In64 rs) :
    Calls Tryd.prog 12 #[v] w fun e w' => e = .returned (.agg #[.int .i64 (mulAll rs).1, .int .i64 (mulAll rs).2]) ∧ Up w w' := by
  rcases h with ⟨a, c, rfl, rfl⟩ | ⟨b, off, c, rfl, hb, hl, hrow⟩
  · exact mulR_nil a c w
  · exact mulR_row b off c rs w hb hl hin hrow
theorem Row.up {w w' : World} {v : Value} {rs : List (Int × Int)} (h : Row w v rs) (k : Up w w') : Row w' v rs := by
  rcases h with ⟨a, c, rfl, rfl⟩ | ⟨b, off, c, rfl, hb, hl, hrow⟩
  · exact Or.inl ⟨a, c, rfl, rfl⟩
  · exact Or.inr ⟨b, off, c, rfl, Nat.lt_of_lt_of_le hb k.size, hl, fun i h => ⟨(k.cell _ _ hb).trans (hrow i h).1, (k.cell _ _ hb).trans (hrow i h).2⟩⟩
end Go.Proofs.YtlhmecagijdinaaDoor.wk
