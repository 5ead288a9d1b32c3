/-
  The two products of some fractions, whatever they are.
-/
import Derived.Test.YthnkaimhmldjoaaDoorWalksL
import Derived.Deep.LoopGhost
set_option linter.unusedVariables false
namespace Go.Proofs.YthnkaimhmldjoaaDoor
open Go.RowKit

theorem mul_I64 (n d m e : Int) (hd : 0 ≤ d ∨ isV n d = false) (he : 0 ≤ e ∨ isV m e = false) : I64 (mulN n d m e) ∧ I64 (mulD n d m e) := by
  unfold mulN mulD
  by_cases h : (isV n d && isV m e) = true
  · rw [h]; simp only [if_true]
    simp at h
    have h1 := isV_den h.1
    have h2 := isV_den h.2
    have a1 : 0 ≤ ab n := by unfold ab; split <;> omega
    have a2 : 0 ≤ ab m := by unfold ab; split <;> omega
    exact low_I64 _ (Int.mul_nonneg a1 a2) (Int.mul_nonneg (by omega) (by omega))
  · have h' : (isV n d && isV m e) = false := by simpa using h
    rw [h']; simp [I64]
theorem mul_I64' (n d m e : Int) : I64 (mulN n d m e) ∧ I64 (mulD n d m e) := by
  refine mul_I64 n d m e ?_ ?_
  · by_cases h : isV n d = true
    · left; have := isV_den h; omega
    · right; simpa using h
  · by_cases h : isV m e = true
    · left; have := isV_den h; omega
    · right; simpa using h
def clN (n d : Int) : Int := if mayB n d then n else 0
def clD (n d : Int) : Int := if mayB n d then d else 0
theorem low_self {n d : Int} (hn : I64 n) (hd : I64 d) (v : isV n d = true) : lowN (decide (n < 0)) (ab n) d = n ∧ lowD (ab n) d = d := by
  have h1 := isV_den v
  have h3 := isV_gcd v
  obtain ⟨n1, n2⟩ := hn; obtain ⟨d1, d2⟩ := hd
  obtain ⟨p1, p2⟩ := ab_bd' n1 n2 (isV_num v)
  obtain ⟨q1, q2⟩ := gc_one_quo h3
  have f : fits (ab n) d = true := by simp [fits, q1, q2]; omega
  refine ⟨?_, by simp [lowD, f, q2]⟩
  simp only [lowN, f, q1, if_true]
  unfold ab
  by_cases h : n < 0 <;> simp [h]
theorem one_mul {n d : Int} (hn : I64 n) (hd : I64 d) : mulN 1 1 n d = clN n d ∧ mulD 1 1 n d = clD n d := by
  have h11 : isV 1 1 = true := by decide
  by_cases v : isV n d = true
  · obtain ⟨e1, e2⟩ := low_self hn hd v
    have hm : mayB n d = true := by simp [mayB, v]
    have hng : ng 1 n = decide (n < 0) := by unfold ng; cases decide (n < 0) <;> rfl
    have a1 : ab 1 = 1 := rfl
    simp only [mulN, mulD, h11, v, hng, a1, Int.one_mul, clN, clD, hm, Bool.and_self, if_true]
    exact ⟨e1, e2⟩
  · have v' : isV n d = false := by simpa using v
    by_cases hm : mayB n d = true
    · have : n = 0 ∧ d = 0 := by simp [mayB, v'] at hm; exact hm
      obtain ⟨rfl, rfl⟩ := this
      simp [mulN, mulD, v', clN, clD]
    · have hm' : mayB n d = false := by simpa using hm
      simp [mulN, mulD, v', clN, clD, hm']
/-! ### Some fractions in memory -/
/-- The slice v holds the fractions rs. -/
def Row (w : World) (v : Value) (rs : List (Int × Int)) : Prop :=
  (∃ a c, v = .slice a 0 c ∧ rs = []) ∨
  ∃ b off c, v = .slice (some ⟨b, off, none⟩) rs.length c ∧ b < w.heap.size ∧ rs.length ≤ 9223372036854775807 ∧ ∀ i (h : i < rs.length), w.cell? ⟨b, off + i * 2, none⟩ = some (.int .i64 rs[i].1) ∧ w.cell? ⟨b, off + i * 2 + 1, none⟩ = some (.int .i64 rs[i].2)
def In64 (rs : List (Int × Int)) : Prop := ∀ r ∈ rs, I64 r.1 ∧ I64 r.2
def mulAll (rs : List (Int × Int)) : Int × Int := rs.foldl (fun p r => (mulN p.1 p.2 r.1 r.2, mulD p.1 p.2 r.1 r.2)) (1, 1)
theorem mulAll_I64 (rs : List (Int × Int)) : I64 (mulAll rs).1 ∧ I64 (mulAll rs).2 := by
  unfold mulAll
  have : ∀ (l : List (Int × Int)) (p : Int × Int), (I64 p.1 ∧ I64 p.2) → I64 (l.foldl (fun p r => (mulN p.1 p.2 r.1 r.2, mulD p.1 p.2 r.1 r.2)) p).1 ∧ I64 (l.foldl (fun p r => (mulN p.1 p.2 r.1 r.2, mulD p.1 p.2 r.1 r.2)) p).2 := by
    intro l
    induction l with
    | nil => intro p h; exact h
    | cons r l ih => intro p h; exact ih _ (mul_I64' _ _ _ _)
  exact this rs (1, 1) (by simp [I64])
theorem mulAll_snoc (rs : List (Int × Int)) (i : Nat) (h : i < rs.length) : mulAll (rs.take (i + 1)) = (mulN (mulAll (rs.take i)).1 (mulAll (rs.take i)).2 rs[i].1 rs[i].2, mulD (mulAll (rs.take i)).1 (mulAll (rs.take i)).2 rs[i].1 rs[i].2) := by
  unfold mulAll
  rw [List.take_succ_eq_append_getElem h, List.foldl_append]
  rfl
/-- The result, and what is gathered, in memory. -/
def SA (w wr : World) (b : Nat) (p q : Int) : Prop := Up w wr ∧ w.heap.size < b ∧ b < wr.heap.size ∧
  wr.cell? ⟨w.heap.size, 0, none⟩ = some (.int .i64 0) ∧ wr.cell? ⟨w.heap.size, 1, none⟩ = some (.int .i64 0) ∧
  wr.cell? ⟨b, 0, none⟩ = some (.int .i64 p) ∧ wr.cell? ⟨b, 1, none⟩ = some (.int .i64 q)
theorem SA.up {w wr wl : World} {b : Nat} {p q : Int} (s : SA w wr b p q) (h : Up wr wl) : SA w wl b p q := by
  obtain ⟨s0, s1, s2, s3, s4, s5, s6⟩ := s
  exact ⟨s0.trans h, s1, Nat.lt_of_lt_of_le s2 h.size, (h.cell _ _ (by omega)).trans s3, (h.cell _ _ (by omega)).trans s4, (h.cell _ _ (by omega)).trans s5, (h.cell _ _ (by omega)).trans s6⟩
theorem SA.set {w wr : World} {b : Nat} {p q : Int} (s : SA w wr b p q) (x y : Int) : SA w ((wr.setCell ⟨b, 0, none⟩ (.int .i64 x)).setCell ⟨b, 1, none⟩ (.int .i64 y)) b x y := by
  obtain ⟨s0, s1, s2, s3, s4, s5, s6⟩ := s
  have h1 : ¬ b = w.heap.size := by omega
  refine ⟨(s0.setCell (by simp; omega) _).setCell (by simp; omega) _, s1, by rw [size_set, size_set]; exact s2, ?_, ?_, ?_, ?_⟩ <;> simp [go_sem, *]
theorem SA.fz {w wr : World} {b : Nat} {p q : Int} (s : SA w wr b p q) : (∀ o, wr.frozen? ⟨w.heap.size, o, none⟩ = false) ∧ ∀ o, wr.frozen? ⟨b, o, none⟩ = false :=
  ⟨fun o => s.1.fz o (Nat.le_refl _), fun o => s.1.fz o (Nat.le_of_lt s.2.1)⟩
set_option maxHeartbeats 2000000 in
theorem mulP_row (b off c : Nat) (rs : List (Int × Int)) (w : World) (hb : b < w.heap.size) (hlen : rs.length ≤ 9223372036854775807) (hin : In64 rs)
    (hrow : ∀ i (h : i < rs.length), w.cell? ⟨b, off + i * 2, none⟩ = some (.int .i64 rs[i].1) ∧ w.cell? ⟨b, off + i * 2 + 1, none⟩ = some (.int .i64 rs[i].2)) :
    Calls Tryd.prog 7 #[.slice (some ⟨b, off, none⟩) rs.length c] w fun e w' => e = .returned (.agg #[.int .i64 (mulAll rs).1, .int .i64 (mulAll rs).2]) ∧ Up w w' := by
  go_enter Tryd.func7, Tryd.ntmps7
  go_wp2_with fail
  go_loopg [9] rs.length (fun g j wr => ∃ i : Nat, j = .int .i64 i ∧ i + g = rs.length ∧ SA w wr (w.heap.size + 1) (mulAll (rs.take i)).1 (mulAll (rs.take i)).2)
  case atStart =>
    refine ⟨0, rfl, by omega, ?_⟩
    refine ⟨((Up.refl _).alloc _ _).alloc _ _, by omega, by simp, ?_, ?_, ?_, ?_⟩ <;> simp [go_sem, mulAll]
  case round =>
    obtain ⟨i, rfl, hi2, s⟩ := hrel
    obtain ⟨c0, c1, c2, c3, c4, c5, c6⟩ := id s
    obtain ⟨f0, f1⟩ := s.fz
    by_cases hlt : i < rs.length
    · have hlt2 : (i : Int) < (rs.length : Int) := by omega
      obtain ⟨r0, r1⟩ := hrow i hlt
      have k0 := (c0.cell b (off + i * 2) hb).trans r0
      have k1 := (c0.cell b (off + i * 2 + 1) hb).trans r1
      have hsn := mulAll_snoc rs i hlt
      have HS : Hid _ := hsn
      obtain ⟨i1, i2⟩ := mulAll_I64 (rs.take i)
      obtain ⟨j1, j2⟩ := hin rs[i] (List.getElem_mem hlt)
      clear hsn hrow hin
      generalize (mulAll (rs.take i)).1 = p at *
      generalize (mulAll (rs.take i)).2 = q at *
      generalize rs[i].1 = x at *
      generalize rs[i].2 = y at *
      go_wp2_with (go_at_call 13; refine (times_any _ _ _ _ _ i1 i2 j1 j2).mono ?_; rintro _ wl ⟨rfl, hl⟩; have sl := (s.up ((Up.refl _).alloc _ _)).up hl; obtain ⟨t0, t1, t2, t3, t4, t5, t6⟩ := id sl; obtain ⟨m0, m1⟩ := sl.fz)
      go_roundg (gk - 1)
      case measure => omega
      case rel => exact ⟨i + 1, by go_num, by omega, by rw [HS.out]; exact sl.set _ _⟩
    · have hlt2 : ¬ (i : Int) < (rs.length : Int) := by omega
      have hfin : Hid (mulAll (rs.take i) = mulAll rs) := by rw [Hid, List.take_of_length_le (by omega)]
      clear hrow hin
      generalize mulAll (rs.take i) = z at *
      go_wp2
      exact bodyPost_ret (v := .agg #[.int .i64 z.1, .int .i64 z.2]) (by simp [results, Tryd.results7, go_sem, *]) rfl ⟨by rw [hfin.out], (c0.setCell (by simp) _).setCell (by simp) _⟩
theorem mulP_nil (a : Option Addr) (c : Nat) (w : World) :
    Calls Tryd.prog 7 #[.slice a 0 c] w fun e w' => e = .returned (.agg #[.int .i64 1, .int .i64 1]) ∧ Up w w' := by
  go_enter Tryd.func7, Tryd.ntmps7
  go_wp2_with fail
  go_loopg [9] 0 (fun g j wr => j = .int .i64 0 ∧ SA w wr (w.heap.size + 1) 1 1)
  case atStart =>
    refine ⟨rfl, ?_⟩
    refine ⟨((Up.refl _).alloc _ _).alloc _ _, by omega, by simp, ?_, ?_, ?_, ?_⟩ <;> simp [go_sem]
  case round =>
    obtain ⟨rfl, s⟩ := hrel
    obtain ⟨c0, c1, c2, c3, c4, c5, c6⟩ := id s
    obtain ⟨f0, f1⟩ := s.fz
    go_wp2
    exact bodyPost_ret (v := .agg #[.int .i64 1, .int .i64 1]) (by simp [results, Tryd.results7, go_sem, *]) rfl ⟨rfl, (c0.setCell (by simp) _).setCell (by simp) _⟩
theorem mulP_any (v : Value) (rs : List (Int × Int)) (w : World) (h : Row w v rs) (hin : In64 rs) :
    Calls Tryd.prog 7 #[v] w fun e w' => e = .returned (.agg #[.int .i64 (mulAll rs).1, .int .i64 (mulAll rs).2]) ∧ Up w w' := by
  rcases h with ⟨a, c, rfl, rfl⟩ | ⟨b, off, c, rfl, hb, hl, hrow⟩
  · exact mulP_nil a c w
  · exact mulP_row b off c rs w hb hl hin hrow
theorem Row.up {w w' : World} {v : Value} {rs : List (Int × Int)} (h : Row w v rs) (k : Up w w') : Row w' v rs := by
  rcases h with ⟨a, c, rfl, rfl⟩ | ⟨b, off, c, rfl, hb, hl, hrow⟩
  · exact Or.inl ⟨a, c, rfl, rfl⟩
  · exact Or.inr ⟨b, off, c, rfl, Nat.lt_of_lt_of_le hb k.size, hl, fun i h => ⟨(k.cell _ _ hb).trans (hrow i h).1, (k.cell _ _ hb).trans (hrow i h).2⟩⟩
end Go.Proofs.YthnkaimhmldjoaaDoor
