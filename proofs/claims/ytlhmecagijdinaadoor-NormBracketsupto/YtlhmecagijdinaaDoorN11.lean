/-
  Turned fractions, differences, and the sums of some fractions.
  The least and the greatest of some fractions.
-/
import Derived.Test.YtlhmecagijdinaaDoorN07
import Derived.Test.YtlhmecagijdinaaDoorN10
import Derived.Test.YtlhmecagijdinaaDoorN03
set_option linter.unusedVariables false
namespace Go.Proofs.YtlhmecagijdinaaDoor.wk
open Go.RowKit

theorem mg_nonneg {n m X Y : Int} (x0 : 0 ≤ X) (y0 : 0 ≤ Y) : 0 ≤ mg n m X Y := by unfold mg; split <;> (try split) <;> omega
theorem add_I64' (n d m e : Int) : I64 (addN n d m e) ∧ I64 (addD n d m e) := by
  unfold addN addD
  by_cases h : (isV n d && isV m e) = true
  · rw [h]; simp only [if_true]
    simp at h
    have h1 := isV_den h.1
    have h2 := isV_den h.2
    have a1 : 0 ≤ ab n := by unfold ab; split <;> omega
    have a2 : 0 ≤ ab m := by unfold ab; split <;> omega
    exact low_I64 _ (mg_nonneg (Int.mul_nonneg a1 (by omega)) (Int.mul_nonneg a2 (by omega))) (Int.mul_nonneg (by omega) (by omega))
  · have h' : (isV n d && isV m e) = false := by simpa using h
    rw [h']; simp [I64]
theorem zero_add {n d : Int} (hn : I64 n) (hd : I64 d) : addN 0 1 n d = clN n d ∧ addD 0 1 n d = clD n d := by
  have h11 : isV 0 1 = true := by decide
  by_cases v : isV n d = true
  · obtain ⟨e1, e2⟩ := low_self hn hd v
    have hm : mayB n d = true := by simp [mayB, v]
    have a0 : ab 0 = 0 := rfl
    have hb : belw 0 n (ab 0 * d) (ab n * 1) = decide (n < 0) ∧ mg 0 n (ab 0 * d) (ab n * 1) = ab n := by
      rw [a0, Int.zero_mul, Int.mul_one]
      unfold belw mg
      by_cases h : n < 0
      · have : 0 < ab n := by unfold ab; split <;> omega
        simp [h, this]
      · simp [h]
    simp only [addN, addD, h11, v, hb.1, hb.2, Int.one_mul, clN, clD, hm, Bool.and_self, if_true]
    exact ⟨e1, e2⟩
  · have v' : isV n d = false := by simpa using v
    by_cases hm : mayB n d = true
    · have : n = 0 ∧ d = 0 := by simp [mayB, v'] at hm; exact hm
      obtain ⟨rfl, rfl⟩ := this
      simp [addN, addD, v', clN, clD]
    · have hm' : mayB n d = false := by simpa using hm
      simp [addN, addD, v', clN, clD, hm']
def addAll (rs : List (Int × Int)) : Int × Int := rs.foldl (fun p r => (addN p.1 p.2 r.1 r.2, addD p.1 p.2 r.1 r.2)) (0, 1)
theorem addAll_I64 (rs : List (Int × Int)) : I64 (addAll rs).1 ∧ I64 (addAll rs).2 := by
  unfold addAll
  have : ∀ (l : List (Int × Int)) (p : Int × Int), (I64 p.1 ∧ I64 p.2) → I64 (l.foldl (fun p r => (addN p.1 p.2 r.1 r.2, addD p.1 p.2 r.1 r.2)) p).1 ∧ I64 (l.foldl (fun p r => (addN p.1 p.2 r.1 r.2, addD p.1 p.2 r.1 r.2)) p).2 := by
    intro l
    induction l with
    | nil => intro p h; exact h
    | cons r l ih => intro p h; exact ih _ (add_I64' _ _ _ _)
  exact this rs (0, 1) (by simp [I64])
theorem addAll_snoc (rs : List (Int × Int)) (i : Nat) (h : i < rs.length) : addAll (rs.take (i + 1)) = (addN (addAll (rs.take i)).1 (addAll (rs.take i)).2 rs[i].1 rs[i].2, addD (addAll (rs.take i)).1 (addAll (rs.take i)).2 rs[i].1 rs[i].2) := by
  unfold addAll
  rw [List.take_succ_eq_append_getElem h, List.foldl_append]
  rfl
set_option maxHeartbeats 2000000 in
theorem addP_row (b off c : Nat) (rs : List (Int × Int)) (w : World) (hb : b < w.heap.size) (hlen : rs.length ≤ 9223372036854775807) (hin : In64 rs)
    (hrow : ∀ i (h : i < rs.length), w.cell? ⟨b, off + i * 2, none⟩ = some (.int .i64 rs[i].1) ∧ w.cell? ⟨b, off + i * 2 + 1, none⟩ = some (.int .i64 rs[i].2)) :
    Calls Tryd.prog 67 #[.slice (some ⟨b, off, none⟩) rs.length c] w fun e w' => e = .returned (.agg #[.int .i64 (addAll rs).1, .int .i64 (addAll rs).2]) ∧ Up w w' := by
  go_enter Tryd.func67, Tryd.ntmps67
  go_wp2_with fail
  go_loopg [9] rs.length (fun g j wr => ∃ i : Nat, j = .int .i64 i ∧ i + g = rs.length ∧ SA w wr (w.heap.size + 1) (addAll (rs.take i)).1 (addAll (rs.take i)).2)
  case atStart =>
    refine ⟨0, rfl, by omega, ?_⟩
    refine ⟨((Up.refl _).alloc _ _).alloc _ _, by omega, by simp, ?_, ?_, ?_, ?_⟩ <;> simp [go_sem, addAll]
  case round =>
    obtain ⟨i, rfl, hi2, s⟩ := hrel
    obtain ⟨c0, c1, c2, c3, c4, c5, c6⟩ := id s
    obtain ⟨f0, f1⟩ := s.fz
    by_cases hlt : i < rs.length
    · have hlt2 : (i : Int) < (rs.length : Int) := by omega
      obtain ⟨r0, r1⟩ := hrow i hlt
      have k0 := (c0.cell b (off + i * 2) hb).trans r0
      have k1 := (c0.cell b (off + i * 2 + 1) hb).trans r1
      have hsn := addAll_snoc rs i hlt
      have HS : Hid _ := hsn
      obtain ⟨i1, i2⟩ := addAll_I64 (rs.take i)
      obtain ⟨j1, j2⟩ := hin rs[i] (List.getElem_mem hlt)
      clear hsn hrow hin
      generalize (addAll (rs.take i)).1 = p at *
      generalize (addAll (rs.take i)).2 = q at *
      generalize rs[i].1 = x at *
      generalize rs[i].2 = y at *
      go_wp2_with (go_at_call 86; refine (plus_any _ _ _ _ _ i1 i2 j1 j2).mono ?_; rintro _ wl ⟨rfl, hl⟩; have sl := (s.up ((Up.refl _).alloc _ _)).up hl; obtain ⟨t0, t1, t2, t3, t4, t5, t6⟩ := id sl; obtain ⟨m0, m1⟩ := sl.fz)
      go_roundg (gk - 1)
      case measure => omega
      case rel => exact ⟨i + 1, by go_num, by omega, by rw [HS.out]; exact sl.set _ _⟩
    · have hlt2 : ¬ (i : Int) < (rs.length : Int) := by omega
      have hfin : Hid (addAll (rs.take i) = addAll rs) := by rw [Hid, List.take_of_length_le (by omega)]
      clear hrow hin
      generalize addAll (rs.take i) = z at *
      go_wp2
      exact bodyPost_ret (v := .agg #[.int .i64 z.1, .int .i64 z.2]) (by simp [results, Tryd.results67, go_sem, *]) rfl ⟨by rw [hfin.out], (c0.setCell (by simp) _).setCell (by simp) _⟩
theorem addP_nil (a : Option Addr) (c : Nat) (w : World) :
    Calls Tryd.prog 67 #[.slice a 0 c] w fun e w' => e = .returned (.agg #[.int .i64 0, .int .i64 1]) ∧ Up w w' := by
  go_enter Tryd.func67, Tryd.ntmps67
  go_wp2_with fail
  go_loopg [9] 0 (fun g j wr => j = .int .i64 0 ∧ SA w wr (w.heap.size + 1) 0 1)
  case atStart =>
    refine ⟨rfl, ?_⟩
    refine ⟨((Up.refl _).alloc _ _).alloc _ _, by omega, by simp, ?_, ?_, ?_, ?_⟩ <;> simp [go_sem]
  case round =>
    obtain ⟨rfl, s⟩ := hrel
    obtain ⟨c0, c1, c2, c3, c4, c5, c6⟩ := id s
    obtain ⟨f0, f1⟩ := s.fz
    go_wp2
    exact bodyPost_ret (v := .agg #[.int .i64 0, .int .i64 1]) (by simp [results, Tryd.results67, go_sem, *]) rfl ⟨rfl, (c0.setCell (by simp) _).setCell (by simp) _⟩
theorem addP_any (v : Value) (rs : List (Int × Int)) (w : World) (h : Row w v rs) (hin : In64 rs) :
    Calls Tryd.prog 67 #[v] w fun e w' => e = .returned (.agg #[.int .i64 (addAll rs).1, .int .i64 (addAll rs).2]) ∧ Up w w' := by
  rcases h with ⟨a, c, rfl, rfl⟩ | ⟨b, off, c, rfl, hb, hl, hrow⟩
  · exact addP_nil a c w
  · exact addP_row b off c rs w hb hl hin hrow
def ngN (n d : Int) : Int := if isV n d then -n else 0
def ngD (n d : Int) : Int := if isV n d then d else 0
theorem ng_I64 {n d : Int} (hn : I64 n) (hd : I64 d) : I64 (ngN n d) ∧ I64 (ngD n d) := by
  unfold ngN ngD
  by_cases v : isV n d = true
  · have := isV_num v
    simp only [v, if_true]
    unfold I64 at *
    omega
  · have v' : isV n d = false := by simpa using v
    simp [v', I64]
/-- A fraction and a result in memory. -/
theorem negP_any (n d : Int) (w : World) (hn : I64 n) (hd : I64 d) :
    Calls Tryd.prog 79 #[.agg #[.int .i64 n, .int .i64 d]] w fun e w' => e = .returned (.agg #[.int .i64 (ngN n d), .int .i64 (ngD n d)]) ∧ Up w w' := by
  obtain ⟨n1, n2⟩ := id hn; obtain ⟨d1, d2⟩ := id hd
  by_cases v : isV n d = true
  · rw [show ngN n d = -n by simp [ngN, v], show ngD n d = d by simp [ngD, v]]
    have hnm := isV_num v
    go_enter Tryd.func79, Tryd.ntmps79
    go_wp2_with (go_at_call 90; refine (isValue64 _ _ _ hn hd).mono ?_; rintro _ wl ⟨rfl, hl⟩; have c0 := hl.cell w.heap.size 0 (by simp; omega); have c1 := hl.cell w.heap.size 1 (by simp; omega); have c2 := hl.cell (w.heap.size + 1) 0 (by simp); have c3 := hl.cell (w.heap.size + 1) 1 (by simp); have m0 := hl.2 ⟨w.heap.size + 1, 0, none⟩; have m1 := hl.2 ⟨w.heap.size + 1, 1, none⟩; simp [go_sem] at c0 c1 c2 c3 m0 m1; simp only [v])
    exact bodyPost_ret (v := .agg #[.int .i64 (-n), .int .i64 d]) (by simp [results, Tryd.results79, go_sem, *]) rfl ⟨rfl, (((((Up.refl _).alloc _ _).alloc _ _).trans hl).setCell (by simp) _).setCell (by simp) _⟩
  · have v' : isV n d = false := by simpa using v
    rw [show ngN n d = 0 by simp [ngN, v'], show ngD n d = 0 by simp [ngD, v']]
    go_enter Tryd.func79, Tryd.ntmps79
    go_wp2_with (go_at_call 90; refine (isValue64 _ _ _ hn hd).mono ?_; rintro _ wl ⟨rfl, hl⟩; have c0 := hl.cell w.heap.size 0 (by simp; omega); have c1 := hl.cell w.heap.size 1 (by simp; omega); have c2 := hl.cell (w.heap.size + 1) 0 (by simp); have c3 := hl.cell (w.heap.size + 1) 1 (by simp); have m0 := hl.2 ⟨w.heap.size + 1, 0, none⟩; have m1 := hl.2 ⟨w.heap.size + 1, 1, none⟩; simp [go_sem] at c0 c1 c2 c3 m0 m1; simp only [v'])
    exact bodyPost_ret (v := .agg #[.int .i64 0, .int .i64 0]) (by simp [results, Tryd.results79, go_sem, *]) rfl ⟨rfl, (((((Up.refl _).alloc _ _).alloc _ _).trans hl).setCell (by simp) _).setCell (by simp) _⟩
def sbN (n d m e : Int) : Int := addN n d (ngN m e) (ngD m e)
def sbD (n d m e : Int) : Int := addD n d (ngN m e) (ngD m e)
attribute [local go_sem ↓] Go.wp_at_zero Go.wp_at_succ
/-- Some fractions that the call itself lays into a row. -/
theorem row_two (w : World) (n d m e : Int) (t : TypeId) : Row (w.alloc (.cells #[.int .i64 n, .int .i64 d, .int .i64 m, .int .i64 e] t)) (.slice (some ⟨w.heap.size, 0, none⟩) 2 2) [(n, d), (m, e)] := by
  refine Or.inr ⟨w.heap.size, 0, 2, rfl, by simp, by simp, ?_⟩
  intro i h
  have : i = 0 ∨ i = 1 := by simp at h; omega
  rcases this with rfl | rfl <;> simp [go_sem]
theorem add_awake : addAll [(1, 2), (1, 3)] = (5, 6) := by decide
theorem in_awake : In64 [(1, 2), (1, 3)] := by intro r hr; simp at hr; rcases hr with rfl | rfl <;> simp [I64]
theorem neg_half : ngN 1 2 = -1 ∧ ngD 1 2 = 2 := by decide
end Go.Proofs.YtlhmecagijdinaaDoor.wk
set_option linter.unusedVariables false
namespace Go.Proofs.YtlhmecagijdinaaDoor.wk
open Go.RowKit

def utS (k : Int) (o : Option (Int × Int)) (r : Int × Int) : Option (Int × Int) :=
  o.bind fun b => if isV r.1 r.2 && isV b.1 b.2 then some (if cq r.1 r.2 b.1 b.2 = k then r else b) else none
def utF (k : Int) (rs : List (Int × Int)) (b : Int × Int) : Option (Int × Int) := rs.foldl (utS k) (some b)
def utAll (k : Int) (rs : List (Int × Int)) : Int × Int := match rs with | [] => (0, 0) | r :: l => (utF k (r :: l) r).getD (0, 0)
theorem utF_snoc (k : Int) (rs : List (Int × Int)) (b : Int × Int) (i : Nat) (h : i < rs.length) (z : Int × Int) (hz : utF k (rs.take i) b = some z) :
    utF k (rs.take (i + 1)) b = if isV rs[i].1 rs[i].2 && isV z.1 z.2 then some (if cq rs[i].1 rs[i].2 z.1 z.2 = k then rs[i] else z) else none := by
  unfold utF at *
  rw [List.take_succ_eq_append_getElem h, List.foldl_append, hz]
  rfl
theorem foldl_none (k : Int) (rs : List (Int × Int)) : rs.foldl (utS k) none = none := by
  induction rs with
  | nil => rfl
  | cons r l ih => exact ih
theorem utF_none (k : Int) (rs : List (Int × Int)) (b : Int × Int) (i : Nat) (h : i < rs.length) (hz : utF k (rs.take (i + 1)) b = none) : utF k rs b = none := by
  have e : rs = rs.take (i + 1) ++ rs.drop (i + 1) := (List.take_append_drop _ _).symm
  unfold utF at *
  rw [e, List.foldl_append, hz, foldl_none]
set_option maxHeartbeats 2000000 in
theorem utP_row (k : Int) (b off c : Nat) (r : Int × Int) (l : List (Int × Int)) (w : World) (hb : b < w.heap.size) (hlen : (r :: l).length ≤ 9223372036854775807) (hin : In64 (r :: l))
    (hrow : ∀ i (h : i < (r :: l).length), w.cell? ⟨b, off + i * 2, none⟩ = some (.int .i64 (r :: l)[i].1) ∧ w.cell? ⟨b, off + i * 2 + 1, none⟩ = some (.int .i64 (r :: l)[i].2)) :
    Calls Tryd.prog 87 #[.slice (some ⟨b, off, none⟩) (r :: l).length c, .int .i64 k] w fun e w' => e = .returned (.agg #[.int .i64 (utAll k (r :: l)).1, .int .i64 (utAll k (r :: l)).2]) ∧ Up w w' := by
  obtain ⟨f0, f1⟩ := hrow 0 (by simp)
  rw [show off + 0 * 2 = off by omega] at f0 f1
  simp only [List.getElem_cons_zero] at f0 f1
  have hne : (((r :: l).length : Int) == 0) = false := by simp <;> omega
  have hpos : (0 : Int) < ((r :: l).length : Int) := by simp <;> omega
  have hi0 := hin r (by simp)
  generalize hrs : r :: l = rs at *
  have hut : utAll k rs = (utF k rs r).getD (0, 0) := by rw [← hrs]; rfl
  have HUT : Hid _ := hut
  clear hut hrs
  go_enter Tryd.func87, Tryd.ntmps87
  go_wp2_with fail
  go_loopg [8, 9, 19] rs.length (fun g u8 u9 j wr => ∃ (i : Nat) (p q : Int), j = .int .i64 i ∧ i + g = rs.length ∧ I64 p ∧ I64 q ∧ Hid (utF k (rs.take i) r = some (p, q)) ∧ SA w wr (w.heap.size + 1) p q)
  case atStart =>
    refine ⟨0, r.1, r.2, rfl, by omega, hi0.1, hi0.2, rfl, ?_⟩
    refine ⟨((Up.refl _).alloc _ _).alloc _ _, by omega, by simp, ?_, ?_, ?_, ?_⟩ <;> simp [go_sem]
  case round =>
    obtain ⟨i, p, q, rfl, hi2, ip, iq, hF, s⟩ := hrel
    obtain ⟨c0, c1, c2, c3, c4, c5, c6⟩ := id s
    obtain ⟨g0, g1⟩ := s.fz
    by_cases hlt : i < rs.length
    · have hlt2 : (i : Int) < (rs.length : Int) := by omega
      obtain ⟨r0, r1⟩ := hrow i hlt
      have k0 := (c0.cell b (off + i * 2) hb).trans r0
      have k1 := (c0.cell b (off + i * 2 + 1) hb).trans r1
      have HS : Hid _ := utF_snoc k rs r i hlt (p, q) hF.out
      obtain ⟨j1, j2⟩ := hin rs[i] (List.getElem_mem hlt)
      have HN := utF_none k rs r i hlt
      clear hrow hin f0 f1
      generalize hx : rs[i].1 = x at *
      generalize hy : rs[i].2 = y at *
      by_cases hv : (isV x y && isV p q) = true
      · have C : Hid (cmpR x y p q = .tuple #[.int .i64 (cq x y p q), .bool true]) := by simp [Hid, cmpR, hv]
        by_cases hc : cq x y p q = k
        · have hc' : (cq x y p q == k) = true := by simpa using hc
          have HT : Hid (utF k (rs.take (i + 1)) r = some (x, y)) := by
            have h := HS.out
            simp only [hv, hc, if_true] at h
            rw [Hid, h, ← hx, ← hy]
          clear HS HN hc hx hy
          go_wp2_with (go_at_call 95; refine (cmp_any _ _ _ _ _ j1 j2 ip iq).mono ?_; rintro _ wl ⟨rfl, hl⟩; have sl := (s.up ((Up.refl _).alloc _ _)).up hl; have e0 := hl.cell wr.heap.size 0 (by simp); have e1 := hl.cell wr.heap.size 1 (by simp); simp [go_sem] at e0 e1; obtain ⟨t0, t1, t2, t3, t4, t5, t6⟩ := id sl; obtain ⟨m0, m1⟩ := sl.fz; simp only [C.out])
          go_roundg (gk - 1)
          case measure => omega
          case rel => exact ⟨i + 1, x, y, by go_num, by omega, j1, j2, HT, sl.set _ _⟩
        · have hc' : (cq x y p q == k) = false := by simpa using hc
          have HT : Hid (utF k (rs.take (i + 1)) r = some (p, q)) := by
            have h := HS.out
            simp only [hv, hc, if_true, if_false] at h
            exact h
          clear HS HN hc hx hy
          go_wp2_with (go_at_call 95; refine (cmp_any _ _ _ _ _ j1 j2 ip iq).mono ?_; rintro _ wl ⟨rfl, hl⟩; have sl := (s.up ((Up.refl _).alloc _ _)).up hl; obtain ⟨t0, t1, t2, t3, t4, t5, t6⟩ := id sl; obtain ⟨m0, m1⟩ := sl.fz; simp only [C.out])
          go_roundg (gk - 1)
          case measure => omega
          case rel => exact ⟨i + 1, p, q, by go_num, by omega, ip, iq, HT, sl⟩
      · have hv' : (isV x y && isV p q) = false := by simpa using hv
        have C : Hid (cmpR x y p q = .tuple #[.int .i64 0, .bool false]) := by simp [Hid, cmpR, hv']
        have HT : Hid (utAll k rs = (0, 0)) := by
          have h := HS.out
          simp only [hv'] at h
          rw [Hid, HUT.out, HN (by simpa using h)]
          rfl
        clear HS HN HUT hx hy
        go_wp2_with (first | (go_at_call 95; refine (cmp_any _ _ _ _ _ j1 j2 ip iq).mono ?_; rintro _ wl ⟨rfl, hl⟩; have sl := (s.up ((Up.refl _).alloc _ _)).up hl; obtain ⟨t0, t1, t2, t3, t4, t5, t6⟩ := id sl; obtain ⟨m0, m1⟩ := sl.fz; simp only [C.out]))
        exact bodyPost_ret (v := .agg #[.int .i64 0, .int .i64 0]) (by simp [results, Tryd.results87, go_sem, *]) rfl ⟨by rw [HT.out], (t0.setCell (by simp) _).setCell (by simp) _⟩
    · have hlt2 : ¬ (i : Int) < (rs.length : Int) := by omega
      have hfin : Hid (utAll k rs = (p, q)) := by
        have h := hF.out
        rw [List.take_of_length_le (by omega)] at h
        rw [Hid, HUT.out, h]
        rfl
      clear hrow hin HUT hF f0 f1
      go_wp2
      exact bodyPost_ret (v := .agg #[.int .i64 p, .int .i64 q]) (by simp [results, Tryd.results87, go_sem, *]) rfl ⟨by rw [hfin.out], (c0.setCell (by simp) _).setCell (by simp) _⟩
theorem utP_nil (k : Int) (a : Option Addr) (c : Nat) (w : World) :
    Calls Tryd.prog 87 #[.slice a 0 c, .int .i64 k] w fun e w' => e = .returned (.agg #[.int .i64 0, .int .i64 0]) ∧ Up w w' := by
  go_enter Tryd.func87, Tryd.ntmps87
  go_wp2
  exact bodyPost_ret (v := .agg #[.int .i64 0, .int .i64 0]) (by simp [results, Tryd.results87, go_sem]) rfl ⟨rfl, (Up.refl _).alloc _ _⟩
theorem utP_any (k : Int) (v : Value) (rs : List (Int × Int)) (w : World) (h : Row w v rs) (hin : In64 rs) :
    Calls Tryd.prog 87 #[v, .int .i64 k] w fun e w' => e = .returned (.agg #[.int .i64 (utAll k rs).1, .int .i64 (utAll k rs).2]) ∧ Up w w' := by
  rcases h with ⟨a, c, rfl, rfl⟩ | ⟨b, off, c, rfl, hb, hl, hrow⟩
  · exact utP_nil k a c w
  · match rs, hl, hin, hrow with
    | [], _, _, _ => exact utP_nil k _ c w
    | r :: l, hl, hin, hrow => exact utP_row k b off c r l w hb hl hin hrow
theorem leastP_any (v : Value) (rs : List (Int × Int)) (w : World) (h : Row w v rs) (hin : In64 rs) :
    Calls Tryd.prog 74 #[v] w fun e w' => e = .returned (.agg #[.int .i64 (utAll (-1) rs).1, .int .i64 (utAll (-1) rs).2]) ∧ Up w w' := by
  have f0 := frozen_new w w.heap.size 0 (Nat.le_refl _)
  have f1 := frozen_new w w.heap.size 1 (Nat.le_refl _)
  go_enter Tryd.func74, Tryd.ntmps74
  go_wp2_with (go_at_call 87; refine (utP_any (-1) _ rs _ (h.up ((Up.refl _).alloc _ _)) hin).mono ?_; rintro _ wl ⟨rfl, hl⟩; have c0 := hl.cell w.heap.size 0 (by simp); have c1 := hl.cell w.heap.size 1 (by simp); have m0 := hl.2 ⟨w.heap.size, 0, none⟩; have m1 := hl.2 ⟨w.heap.size, 1, none⟩; simp [go_sem] at c0 c1 m0 m1)
  exact bodyPost_ret (v := .agg #[.int .i64 (utAll (-1) rs).1, .int .i64 (utAll (-1) rs).2]) (by simp [results, Tryd.results74, go_sem, *]) rfl ⟨rfl, ((((Up.refl _).alloc _ _).trans hl).setCell (by simp) _).setCell (by simp) _⟩
theorem mostP_any (v : Value) (rs : List (Int × Int)) (w : World) (h : Row w v rs) (hin : In64 rs) :
    Calls Tryd.prog 73 #[v] w fun e w' => e = .returned (.agg #[.int .i64 (utAll (1) rs).1, .int .i64 (utAll (1) rs).2]) ∧ Up w w' := by
  have f0 := frozen_new w w.heap.size 0 (Nat.le_refl _)
  have f1 := frozen_new w w.heap.size 1 (Nat.le_refl _)
  go_enter Tryd.func73, Tryd.ntmps73
  go_wp2_with (go_at_call 87; refine (utP_any 1 _ rs _ (h.up ((Up.refl _).alloc _ _)) hin).mono ?_; rintro _ wl ⟨rfl, hl⟩; have c0 := hl.cell w.heap.size 0 (by simp); have c1 := hl.cell w.heap.size 1 (by simp); have m0 := hl.2 ⟨w.heap.size, 0, none⟩; have m1 := hl.2 ⟨w.heap.size, 1, none⟩; simp [go_sem] at c0 c1 m0 m1)
  exact bodyPost_ret (v := .agg #[.int .i64 (utAll (1) rs).1, .int .i64 (utAll (1) rs).2]) (by simp [results, Tryd.results73, go_sem, *]) rfl ⟨rfl, ((((Up.refl _).alloc _ _).trans hl).setCell (by simp) _).setCell (by simp) _⟩
theorem most_awake : utAll 1 [(1, 2), (2, 3)] = (2, 3) := by decide
theorem in_most : In64 [(1, 2), (2, 3)] := by intro r hr; simp at hr; rcases hr with rfl | rfl <;> simp [I64]
end Go.Proofs.YtlhmecagijdinaaDoor.wk
