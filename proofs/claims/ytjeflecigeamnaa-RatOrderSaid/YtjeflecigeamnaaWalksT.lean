/-
  The least and the greatest of some fractions.
-/
import Derived.Test.YtjeflecigeamnaaWalksD2
import Derived.Test.YtjeflecigeamnaaWalksS
set_option linter.unusedVariables false
namespace Go.Proofs.Ytjeflecigeamnaa
open Go.RowKit

def utS (k : Int) (o : Option (Int × Int)) (r : Int × Int) : Option (Int × Int) :=
  o.bind fun b => if isV r.1 r.2 && isV b.1 b.2 then some (if cq r.1 r.2 b.1 b.2 = k then r else b) else none
def utF (k : Int) (rs : List (Int × Int)) (b : Int × Int) : Option (Int × Int) := rs.foldl (utS k) (some b)
def utAll (k : Int) (rs : List (Int × Int)) : Int × Int := match rs with | [] => (0, 0) | r :: l => (utF k (r :: l) r).getD (0, 0)
theorem utF_snoc (k : Int) (rs : List (Int × Int)) (b : Int × Int) (i : Nat) (h : i < rs.length) (z : Int × Int) (hz : utF k (rs.take i) b = some z) :
    utF k (rs.take (i + 1)) b = if isV rs[i].1 rs[i].2 && isV z.1 z.2 then some (if cq rs[i].1 rs[i].2 z.1 z.2 = k then rs[i] else z) else none := by
  unfold utF at *
  rw [List.take_succ_eq_append_getElem h, List.foldl_append, hz]
  rfl
theorem foldl_none (k : Int) (rs : List (Int × Int)) : rs.foldl (utS k) none = none := by
  induction rs with
  | nil => rfl
  | cons r l ih => exact ih
theorem utF_none (k : Int) (rs : List (Int × Int)) (b : Int × Int) (i : Nat) (h : i < rs.length) (hz : utF k (rs.take (i + 1)) b = none) : utF k rs b = none := by
  have e : rs = rs.take (i + 1) ++ rs.drop (i + 1) := (List.take_append_drop _ _).symm
  unfold utF at *
  rw [e, List.foldl_append, hz, foldl_none]
set_option maxHeartbeats 2000000 in
theorem utP_row (k : Int) (b off c : Nat) (r : Int × Int) (l : List (Int × Int)) (w : World) (hb : b < w.heap.size) (hlen : (r :: l).length ≤ 9223372036854775807) (hin : In64 (r :: l))
    (hrow : ∀ i (h : i < (r :: l).length), w.cell? ⟨b, off + i * 2, none⟩ = some (.int .i64 (r :: l)[i].1) ∧ w.cell? ⟨b, off + i * 2 + 1, none⟩ = some (.int .i64 (r :: l)[i].2)) :
    Calls Try.prog 19 #[.slice (some ⟨b, off, none⟩) (r :: l).length c, .int .i64 k] w fun e w' => e = .returned (.agg #[.int .i64 (utAll k (r :: l)).1, .int .i64 (utAll k (r :: l)).2]) ∧ Up w w' := by
  obtain ⟨f0, f1⟩ := hrow 0 (by simp)
  rw [show off + 0 * 2 = off by omega] at f0 f1
  simp only [List.getElem_cons_zero] at f0 f1
  have hne : (((r :: l).length : Int) == 0) = false := by simp <;> omega
  have hpos : (0 : Int) < ((r :: l).length : Int) := by simp <;> omega
  have hi0 := hin r (by simp)
  generalize hrs : r :: l = rs at *
  have hut : utAll k rs = (utF k rs r).getD (0, 0) := by rw [← hrs]; rfl
  have HUT : Hid _ := hut
  clear hut hrs
  go_enter Try.func19, Try.ntmps19
  go_wp2_with fail
  go_loopg [8, 9, 19] rs.length (fun g u8 u9 j wr => ∃ (i : Nat) (p q : Int), j = .int .i64 i ∧ i + g = rs.length ∧ I64 p ∧ I64 q ∧ Hid (utF k (rs.take i) r = some (p, q)) ∧ SA w wr (w.heap.size + 1) p q)
  case atStart =>
    refine ⟨0, r.1, r.2, rfl, by omega, hi0.1, hi0.2, rfl, ?_⟩
    refine ⟨((Up.refl _).alloc _ _).alloc _ _, by omega, by simp, ?_, ?_, ?_, ?_⟩ <;> simp [go_sem]
  case round =>
    obtain ⟨i, p, q, rfl, hi2, ip, iq, hF, s⟩ := hrel
    obtain ⟨c0, c1, c2, c3, c4, c5, c6⟩ := id s
    obtain ⟨g0, g1⟩ := s.fz
    by_cases hlt : i < rs.length
    · have hlt2 : (i : Int) < (rs.length : Int) := by omega
      obtain ⟨r0, r1⟩ := hrow i hlt
      have k0 := (c0.cell b (off + i * 2) hb).trans r0
      have k1 := (c0.cell b (off + i * 2 + 1) hb).trans r1
      have HS : Hid _ := utF_snoc k rs r i hlt (p, q) hF.out
      obtain ⟨j1, j2⟩ := hin rs[i] (List.getElem_mem hlt)
      have HN := utF_none k rs r i hlt
      clear hrow hin f0 f1
      generalize hx : rs[i].1 = x at *
      generalize hy : rs[i].2 = y at *
      by_cases hv : (isV x y && isV p q) = true
      · have C : Hid (cmpR x y p q = .tuple #[.int .i64 (cq x y p q), .bool true]) := by simp [Hid, cmpR, hv]
        by_cases hc : cq x y p q = k
        · have hc' : (cq x y p q == k) = true := by simpa using hc
          have HT : Hid (utF k (rs.take (i + 1)) r = some (x, y)) := by
            have h := HS.out
            simp only [hv, hc, if_true] at h
            rw [Hid, h, ← hx, ← hy]
          clear HS HN hc hx hy
          go_wp2_with (go_at_call 5; refine (cmp_any _ _ _ _ _ j1 j2 ip iq).mono ?_; rintro _ wl ⟨rfl, hl⟩; have sl := (s.up ((Up.refl _).alloc _ _)).up hl; have e0 := hl.cell wr.heap.size 0 (by simp); have e1 := hl.cell wr.heap.size 1 (by simp); simp [go_sem] at e0 e1; obtain ⟨t0, t1, t2, t3, t4, t5, t6⟩ := id sl; obtain ⟨m0, m1⟩ := sl.fz; simp only [C.out])
          go_roundg (gk - 1)
          case measure => omega
          case rel => exact ⟨i + 1, x, y, by go_num, by omega, j1, j2, HT, sl.set _ _⟩
        · have hc' : (cq x y p q == k) = false := by simpa using hc
          have HT : Hid (utF k (rs.take (i + 1)) r = some (p, q)) := by
            have h := HS.out
            simp only [hv, hc, if_true, if_false] at h
            exact h
          clear HS HN hc hx hy
          go_wp2_with (go_at_call 5; refine (cmp_any _ _ _ _ _ j1 j2 ip iq).mono ?_; rintro _ wl ⟨rfl, hl⟩; have sl := (s.up ((Up.refl _).alloc _ _)).up hl; obtain ⟨t0, t1, t2, t3, t4, t5, t6⟩ := id sl; obtain ⟨m0, m1⟩ := sl.fz; simp only [C.out])
          go_roundg (gk - 1)
          case measure => omega
          case rel => exact ⟨i + 1, p, q, by go_num, by omega, ip, iq, HT, sl⟩
      · have hv' : (isV x y && isV p q) = false := by simpa using hv
        have C : Hid (cmpR x y p q = .tuple #[.int .i64 0, .bool false]) := by simp [Hid, cmpR, hv']
        have HT : Hid (utAll k rs = (0, 0)) := by
          have h := HS.out
          simp only [hv'] at h
          rw [Hid, HUT.out, HN (by simpa using h)]
          rfl
        clear HS HN HUT hx hy
        go_wp2_with (first | (go_at_call 5; refine (cmp_any _ _ _ _ _ j1 j2 ip iq).mono ?_; rintro _ wl ⟨rfl, hl⟩; have sl := (s.up ((Up.refl _).alloc _ _)).up hl; obtain ⟨t0, t1, t2, t3, t4, t5, t6⟩ := id sl; obtain ⟨m0, m1⟩ := sl.fz; simp only [C.out]))
        exact bodyPost_ret (v := .agg #[.int .i64 0, .int .i64 0]) (by simp [results, Try.results19, go_sem, *]) rfl ⟨by rw [HT.out], (t0.setCell (by simp) _).setCell (by simp) _⟩
    · have hlt2 : ¬ (i : Int) < (rs.length : Int) := by omega
      have hfin : Hid (utAll k rs = (p, q)) := by
        have h := hF.out
        rw [List.take_of_length_le (by omega)] at h
        rw [Hid, HUT.out, h]
        rfl
      clear hrow hin HUT hF f0 f1
      go_wp2
      exact bodyPost_ret (v := .agg #[.int .i64 p, .int .i64 q]) (by simp [results, Try.results19, go_sem, *]) rfl ⟨by rw [hfin.out], (c0.setCell (by simp) _).setCell (by simp) _⟩
theorem utP_nil (k : Int) (a : Option Addr) (c : Nat) (w : World) :
    Calls Try.prog 19 #[.slice a 0 c, .int .i64 k] w fun e w' => e = .returned (.agg #[.int .i64 0, .int .i64 0]) ∧ Up w w' := by
  go_enter Try.func19, Try.ntmps19
  go_wp2
  exact bodyPost_ret (v := .agg #[.int .i64 0, .int .i64 0]) (by simp [results, Try.results19, go_sem]) rfl ⟨rfl, (Up.refl _).alloc _ _⟩
theorem utP_any (k : Int) (v : Value) (rs : List (Int × Int)) (w : World) (h : Row w v rs) (hin : In64 rs) :
    Calls Try.prog 19 #[v, .int .i64 k] w fun e w' => e = .returned (.agg #[.int .i64 (utAll k rs).1, .int .i64 (utAll k rs).2]) ∧ Up w w' := by
  rcases h with ⟨a, c, rfl, rfl⟩ | ⟨b, off, c, rfl, hb, hl, hrow⟩
  · exact utP_nil k a c w
  · match rs, hl, hin, hrow with
    | [], _, _, _ => exact utP_nil k _ c w
    | r :: l, hl, hin, hrow => exact utP_row k b off c r l w hb hl hin hrow
theorem leastP_any (v : Value) (rs : List (Int × Int)) (w : World) (h : Row w v rs) (hin : In64 rs) :
    Calls Try.prog 9 #[v] w fun e w' => e = .returned (.agg #[.int .i64 (utAll (-1) rs).1, .int .i64 (utAll (-1) rs).2]) ∧ Up w w' := by
  have f0 := frozen_new w w.heap.size 0 (Nat.le_refl _)
  have f1 := frozen_new w w.heap.size 1 (Nat.le_refl _)
  go_enter Try.func9, Try.ntmps9
  go_wp2_with (go_at_call 19; refine (utP_any (-1) _ rs _ (h.up ((Up.refl _).alloc _ _)) hin).mono ?_; rintro _ wl ⟨rfl, hl⟩; have c0 := hl.cell w.heap.size 0 (by simp); have c1 := hl.cell w.heap.size 1 (by simp); have m0 := hl.2 ⟨w.heap.size, 0, none⟩; have m1 := hl.2 ⟨w.heap.size, 1, none⟩; simp [go_sem] at c0 c1 m0 m1)
  exact bodyPost_ret (v := .agg #[.int .i64 (utAll (-1) rs).1, .int .i64 (utAll (-1) rs).2]) (by simp [results, Try.results9, go_sem, *]) rfl ⟨rfl, ((((Up.refl _).alloc _ _).trans hl).setCell (by simp) _).setCell (by simp) _⟩
theorem mostP_any (v : Value) (rs : List (Int × Int)) (w : World) (h : Row w v rs) (hin : In64 rs) :
    Calls Try.prog 10 #[v] w fun e w' => e = .returned (.agg #[.int .i64 (utAll (1) rs).1, .int .i64 (utAll (1) rs).2]) ∧ Up w w' := by
  have f0 := frozen_new w w.heap.size 0 (Nat.le_refl _)
  have f1 := frozen_new w w.heap.size 1 (Nat.le_refl _)
  go_enter Try.func10, Try.ntmps10
  go_wp2_with (go_at_call 19; refine (utP_any 1 _ rs _ (h.up ((Up.refl _).alloc _ _)) hin).mono ?_; rintro _ wl ⟨rfl, hl⟩; have c0 := hl.cell w.heap.size 0 (by simp); have c1 := hl.cell w.heap.size 1 (by simp); have m0 := hl.2 ⟨w.heap.size, 0, none⟩; have m1 := hl.2 ⟨w.heap.size, 1, none⟩; simp [go_sem] at c0 c1 m0 m1)
  exact bodyPost_ret (v := .agg #[.int .i64 (utAll (1) rs).1, .int .i64 (utAll (1) rs).2]) (by simp [results, Try.results10, go_sem, *]) rfl ⟨rfl, ((((Up.refl _).alloc _ _).trans hl).setCell (by simp) _).setCell (by simp) _⟩
theorem most_awake : utAll 1 [(1, 2), (2, 3)] = (2, 3) := by decide
theorem in_most : In64 [(1, 2), (2, 3)] := by intro r hr; simp at hr; rcases hr with rfl | rfl <;> simp [I64]
end Go.Proofs.Ytjeflecigeamnaa
