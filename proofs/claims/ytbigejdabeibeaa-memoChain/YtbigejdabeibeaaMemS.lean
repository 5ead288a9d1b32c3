/-
  Each once: cells that ask the cells ahead of them: the law.
-/
import Derived.Test.YtbigejdabeibeaaMemR
set_option linter.unusedVariables false
set_option linter.unusedSimpArgs false
namespace Go.Proofs.Ytbigejdabeibeaa
open Go.RowKit

theorem Ch.keep2 {w0 W : World} {c b cb : Nat} {p : Nat} {x y u : Value} (h : Ch (fun _ => False) w0 W) (l1 : c < w0.heap.size) (h1 : w0.cell? ⟨c, 0, none⟩ = some x) (l2 : b < w0.heap.size) (h2 : w0.cell? ⟨b, 0, none⟩ = some y) (l3 : cb < w0.heap.size) (h3 : w0.cell? ⟨cb, p, none⟩ = some u) (h4 : w0.frozen? ⟨cb, p, none⟩ = false) :
    W.cell? ⟨c, 0, none⟩ = some x ∧ W.cell? ⟨b, 0, none⟩ = some y ∧ W.cell? ⟨cb, p, none⟩ = some u ∧ W.frozen? ⟨cb, p, none⟩ = false :=
  ⟨(h.cell l1 (fun f => f) 0).trans h1, (h.cell l2 (fun f => f) 0).trans h2, (h.cell l3 (fun f => f) p).trans h3, (h.frozen l3 (fun f => f) p).trans h4⟩
theorem Ch.drewN {S : Nat → Prop} {a w : World} (h : Ch S a w) (n : Nat) : Ch S a (w.drewN n) := ⟨h.os, h.tape, h.output, h.size, h.block⟩
/-- What a round of the making wants. -/
theorem relC1_look {w wr : World} {m p : Nat} (h : RelC1 w m p wr) (hp : p < m) : w.heap.size + 1 + 1 + 1 < wr.heap.size ∧ wr.cell? ⟨w.heap.size + 1 + 1 + 1, 0, none⟩ = some (.slice (some ⟨w.heap.size + 1 + 1, 0, none⟩) m m) ∧ w.heap.size + 1 + 1 < wr.heap.size ∧ (∃ u, wr.cell? ⟨w.heap.size + 1 + 1, p, none⟩ = some u) ∧ wr.frozen? ⟨w.heap.size + 1 + 1, p, none⟩ = false := by
  obtain ⟨L, e1, e2, e3, e4, e5, C, A, K, B⟩ := h
  have h1 := C.cl; have h2 := C.c0; have h3 := C.cbl; have h4 := C.cv p (by omega); have h5 := C.cz p
  rw [e3] at h1 h2
  rw [e5] at h2 h3 h4 h5
  rw [e1] at h2
  exact ⟨h1, h2, h3, h4, h5⟩
set_option maxRecDepth 100000 in
set_option maxHeartbeats 8000000 in
theorem law_chain (n : Int) (v : Value) (len : Nat) (w : World) (h1 : -9223372036854775808 ≤ n) (h2 : n ≤ 9223372036854775807) (hv0 : Ints w v len) :
    Calls Try.prog 8 #[.int .i64 n, v] w fun e w' => e = .returned (.bool true) ∧ Below w.heap.size w w' := by
  obtain ⟨a, c, rfl, hlen, hcell⟩ := hv0
  have HC := hide hcell
  clear hcell
  obtain ⟨m, hm, hm1, hm2⟩ := size_of n h1 h2
  have a1 := Int.tmod_lt_of_pos n (show (0 : Int) < 20 by omega)
  have a2 := Int.lt_tmod_of_pos n (show (0 : Int) < 20 by omega)
  obtain ⟨q, hq⟩ : ∃ q, n.tmod 20 = q := ⟨_, rfl⟩
  rw [hq] at hm a1 a2
  have hw : wrap64 (q + 20) = q + 20 := by unfold wrap64; omega
  obtain ⟨y, hy⟩ : ∃ y, q + 20 = y := ⟨_, rfl⟩
  rw [hy] at hm hw
  obtain ⟨z, hz⟩ : ∃ z, y.tmod 20 = z := ⟨_, rfl⟩
  rw [hz] at hm
  have hv : wrap64 (z + 1) = (m : Int) := by rw [hm]; unfold wrap64; omega
  have hw' : wrap64 (q + 20) = y := by rw [hy]; exact hw
  have mi := made_int m hm2
  have mp := made_ptr m hm2
  have S0 := hide (relC1_start w m)
  clear hw hy a1 a2 hm h1 h2
  go_enter Try.func8, Try.ntmps8
  go_wp2
  simp only [hv]
  obtain ⟨w0, hw0⟩ : ∃ w0, (((w.alloc (.cells (madeCells #[.int .i64 0] m) 3)).alloc (.cells #[.slice (some ⟨w.heap.size, 0, none⟩) m m] 22)).alloc (.cells (madeCells #[.pointer none] m) 23)).alloc (.cells #[.slice (some ⟨w.heap.size + 1 + 1, 0, none⟩) m m] 73) = w0 := ⟨_, rfl⟩
  rw [hw0] at S0 ⊢
  clear hw0 mi mp hv hw' hz hq
  go_loopw [23] (fun i wr => Rel1 w m i wr) (fun i _ => m - (intOf i).toNat)
  case atStart => exact .mk 0 (by omega) rfl S0
  case round =>
    clear S0
    obtain ⟨p, hp, rfl, S⟩ := hrel
    by_cases hlt : p < m
    · have hmf : ∀ (fn : Fn) (first cap : Array Value) (w : World), (Instr.makeFunc fn first cap).run Try.prog w = .ok (.func fn first cap) w := fun _ _ _ _ => rfl
      obtain ⟨l1, g1, l3, ⟨u, g3⟩, g4⟩ := relC1_look S.out hlt
      have K1 := (Ch.refl (fun _ => False) wr).alloc (.cells #[.int .i64 p] 3)
      obtain ⟨x1, x2, x3, x4⟩ := Ch.keep2 (y := .slice (some ⟨w.heap.size + 1 + 1, 0, none⟩) m m) K1 l1 g1 l1 g1 l3 g3 g4
      have x5 : (wr.alloc (.cells #[.int .i64 p] 3)).cell? ⟨wr.heap.size, 0, none⟩ = some (.int .i64 p) := by rw [cell_new]; rfl
      have j1 : wr.heap.size < (wr.alloc (.cells #[.int .i64 p] 3)).heap.size := by simp
      have j2 : w.heap.size + 1 + 1 + 1 < (wr.alloc (.cells #[.int .i64 p] 3)).heap.size := by simp; omega
      have j3 : w.heap.size + 1 + 1 < (wr.alloc (.cells #[.int .i64 p] 3)).heap.size := by simp; omega
      have NX := hide (fun (W0 wl : World) c1 c2 n => relC1_next (W0 := W0) (wl := wl) S.out hlt c1 c2 n)
      obtain ⟨w1, hw1⟩ : ∃ w1, wr.alloc (.cells #[.int .i64 p] 3) = w1 := ⟨_, rfl⟩
      rw [hw1] at NX x1 x3 x4 x5 j1 j2 j3
      have KP := hide (fun (W : World) (C : Ch (fun _ => False) w1 W) => And.intro (C.keep2 j2 x1 j1 x5 j3 x3 x4).1 (C.keep2 j2 x1 j1 x5 j3 x3 x4).2.1)
      have KQ := hide (fun (W : World) (C : Ch (fun _ => False) w1 W) => (C.keep2 j2 x1 j1 x5 j3 x3 x4).2.2)
      have j4 : w.heap.size + 1 + 1 < wr.heap.size := l3
      have KS := hide (fun (W : World) (x : Value) (C : Ch (fun _ => False) w1 W) => And.intro ((World.cell?_setCell_other W ⟨w.heap.size + 1 + 1, p, none⟩ ⟨w.heap.size + 1 + 1 + 1, 0, none⟩ x (by simp)).trans (KP.out W C).1) ((World.cell?_setCell_other W ⟨w.heap.size + 1 + 1, p, none⟩ ⟨wr.heap.size, 0, none⟩ x (by simp; try omega)).trans (KP.out W C).2))
      clear j4
      clear K1 x2 l1 g1 l3 g3 g4 j1 j2 j3 x1 x3 x4 x5
      go_wp2
      go_region_held3 (fun w' => w'.cell? ⟨w.heap.size + 1 + 1 + 1, 0, none⟩ = some (.slice (some ⟨w.heap.size + 1 + 1, 0, none⟩) m m) ∧ w'.cell? ⟨wr.heap.size, 0, none⟩ = some (.int .i64 p))
        (((first | with_reducible refine KS.out _ _ ?_ | refine KP.out _ ?_); (repeat (first | exact Ch.refl _ _ | (with_reducible refine Ch.drew ?_) | (with_reducible refine Ch.drewN ?_ _) | (refine Ch.trans ?_ (by assumption)))); done))
        (first
          | (go_at_call 9; refine (new_func _ _ _ _).mono ?_; rintro _ wl ⟨rfl, nl, hl⟩; obtain ⟨y3, y4⟩ := KQ.out wl (by repeat (first | exact Ch.refl _ _ | (with_reducible refine Ch.drew ?_) | (with_reducible refine Ch.drewN ?_ _) | (refine Ch.trans ?_ (by assumption)))); replace nl := hide nl))
      all_goals
        have N2 := hide (NX.out _ wl (by repeat (first | exact Ch.refl _ _ | (with_reducible refine Ch.drew ?_) | (with_reducible refine Ch.drewN ?_ _) | (refine Ch.trans ?_ (by assumption)))) (by assumption) nl.out)
        clear nl y3 y4
        go_wp2
        exact ⟨.mk (p + 1) (by omega) (by go_num) N2, by simp [intOf]; omega⟩
    · obtain rfl : p = m := by omega
      obtain ⟨L, e1, e2, e3, e4, e5, C, A, K, B⟩ := S.out
      have S2 : Hid (RelC2 w L 0 wr) := ⟨by rw [stH0, cntH0, e1]; exact C, K, fun j hj => B j (by omega)⟩
      have AA := hide (show Apart L L.m by rw [e1]; exact A)
      have LB := hide (show w.heap.size ≤ L.rb by omega)
      clear A C K B S
      go_wp2
      go_loopw [9, 10] (fun high i wr => Rel2 w L len high i wr) (fun _ i _ => len - (intOf i).toNat)
      case atStart => exact .mk 0 0 (by omega) (by omega) (by omega) rfl rfl S2
      case round =>
        clear S2
        obtain ⟨i, hi, hi1, hi2, hi3, rfl, rfl, S⟩ := hrel
        by_cases hlt2 : i < len
        · by_cases h40 : i < 40
          · obtain ⟨b, off, d, rfl, hb, dc⟩ := HC.out i hlt2
            have d0 := (S.out.2.1.cell hb (fun f => f) _).trans dc
            obtain ⟨k, hk1, hk2, hk3⟩ := place_of d p hm1 hm2
            obtain ⟨x, hx⟩ : ∃ x, d.tmod p = x := ⟨_, rfl⟩
            rw [hx] at hk1 hk2
            obtain ⟨y', hy'⟩ : ∃ y', x + p = y' := ⟨_, rfl⟩
            rw [hy'] at hk2
            have hk1' : wrap64 (x + p) = y' := by rw [hk1, hy']
            have hne : ¬ (p : Int) = 0 := by omega
            have c0 := S.out.1.c0
            have ck := S.out.1.ca k (by omega)
            rw [e3, e5, e1] at c0
            rw [e5] at ck
            have CG := hide (relC2_get S.out (by omega) AA.out LB.out (show k < L.m by omega))
            have k4 : (k : Int) < p := by omega
            have h40' : (i : Int) < 40 := by omega
            clear dc hb hk1 hy' S
            by_cases hcase : hi ≤ k
            · have hmx : ((hi : Int) - 1) < k := by omega
              go_wp2_with (go_at_call 11; refine CG.out.mono ?_; rintro e w2 ⟨rfl, S⟩; rw [show max hi (k + 1) = k + 1 by omega] at S; replace S := hide S)
              go_loopw [65] (fun j wr' => ∃ q : Nat, q ≤ p ∧ j = .int .i64 q ∧ wr' = w2) (fun j _ => p - (intOf j).toNat)
              case atStart => exact ⟨0, by omega, rfl, rfl⟩
              case round =>
                obtain ⟨q, hq, rfl, rfl⟩ := hrel
                by_cases hq2 : q < p
                · have v0 := S.out.1.r0
                  have v1 := S.out.1.ra q (by omega)
                  have v2 := S.out.1.c0
                  have v3 := S.out.1.ca q (by omega)
                  have v4 := S.out.1.ce q (by omega)
                  rw [e2, e4, e1] at v0
                  rw [e4] at v1
                  rw [e3, e5, e1] at v2
                  rw [e5] at v3
                  have q4 : (q : Int) < p := by omega
                  by_cases hq3 : q < k + 1
                  · have s2 : stH (k + 1) q = 2 := by unfold stH; rw [if_pos hq3]
                    have s3 : cnt (stH (k + 1)) q = 1 := by unfold cnt; rw [s2]; rfl
                    rw [s3] at v1
                    rw [s2] at v4
                    have CD := hide (done_any _ _ _ _ _ _ _ _ v4)
                    have q5 : (q : Int) ≤ (k : Int) := by omega
                    clear v4 s2 s3
                    go_wp2_with (go_at_call 12; refine CD.out.mono ?_; rintro e w3 ⟨rfl, rfl⟩)
                    exact ⟨⟨q + 1, by omega, by go_num, trivial⟩, by simp [intOf]; omega⟩
                  · have s2 : stH (k + 1) q = 0 := by unfold stH; rw [if_neg hq3]
                    have s3 : cnt (stH (k + 1)) q = 0 := by unfold cnt; rw [s2]; rfl
                    rw [s3] at v1
                    rw [s2] at v4
                    have CD := hide (done_any _ _ _ _ _ _ _ _ v4)
                    have q5 : ¬ (q : Int) ≤ (k : Int) := by omega
                    clear v4 s2 s3
                    go_wp2_with (go_at_call 12; refine CD.out.mono ?_; rintro e w3 ⟨rfl, rfl⟩)
                    exact ⟨⟨q + 1, by omega, by go_num, trivial⟩, by simp [intOf]; omega⟩
                · go_wp2
                  exact ⟨.mk (i + 1) (k + 1) (by omega) (by omega) (by omega) (by go_num) (by go_num) S, by simp [intOf]; omega⟩
            · have hmx : ¬ ((hi : Int) - 1) < k := by omega
              go_wp2_with (go_at_call 11; refine CG.out.mono ?_; rintro e w2 ⟨rfl, S⟩; rw [show max hi (k + 1) = hi by omega] at S; replace S := hide S)
              go_loopw [65] (fun j wr' => ∃ q : Nat, q ≤ p ∧ j = .int .i64 q ∧ wr' = w2) (fun j _ => p - (intOf j).toNat)
              case atStart => exact ⟨0, by omega, rfl, rfl⟩
              case round =>
                obtain ⟨q, hq, rfl, rfl⟩ := hrel
                by_cases hq2 : q < p
                · have v0 := S.out.1.r0
                  have v1 := S.out.1.ra q (by omega)
                  have v2 := S.out.1.c0
                  have v3 := S.out.1.ca q (by omega)
                  have v4 := S.out.1.ce q (by omega)
                  rw [e2, e4, e1] at v0
                  rw [e4] at v1
                  rw [e3, e5, e1] at v2
                  rw [e5] at v3
                  have q4 : (q : Int) < p := by omega
                  by_cases hq3 : q < hi
                  · have s2 : stH (hi) q = 2 := by unfold stH; rw [if_pos hq3]
                    have s3 : cnt (stH (hi)) q = 1 := by unfold cnt; rw [s2]; rfl
                    rw [s3] at v1
                    rw [s2] at v4
                    have CD := hide (done_any _ _ _ _ _ _ _ _ v4)
                    have q5 : (q : Int) ≤ ((hi : Int) - 1) := by omega
                    clear v4 s2 s3
                    go_wp2_with (go_at_call 12; refine CD.out.mono ?_; rintro e w3 ⟨rfl, rfl⟩)
                    exact ⟨⟨q + 1, by omega, by go_num, trivial⟩, by simp [intOf]; omega⟩
                  · have s2 : stH (hi) q = 0 := by unfold stH; rw [if_neg hq3]
                    have s3 : cnt (stH (hi)) q = 0 := by unfold cnt; rw [s2]; rfl
                    rw [s3] at v1
                    rw [s2] at v4
                    have CD := hide (done_any _ _ _ _ _ _ _ _ v4)
                    have q5 : ¬ (q : Int) ≤ ((hi : Int) - 1) := by omega
                    clear v4 s2 s3
                    go_wp2_with (go_at_call 12; refine CD.out.mono ?_; rintro e w3 ⟨rfl, rfl⟩)
                    exact ⟨⟨q + 1, by omega, by go_num, trivial⟩, by simp [intOf]; omega⟩
                · go_wp2
                  exact ⟨.mk (i + 1) (hi) (by omega) (by omega) (by omega) (by go_num) (by go_num) S, by simp [intOf]; omega⟩
          · obtain rfl : i = 40 := by omega
            have hn4 : (40 : Int) < len := by omega
            go_wp2_with (first
              | (go_at_call 15; refine (awake7 _).mono ?_; rintro e w2 ⟨rfl, C2⟩; replace C2 := hide (S.out.2.1.trans C2)))
            go_ret
            exact ⟨rfl, C2.out.below⟩
        · go_wp2_with (first
            | (go_at_call 15; refine (awake7 _).mono ?_; rintro e w2 ⟨rfl, C2⟩; replace C2 := hide (S.out.2.1.trans C2)))
          go_ret
          exact ⟨rfl, C2.out.below⟩
end Go.Proofs.Ytbigejdabeibeaa
