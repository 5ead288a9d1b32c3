/-
  A remark between two texts: the law.
-/
import Derived.Test.YtmoiifeflgopfaaGreatDoorLTokZe
import Derived.Lib.AppendStr
import Derived.Outline
set_option linter.unusedVariables false
set_option linter.unusedSimpArgs false
namespace Go.Proofs.YtmoiifeflgopfaaGreatDoor
open Go.RowKit

theorem Own.growS {W wr w1 : World} {k : IntKind} {e : TypeId} {v v' : Value} {xs ys : List Int} (h : Own W k e wr v xs)
    (h1 : w1.ownsRow W.heap.size e 1 v' (xs.length + ys.length) (xs.map (Value.int k) ++ ys.map (Value.int k))) (hg : wr.grownBy w1 v.ownBlock) : Own W k e w1 v' (xs ++ ys) := by
  refine ⟨by rw [List.length_append, List.map_append]; exact h1, ?_⟩
  exact h.2.grown hg h.2.size (fun k hk => (h.1.lt k hk).1)
/-- A byte of a text, or of a remark. -/
def OkR (a : List Int) (i : Nat) : Prop := gt a i ≠ 34 ∧ gt a i ≠ 39 ∧ gt a i ≠ 92 ∧ gt a i ≠ 40 ∧ gt a i ≠ 42 ∧ gt a i ≠ 47 ∧ gt a i < 128
theorem OkR.step {a : List Int} {k : Nat} (h : ∀ j, j < k → OkR a j) (hk : OkR a k) : ∀ j, j < k + 1 → OkR a j := fun j hj => by
  by_cases e : j < k
  · exact h j e
  · obtain rfl : j = k := by omega
    exact hk
theorem OkR.all {a : List Int} (hb : By a) (h : ∀ i, i < a.length → OkR a i) : Asc a ∧ Cln a ∧ (∀ c ∈ a, c ≠ 47) ∧ (∀ c ∈ a, c ≠ 42) := by
  have k : ∀ c ∈ a, (0 ≤ c ∧ c < 128) ∧ (c ≠ 34 ∧ c ≠ 39 ∧ c ≠ 92 ∧ c ≠ 40 ∧ c ≠ -1) ∧ c ≠ 47 ∧ c ≠ 42 := fun c hc => by
    obtain ⟨i, hi, rfl⟩ := List.getElem_of_mem hc
    have h1 := h i hi
    have h2 := hb _ hc
    unfold OkR at h1
    rw [gt_get hi] at h1
    omega
  exact ⟨fun c hc => (k c hc).1, fun c hc => (k c hc).2.1, fun c hc => (k c hc).2.2.1, fun c hc => (k c hc).2.2.2⟩
def RelRm (n : Nat) (a : List Int) (i : Value) : Prop := ∃ k : Nat, k ≤ n ∧ i = .int .i64 k ∧ Hid (∀ j, j < k → OkR a j)
theorem RelRm.mk {n : Nat} {a : List Int} (k : Nat) {i : Value} (h1 : k ≤ n) (h2 : i = .int .i64 k) (h3 : ∀ j, j < k → OkR a j) : RelRm n a i := ⟨k, h1, h2, h3⟩
def RelOu (xs is : List Int) (i : Value) : Prop := ∃ q : Nat, q ≤ 2 ∧ i = .int .i64 q ∧ Hid (0 < q → ∀ j, j < xs.length → OkR xs j) ∧ Hid (1 < q → ∀ j, j < is.length → OkR is j)
theorem RelOu.mk {xs is : List Int} (q : Nat) {i : Value} (h1 : q ≤ 2) (h2 : i = .int .i64 q) (h3 : 0 < q → ∀ j, j < xs.length → OkR xs j) (h4 : 1 < q → ∀ j, j < is.length → OkR is j) : RelOu xs is i := ⟨q, h1, h2, h3, h4⟩
theorem rem_len {w : World} {a : Option Addr} {n2 c : Nat} {Y : List Tk} (h : n2 = Y.length) (k : Toks w (.slice a Y.length c) Y) : Toks w (.slice a n2 c) Y := by
  rw [h]; exact k
theorem rem_end (b o n1 n2 c : Nat) (Y : List Tk) (h : n2 = Y.length) (hc : n1 + n2 ≤ c) : c = n1 → ∀ w : World, Toks w (.slice (some ⟨b, o, none⟩) n2 0) Y := fun e w => by
  obtain rfl : Y = [] := List.eq_nil_of_length_eq_zero (by omega)
  rw [show n2 = 0 by omega]
  exact .inl ⟨_, _, rfl, rfl⟩
set_option maxRecDepth 100000 in
set_option maxHeartbeats 8000000 in
theorem law_remarks (xs : List Int) (v : Value) (ys : List Int) (u : Value) (is : List Int) (t : Value) (w : World) (hx : By xs) (hv : Nums .u8 w v xs) (hv0 : Nil0 v) (hl : xs.length ≤ 1048576)
    (hy : By ys) (hu : Nums .u8 w u ys) (hu0 : Nil0 u) (hl2 : ys.length ≤ 1048576) (hi : By is) (ht : Nums .u8 w t is) (ht0 : Nil0 t) (hl3 : is.length ≤ 1048576) :
    Calls Tryz.prog 3 #[v, u, t] w fun e w' => e = .returned (.bool true) ∧ Below w.heap.size w w' := by
  obtain ⟨i8, hi8, hz8, hs8, hb8⟩ := info_parts info8
  have HV := hide hv
  have HU := hide hu
  have HT := hide ht
  obtain ⟨a, n, c, rfl, hn, hn9, _, hcell⟩ := hv.form
  obtain ⟨a', n', c', rfl, hn', hn9', _, hcell'⟩ := hu.form
  obtain ⟨ai, ni, ci, rfl, hni, hn9i, _, hcelli⟩ := ht.form
  clear hv hu ht
  replace hv0 := hide hv0
  replace hu0 := hide hu0
  replace ht0 := hide ht0
  have HN := hide hn
  have HN' := hide hn'
  have HNi := hide hni
  have HC := hide hcell
  have HC' := hide hcell'
  have HCi := hide hcelli
  have hnb : n ≤ 1048576 := by omega
  have hnb' : n' ≤ 1048576 := by omega
  have hnbi : ni ≤ 1048576 := by omega
  clear hn hn' hni hl hl2 hl3 hcell hcell' hcelli hn9 hn9' hn9i
  have HX := hide hx
  have HY := hide hy
  have HI := hide hi
  clear hx hy hi
  have B := hide (Below.refl w.heap.size w)
  by_cases g1 : 16384 < n
  · as_aux_lemma =>
      go_enter Tryz.func3, Tryz.ntmps3
      go_wp2_with (go_at_call 4; refine (awakeT_any _).mono ?_; rintro e w9 ⟨rfl, B9⟩; replace B := hide (bto B.out B9); clear B9)
      go_ret
      exact ⟨rfl, B.out⟩
  by_cases g2 : 16384 < n'
  · as_aux_lemma =>
      go_enter Tryz.func3, Tryz.ntmps3
      go_wp2_with (go_at_call 4; refine (awakeT_any _).mono ?_; rintro e w9 ⟨rfl, B9⟩; replace B := hide (bto B.out B9); clear B9)
      go_ret
      exact ⟨rfl, B.out⟩
  by_cases g3 : 16384 < ni
  · as_aux_lemma =>
      go_enter Tryz.func3, Tryz.ntmps3
      go_wp2_with (go_at_call 4; refine (awakeT_any _).mono ?_; rintro e w9 ⟨rfl, B9⟩; replace B := hide (bto B.out B9); clear B9)
      go_ret
      exact ⟨rfl, B.out⟩
  go_enter Tryz.func3, Tryz.ntmps3
  go_wp2_with fail
  obtain ⟨w1, hw1⟩ : ∃ w1, w.alloc (.cells #[.slice a n c, .slice ai ni ci] 22) = w1 := ⟨_, rfl⟩
  have k0 : w1.cell? ⟨w.heap.size, 0, none⟩ = some (.slice a n c) := by rw [← hw1]; simp [go_sem]
  have k1 : w1.cell? ⟨w.heap.size, 1, none⟩ = some (.slice ai ni ci) := by rw [← hw1]; simp [go_sem]
  have B1 : Below w.heap.size w w1 := by rw [← hw1]; exact bplus (Below.refl _ _) _
  rw [hw1]
  clear hw1
  have k2 : w.heap.size < w1.heap.size := World.block_lt_of_cell? _ _ k0
  replace B := hide B1
  clear B1
  go_loopw [32] (fun i wr => RelOu xs is i ∧ wr = w1) (fun i _ => 2 - (intOf i).toNat)
  case atStart => exact ⟨.mk 0 (by omega) rfl (fun h => absurd h (by omega)) (fun h => absurd h (by omega)), rfl⟩
  case round =>
    obtain ⟨⟨q, hq, rfl, R1, R2⟩, rfl⟩ := hrel
    by_cases q0 : q = 0
    · subst q0
      clear R1 R2
      go_wp2_with fail
      go_loopw [9] (fun i wx => RelRm n xs i ∧ wx = wr) (fun i _ => n - (intOf i).toNat)
      case atStart => exact ⟨.mk 0 (by omega) rfl (fun j hj => absurd hj (by omega)), rfl⟩
      case round =>
        obtain ⟨⟨k, hk, rfl, R⟩, rfl⟩ := hrel
        by_cases hlt : k < n
        · obtain ⟨b, o, rfl, hbw, hnc, hc9, hcell⟩ := HC.out (by omega)
          have p0 := (B.out.cell (p := ⟨b, o + k, none⟩) hbw).trans (hcell k hlt)
          have hkx : k < xs.length := by rw [← HN.out]; exact hlt
          have bx := HX.out.at hkx
          clear hcell
          by_cases hok : OkR xs k
          · have R' := hide (OkR.step R.out hok)
            obtain ⟨o1, o2, o3, o4, o5, o6, o7⟩ := hok
            generalize gt xs k = x at *
            have e1 : (x == 34) = false := by simpa using o1
            have e2 : (x == 39) = false := by simpa using o2
            have e3 : (x == 92) = false := by simpa using o3
            have e4 : (x == 40) = false := by simpa using o4
            have e5 : (x == 42) = false := by simpa using o5
            have e6 : (x == 47) = false := by simpa using o6
            have e7 : ¬ 128 ≤ x := by omega
            as_aux_lemma =>
              go_wp2
              exact ⟨⟨.mk (k + 1) (by omega) (by go_num) R'.out, trivial⟩, by simp [intOf]; omega⟩
          · have hbad : gt xs k = 34 ∨ gt xs k = 39 ∨ gt xs k = 92 ∨ gt xs k = 40 ∨ gt xs k = 42 ∨ gt xs k = 47 ∨ 128 ≤ gt xs k := by
              unfold OkR at hok
              omega
            clear hok
            generalize gt xs k = x at *
            rcases hbad with rfl | rfl | rfl | rfl | rfl | rfl | h128
            iterate 6
              as_aux_lemma =>
                go_wp2_with (go_at_call 4; refine (awakeT_any _).mono ?_; rintro e w9 ⟨rfl, B9⟩; replace B := hide (bto B.out B9); clear B9)
                go_ret
                exact ⟨rfl, B.out⟩
            · have e1 : (x == 34) = false := by simp; omega
              have e2 : (x == 39) = false := by simp; omega
              have e3 : (x == 92) = false := by simp; omega
              have e4 : (x == 40) = false := by simp; omega
              have e5 : (x == 42) = false := by simp; omega
              have e6 : (x == 47) = false := by simp; omega
              as_aux_lemma =>
                go_wp2_with (go_at_call 4; refine (awakeT_any _).mono ?_; rintro e w9 ⟨rfl, B9⟩; replace B := hide (bto B.out B9); clear B9)
                go_ret
                exact ⟨rfl, B.out⟩
        · have OK := hide (fun i (hi : i < xs.length) => R.out i (by have := HN.out; omega))
          clear R
          go_wp2
          exact ⟨⟨.mk 1 (by omega) rfl (fun _ => OK.out) (fun h => absurd h (by omega)), trivial⟩, by simp [intOf]⟩
    by_cases q1 : q = 1
    · subst q1
      replace R1 := hide (R1.out (by decide))
      clear R2
      go_wp2_with fail
      go_loopw [9] (fun i wx => RelRm ni is i ∧ wx = wr) (fun i _ => ni - (intOf i).toNat)
      case atStart => exact ⟨.mk 0 (by omega) rfl (fun j hj => absurd hj (by omega)), rfl⟩
      case round =>
        obtain ⟨⟨k, hk, rfl, R⟩, rfl⟩ := hrel
        by_cases hlt : k < ni
        · obtain ⟨b, o, rfl, hbw, hnc, hc9, hcell⟩ := HCi.out (by omega)
          have p0 := (B.out.cell (p := ⟨b, o + k, none⟩) hbw).trans (hcell k hlt)
          have hkx : k < is.length := by rw [← HNi.out]; exact hlt
          have bx := HI.out.at hkx
          clear hcell
          by_cases hok : OkR is k
          · have R' := hide (OkR.step R.out hok)
            obtain ⟨o1, o2, o3, o4, o5, o6, o7⟩ := hok
            generalize gt is k = x at *
            have e1 : (x == 34) = false := by simpa using o1
            have e2 : (x == 39) = false := by simpa using o2
            have e3 : (x == 92) = false := by simpa using o3
            have e4 : (x == 40) = false := by simpa using o4
            have e5 : (x == 42) = false := by simpa using o5
            have e6 : (x == 47) = false := by simpa using o6
            have e7 : ¬ 128 ≤ x := by omega
            as_aux_lemma =>
              go_wp2
              exact ⟨⟨.mk (k + 1) (by omega) (by go_num) R'.out, trivial⟩, by simp [intOf]; omega⟩
          · have hbad : gt is k = 34 ∨ gt is k = 39 ∨ gt is k = 92 ∨ gt is k = 40 ∨ gt is k = 42 ∨ gt is k = 47 ∨ 128 ≤ gt is k := by
              unfold OkR at hok
              omega
            clear hok
            generalize gt is k = x at *
            rcases hbad with rfl | rfl | rfl | rfl | rfl | rfl | h128
            iterate 6
              as_aux_lemma =>
                go_wp2_with (go_at_call 4; refine (awakeT_any _).mono ?_; rintro e w9 ⟨rfl, B9⟩; replace B := hide (bto B.out B9); clear B9)
                go_ret
                exact ⟨rfl, B.out⟩
            · have e1 : (x == 34) = false := by simp; omega
              have e2 : (x == 39) = false := by simp; omega
              have e3 : (x == 92) = false := by simp; omega
              have e4 : (x == 40) = false := by simp; omega
              have e5 : (x == 42) = false := by simp; omega
              have e6 : (x == 47) = false := by simp; omega
              as_aux_lemma =>
                go_wp2_with (go_at_call 4; refine (awakeT_any _).mono ?_; rintro e w9 ⟨rfl, B9⟩; replace B := hide (bto B.out B9); clear B9)
                go_ret
                exact ⟨rfl, B.out⟩
        · have OK := hide (fun i (hi : i < is.length) => R.out i (by have := HNi.out; omega))
          clear R
          go_wp2
          exact ⟨⟨.mk 2 (by omega) rfl (fun _ => R1.out) (fun _ => OK.out), trivial⟩, by simp [intOf]⟩
    · obtain rfl : q = 2 := by omega
      replace R1 := hide (R1.out (by decide))
      replace R2 := hide (R2.out (by decide))
      obtain ⟨ax, cx, sx, rx⟩ := OkR.all HX.out R1.out
      obtain ⟨aj, cj, sj, rj⟩ := OkR.all HI.out R2.out
      clear R1 R2
      obtain ⟨X, hX⟩ : ∃ X, toks (chs (dcd (xs ++ [32]))) = X := ⟨_, rfl⟩
      obtain ⟨Y, hY⟩ : ∃ Y, toks (chs (dcd ys)) = Y := ⟨_, rfl⟩
      have TX := hide hX
      have TY := hide hY
      have BS := hide (show By (xs ++ [32]) from HX.out.app (by intro x hx; simp at hx; omega))
      have BB := hide (show By (xs ++ [32, 47, 42] ++ is ++ [42, 47] ++ ys) from (((HX.out.app (by intro x hx; simp at hx; omega)).app HI.out).app (by intro x hx; simp at hx; omega)).app HY.out)
      have TZ' : mark ys = false → toks (chs (dcd (xs ++ [32, 47, 42] ++ is ++ [42, 47] ++ ys))) = X ++ Y := fun hm => by
        rw [chs_dcd BB.out, show xs ++ [32, 47, 42] ++ is ++ [42, 47] ++ ys = xs ++ 32 :: 47 :: 42 :: (is ++ 42 :: 47 :: ys) by simp]
        rw [toks_remarks ax cx sx aj rj hm, ← hX, ← hY, chs_dcd BS.out, chs_dcd HY.out]
      have LX0 := hide (show 0 < X.length by
        rw [← hX, chs_dcd BS.out, dcd_blank ax]
        have hne : dcd xs ++ [32] ≠ [] := by simp
        have hcl : Cln (dcd xs ++ [32]) := by rw [dcd_asc ax]; exact (cx.lin 0).blank
        have hno : NoR (dcd xs ++ [32]) := NoR.not (by
          intro c hc
          rcases List.mem_append.1 hc with hc | hc
          · rw [dcd_asc ax] at hc; exact lin_not sx (by decide) (by decide) c hc
          · simp at hc; omega)
        rw [toks_go (by rw [hno.rmk]; exact (hcl.nx (List.length_pos_iff.2 hne)).2.2.2.2)]
        simp)
      have LX := hide (show X.length ≤ 1048577 by
        have h := (toks_few (chs (dcd (xs ++ [32]))).length (chs (dcd (xs ++ [32]))) (Nat.le_refl _)).1
        rw [hX, chs_len] at h
        have h2 := dcd_len (xs ++ [32]); have h3 := HN.out; rw [List.length_append, List.length_singleton] at h2; omega)
      have LY := hide (show Y.length ≤ 1048576 by
        have h := (toks_few (chs (dcd ys)).length (chs (dcd ys)) (Nat.le_refl _)).1
        rw [hY, chs_len] at h
        have := dcd_len ys; have := HN'.out; omega)
      clear hX hY ax cx sx rx aj cj sj rj
      have M3 : 3 ≤ ys.length → gt ys 0 = 239 → gt ys 1 = 187 → gt ys 2 ≠ 191 → mark ys = false := fun h0 h1 h2 h3 => by unfold mark; simp [h1, h2, h3]
      have M2 : 3 ≤ ys.length → gt ys 0 = 239 → gt ys 1 ≠ 187 → mark ys = false := fun h0 h1 h2 => by unfold mark; simp [h1, h2]
      have M1 : gt ys 0 ≠ 239 → mark ys = false := fun h1 => by unfold mark; simp [h1]
      have M0 : ys.length < 3 → mark ys = false := fun h0 => by unfold mark; simp; omega
      have hnl := HN'.out
      by_cases z0 : n' = 0
      · have TZ := hide (TZ' (M0 (by omega)))
        have mm : ¬ 2 < n' := by omega
        have mi : ¬ (2 : Int) < (n' : Int) := by omega
        have mj : ¬ 0 < n' := by omega
        clear TZ' M0 M1 M2 M3 hnl hq
        subst z0
        as_aux_lemma =>
          go_wp2_with (first
            | (at_builtin; refine wpList_append_nums rfl (.tmp 148) (.tmp 149) 22 rfl .u8 5 i8 1 Tryz.underlying22 hi8 hz8 hs8 hb8 _ [] rfl (Own.fresh wr _ _) _ xs rfl (HV.out.below (bplus B.out _)) hv0.out (by have := HN.out; have := HN'.out; have := HNi.out; simp; omega) (by have := HN.out; have := HN'.out; have := HNi.out; simp; omega) ?_; intro v3 w3 O3; rw [List.nil_append] at O3; replace O3 := hide O3)
            | (at_builtin; refine Lib.wpList_append_own_string _ rfl (.tmp 150) (.const (.string ⟨#[32, 47, 42]⟩)) 22 9 rfl wr.heap.size 5 i8 Tryz.underlying22 Tryz.underlying9 hi8 hz8 hs8 hb8 _ _ _ rfl O3.out.1 ⟨#[32, 47, 42]⟩ rfl (by unfold maxLen; have := HN.out; have := HN'.out; have := HNi.out; simp [ByteArray.size]; omega) (by have := HN.out; have := HN'.out; have := HNi.out; simp [ByteArray.size]; omega) (by have := O3.out.2.size; omega) ?_; intro v4 w4 hown hgrow _; have O4 := hide (O3.out.growS (ys := [32, 47, 42]) hown hgrow); clear hown hgrow)
            | (at_builtin; refine wpList_append_nums rfl (.tmp 152) (.tmp 153) 22 rfl .u8 5 i8 1 Tryz.underlying22 hi8 hz8 hs8 hb8 _ (xs ++ [32, 47, 42]) rfl O4.out _ is rfl (HT.out.below (bto B.out O4.out.2)) ht0.out (by have := HN.out; have := HN'.out; have := HNi.out; simp; omega) (by have := HN.out; have := HN'.out; have := HNi.out; simp; omega) ?_; intro v5 w5 O5; replace O5 := hide O5)
            | (at_builtin; refine Lib.wpList_append_own_string _ rfl (.tmp 154) (.const (.string ⟨#[42, 47]⟩)) 22 9 rfl wr.heap.size 5 i8 Tryz.underlying22 Tryz.underlying9 hi8 hz8 hs8 hb8 _ _ _ rfl O5.out.1 ⟨#[42, 47]⟩ rfl (by unfold maxLen; have := HN.out; have := HN'.out; have := HNi.out; simp [ByteArray.size]; omega) (by have := HN.out; have := HN'.out; have := HNi.out; simp [ByteArray.size]; omega) (by have := O5.out.2.size; omega) ?_; intro v6 w6 hown hgrow _; have O6 := hide (O5.out.growS (ys := [42, 47]) hown hgrow); clear hown hgrow)
            | (at_builtin; refine wpList_append_nums rfl (.tmp 156) (.tmp 157) 22 rfl .u8 5 i8 1 Tryz.underlying22 hi8 hz8 hs8 hb8 _ (xs ++ [32, 47, 42] ++ is ++ [42, 47]) rfl O6.out _ ys rfl (HU.out.below (bto B.out O6.out.2)) hu0.out (by have := HN.out; have := HN'.out; have := HNi.out; simp; omega) (by have := HN.out; have := HN'.out; have := HNi.out; simp; omega) ?_; intro v7 w7 O7; have N5 := hide (O7.nums (by have := HN.out; have := HN'.out; have := HNi.out; simp; omega)); replace B := hide (bto B.out O7.2); clear O3 O4 O5 O6 O7)
            | (go_at_call_of 5 v7; refine (tbytesP_any (xs ++ [32, 47, 42] ++ is ++ [42, 47] ++ ys) _ _ BB.out N5.out (by have := HN.out; have := HN'.out; have := HNi.out; simp; omega)).mono ?_; rintro e w8 ⟨u3, rfl, N3, B3⟩; rw [TZ.out] at N3; obtain ⟨a3, n3, c3, rfl, hn3, hf3⟩ := N3.form; replace N3 := hide N3; replace hn3 := hide hn3; replace hf3 := hide hf3; replace B := hide (bto B.out B3); clear B3 N5)
            | (at_builtin; refine wpList_append_nums rfl (.tmp 160) (.tmp 161) 22 rfl .u8 5 i8 1 Tryz.underlying22 hi8 hz8 hs8 hb8 _ [] rfl (Own.fresh w8 _ _) _ xs rfl (HV.out.below (bplus B.out _)) hv0.out (by have := HN.out; have := HN'.out; have := HNi.out; simp; omega) (by have := HN.out; have := HN'.out; have := HNi.out; simp; omega) ?_; intro v11 w11 O11; rw [List.nil_append] at O11; replace O11 := hide O11)
            | (at_builtin; refine wpList_append_own _ rfl (.tmp 162) (.tmp 163) 22 rfl w8.heap.size 5 i8 (.int .u8 0) 1 1 Tryz.underlying22 hi8 hz8 hs8 hb8 rfl (by decide) _ _ _ rfl (O11.out.1.alloc _) ⟨_, 0, none⟩ 1 1 [.int .u8 32] rfl rfl (news1 _ _ _) (by intro u hu; simp at hu; subst hu; rfl) (by unfold maxLen; have := HN.out; have := HN'.out; have := HNi.out; omega) (by have := HN.out; have := HN'.out; have := HNi.out; omega) (by have := O11.out.2.size; simp; omega) ?_; intro v12 w12 hown hgrow _; have O12 := O11.out.grow (ys := [32]) hown hgrow; have N6 := hide (O12.nums (by have := HN.out; have := HN'.out; have := HNi.out; simp; omega)); replace N3 := hide (N3.out.below O12.2); replace B := hide (bto B.out O12.2); clear hown hgrow O11 O12)
            | (go_at_call_of 5 v12; refine (tbytesP_any (xs ++ [32]) _ _ BS.out N6.out (by have := HN.out; have := HN'.out; have := HNi.out; simp; omega)).mono ?_; rintro e w13 ⟨u1, rfl, N1, B3⟩; rw [TX.out] at N1; obtain ⟨a1, n1, c1, rfl, hn1, _⟩ := N1.form; replace N1 := hide N1; replace hn1 := hide hn1; replace N3 := hide (N3.out.below B3); replace B := hide (bto B.out B3); clear B3 N6)
            | (go_at_call_of 5 (Value.slice a' 0 c'); refine (tbytesP_any ys _ _ HY.out (HU.out.below B.out) (by have := HN.out; have := HN'.out; have := HNi.out; omega)).mono ?_; rintro e w14 ⟨u2, rfl, N2, B3⟩; rw [TY.out] at N2; obtain ⟨a2, n2, c2, rfl, hn2, _⟩ := N2.form; have l0 := LX0.out; have l1 := LX.out; have l2 := LY.out; have hn3' := hn3.out; rw [List.length_append, ← hn1.out, ← hn2] at hn3'; rw [← hn1.out] at l0 l1; rw [← hn2] at l2; obtain ⟨b3, o3, rfl, hnc3, _, hc93, hb3⟩ := hf3.out (by omega); have N3' := N3.out.below B3; have P1 := N3'.pre; rw [← hn1.out] at P1; replace P1 := hide P1; have P2 := N3'.suf n1 hn1.out; replace P2 := hide (rem_len hn2 P2); have P3 := hide (rem_end b3 o3 n1 n2 c3 Y hn2 (by omega)); replace N2 := hide N2; replace N1 := hide (N1.out.below B3); replace B := hide (bto B.out B3); have e3 : ((n3 : Int) == (n1 : Int) + (n2 : Int)) = true := (by simp; omega); have q3 : n1 ≤ c3 := (by omega); have q4 : n1 ≤ n3 := (by omega); replace hn2 := hide hn2; clear B3 N3' hf3 hn3)
            | (go_at_call_of 6 (Value.slice (some ⟨b3, o3, none⟩) n1 c3); refine (sameT_any X _ _ _ P1.out N1.out).mono ?_; rintro e w15 ⟨rfl, B9⟩; replace P2 := hide (P2.out.below B9); replace N2 := hide (N2.out.below B9); replace B := hide (bto B.out B9); clear B9 P1 N1)
            | (go_at_call_of 6 (Value.slice a2 n2 c2); (first | (with_reducible refine (sameT_any Y _ _ _ P2.out N2.out).mono ?_) | (with_reducible refine (sameT_any Y _ _ _ (P3.out (by omega) _) N2.out).mono ?_)); rintro e w16 ⟨rfl, B9⟩; replace B := hide (bto B.out B9); clear B9)
            | (go_at_call 4; refine (awakeT_any _).mono ?_; rintro e w9 ⟨rfl, B9⟩; replace B := hide (bto B.out B9); clear B9))
          all_goals go_ret
          all_goals exact ⟨rfl, B.out⟩
      by_cases z3 : 2 < n'
      · have mi : (2 : Int) < (n' : Int) := by omega
        have mj : 0 < n' := by omega
        obtain ⟨b', o', rfl, hbw', hnc', hc9', hcell'⟩ := HC'.out mj
        have d0 := (B.out.cell (p := ⟨b', o' + 0, none⟩) hbw').trans (hcell' 0 (by omega))
        rw [Nat.add_zero] at d0
        have d1 := (B.out.cell (p := ⟨b', o' + 1, none⟩) hbw').trans (hcell' 1 (by omega))
        have d2 := (B.out.cell (p := ⟨b', o' + 2, none⟩) hbw').trans (hcell' 2 (by omega))
        clear hcell'
        by_cases y0 : gt ys 0 = 239
        · by_cases y1 : gt ys 1 = 187
          · by_cases y2 : gt ys 2 = 191
            · rw [y0] at d0
              rw [y1] at d1
              rw [y2] at d2
              clear TZ' M0 M1 M2 M3 hnl y0 y1 y2
              as_aux_lemma =>
              go_wp2_with (go_at_call 4; refine (awakeT_any _).mono ?_; rintro e w9 ⟨rfl, B9⟩; replace B := hide (bto B.out B9); clear B9)
              go_ret
              exact ⟨rfl, B.out⟩
            · have TZ := hide (TZ' (M3 (by omega) y0 y1 y2))
              rw [y0] at d0
              rw [y1] at d1
              generalize gt ys 2 = x2 at *
              have f0 : (x2 == 191) = false := by simpa using y2
              clear TZ' M0 M1 M2 M3 hnl y0 y1 y2
              as_aux_lemma =>
                go_wp2_with (first
                  | (at_builtin; refine wpList_append_nums rfl (.tmp 148) (.tmp 149) 22 rfl .u8 5 i8 1 Tryz.underlying22 hi8 hz8 hs8 hb8 _ [] rfl (Own.fresh wr _ _) _ xs rfl (HV.out.below (bplus B.out _)) hv0.out (by have := HN.out; have := HN'.out; have := HNi.out; simp; omega) (by have := HN.out; have := HN'.out; have := HNi.out; simp; omega) ?_; intro v3 w3 O3; rw [List.nil_append] at O3; replace O3 := hide O3)
                  | (at_builtin; refine Lib.wpList_append_own_string _ rfl (.tmp 150) (.const (.string ⟨#[32, 47, 42]⟩)) 22 9 rfl wr.heap.size 5 i8 Tryz.underlying22 Tryz.underlying9 hi8 hz8 hs8 hb8 _ _ _ rfl O3.out.1 ⟨#[32, 47, 42]⟩ rfl (by unfold maxLen; have := HN.out; have := HN'.out; have := HNi.out; simp [ByteArray.size]; omega) (by have := HN.out; have := HN'.out; have := HNi.out; simp [ByteArray.size]; omega) (by have := O3.out.2.size; omega) ?_; intro v4 w4 hown hgrow _; have O4 := hide (O3.out.growS (ys := [32, 47, 42]) hown hgrow); clear hown hgrow)
                  | (at_builtin; refine wpList_append_nums rfl (.tmp 152) (.tmp 153) 22 rfl .u8 5 i8 1 Tryz.underlying22 hi8 hz8 hs8 hb8 _ (xs ++ [32, 47, 42]) rfl O4.out _ is rfl (HT.out.below (bto B.out O4.out.2)) ht0.out (by have := HN.out; have := HN'.out; have := HNi.out; simp; omega) (by have := HN.out; have := HN'.out; have := HNi.out; simp; omega) ?_; intro v5 w5 O5; replace O5 := hide O5)
                  | (at_builtin; refine Lib.wpList_append_own_string _ rfl (.tmp 154) (.const (.string ⟨#[42, 47]⟩)) 22 9 rfl wr.heap.size 5 i8 Tryz.underlying22 Tryz.underlying9 hi8 hz8 hs8 hb8 _ _ _ rfl O5.out.1 ⟨#[42, 47]⟩ rfl (by unfold maxLen; have := HN.out; have := HN'.out; have := HNi.out; simp [ByteArray.size]; omega) (by have := HN.out; have := HN'.out; have := HNi.out; simp [ByteArray.size]; omega) (by have := O5.out.2.size; omega) ?_; intro v6 w6 hown hgrow _; have O6 := hide (O5.out.growS (ys := [42, 47]) hown hgrow); clear hown hgrow)
                  | (at_builtin; refine wpList_append_nums rfl (.tmp 156) (.tmp 157) 22 rfl .u8 5 i8 1 Tryz.underlying22 hi8 hz8 hs8 hb8 _ (xs ++ [32, 47, 42] ++ is ++ [42, 47]) rfl O6.out _ ys rfl (HU.out.below (bto B.out O6.out.2)) hu0.out (by have := HN.out; have := HN'.out; have := HNi.out; simp; omega) (by have := HN.out; have := HN'.out; have := HNi.out; simp; omega) ?_; intro v7 w7 O7; have N5 := hide (O7.nums (by have := HN.out; have := HN'.out; have := HNi.out; simp; omega)); replace B := hide (bto B.out O7.2); clear O3 O4 O5 O6 O7)
                  | (go_at_call_of 5 v7; refine (tbytesP_any (xs ++ [32, 47, 42] ++ is ++ [42, 47] ++ ys) _ _ BB.out N5.out (by have := HN.out; have := HN'.out; have := HNi.out; simp; omega)).mono ?_; rintro e w8 ⟨u3, rfl, N3, B3⟩; rw [TZ.out] at N3; obtain ⟨a3, n3, c3, rfl, hn3, hf3⟩ := N3.form; replace N3 := hide N3; replace hn3 := hide hn3; replace hf3 := hide hf3; replace B := hide (bto B.out B3); clear B3 N5)
                  | (at_builtin; refine wpList_append_nums rfl (.tmp 160) (.tmp 161) 22 rfl .u8 5 i8 1 Tryz.underlying22 hi8 hz8 hs8 hb8 _ [] rfl (Own.fresh w8 _ _) _ xs rfl (HV.out.below (bplus B.out _)) hv0.out (by have := HN.out; have := HN'.out; have := HNi.out; simp; omega) (by have := HN.out; have := HN'.out; have := HNi.out; simp; omega) ?_; intro v11 w11 O11; rw [List.nil_append] at O11; replace O11 := hide O11)
                  | (at_builtin; refine wpList_append_own _ rfl (.tmp 162) (.tmp 163) 22 rfl w8.heap.size 5 i8 (.int .u8 0) 1 1 Tryz.underlying22 hi8 hz8 hs8 hb8 rfl (by decide) _ _ _ rfl (O11.out.1.alloc _) ⟨_, 0, none⟩ 1 1 [.int .u8 32] rfl rfl (news1 _ _ _) (by intro u hu; simp at hu; subst hu; rfl) (by unfold maxLen; have := HN.out; have := HN'.out; have := HNi.out; omega) (by have := HN.out; have := HN'.out; have := HNi.out; omega) (by have := O11.out.2.size; simp; omega) ?_; intro v12 w12 hown hgrow _; have O12 := O11.out.grow (ys := [32]) hown hgrow; have N6 := hide (O12.nums (by have := HN.out; have := HN'.out; have := HNi.out; simp; omega)); replace N3 := hide (N3.out.below O12.2); replace B := hide (bto B.out O12.2); clear hown hgrow O11 O12)
                  | (go_at_call_of 5 v12; refine (tbytesP_any (xs ++ [32]) _ _ BS.out N6.out (by have := HN.out; have := HN'.out; have := HNi.out; simp; omega)).mono ?_; rintro e w13 ⟨u1, rfl, N1, B3⟩; rw [TX.out] at N1; obtain ⟨a1, n1, c1, rfl, hn1, _⟩ := N1.form; replace N1 := hide N1; replace hn1 := hide hn1; replace N3 := hide (N3.out.below B3); replace B := hide (bto B.out B3); clear B3 N6)
                  | (go_at_call_of 5 (Value.slice (some ⟨b', o', none⟩) n' c'); refine (tbytesP_any ys _ _ HY.out (HU.out.below B.out) (by have := HN.out; have := HN'.out; have := HNi.out; omega)).mono ?_; rintro e w14 ⟨u2, rfl, N2, B3⟩; rw [TY.out] at N2; obtain ⟨a2, n2, c2, rfl, hn2, _⟩ := N2.form; have l0 := LX0.out; have l1 := LX.out; have l2 := LY.out; have hn3' := hn3.out; rw [List.length_append, ← hn1.out, ← hn2] at hn3'; rw [← hn1.out] at l0 l1; rw [← hn2] at l2; obtain ⟨b3, o3, rfl, hnc3, _, hc93, hb3⟩ := hf3.out (by omega); have N3' := N3.out.below B3; have P1 := N3'.pre; rw [← hn1.out] at P1; replace P1 := hide P1; have P2 := N3'.suf n1 hn1.out; replace P2 := hide (rem_len hn2 P2); have P3 := hide (rem_end b3 o3 n1 n2 c3 Y hn2 (by omega)); replace N2 := hide N2; replace N1 := hide (N1.out.below B3); replace B := hide (bto B.out B3); have e3 : ((n3 : Int) == (n1 : Int) + (n2 : Int)) = true := (by simp; omega); have q3 : n1 ≤ c3 := (by omega); have q4 : n1 ≤ n3 := (by omega); replace hn2 := hide hn2; clear B3 N3' hf3 hn3)
                  | (go_at_call_of 6 (Value.slice (some ⟨b3, o3, none⟩) n1 c3); refine (sameT_any X _ _ _ P1.out N1.out).mono ?_; rintro e w15 ⟨rfl, B9⟩; replace P2 := hide (P2.out.below B9); replace N2 := hide (N2.out.below B9); replace B := hide (bto B.out B9); clear B9 P1 N1)
                  | (go_at_call_of 6 (Value.slice a2 n2 c2); (first | (with_reducible refine (sameT_any Y _ _ _ P2.out N2.out).mono ?_) | (with_reducible refine (sameT_any Y _ _ _ (P3.out (by omega) _) N2.out).mono ?_)); rintro e w16 ⟨rfl, B9⟩; replace B := hide (bto B.out B9); clear B9)
                  | (go_at_call 4; refine (awakeT_any _).mono ?_; rintro e w9 ⟨rfl, B9⟩; replace B := hide (bto B.out B9); clear B9))
                all_goals go_ret
                all_goals exact ⟨rfl, B.out⟩
          · have TZ := hide (TZ' (M2 (by omega) y0 y1))
            rw [y0] at d0
            generalize gt ys 1 = x1 at *
            have f0 : (x1 == 187) = false := by simpa using y1
            clear TZ' M0 M1 M2 M3 hnl y0 y1 d2
            as_aux_lemma =>
              go_wp2_with (first
                | (at_builtin; refine wpList_append_nums rfl (.tmp 148) (.tmp 149) 22 rfl .u8 5 i8 1 Tryz.underlying22 hi8 hz8 hs8 hb8 _ [] rfl (Own.fresh wr _ _) _ xs rfl (HV.out.below (bplus B.out _)) hv0.out (by have := HN.out; have := HN'.out; have := HNi.out; simp; omega) (by have := HN.out; have := HN'.out; have := HNi.out; simp; omega) ?_; intro v3 w3 O3; rw [List.nil_append] at O3; replace O3 := hide O3)
                | (at_builtin; refine Lib.wpList_append_own_string _ rfl (.tmp 150) (.const (.string ⟨#[32, 47, 42]⟩)) 22 9 rfl wr.heap.size 5 i8 Tryz.underlying22 Tryz.underlying9 hi8 hz8 hs8 hb8 _ _ _ rfl O3.out.1 ⟨#[32, 47, 42]⟩ rfl (by unfold maxLen; have := HN.out; have := HN'.out; have := HNi.out; simp [ByteArray.size]; omega) (by have := HN.out; have := HN'.out; have := HNi.out; simp [ByteArray.size]; omega) (by have := O3.out.2.size; omega) ?_; intro v4 w4 hown hgrow _; have O4 := hide (O3.out.growS (ys := [32, 47, 42]) hown hgrow); clear hown hgrow)
                | (at_builtin; refine wpList_append_nums rfl (.tmp 152) (.tmp 153) 22 rfl .u8 5 i8 1 Tryz.underlying22 hi8 hz8 hs8 hb8 _ (xs ++ [32, 47, 42]) rfl O4.out _ is rfl (HT.out.below (bto B.out O4.out.2)) ht0.out (by have := HN.out; have := HN'.out; have := HNi.out; simp; omega) (by have := HN.out; have := HN'.out; have := HNi.out; simp; omega) ?_; intro v5 w5 O5; replace O5 := hide O5)
                | (at_builtin; refine Lib.wpList_append_own_string _ rfl (.tmp 154) (.const (.string ⟨#[42, 47]⟩)) 22 9 rfl wr.heap.size 5 i8 Tryz.underlying22 Tryz.underlying9 hi8 hz8 hs8 hb8 _ _ _ rfl O5.out.1 ⟨#[42, 47]⟩ rfl (by unfold maxLen; have := HN.out; have := HN'.out; have := HNi.out; simp [ByteArray.size]; omega) (by have := HN.out; have := HN'.out; have := HNi.out; simp [ByteArray.size]; omega) (by have := O5.out.2.size; omega) ?_; intro v6 w6 hown hgrow _; have O6 := hide (O5.out.growS (ys := [42, 47]) hown hgrow); clear hown hgrow)
                | (at_builtin; refine wpList_append_nums rfl (.tmp 156) (.tmp 157) 22 rfl .u8 5 i8 1 Tryz.underlying22 hi8 hz8 hs8 hb8 _ (xs ++ [32, 47, 42] ++ is ++ [42, 47]) rfl O6.out _ ys rfl (HU.out.below (bto B.out O6.out.2)) hu0.out (by have := HN.out; have := HN'.out; have := HNi.out; simp; omega) (by have := HN.out; have := HN'.out; have := HNi.out; simp; omega) ?_; intro v7 w7 O7; have N5 := hide (O7.nums (by have := HN.out; have := HN'.out; have := HNi.out; simp; omega)); replace B := hide (bto B.out O7.2); clear O3 O4 O5 O6 O7)
                | (go_at_call_of 5 v7; refine (tbytesP_any (xs ++ [32, 47, 42] ++ is ++ [42, 47] ++ ys) _ _ BB.out N5.out (by have := HN.out; have := HN'.out; have := HNi.out; simp; omega)).mono ?_; rintro e w8 ⟨u3, rfl, N3, B3⟩; rw [TZ.out] at N3; obtain ⟨a3, n3, c3, rfl, hn3, hf3⟩ := N3.form; replace N3 := hide N3; replace hn3 := hide hn3; replace hf3 := hide hf3; replace B := hide (bto B.out B3); clear B3 N5)
                | (at_builtin; refine wpList_append_nums rfl (.tmp 160) (.tmp 161) 22 rfl .u8 5 i8 1 Tryz.underlying22 hi8 hz8 hs8 hb8 _ [] rfl (Own.fresh w8 _ _) _ xs rfl (HV.out.below (bplus B.out _)) hv0.out (by have := HN.out; have := HN'.out; have := HNi.out; simp; omega) (by have := HN.out; have := HN'.out; have := HNi.out; simp; omega) ?_; intro v11 w11 O11; rw [List.nil_append] at O11; replace O11 := hide O11)
                | (at_builtin; refine wpList_append_own _ rfl (.tmp 162) (.tmp 163) 22 rfl w8.heap.size 5 i8 (.int .u8 0) 1 1 Tryz.underlying22 hi8 hz8 hs8 hb8 rfl (by decide) _ _ _ rfl (O11.out.1.alloc _) ⟨_, 0, none⟩ 1 1 [.int .u8 32] rfl rfl (news1 _ _ _) (by intro u hu; simp at hu; subst hu; rfl) (by unfold maxLen; have := HN.out; have := HN'.out; have := HNi.out; omega) (by have := HN.out; have := HN'.out; have := HNi.out; omega) (by have := O11.out.2.size; simp; omega) ?_; intro v12 w12 hown hgrow _; have O12 := O11.out.grow (ys := [32]) hown hgrow; have N6 := hide (O12.nums (by have := HN.out; have := HN'.out; have := HNi.out; simp; omega)); replace N3 := hide (N3.out.below O12.2); replace B := hide (bto B.out O12.2); clear hown hgrow O11 O12)
                | (go_at_call_of 5 v12; refine (tbytesP_any (xs ++ [32]) _ _ BS.out N6.out (by have := HN.out; have := HN'.out; have := HNi.out; simp; omega)).mono ?_; rintro e w13 ⟨u1, rfl, N1, B3⟩; rw [TX.out] at N1; obtain ⟨a1, n1, c1, rfl, hn1, _⟩ := N1.form; replace N1 := hide N1; replace hn1 := hide hn1; replace N3 := hide (N3.out.below B3); replace B := hide (bto B.out B3); clear B3 N6)
                | (go_at_call_of 5 (Value.slice (some ⟨b', o', none⟩) n' c'); refine (tbytesP_any ys _ _ HY.out (HU.out.below B.out) (by have := HN.out; have := HN'.out; have := HNi.out; omega)).mono ?_; rintro e w14 ⟨u2, rfl, N2, B3⟩; rw [TY.out] at N2; obtain ⟨a2, n2, c2, rfl, hn2, _⟩ := N2.form; have l0 := LX0.out; have l1 := LX.out; have l2 := LY.out; have hn3' := hn3.out; rw [List.length_append, ← hn1.out, ← hn2] at hn3'; rw [← hn1.out] at l0 l1; rw [← hn2] at l2; obtain ⟨b3, o3, rfl, hnc3, _, hc93, hb3⟩ := hf3.out (by omega); have N3' := N3.out.below B3; have P1 := N3'.pre; rw [← hn1.out] at P1; replace P1 := hide P1; have P2 := N3'.suf n1 hn1.out; replace P2 := hide (rem_len hn2 P2); have P3 := hide (rem_end b3 o3 n1 n2 c3 Y hn2 (by omega)); replace N2 := hide N2; replace N1 := hide (N1.out.below B3); replace B := hide (bto B.out B3); have e3 : ((n3 : Int) == (n1 : Int) + (n2 : Int)) = true := (by simp; omega); have q3 : n1 ≤ c3 := (by omega); have q4 : n1 ≤ n3 := (by omega); replace hn2 := hide hn2; clear B3 N3' hf3 hn3)
                | (go_at_call_of 6 (Value.slice (some ⟨b3, o3, none⟩) n1 c3); refine (sameT_any X _ _ _ P1.out N1.out).mono ?_; rintro e w15 ⟨rfl, B9⟩; replace P2 := hide (P2.out.below B9); replace N2 := hide (N2.out.below B9); replace B := hide (bto B.out B9); clear B9 P1 N1)
                | (go_at_call_of 6 (Value.slice a2 n2 c2); (first | (with_reducible refine (sameT_any Y _ _ _ P2.out N2.out).mono ?_) | (with_reducible refine (sameT_any Y _ _ _ (P3.out (by omega) _) N2.out).mono ?_)); rintro e w16 ⟨rfl, B9⟩; replace B := hide (bto B.out B9); clear B9)
                | (go_at_call 4; refine (awakeT_any _).mono ?_; rintro e w9 ⟨rfl, B9⟩; replace B := hide (bto B.out B9); clear B9))
              all_goals go_ret
              all_goals exact ⟨rfl, B.out⟩
        · have TM := M1 y0
          have f239 : (gt ys 0 == 239) = false := by simpa using y0
          clear M0 M1 M2 M3 hnl d1 d2
          generalize gt ys 0 = x0 at *
          by_cases yb : x0 = 10 ∨ x0 = 13 ∨ x0 = 9 ∨ x0 = 32 ∨ x0 = 12
          · clear TZ' TM y0
            rcases yb with rfl | rfl | rfl | rfl | rfl
            all_goals
              as_aux_lemma =>
                go_wp2_with (go_at_call 4; refine (awakeT_any _).mono ?_; rintro e w9 ⟨rfl, B9⟩; replace B := hide (bto B.out B9); clear B9)
                go_ret
                exact ⟨rfl, B.out⟩
          · have TZ := hide (TZ' TM)
            have f10 : (x0 == 10) = false := by simp; omega
            have f13 : (x0 == 13) = false := by simp; omega
            have f9 : (x0 == 9) = false := by simp; omega
            have f32 : (x0 == 32) = false := by simp; omega
            have f12 : (x0 == 12) = false := by simp; omega
            clear TZ' TM y0
            as_aux_lemma =>
              go_wp2_with (first
                | (at_builtin; refine wpList_append_nums rfl (.tmp 148) (.tmp 149) 22 rfl .u8 5 i8 1 Tryz.underlying22 hi8 hz8 hs8 hb8 _ [] rfl (Own.fresh wr _ _) _ xs rfl (HV.out.below (bplus B.out _)) hv0.out (by have := HN.out; have := HN'.out; have := HNi.out; simp; omega) (by have := HN.out; have := HN'.out; have := HNi.out; simp; omega) ?_; intro v3 w3 O3; rw [List.nil_append] at O3; replace O3 := hide O3)
                | (at_builtin; refine Lib.wpList_append_own_string _ rfl (.tmp 150) (.const (.string ⟨#[32, 47, 42]⟩)) 22 9 rfl wr.heap.size 5 i8 Tryz.underlying22 Tryz.underlying9 hi8 hz8 hs8 hb8 _ _ _ rfl O3.out.1 ⟨#[32, 47, 42]⟩ rfl (by unfold maxLen; have := HN.out; have := HN'.out; have := HNi.out; simp [ByteArray.size]; omega) (by have := HN.out; have := HN'.out; have := HNi.out; simp [ByteArray.size]; omega) (by have := O3.out.2.size; omega) ?_; intro v4 w4 hown hgrow _; have O4 := hide (O3.out.growS (ys := [32, 47, 42]) hown hgrow); clear hown hgrow)
                | (at_builtin; refine wpList_append_nums rfl (.tmp 152) (.tmp 153) 22 rfl .u8 5 i8 1 Tryz.underlying22 hi8 hz8 hs8 hb8 _ (xs ++ [32, 47, 42]) rfl O4.out _ is rfl (HT.out.below (bto B.out O4.out.2)) ht0.out (by have := HN.out; have := HN'.out; have := HNi.out; simp; omega) (by have := HN.out; have := HN'.out; have := HNi.out; simp; omega) ?_; intro v5 w5 O5; replace O5 := hide O5)
                | (at_builtin; refine Lib.wpList_append_own_string _ rfl (.tmp 154) (.const (.string ⟨#[42, 47]⟩)) 22 9 rfl wr.heap.size 5 i8 Tryz.underlying22 Tryz.underlying9 hi8 hz8 hs8 hb8 _ _ _ rfl O5.out.1 ⟨#[42, 47]⟩ rfl (by unfold maxLen; have := HN.out; have := HN'.out; have := HNi.out; simp [ByteArray.size]; omega) (by have := HN.out; have := HN'.out; have := HNi.out; simp [ByteArray.size]; omega) (by have := O5.out.2.size; omega) ?_; intro v6 w6 hown hgrow _; have O6 := hide (O5.out.growS (ys := [42, 47]) hown hgrow); clear hown hgrow)
                | (at_builtin; refine wpList_append_nums rfl (.tmp 156) (.tmp 157) 22 rfl .u8 5 i8 1 Tryz.underlying22 hi8 hz8 hs8 hb8 _ (xs ++ [32, 47, 42] ++ is ++ [42, 47]) rfl O6.out _ ys rfl (HU.out.below (bto B.out O6.out.2)) hu0.out (by have := HN.out; have := HN'.out; have := HNi.out; simp; omega) (by have := HN.out; have := HN'.out; have := HNi.out; simp; omega) ?_; intro v7 w7 O7; have N5 := hide (O7.nums (by have := HN.out; have := HN'.out; have := HNi.out; simp; omega)); replace B := hide (bto B.out O7.2); clear O3 O4 O5 O6 O7)
                | (go_at_call_of 5 v7; refine (tbytesP_any (xs ++ [32, 47, 42] ++ is ++ [42, 47] ++ ys) _ _ BB.out N5.out (by have := HN.out; have := HN'.out; have := HNi.out; simp; omega)).mono ?_; rintro e w8 ⟨u3, rfl, N3, B3⟩; rw [TZ.out] at N3; obtain ⟨a3, n3, c3, rfl, hn3, hf3⟩ := N3.form; replace N3 := hide N3; replace hn3 := hide hn3; replace hf3 := hide hf3; replace B := hide (bto B.out B3); clear B3 N5)
                | (at_builtin; refine wpList_append_nums rfl (.tmp 160) (.tmp 161) 22 rfl .u8 5 i8 1 Tryz.underlying22 hi8 hz8 hs8 hb8 _ [] rfl (Own.fresh w8 _ _) _ xs rfl (HV.out.below (bplus B.out _)) hv0.out (by have := HN.out; have := HN'.out; have := HNi.out; simp; omega) (by have := HN.out; have := HN'.out; have := HNi.out; simp; omega) ?_; intro v11 w11 O11; rw [List.nil_append] at O11; replace O11 := hide O11)
                | (at_builtin; refine wpList_append_own _ rfl (.tmp 162) (.tmp 163) 22 rfl w8.heap.size 5 i8 (.int .u8 0) 1 1 Tryz.underlying22 hi8 hz8 hs8 hb8 rfl (by decide) _ _ _ rfl (O11.out.1.alloc _) ⟨_, 0, none⟩ 1 1 [.int .u8 32] rfl rfl (news1 _ _ _) (by intro u hu; simp at hu; subst hu; rfl) (by unfold maxLen; have := HN.out; have := HN'.out; have := HNi.out; omega) (by have := HN.out; have := HN'.out; have := HNi.out; omega) (by have := O11.out.2.size; simp; omega) ?_; intro v12 w12 hown hgrow _; have O12 := O11.out.grow (ys := [32]) hown hgrow; have N6 := hide (O12.nums (by have := HN.out; have := HN'.out; have := HNi.out; simp; omega)); replace N3 := hide (N3.out.below O12.2); replace B := hide (bto B.out O12.2); clear hown hgrow O11 O12)
                | (go_at_call_of 5 v12; refine (tbytesP_any (xs ++ [32]) _ _ BS.out N6.out (by have := HN.out; have := HN'.out; have := HNi.out; simp; omega)).mono ?_; rintro e w13 ⟨u1, rfl, N1, B3⟩; rw [TX.out] at N1; obtain ⟨a1, n1, c1, rfl, hn1, _⟩ := N1.form; replace N1 := hide N1; replace hn1 := hide hn1; replace N3 := hide (N3.out.below B3); replace B := hide (bto B.out B3); clear B3 N6)
                | (go_at_call_of 5 (Value.slice (some ⟨b', o', none⟩) n' c'); refine (tbytesP_any ys _ _ HY.out (HU.out.below B.out) (by have := HN.out; have := HN'.out; have := HNi.out; omega)).mono ?_; rintro e w14 ⟨u2, rfl, N2, B3⟩; rw [TY.out] at N2; obtain ⟨a2, n2, c2, rfl, hn2, _⟩ := N2.form; have l0 := LX0.out; have l1 := LX.out; have l2 := LY.out; have hn3' := hn3.out; rw [List.length_append, ← hn1.out, ← hn2] at hn3'; rw [← hn1.out] at l0 l1; rw [← hn2] at l2; obtain ⟨b3, o3, rfl, hnc3, _, hc93, hb3⟩ := hf3.out (by omega); have N3' := N3.out.below B3; have P1 := N3'.pre; rw [← hn1.out] at P1; replace P1 := hide P1; have P2 := N3'.suf n1 hn1.out; replace P2 := hide (rem_len hn2 P2); have P3 := hide (rem_end b3 o3 n1 n2 c3 Y hn2 (by omega)); replace N2 := hide N2; replace N1 := hide (N1.out.below B3); replace B := hide (bto B.out B3); have e3 : ((n3 : Int) == (n1 : Int) + (n2 : Int)) = true := (by simp; omega); have q3 : n1 ≤ c3 := (by omega); have q4 : n1 ≤ n3 := (by omega); replace hn2 := hide hn2; clear B3 N3' hf3 hn3)
                | (go_at_call_of 6 (Value.slice (some ⟨b3, o3, none⟩) n1 c3); refine (sameT_any X _ _ _ P1.out N1.out).mono ?_; rintro e w15 ⟨rfl, B9⟩; replace P2 := hide (P2.out.below B9); replace N2 := hide (N2.out.below B9); replace B := hide (bto B.out B9); clear B9 P1 N1)
                | (go_at_call_of 6 (Value.slice a2 n2 c2); (first | (with_reducible refine (sameT_any Y _ _ _ P2.out N2.out).mono ?_) | (with_reducible refine (sameT_any Y _ _ _ (P3.out (by omega) _) N2.out).mono ?_)); rintro e w16 ⟨rfl, B9⟩; replace B := hide (bto B.out B9); clear B9)
                | (go_at_call 4; refine (awakeT_any _).mono ?_; rintro e w9 ⟨rfl, B9⟩; replace B := hide (bto B.out B9); clear B9))
              all_goals go_ret
              all_goals exact ⟨rfl, B.out⟩
      · have mm : ¬ 2 < n' := z3
        have mi : ¬ (2 : Int) < (n' : Int) := by omega
        have mj : 0 < n' := by omega
        have TM := M0 (by omega)
        obtain ⟨b', o', rfl, hbw', hnc', hc9', hcell'⟩ := HC'.out mj
        have d0 := (B.out.cell (p := ⟨b', o' + 0, none⟩) hbw').trans (hcell' 0 (by omega))
        rw [Nat.add_zero] at d0
        clear hcell' M0 M1 M2 M3 hnl
        generalize gt ys 0 = x0 at *
        by_cases yb : x0 = 10 ∨ x0 = 13 ∨ x0 = 9 ∨ x0 = 32 ∨ x0 = 12
        · clear TZ' TM
          rcases yb with rfl | rfl | rfl | rfl | rfl
          all_goals
            as_aux_lemma =>
              go_wp2_with (go_at_call 4; refine (awakeT_any _).mono ?_; rintro e w9 ⟨rfl, B9⟩; replace B := hide (bto B.out B9); clear B9)
              go_ret
              exact ⟨rfl, B.out⟩
        · have TZ := hide (TZ' TM)
          have f10 : (x0 == 10) = false := by simp; omega
          have f13 : (x0 == 13) = false := by simp; omega
          have f9 : (x0 == 9) = false := by simp; omega
          have f32 : (x0 == 32) = false := by simp; omega
          have f12 : (x0 == 12) = false := by simp; omega
          clear TZ' TM
          as_aux_lemma =>
            go_wp2_with (first
              | (at_builtin; refine wpList_append_nums rfl (.tmp 148) (.tmp 149) 22 rfl .u8 5 i8 1 Tryz.underlying22 hi8 hz8 hs8 hb8 _ [] rfl (Own.fresh wr _ _) _ xs rfl (HV.out.below (bplus B.out _)) hv0.out (by have := HN.out; have := HN'.out; have := HNi.out; simp; omega) (by have := HN.out; have := HN'.out; have := HNi.out; simp; omega) ?_; intro v3 w3 O3; rw [List.nil_append] at O3; replace O3 := hide O3)
              | (at_builtin; refine Lib.wpList_append_own_string _ rfl (.tmp 150) (.const (.string ⟨#[32, 47, 42]⟩)) 22 9 rfl wr.heap.size 5 i8 Tryz.underlying22 Tryz.underlying9 hi8 hz8 hs8 hb8 _ _ _ rfl O3.out.1 ⟨#[32, 47, 42]⟩ rfl (by unfold maxLen; have := HN.out; have := HN'.out; have := HNi.out; simp [ByteArray.size]; omega) (by have := HN.out; have := HN'.out; have := HNi.out; simp [ByteArray.size]; omega) (by have := O3.out.2.size; omega) ?_; intro v4 w4 hown hgrow _; have O4 := hide (O3.out.growS (ys := [32, 47, 42]) hown hgrow); clear hown hgrow)
              | (at_builtin; refine wpList_append_nums rfl (.tmp 152) (.tmp 153) 22 rfl .u8 5 i8 1 Tryz.underlying22 hi8 hz8 hs8 hb8 _ (xs ++ [32, 47, 42]) rfl O4.out _ is rfl (HT.out.below (bto B.out O4.out.2)) ht0.out (by have := HN.out; have := HN'.out; have := HNi.out; simp; omega) (by have := HN.out; have := HN'.out; have := HNi.out; simp; omega) ?_; intro v5 w5 O5; replace O5 := hide O5)
              | (at_builtin; refine Lib.wpList_append_own_string _ rfl (.tmp 154) (.const (.string ⟨#[42, 47]⟩)) 22 9 rfl wr.heap.size 5 i8 Tryz.underlying22 Tryz.underlying9 hi8 hz8 hs8 hb8 _ _ _ rfl O5.out.1 ⟨#[42, 47]⟩ rfl (by unfold maxLen; have := HN.out; have := HN'.out; have := HNi.out; simp [ByteArray.size]; omega) (by have := HN.out; have := HN'.out; have := HNi.out; simp [ByteArray.size]; omega) (by have := O5.out.2.size; omega) ?_; intro v6 w6 hown hgrow _; have O6 := hide (O5.out.growS (ys := [42, 47]) hown hgrow); clear hown hgrow)
              | (at_builtin; refine wpList_append_nums rfl (.tmp 156) (.tmp 157) 22 rfl .u8 5 i8 1 Tryz.underlying22 hi8 hz8 hs8 hb8 _ (xs ++ [32, 47, 42] ++ is ++ [42, 47]) rfl O6.out _ ys rfl (HU.out.below (bto B.out O6.out.2)) hu0.out (by have := HN.out; have := HN'.out; have := HNi.out; simp; omega) (by have := HN.out; have := HN'.out; have := HNi.out; simp; omega) ?_; intro v7 w7 O7; have N5 := hide (O7.nums (by have := HN.out; have := HN'.out; have := HNi.out; simp; omega)); replace B := hide (bto B.out O7.2); clear O3 O4 O5 O6 O7)
              | (go_at_call_of 5 v7; refine (tbytesP_any (xs ++ [32, 47, 42] ++ is ++ [42, 47] ++ ys) _ _ BB.out N5.out (by have := HN.out; have := HN'.out; have := HNi.out; simp; omega)).mono ?_; rintro e w8 ⟨u3, rfl, N3, B3⟩; rw [TZ.out] at N3; obtain ⟨a3, n3, c3, rfl, hn3, hf3⟩ := N3.form; replace N3 := hide N3; replace hn3 := hide hn3; replace hf3 := hide hf3; replace B := hide (bto B.out B3); clear B3 N5)
              | (at_builtin; refine wpList_append_nums rfl (.tmp 160) (.tmp 161) 22 rfl .u8 5 i8 1 Tryz.underlying22 hi8 hz8 hs8 hb8 _ [] rfl (Own.fresh w8 _ _) _ xs rfl (HV.out.below (bplus B.out _)) hv0.out (by have := HN.out; have := HN'.out; have := HNi.out; simp; omega) (by have := HN.out; have := HN'.out; have := HNi.out; simp; omega) ?_; intro v11 w11 O11; rw [List.nil_append] at O11; replace O11 := hide O11)
              | (at_builtin; refine wpList_append_own _ rfl (.tmp 162) (.tmp 163) 22 rfl w8.heap.size 5 i8 (.int .u8 0) 1 1 Tryz.underlying22 hi8 hz8 hs8 hb8 rfl (by decide) _ _ _ rfl (O11.out.1.alloc _) ⟨_, 0, none⟩ 1 1 [.int .u8 32] rfl rfl (news1 _ _ _) (by intro u hu; simp at hu; subst hu; rfl) (by unfold maxLen; have := HN.out; have := HN'.out; have := HNi.out; omega) (by have := HN.out; have := HN'.out; have := HNi.out; omega) (by have := O11.out.2.size; simp; omega) ?_; intro v12 w12 hown hgrow _; have O12 := O11.out.grow (ys := [32]) hown hgrow; have N6 := hide (O12.nums (by have := HN.out; have := HN'.out; have := HNi.out; simp; omega)); replace N3 := hide (N3.out.below O12.2); replace B := hide (bto B.out O12.2); clear hown hgrow O11 O12)
              | (go_at_call_of 5 v12; refine (tbytesP_any (xs ++ [32]) _ _ BS.out N6.out (by have := HN.out; have := HN'.out; have := HNi.out; simp; omega)).mono ?_; rintro e w13 ⟨u1, rfl, N1, B3⟩; rw [TX.out] at N1; obtain ⟨a1, n1, c1, rfl, hn1, _⟩ := N1.form; replace N1 := hide N1; replace hn1 := hide hn1; replace N3 := hide (N3.out.below B3); replace B := hide (bto B.out B3); clear B3 N6)
              | (go_at_call_of 5 (Value.slice (some ⟨b', o', none⟩) n' c'); refine (tbytesP_any ys _ _ HY.out (HU.out.below B.out) (by have := HN.out; have := HN'.out; have := HNi.out; omega)).mono ?_; rintro e w14 ⟨u2, rfl, N2, B3⟩; rw [TY.out] at N2; obtain ⟨a2, n2, c2, rfl, hn2, _⟩ := N2.form; have l0 := LX0.out; have l1 := LX.out; have l2 := LY.out; have hn3' := hn3.out; rw [List.length_append, ← hn1.out, ← hn2] at hn3'; rw [← hn1.out] at l0 l1; rw [← hn2] at l2; obtain ⟨b3, o3, rfl, hnc3, _, hc93, hb3⟩ := hf3.out (by omega); have N3' := N3.out.below B3; have P1 := N3'.pre; rw [← hn1.out] at P1; replace P1 := hide P1; have P2 := N3'.suf n1 hn1.out; replace P2 := hide (rem_len hn2 P2); have P3 := hide (rem_end b3 o3 n1 n2 c3 Y hn2 (by omega)); replace N2 := hide N2; replace N1 := hide (N1.out.below B3); replace B := hide (bto B.out B3); have e3 : ((n3 : Int) == (n1 : Int) + (n2 : Int)) = true := (by simp; omega); have q3 : n1 ≤ c3 := (by omega); have q4 : n1 ≤ n3 := (by omega); replace hn2 := hide hn2; clear B3 N3' hf3 hn3)
              | (go_at_call_of 6 (Value.slice (some ⟨b3, o3, none⟩) n1 c3); refine (sameT_any X _ _ _ P1.out N1.out).mono ?_; rintro e w15 ⟨rfl, B9⟩; replace P2 := hide (P2.out.below B9); replace N2 := hide (N2.out.below B9); replace B := hide (bto B.out B9); clear B9 P1 N1)
              | (go_at_call_of 6 (Value.slice a2 n2 c2); (first | (with_reducible refine (sameT_any Y _ _ _ P2.out N2.out).mono ?_) | (with_reducible refine (sameT_any Y _ _ _ (P3.out (by omega) _) N2.out).mono ?_)); rintro e w16 ⟨rfl, B9⟩; replace B := hide (bto B.out B9); clear B9)
              | (go_at_call 4; refine (awakeT_any _).mono ?_; rintro e w9 ⟨rfl, B9⟩; replace B := hide (bto B.out B9); clear B9))
            all_goals go_ret
            all_goals exact ⟨rfl, B.out⟩
end Go.Proofs.YtmoiifeflgopfaaGreatDoor
