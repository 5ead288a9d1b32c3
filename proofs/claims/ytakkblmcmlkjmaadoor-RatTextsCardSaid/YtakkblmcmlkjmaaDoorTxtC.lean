/-
  Texts as fractions: by the program.
-/
import Derived.Test.YtakkblmcmlkjmaaDoorTxtB
set_option linter.unusedVariables false
set_option linter.unusedSimpArgs false
namespace Go.Proofs.YtakkblmcmlkjmaaDoor
open Go.RowKit Go.Shelf

/-! ### A text cut at its first slash -/
def byA (l : List UInt8) : ByteArray := ⟨l.toArray⟩
theorem idxB (l : List UInt8) : Lib.indexByte l 47 = Lib.index l [47] := by
  induction l with
  | nil => rfl
  | cons x r ih =>
    simp only [Lib.indexByte, Lib.index]
    have e : ([47] : List UInt8).isPrefixOf (x :: r) = (x == 47) := by
      simp [List.isPrefixOf]
      rw [Bool.eq_iff_iff]; simp; exact ⟨fun h => h.symm, fun h => h.symm⟩
    rw [e, ih]
set_option maxRecDepth 100000 in
set_option maxHeartbeats 1000000 in
theorem index47_any (s : ByteArray) (w : World) : Calls Tryd.prog 38 #[.string s, .string ⟨#[47]⟩] w fun e w' => e = .returned (.int .i64 (Lib.index s.data.toList [47])) ∧ Below w.heap.size w w' := by
  have C := hide (fun (W : World) => sh_stringslite_IndexByte s 47 W)
  have E := hide (idxB s.data.toList)
  by_cases h : s.data.toList = [47]
  · obtain rfl : s = ⟨#[47]⟩ := by apply ByteArray.ext; exact Array.toList_inj.1 h
    go_enter Tryd.func38, Tryd.ntmps38
    go_wp2
    go_ret
    exact ⟨rfl, Below.refl _ _⟩
  · have q2 : (([47] : List UInt8) == s.toList) = false := by rw [beq_eq_false_iff_ne]; exact fun g => h (by rw [← Lib.toList_data, ← g])
    clear h
    go_enter Tryd.func38, Tryd.ntmps38
    go_wp2_with (go_at_call 46; refine (C.out _).mono ?_; rintro e w1 ⟨rfl, rfl⟩)
    go_ret
    exact ⟨by rw [← E.out]; rfl, Below.refl _ _⟩
theorem idx_bd (l : List UInt8) : -1 ≤ Lib.index l [47] ∧ Lib.index l [47] < (l.length : Int) + 0 ∨ Lib.index l [47] = -1 := by
  by_cases h : (47 : UInt8) ∈ l
  · obtain ⟨a, b, rfl, ha⟩ := split47 l h
    left
    rw [index_at a b ha]
    simp
    omega
  · right; exact index_no l h
def cutV (l : List UInt8) : Value := .tuple #[.string (byA (Lib.cut l [47]).1), .string (byA (Lib.cut l [47]).2.1), .bool (Lib.cut l [47]).2.2]
set_option maxRecDepth 100000 in
set_option maxHeartbeats 1000000 in
theorem cut47_any (s : ByteArray) (w : World) (hs : s.size ≤ 140737488355328) : Calls Tryd.prog 30 #[.string s, .string ⟨#[47]⟩] w fun e w' => e = .returned (cutV s.data.toList) ∧ Below w.heap.size w w' := by
  have C := hide (index47_any s w)
  by_cases h : (47 : UInt8) ∈ s.data.toList
  · obtain ⟨a, b, hab, ha⟩ := split47 _ h
    have hI := index_at a b ha
    have hC := cut_at a b ha
    rw [← hab] at hI hC
    have hl : s.size = a.length + 1 + b.length := by
      have : s.data.toList.length = s.size := by rw [Array.length_toList]; rfl
      rw [← this, hab]; simp; omega
    have E := hide (show cutV s.data.toList = .tuple #[.string (byA a), .string (byA b), .bool true] by unfold cutV; rw [hC])
    have S1 := hide (show s.extract 0 a.length = byA a by
      apply ByteArray.ext
      rw [ByteArray.data_extract]
      unfold byA
      rw [← Array.toList_inj]
      rw [Array.toList_extract, List.extract_eq_take_drop, hab]; simp)
    have S2 := hide (show s.extract (a.length + 1) s.size = byA b by
      apply ByteArray.ext
      rw [ByteArray.data_extract]
      unfold byA
      rw [← Array.toList_inj]
      rw [Array.toList_extract, List.extract_eq_take_drop, hab, hl]
      simp)
    have HI := hide hI
    have g0 : (0 : Int) ≤ a.length := by omega
    have g1 : a.length ≤ s.size := by omega
    have g2 : a.length + 1 ≤ s.size := by omega
    have g3 : (a.length : Int) + 1 ≤ s.size := by omega
    clear h hab ha hI hC hl
    go_enter Tryd.func30, Tryd.ntmps30
    go_wp2_with (go_at_call 38; refine C.out.mono ?_; rintro e w1 ⟨rfl, B1⟩; rw [HI.out]; replace B1 := hide B1)
    go_quiet (fail)
    replace B1 := hide (below_drewN B1.out nq)
    go_wp2
    refine bodyPost_ret (v := .tuple #[.string (s.extract 0 a.length), .string (s.extract (a.length + 1) s.size), .bool true]) (by simp [results, Tryd.results30, go_sem]) rfl ?_
    exact ⟨by rw [E.out, S1.out, S2.out], B1.out⟩
  · have hI := index_no _ h
    have E := hide (show cutV s.data.toList = .tuple #[.string s, .string ⟨#[]⟩, .bool false] by unfold cutV; rw [cut_no _ h]; rfl)
    have HI := hide hI
    clear h hI
    go_enter Tryd.func30, Tryd.ntmps30
    go_wp2_with (go_at_call 38; refine C.out.mono ?_; rintro e w1 ⟨rfl, B1⟩; rw [HI.out]; replace B1 := hide B1)
    refine bodyPost_ret (v := .tuple #[.string s, .string ⟨#[]⟩, .bool false]) (by simp [results, Tryd.results30, go_sem]) rfl ?_
    exact ⟨by rw [E.out], B1.out⟩
set_option maxRecDepth 100000 in
theorem scut_any (s : ByteArray) (w : World) (hs : s.size ≤ 140737488355328) : Calls Tryd.prog 19 #[.string s, .string ⟨#[47]⟩] w fun e w' => e = .returned (cutV s.data.toList) ∧ Below w.heap.size w w' := by
  have C := hide (cut47_any s w hs)
  unfold cutV at *
  go_enter Tryd.func19, Tryd.ntmps19
  go_wp2_with (go_at_call 30; refine C.out.mono ?_; rintro e w1 ⟨rfl, B1⟩; replace B1 := hide B1)
  refine bodyPost_ret (v := .tuple #[.string (byA (Lib.cut s.data.toList [47]).1), .string (byA (Lib.cut s.data.toList [47]).2.1), .bool (Lib.cut s.data.toList [47]).2.2]) (by simp [results, Tryd.results19, go_sem]) rfl ?_
  exact ⟨rfl, B1.out⟩
/-! ### Numerals -/
theorem pi_ok (s : ByteArray) (w : World) (hs : s.size ≤ 140737488355328) (v : Int) (h : Lib.parseIntB 64 s.data.toList = .ok v) :
    Calls Tryd.prog 20 #[.string s, .int .i64 10, .int .i64 64] w fun e w' => e = .returned (.tuple #[.int .i64 v, .nilIface]) ∧ Below w.heap.size w w' :=
  (sh_strconv_ParseInt_10_at64_ok s (by omega) v h w).mono fun e w' ⟨h1, h2⟩ => ⟨h1, by
    rcases h2 with rfl | ⟨t, rfl⟩
    · exact Below.refl _ _
    · exact Joins.below_bytesWorld _ _ _ _ (Nat.le_refl _)⟩
theorem pi_no (s : ByteArray) (w : World) (hs : s.size ≤ 140737488355328) (h : ∀ v, Lib.parseIntB 64 s.data.toList ≠ .ok v) (he : Errs w) :
    Calls Tryd.prog 20 #[.string s, .int .i64 10, .int .i64 64] w fun e w' => ∃ v T p, e = .returned (.tuple #[.int .i64 v, .iface T p]) ∧ Below w.heap.size w w' := by
  obtain ⟨⟨t1, p1, h1⟩, ⟨t2, p2, h2⟩⟩ := he
  cases hp : Lib.parseIntB 64 s.data.toList with
  | ok v => exact absurd hp (h v)
  | «syntax» =>
    exact (sh_strconv_ParseInt_10_at64_syntax s (by omega) hp _ w h1 (.inr ⟨t1, p1, rfl⟩)).mono fun e w' ⟨N, g1, _, _, g2⟩ => ⟨_, _, _, g1, g2⟩
  | range =>
    exact (sh_strconv_ParseInt_10_at64_range s (by omega) hp _ w h2 (.inr ⟨t2, p2, rfl⟩)).mono fun e w' ⟨N, g1, _, _, g2⟩ => ⟨_, _, _, g1, g2⟩
theorem byA_list (l : List UInt8) : (byA l).data.toList = l := by unfold byA; rfl
theorem cut_len (l : List UInt8) : (Lib.cut l [47]).1.length ≤ l.length ∧ (Lib.cut l [47]).2.1.length ≤ l.length := by
  by_cases h : (47 : UInt8) ∈ l
  · obtain ⟨a, b, rfl, ha⟩ := split47 l h
    rw [cut_at a b ha]; simp; omega
  · rw [cut_no l h]; simp
/-- What is read, if it is a fraction. -/
def rfV : Option (Int × Int) → Value
  | some (n, d) => .tuple #[.agg #[.int .i64 n, .int .i64 d], .bool true]
  | none => .tuple #[.agg #[.int .i64 0, .int .i64 0], .bool false]
theorem pB_I64 {l : List UInt8} {v : Int} (h : Lib.parseIntB 64 l = .ok v) : I64 v := by
  unfold Lib.parseIntB at h
  have e63 : (2 : Nat) ^ (64 - 1) = 9223372036854775808 := by decide
  unfold I64
  split at h
  · cases h
  · simp only [e63] at h
    split at h
    · cases h
    · cases h
    · split at h
      · cases h
      split at h
      · cases h
      · rename_i g1 g2
        injection h with h
        subst h
        split
        · rename_i g3
          have : ¬ (9223372036854775808 < _) := fun k => g2 ⟨g3, k⟩
          omega
        · rename_i g3
          have : ¬ (9223372036854775808 ≤ _) := fun k => g1 ⟨g3, k⟩
          omega
theorem pf_I64 {l : List UInt8} {n d : Int} (h : pf l = some (n, d)) : I64 n ∧ I64 d := by
  unfold pf at h
  split at h
  · rename_i n' hn
    split at h
    · rename_i d' hd
      cases h
      exact ⟨pB_I64 hn, pB_I64 hd⟩
    · cases h
  · cases h
/-- The result's block, as it is laid. -/
def RB (b : Nat) (W : World) : Prop := b < W.heap.size ∧ W.cell? ⟨b, 0, none⟩ = some (.int .i64 0) ∧ W.cell? ⟨b, 1, none⟩ = some (.int .i64 0) ∧ W.frozen? ⟨b, 0, none⟩ = false ∧ W.frozen? ⟨b, 1, none⟩ = false
theorem RB.below {b : Nat} {W W' : World} (h : RB b W) (hb : Below W.heap.size W W') : RB b W' := by
  obtain ⟨h0, h1, h2, h3, h4⟩ := h
  exact ⟨Nat.lt_of_lt_of_le h0 hb.size, (hb.cell (p := ⟨b, 0, none⟩) h0).trans h1, (hb.cell (p := ⟨b, 1, none⟩) h0).trans h2, (hb.frozen (p := ⟨b, 0, none⟩) h0).trans h3, (hb.frozen (p := ⟨b, 1, none⟩) h0).trans h4⟩
theorem RB.start (w : World) (T : TypeId) : RB w.heap.size (w.alloc (.cells #[.int .i64 0, .int .i64 0] T)) := by
  refine ⟨by simp, ?_, ?_, ?_, ?_⟩ <;> simp [go_sem]
set_option maxRecDepth 100000 in
set_option maxHeartbeats 2000000 in
theorem read_any (s : ByteArray) (w : World) (hs : s.size ≤ 140737488355328) (hne : s.data.toList ≠ ovr) (he : Errs w) :
    Calls Tryd.prog 12 #[.string s] w fun e w' => e = .returned (rfV (pf s.data.toList)) ∧ Below w.heap.size w w' := by
  have C := hide (fun (W : World) => scut_any s W hs)
  have R0 := hide (RB.start w 23)
  have HE := hide (fun (W : World) (h : Below w.heap.size w W) => he.below h)
  have n1 : (s.toList == [111, 118, 101, 114]) = false := by
    rw [beq_eq_false_iff_ne]
    intro h
    rw [Lib.toList_data] at h
    exact hne h
  have hlen : s.data.toList.length = s.size := by rw [Array.length_toList]; rfl
  obtain ⟨cl1, cl2⟩ := cut_len s.data.toList
  rw [hlen] at cl1 cl2
  have PF := hide (show pf s.data.toList = _ from rfl)
  unfold pf at PF
  obtain ⟨A, hA⟩ : ∃ A, (Lib.cut s.data.toList [47]).1 = A := ⟨_, rfl⟩
  obtain ⟨D, hD⟩ : ∃ D, (Lib.cut s.data.toList [47]).2.1 = D := ⟨_, rfl⟩
  obtain ⟨F, hF⟩ : ∃ F, (Lib.cut s.data.toList [47]).2.2 = F := ⟨_, rfl⟩
  have CV := hide (show cutV s.data.toList = .tuple #[.string (byA A), .string (byA D), .bool F] by unfold cutV; rw [hA, hD, hF])
  unfold pf
  rw [hA, hD, hF]
  rw [hA] at cl1
  rw [hD] at cl2
  clear PF hA hD hF he hne hlen
  have zA : (byA A).size ≤ 140737488355328 := by show A.toArray.size ≤ _; simp; omega
  have zD : (byA D).size ≤ 140737488355328 := by show D.toArray.size ≤ _; simp; omega
  have hA0 : (byA A).data.toList = A := byA_list A
  have hD0 : (byA D).data.toList = D := byA_list D
  cases hpA : Lib.parseIntB 64 A with
  | ok n =>
    have CA := hide (fun (W : World) => pi_ok (byA A) W zA n (by rw [hA0]; exact hpA))
    simp only
    cases F with
    | true =>
      simp only [if_true]
      cases hpD : Lib.parseIntB 64 D with
      | ok d =>
        have CD := hide (fun (W : World) => pi_ok (byA D) W zD d (by rw [hD0]; exact hpD))
        simp only [rfV]
        clear hpA hpD hA0 hD0
        go_enter Tryd.func12, Tryd.ntmps12
        go_wp2_with (first
          | (go_at_call 19; refine (C.out _).mono ?_; rintro e w1 ⟨rfl, B1⟩; rw [CV.out]; have R := hide (R0.out.below B1); obtain ⟨z, m0, m1, f0, f1⟩ := R.out; replace B1 := hide (show Below w.heap.size w w1 from bto (bplus (Below.refl _ _) _) B1))
          | (go_at_call_of 20 (Value.string (byA A)); refine (CA.out _).mono ?_; rintro e w2 ⟨rfl, B2⟩; clear z m0 m1 f0 f1; replace R := hide (R.out.below B2); obtain ⟨z, m0, m1, f0, f1⟩ := R.out; replace B1 := hide (bto B1.out B2))
          | (go_at_call 20; refine (CD.out _).mono ?_; rintro e w3 ⟨rfl, B3⟩; clear z m0 m1 f0 f1; replace R := hide (R.out.below B3); obtain ⟨z, m0, m1, f0, f1⟩ := R.out; replace B1 := hide (bto B1.out B3)))
        refine bodyPost_ret (v := .tuple #[.agg #[.int .i64 n, .int .i64 d], .bool true]) (by simp [results, Tryd.results12, go_sem, m0, m1, z]) rfl ?_
        exact ⟨rfl, (by repeat (first | (with_reducible exact B1.out) | (with_reducible refine Below.setCell ?_ (by simp) _) | (with_reducible refine bplus ?_ _)))⟩
      | «syntax» =>
        have CD := hide (fun (W : World) (h : Errs W) => pi_no (byA D) W zD (by rw [hD0, hpD]; intro v h; cases h) h)
        simp only [rfV]
        clear hpA hpD hA0 hD0
        go_enter Tryd.func12, Tryd.ntmps12
        go_wp2_with (first
          | (go_at_call 19; refine (C.out _).mono ?_; rintro e w1 ⟨rfl, B1⟩; rw [CV.out]; have R := hide (R0.out.below B1); obtain ⟨z, m0, m1, f0, f1⟩ := R.out; replace B1 := hide (show Below w.heap.size w w1 from bto (bplus (Below.refl _ _) _) B1))
          | (go_at_call_of 20 (Value.string (byA A)); refine (CA.out _).mono ?_; rintro e w2 ⟨rfl, B2⟩; clear z m0 m1 f0 f1; replace R := hide (R.out.below B2); obtain ⟨z, m0, m1, f0, f1⟩ := R.out; replace B1 := hide (bto B1.out B2))
          | (go_at_call 20; refine (CD.out _ (HE.out _ B1.out)).mono ?_; rintro e w3 ⟨v, T, p, rfl, B3⟩; clear z m0 m1 f0 f1; replace R := hide (R.out.below B3); obtain ⟨z, m0, m1, f0, f1⟩ := R.out; replace B1 := hide (bto B1.out B3)))
        refine bodyPost_ret (v := .tuple #[.agg #[.int .i64 0, .int .i64 0], .bool false]) (by simp [results, Tryd.results12, go_sem, m0, m1, z]) rfl ?_
        exact ⟨rfl, (by repeat (first | (with_reducible exact B1.out) | (with_reducible refine Below.setCell ?_ (by simp) _) | (with_reducible refine bplus ?_ _)))⟩
      | range =>
        have CD := hide (fun (W : World) (h : Errs W) => pi_no (byA D) W zD (by rw [hD0, hpD]; intro v h; cases h) h)
        simp only [rfV]
        clear hpA hpD hA0 hD0
        go_enter Tryd.func12, Tryd.ntmps12
        go_wp2_with (first
          | (go_at_call 19; refine (C.out _).mono ?_; rintro e w1 ⟨rfl, B1⟩; rw [CV.out]; have R := hide (R0.out.below B1); obtain ⟨z, m0, m1, f0, f1⟩ := R.out; replace B1 := hide (show Below w.heap.size w w1 from bto (bplus (Below.refl _ _) _) B1))
          | (go_at_call_of 20 (Value.string (byA A)); refine (CA.out _).mono ?_; rintro e w2 ⟨rfl, B2⟩; clear z m0 m1 f0 f1; replace R := hide (R.out.below B2); obtain ⟨z, m0, m1, f0, f1⟩ := R.out; replace B1 := hide (bto B1.out B2))
          | (go_at_call 20; refine (CD.out _ (HE.out _ B1.out)).mono ?_; rintro e w3 ⟨v, T, p, rfl, B3⟩; clear z m0 m1 f0 f1; replace R := hide (R.out.below B3); obtain ⟨z, m0, m1, f0, f1⟩ := R.out; replace B1 := hide (bto B1.out B3)))
        refine bodyPost_ret (v := .tuple #[.agg #[.int .i64 0, .int .i64 0], .bool false]) (by simp [results, Tryd.results12, go_sem, m0, m1, z]) rfl ?_
        exact ⟨rfl, (by repeat (first | (with_reducible exact B1.out) | (with_reducible refine Below.setCell ?_ (by simp) _) | (with_reducible refine bplus ?_ _)))⟩
    | false =>
      have h1 : Lib.parseIntB 64 [49] = .ok 1 := by decide
      have CD := hide (fun (W : World) => pi_ok ⟨#[49]⟩ W (by decide) 1 h1)
      simp only [Bool.false_eq_true, if_false, h1, rfV]
      clear hpA hA0 hD0 h1
      go_enter Tryd.func12, Tryd.ntmps12
      go_wp2_with (first
        | (go_at_call 19; refine (C.out _).mono ?_; rintro e w1 ⟨rfl, B1⟩; rw [CV.out]; have R := hide (R0.out.below B1); obtain ⟨z, m0, m1, f0, f1⟩ := R.out; replace B1 := hide (show Below w.heap.size w w1 from bto (bplus (Below.refl _ _) _) B1))
        | (go_at_call_of 20 (Value.string (byA A)); refine (CA.out _).mono ?_; rintro e w2 ⟨rfl, B2⟩; clear z m0 m1 f0 f1; replace R := hide (R.out.below B2); obtain ⟨z, m0, m1, f0, f1⟩ := R.out; replace B1 := hide (bto B1.out B2))
        | (go_at_call 20; refine (CD.out _).mono ?_; rintro e w3 ⟨rfl, B3⟩; clear z m0 m1 f0 f1; replace R := hide (R.out.below B3); obtain ⟨z, m0, m1, f0, f1⟩ := R.out; replace B1 := hide (bto B1.out B3)))
      refine bodyPost_ret (v := .tuple #[.agg #[.int .i64 n, .int .i64 1], .bool true]) (by simp [results, Tryd.results12, go_sem, m0, m1, z]) rfl ?_
      exact ⟨rfl, (by repeat (first | (with_reducible exact B1.out) | (with_reducible refine Below.setCell ?_ (by simp) _) | (with_reducible refine bplus ?_ _)))⟩
  | «syntax» =>
    have CA := hide (fun (W : World) (h : Errs W) => pi_no (byA A) W zA (by rw [hA0, hpA]; intro v h; cases h) h)
    simp only [rfV]
    clear hpA hA0 hD0
    rcases F with _ | _
    all_goals
      go_enter Tryd.func12, Tryd.ntmps12
      go_wp2_with (first
        | (go_at_call 19; refine (C.out _).mono ?_; rintro e w1 ⟨rfl, B1⟩; rw [CV.out]; have R := hide (R0.out.below B1); obtain ⟨z, m0, m1, f0, f1⟩ := R.out; replace B1 := hide (show Below w.heap.size w w1 from bto (bplus (Below.refl _ _) _) B1))
        | (go_at_call_of 20 (Value.string (byA A)); refine (CA.out _ (HE.out _ B1.out)).mono ?_; rintro e w2 ⟨v, T, p, rfl, B2⟩; clear z m0 m1 f0 f1; replace R := hide (R.out.below B2); obtain ⟨z, m0, m1, f0, f1⟩ := R.out; replace B1 := hide (bto B1.out B2)))
      refine bodyPost_ret (v := .tuple #[.agg #[.int .i64 0, .int .i64 0], .bool false]) (by simp [results, Tryd.results12, go_sem, m0, m1, z]) rfl ?_
      exact ⟨rfl, (by repeat (first | (with_reducible exact B1.out) | (with_reducible refine Below.setCell ?_ (by simp) _) | (with_reducible refine bplus ?_ _)))⟩
  | range =>
    have CA := hide (fun (W : World) (h : Errs W) => pi_no (byA A) W zA (by rw [hA0, hpA]; intro v h; cases h) h)
    simp only [rfV]
    clear hpA hA0 hD0
    rcases F with _ | _
    all_goals
      go_enter Tryd.func12, Tryd.ntmps12
      go_wp2_with (first
        | (go_at_call 19; refine (C.out _).mono ?_; rintro e w1 ⟨rfl, B1⟩; rw [CV.out]; have R := hide (R0.out.below B1); obtain ⟨z, m0, m1, f0, f1⟩ := R.out; replace B1 := hide (show Below w.heap.size w w1 from bto (bplus (Below.refl _ _) _) B1))
        | (go_at_call_of 20 (Value.string (byA A)); refine (CA.out _ (HE.out _ B1.out)).mono ?_; rintro e w2 ⟨v, T, p, rfl, B2⟩; clear z m0 m1 f0 f1; replace R := hide (R.out.below B2); obtain ⟨z, m0, m1, f0, f1⟩ := R.out; replace B1 := hide (bto B1.out B2)))
      refine bodyPost_ret (v := .tuple #[.agg #[.int .i64 0, .int .i64 0], .bool false]) (by simp [results, Tryd.results12, go_sem, m0, m1, z]) rfl ?_
      exact ⟨rfl, (by repeat (first | (with_reducible exact B1.out) | (with_reducible refine Below.setCell ?_ (by simp) _) | (with_reducible refine bplus ?_ _)))⟩
end Go.Proofs.YtakkblmcmlkjmaaDoor
