/-
  Texts as fractions, by the reference: a sign ahead.
-/
import Derived.Test.YtakkblmcmlkjmaaDoorTxtF
set_option linter.unusedVariables false
set_option linter.unusedSimpArgs false
namespace Go.Proofs.YtakkblmcmlkjmaaDoor
open Go.RowKit Go.Shelf

set_option maxRecDepth 100000 in
set_option maxHeartbeats 4000000 in
theorem parseR_negS (s tb : ByteArray) (w : World) (hs : s.size ≤ 140737488355328) (hts : (tb).size ≤ 140737488355328) (hne : s.data.toList ≠ ovr) (e0 : s.toList.isEmpty = false) (hp : 0 < s.size) (e45 : ((s[0].toNat : Int) == 45) = true) (hp1 : 1 ≤ s.size) (hp2 : (1 : Int) ≤ s.size) (hex : Hid (s.extract 1 s.size = tb)) (HZ1 : Hid (tb.size = s.size - 1)) (hng : ngt s.data.toList = true) (htb : (tb).data.toList = bdy s.data.toList) (hsl : (47 : UInt8) ∈ bdy s.data.toList) :
    Calls Tryd.prog 7 #[.string s] w fun e w' => PostPs s w e w' := by
  have n1 : (s.toList == [111, 118, 101, 114]) = false := by
    rw [beq_eq_false_iff_ne]
    intro h
    rw [Lib.toList_data] at h
    exact hne h
  have PP := ps_rp s.data.toList hne
  have RPN := hide (fun (h : rp s.data.toList = none) => show PS s.data.toList 0 0 3 by rw [h] at PP; exact PP)
  have RPS := hide (fun (n d : Int) (h : rp s.data.toList = some (n, d)) => show PS s.data.toList n d 0 by rw [h] at PP; exact PP)
  have R0 := hide (RB.start w 23)
  have HNG := hide hng
  have HTB := hide htb
  clear PP hne hng htb
  obtain ⟨a, b, hab, ha⟩ := split47 _ hsl
  have hC := cut_at a b ha
  rw [← hab] at hC
  have HTB2 := hide (show (tb).data.toList = a ++ 47 :: b by rw [HTB.out]; exact hab)
  have tsz : (tb).size = a.length + 1 + b.length := by
    have := congrArg List.length HTB2.out
    rw [Array.length_toList] at this
    have e : (tb).data.size = (tb).size := rfl
    rw [e] at this
    rw [this]; simp; omega
  obtain ⟨TL, hTL⟩ : ∃ TL, a = TL := ⟨_, rfl⟩
  obtain ⟨LL, hLL⟩ : ∃ LL, b = LL := ⟨_, rfl⟩
  have RP := hide (show rp s.data.toList = rpC (cnt TL) (cnt LL) true true by rw [rp_eq, hC, hTL, hLL, HNG.out]; rfl)
  have HTL := hide (show ((tb).extract 0 a.length).data.toList = TL by
    rw [ByteArray.data_extract, Array.toList_extract, List.extract_eq_take_drop, HTB2.out, ← hTL]; simp)
  have HLL := hide (show ((tb).extract (a.length + 1) (tb).size).data.toList = LL by
    rw [ByteArray.data_extract, Array.toList_extract, List.extract_eq_take_drop, HTB2.out, ← hLL, tsz]; simp)
  have hzt : ((tb).extract 0 a.length).size ≤ 140737488355328 := by simp; omega
  have hzl : ((tb).extract (a.length + 1) (tb).size).size ≤ 140737488355328 := by simp; omega
  have HA := hide (fun (k : Nat) (hk : k < a.length) (hk2 : k < (tb).size) => show ((((tb)[k]'hk2).toNat : Int) == 47) = false from byte_no HTB2.out ha hk hk2)
  have HB9 := hide (fun (hk2 : a.length < (tb).size) => show ((((tb)[a.length]'hk2).toNat : Int) == 47) = true from byte_at HTB2.out hk2)
  obtain ⟨K, hK⟩ : ∃ K, a.length = K := ⟨_, rfl⟩
  have hKs : K < (tb).size := by omega
  rw [hK] at HTL HLL hzt hzl HA HB9
  have TZ := hide tsz
  clear hab ha hC hsl HTB2 hTL hLL hK tsz
  go_enter Tryd.func7, Tryd.ntmps7
  go_wp2
  rw [hex.out]
  go_loopw [31, 6, 7, 8] (fun i t l p wr => RelSl K (tb) (w.alloc (.cells #[.int .i64 0, .int .i64 0] 23)) i t l p wr) (fun i t l p wr => (tb).size - (intOf i).toNat)
  case atStart => exact .mk 0 rfl (Nat.zero_le _) rfl rfl rfl rfl
  case round =>
    obtain ⟨k, rfl, k1, rfl, rfl, rfl, rfl⟩ := hrel
    have hk2 : k < (tb).size := by omega
    have hki : (k : Int) < (tb).size := by omega
    have hk3 : k < s.size - 1 := by have := HZ1.out; omega
    by_cases hk : k < K
    · have q47 := HA.out k hk hk2
      go_wp2
      go_roundw
      case rel => exact .mk (k + 1) rfl hk rfl rfl rfl rfl
      case measure => simp [intOf]; omega
    · obtain rfl : k = K := by omega
      have q47 := HB9.out hk2
      have g1 : k + 1 ≤ (tb).size := by omega
      have g2 : (k : Int) + 1 ≤ (tb).size := by omega
      have g3 : k ≤ (tb).size := by omega
      have wk : IntKind.i64.wrap ((k : Int) + 1) = (k : Int) + 1 := wrapI (by omega) (by omega)
      have R := R0
      have B1 := hide (bplus (Below.refl w.heap.size w) (.cells #[.int .i64 0, .int .i64 0] 23))
      obtain ⟨z, m0, m1, f0, f1⟩ := R.out
      go_wp2_with fail
      go_quiet (fail)
      clear z m0 m1 f0 f1
      replace R := hide (R.out.below (below_drewN (Below.refl _ _) nq))
      replace B1 := hide (below_drewN B1.out nq)
      obtain ⟨z, m0, m1, f0, f1⟩ := R.out
      go_wp2_with fail
      go_at_call 14
      refine (count_any ((tb).extract 0 k) _ hzt).mono ?_
      rintro e w2 ⟨v1, b1, rfl, H1, B2⟩
      replace H1 := hide (show CN TL v1 b1 by rw [← HTL.out]; exact H1.out)
      clear z m0 m1 f0 f1
      replace R := hide (R.out.below B2)
      obtain ⟨z, m0, m1, f0, f1⟩ := R.out
      replace B1 := hide (bto B1.out B2)
      cases X1 : cnt TL with
      | none =>
        obtain rfl : b1 = false := by have := H1.out; unfold CN at this; rw [X1] at this; exact this
        have FIN := hide (RPN.out (by rw [RP.out, X1]; rfl))
        clear X1 H1 RPN RPS RP
        go_wp2_with (first
          | (go_at_call 14; refine (count_any ((tb).extract (k + 1) (tb).size) _ hzl).mono ?_; rintro e w3 ⟨v2, b2, rfl, H2, B3⟩; clear z m0 m1 f0 f1; replace R := hide (R.out.below B3); obtain ⟨z, m0, m1, f0, f1⟩ := R.out; replace B1 := hide (bto B1.out B3))
          | (go_at_call 13; refine (overB_any _).mono ?_; rintro e w7 ⟨rfl, B7⟩; clear z m0 m1 f0 f1; replace R := hide (R.out.below B7); obtain ⟨z, m0, m1, f0, f1⟩ := R.out; replace B1 := hide (bto B1.out B7)))
        refine bodyPost_ret (v := .tuple #[.agg #[.int .i64 0, .int .i64 0], .int .i64 3]) (by simp [results, Tryd.results7, go_sem, m0, m1, z]) rfl ?_
        exact ⟨0, 0, 3, rfl, FIN.out, (by repeat (first | (with_reducible exact B1.out) | (with_reducible refine Below.setCell ?_ (by first | (simp; done) | (simp; omega) | omega) _) | (with_reducible refine bplus ?_ _)))⟩
      | some u1 =>
        obtain ⟨rfl, rfl⟩ : v1 = u1 ∧ b1 = true := by have := H1.out; unfold CN at this; rw [X1] at this; exact this
        have hu1 := (cnt_canon X1).2
        clear H1
        go_wp2_with fail
        go_at_call 14
        refine (count_any ((tb).extract (k + 1) (tb).size) _ hzl).mono ?_
        rintro e w3 ⟨v2, b2, rfl, H2, B3⟩
        replace H2 := hide (show CN LL v2 b2 by rw [← HLL.out]; exact H2.out)
        clear z m0 m1 f0 f1
        replace R := hide (R.out.below B3)
        obtain ⟨z, m0, m1, f0, f1⟩ := R.out
        replace B1 := hide (bto B1.out B3)
        cases X2 : cnt LL with
        | none =>
          obtain rfl : b2 = false := by have := H2.out; unfold CN at this; rw [X2] at this; exact this
          have FIN := hide (RPN.out (by rw [RP.out, X1, X2]; rfl))
          clear X1 X2 H2 RPN RPS RP
          go_wp2_with (first
            | (go_at_call 13; refine (overB_any _).mono ?_; rintro e w7 ⟨rfl, B7⟩; clear z m0 m1 f0 f1; replace R := hide (R.out.below B7); obtain ⟨z, m0, m1, f0, f1⟩ := R.out; replace B1 := hide (bto B1.out B7)))
          refine bodyPost_ret (v := .tuple #[.agg #[.int .i64 0, .int .i64 0], .int .i64 3]) (by simp [results, Tryd.results7, go_sem, m0, m1, z]) rfl ?_
          exact ⟨0, 0, 3, rfl, FIN.out, (by repeat (first | (with_reducible exact B1.out) | (with_reducible refine Below.setCell ?_ (by first | (simp; done) | (simp; omega) | omega) _) | (with_reducible refine bplus ?_ _)))⟩
        | some u2 =>
          obtain ⟨rfl, rfl⟩ : v2 = u2 ∧ b2 = true := by have := H2.out; unfold CN at this; rw [X2] at this; exact this
          have hu2 := (cnt_canon X2).2
          clear H2
          rw [X1, X2] at RP
          have RP2 := hide (show rp s.data.toList = (if ((true : Bool) = true ∧ u2 < 2) ∨ ((true : Bool) = true ∧ u1 = 0) then none else if isV (sgd true u1) u2 = true then some (sgd true u1, (u2 : Int)) else none) from RP.out)
          have hsg : sgd true u1 = (-(u1 : Int)) := by unfold sgd; simp
          rw [hsg] at RP2
          clear RP X1 X2 hsg
          have wN : IntKind.i64.wrap (-(u1 : Int)) = -(u1 : Int) := wrapI (by omega) (by omega)
          by_cases hd2 : u2 < 2
          · have FIN := hide (RPN.out (by rw [RP2.out, if_pos (.inl ⟨rfl, hd2⟩)]))
            have q1 : (u2 : Int) < 2 := by omega
            clear RPN RPS RP2
            go_wp2_with (first
              | (go_at_call 13; refine (overB_any _).mono ?_; rintro e w7 ⟨rfl, B7⟩; clear z m0 m1 f0 f1; replace R := hide (R.out.below B7); obtain ⟨z, m0, m1, f0, f1⟩ := R.out; replace B1 := hide (bto B1.out B7)))
            refine bodyPost_ret (v := .tuple #[.agg #[.int .i64 0, .int .i64 0], .int .i64 3]) (by simp [results, Tryd.results7, go_sem, m0, m1, z]) rfl ?_
            exact ⟨0, 0, 3, rfl, FIN.out, (by repeat (first | (with_reducible exact B1.out) | (with_reducible refine Below.setCell ?_ (by first | (simp; done) | (simp; omega) | omega) _) | (with_reducible refine bplus ?_ _)))⟩
          have q1 : ¬ (u2 : Int) < 2 := by omega
          have hpos : 1 ≤ (u2 : Int) := by omega
          by_cases hz0 : u1 = 0
          · have FIN := hide (RPN.out (by rw [RP2.out, if_pos (.inr ⟨rfl, hz0⟩)]))
            have q2 : ((u1 : Int) == 0) = true := by rw [hz0]; rfl
            clear RPN RPS RP2
            go_wp2_with (first
              | (go_at_call 13; refine (overB_any _).mono ?_; rintro e w7 ⟨rfl, B7⟩; clear z m0 m1 f0 f1; replace R := hide (R.out.below B7); obtain ⟨z, m0, m1, f0, f1⟩ := R.out; replace B1 := hide (bto B1.out B7)))
            refine bodyPost_ret (v := .tuple #[.agg #[.int .i64 0, .int .i64 0], .int .i64 3]) (by simp [results, Tryd.results7, go_sem, m0, m1, z]) rfl ?_
            exact ⟨0, 0, 3, rfl, FIN.out, (by repeat (first | (with_reducible exact B1.out) | (with_reducible refine Below.setCell ?_ (by first | (simp; done) | (simp; omega) | omega) _) | (with_reducible refine bplus ?_ _)))⟩
          have q2 : ((u1 : Int) == 0) = false := by rw [beq_eq_false_iff_ne]; omega
          have hno : ¬ (((true : Bool) = true ∧ u2 < 2) ∨ ((true : Bool) = true ∧ u1 = 0)) := by
            rintro (g | g)
            · exact (fun g => hd2 g.2) g
            · exact hz0 g.2
          have d0 : ((u2 : Int) == 0) = false := by rw [beq_eq_false_iff_ne]; omega
          rw [if_neg hno] at RP2
          cases hV : isV (-(u1 : Int)) u2 with
          | false =>
            have FIN := hide (RPN.out (by rw [RP2.out, hV]; rfl))
            have MB := hide (show mayB (-(u1 : Int)) u2 = false by unfold mayB; rw [hV, d0]; simp)
            clear RPN RPS RP2 hV hno
            go_wp2_with (first
              | (go_at_call 15; refine (rmay_any _ _ _ (by omega) (by omega) (by omega) (by omega)).mono ?_; rintro e w5 ⟨rfl, U5⟩; rw [MB.out]; have B5 := (show Below w3.heap.size w3 w5 from bto (by repeat (first | exact Below.refl _ _ | (with_reducible refine Below.setCell ?_ (by first | (simp; done) | (simp; omega) | omega) _) | (with_reducible refine bplus ?_ _))) U5.1); clear z m0 m1 f0 f1; replace R := hide (R.out.below B5); obtain ⟨z, m0, m1, f0, f1⟩ := R.out; replace B1 := hide (bto B1.out B5))
              | (go_at_call 13; refine (overB_any _).mono ?_; rintro e w7 ⟨rfl, B7⟩; clear z m0 m1 f0 f1; replace R := hide (R.out.below B7); obtain ⟨z, m0, m1, f0, f1⟩ := R.out; replace B1 := hide (bto B1.out B7)))
            refine bodyPost_ret (v := .tuple #[.agg #[.int .i64 0, .int .i64 0], .int .i64 3]) (by simp [results, Tryd.results7, go_sem, m0, m1, z]) rfl ?_
            exact ⟨0, 0, 3, rfl, FIN.out, (by repeat (first | (with_reducible exact B1.out) | (with_reducible refine Below.setCell ?_ (by first | (simp; done) | (simp; omega) | omega) _) | (with_reducible refine bplus ?_ _)))⟩
          | true =>
            have FIN := hide (RPS.out (-(u1 : Int)) (u2 : Int) (by rw [RP2.out, hV]; rfl))
            have MB := hide (show mayB (-(u1 : Int)) u2 = true by unfold mayB; rw [hV]; simp)
            clear RPN RPS RP2 hV hno
            go_wp2_with (go_at_call 15; refine (rmay_any _ _ _ (by omega) (by omega) (by omega) (by omega)).mono ?_; rintro e w5 ⟨rfl, U5⟩; rw [MB.out]; have k0 := (U5.cell _ _ (by simp) : w5.cell? ⟨w3.heap.size, 0, none⟩ = _).trans (show _ = some (.int .i64 (-(u1 : Int))) by simp [go_sem]); have k1 := (U5.cell _ _ (by simp) : w5.cell? ⟨w3.heap.size, 1, none⟩ = _).trans (show _ = some (.int .i64 (u2 : Int)) by simp [go_sem]); have B5 := (show Below w3.heap.size w3 w5 from bto (by repeat (first | exact Below.refl _ _ | (with_reducible refine Below.setCell ?_ (by first | (simp; done) | (simp; omega) | omega) _) | (with_reducible refine bplus ?_ _))) U5.1); clear z m0 m1 f0 f1; replace R := hide (R.out.below B5); obtain ⟨z, m0, m1, f0, f1⟩ := R.out; replace B1 := hide (bto B1.out B5))
            refine bodyPost_ret (v := .tuple #[.agg #[.int .i64 (-(u1 : Int)), .int .i64 (u2 : Int)], .int .i64 0]) (by simp [results, Tryd.results7, go_sem, m0, m1, z, k0, k1]) rfl ?_
            exact ⟨(-(u1 : Int)), u2, 0, rfl, FIN.out, (by repeat (first | (with_reducible exact B1.out) | (with_reducible refine Below.setCell ?_ (by first | (simp; done) | (simp; omega) | omega) _) | (with_reducible refine bplus ?_ _)))⟩
set_option maxRecDepth 100000 in
set_option maxHeartbeats 4000000 in
theorem parseR_negN (s tb : ByteArray) (w : World) (hs : s.size ≤ 140737488355328) (hts : (tb).size ≤ 140737488355328) (hne : s.data.toList ≠ ovr) (e0 : s.toList.isEmpty = false) (hp : 0 < s.size) (e45 : ((s[0].toNat : Int) == 45) = true) (hp1 : 1 ≤ s.size) (hp2 : (1 : Int) ≤ s.size) (hex : Hid (s.extract 1 s.size = tb)) (HZ1 : Hid (tb.size = s.size - 1)) (hng : ngt s.data.toList = true) (htb : (tb).data.toList = bdy s.data.toList) (hsl : (47 : UInt8) ∉ bdy s.data.toList) :
    Calls Tryd.prog 7 #[.string s] w fun e w' => PostPs s w e w' := by
  have n1 : (s.toList == [111, 118, 101, 114]) = false := by
    rw [beq_eq_false_iff_ne]
    intro h
    rw [Lib.toList_data] at h
    exact hne h
  have PP := ps_rp s.data.toList hne
  have RPN := hide (fun (h : rp s.data.toList = none) => show PS s.data.toList 0 0 3 by rw [h] at PP; exact PP)
  have RPS := hide (fun (n d : Int) (h : rp s.data.toList = some (n, d)) => show PS s.data.toList n d 0 by rw [h] at PP; exact PP)
  have R0 := hide (RB.start w 23)
  have HNG := hide hng
  have HTB := hide htb
  clear PP hne hng htb
  have hC := cut_no _ hsl
  obtain ⟨TL, hTL⟩ : ∃ TL, bdy s.data.toList = TL := ⟨_, rfl⟩
  obtain ⟨LL, hLL⟩ : ∃ LL : List UInt8, [49] = LL := ⟨_, rfl⟩
  have HL1 := hide hLL.symm
  have RP := hide (show rp s.data.toList = rpC (cnt TL) (cnt LL) false true by rw [rp_eq, hC, ← hTL, ← hLL, HNG.out]; rfl)
  have HTL := hide (show (tb).data.toList = TL by rw [HTB.out, hTL])
  have HLL := hide (show (⟨#[49]⟩ : ByteArray).data.toList = LL by rw [← hLL])
  have hzt : (tb).size ≤ 140737488355328 := by first | omega | (simp; omega)
  have hzl : (⟨#[49]⟩ : ByteArray).size ≤ 140737488355328 := by decide
  have HA := hide (fun (k : Nat) (hk2 : k < (tb).size) => show ((((tb)[k]'hk2).toNat : Int) == 47) = false from byte_no' (by rw [HTB.out]; exact hsl) hk2)
  clear hsl hC hTL hLL
  go_enter Tryd.func7, Tryd.ntmps7
  go_wp2
  rw [hex.out]
  go_loopw [31, 6, 7, 8] (fun i t l p wr => RelSl (tb).size (tb) (w.alloc (.cells #[.int .i64 0, .int .i64 0] 23)) i t l p wr) (fun i t l p wr => (tb).size - (intOf i).toNat)
  case atStart => exact .mk 0 rfl (Nat.zero_le _) rfl rfl rfl rfl
  case round =>
    obtain ⟨k, rfl, k1, rfl, rfl, rfl, rfl⟩ := hrel
    by_cases hk2 : k < (tb).size
    · have hki : (k : Int) < (tb).size := by omega
      have hk3 : k < s.size - 1 := by have := HZ1.out; omega
      have q47 := HA.out k hk2
      go_wp2
      go_roundw
      case rel => exact .mk (k + 1) rfl hk2 rfl rfl rfl rfl
      case measure => simp [intOf]; omega
    · have hki : ¬ (k : Int) < (tb).size := by omega
      have hk3 : ¬ k < s.size - 1 := by have := HZ1.out; omega
      have R := R0
      have B1 := hide (bplus (Below.refl w.heap.size w) (.cells #[.int .i64 0, .int .i64 0] 23))
      obtain ⟨z, m0, m1, f0, f1⟩ := R.out
      go_wp2_with fail
      go_at_call 14
      refine (count_any (tb) _ hzt).mono ?_
      rintro e w2 ⟨v1, b1, rfl, H1, B2⟩
      replace H1 := hide (show CN TL v1 b1 by rw [← HTL.out]; exact H1.out)
      clear z m0 m1 f0 f1
      replace R := hide (R.out.below B2)
      obtain ⟨z, m0, m1, f0, f1⟩ := R.out
      replace B1 := hide (bto B1.out B2)
      cases X1 : cnt TL with
      | none =>
        obtain rfl : b1 = false := by have := H1.out; unfold CN at this; rw [X1] at this; exact this
        have FIN := hide (RPN.out (by rw [RP.out, X1]; rfl))
        clear X1 H1 RPN RPS RP
        go_wp2_with (first
          | (go_at_call 14; refine (count_any ⟨#[49]⟩ _ hzl).mono ?_; rintro e w3 ⟨v2, b2, rfl, H2, B3⟩; clear z m0 m1 f0 f1; replace R := hide (R.out.below B3); obtain ⟨z, m0, m1, f0, f1⟩ := R.out; replace B1 := hide (bto B1.out B3))
          | (go_at_call 13; refine (overB_any _).mono ?_; rintro e w7 ⟨rfl, B7⟩; clear z m0 m1 f0 f1; replace R := hide (R.out.below B7); obtain ⟨z, m0, m1, f0, f1⟩ := R.out; replace B1 := hide (bto B1.out B7)))
        refine bodyPost_ret (v := .tuple #[.agg #[.int .i64 0, .int .i64 0], .int .i64 3]) (by simp [results, Tryd.results7, go_sem, m0, m1, z]) rfl ?_
        exact ⟨0, 0, 3, rfl, FIN.out, (by repeat (first | (with_reducible exact B1.out) | (with_reducible refine Below.setCell ?_ (by first | (simp; done) | (simp; omega) | omega) _) | (with_reducible refine bplus ?_ _)))⟩
      | some u1 =>
        obtain ⟨rfl, rfl⟩ : v1 = u1 ∧ b1 = true := by have := H1.out; unfold CN at this; rw [X1] at this; exact this
        have hu1 := (cnt_canon X1).2
        clear H1
        go_wp2_with fail
        go_at_call 14
        refine (count_any ⟨#[49]⟩ _ hzl).mono ?_
        rintro e w3 ⟨v2, b2, rfl, H2, B3⟩
        replace H2 := hide (show CN LL v2 b2 by rw [← HLL.out]; exact H2.out)
        clear z m0 m1 f0 f1
        replace R := hide (R.out.below B3)
        obtain ⟨z, m0, m1, f0, f1⟩ := R.out
        replace B1 := hide (bto B1.out B3)
        cases X2 : cnt LL with
        | none =>
          obtain rfl : b2 = false := by have := H2.out; unfold CN at this; rw [X2] at this; exact this
          have FIN := hide (RPN.out (by rw [RP.out, X1, X2]; rfl))
          clear X1 X2 H2 RPN RPS RP
          go_wp2_with (first
            | (go_at_call 13; refine (overB_any _).mono ?_; rintro e w7 ⟨rfl, B7⟩; clear z m0 m1 f0 f1; replace R := hide (R.out.below B7); obtain ⟨z, m0, m1, f0, f1⟩ := R.out; replace B1 := hide (bto B1.out B7)))
          refine bodyPost_ret (v := .tuple #[.agg #[.int .i64 0, .int .i64 0], .int .i64 3]) (by simp [results, Tryd.results7, go_sem, m0, m1, z]) rfl ?_
          exact ⟨0, 0, 3, rfl, FIN.out, (by repeat (first | (with_reducible exact B1.out) | (with_reducible refine Below.setCell ?_ (by first | (simp; done) | (simp; omega) | omega) _) | (with_reducible refine bplus ?_ _)))⟩
        | some u2 =>
          obtain ⟨rfl, rfl⟩ : v2 = u2 ∧ b2 = true := by have := H2.out; unfold CN at this; rw [X2] at this; exact this
          have hu2 := (cnt_canon X2).2
          have HONE := hide (show ∀ x : Nat, 1 ≤ (u2 : Int) from fun _ => (by have e : cnt [49] = some 1 := (by decide); rw [HL1.out, e] at X2; have := Option.some.inj X2; omega))
          clear H2
          rw [X1, X2] at RP
          have RP2 := hide (show rp s.data.toList = (if ((false : Bool) = true ∧ u2 < 2) ∨ ((true : Bool) = true ∧ u1 = 0) then none else if isV (sgd true u1) u2 = true then some (sgd true u1, (u2 : Int)) else none) from RP.out)
          have hsg : sgd true u1 = (-(u1 : Int)) := by unfold sgd; simp
          rw [hsg] at RP2
          clear RP X1 X2 hsg
          have wN : IntKind.i64.wrap (-(u1 : Int)) = -(u1 : Int) := wrapI (by omega) (by omega)
          have hpos : 1 ≤ (u2 : Int) := HONE.out u2
          by_cases hz0 : u1 = 0
          · have FIN := hide (RPN.out (by rw [RP2.out, if_pos (.inr ⟨rfl, hz0⟩)]))
            have q2 : ((u1 : Int) == 0) = true := by rw [hz0]; rfl
            clear RPN RPS RP2
            go_wp2_with (first
              | (go_at_call 13; refine (overB_any _).mono ?_; rintro e w7 ⟨rfl, B7⟩; clear z m0 m1 f0 f1; replace R := hide (R.out.below B7); obtain ⟨z, m0, m1, f0, f1⟩ := R.out; replace B1 := hide (bto B1.out B7)))
            refine bodyPost_ret (v := .tuple #[.agg #[.int .i64 0, .int .i64 0], .int .i64 3]) (by simp [results, Tryd.results7, go_sem, m0, m1, z]) rfl ?_
            exact ⟨0, 0, 3, rfl, FIN.out, (by repeat (first | (with_reducible exact B1.out) | (with_reducible refine Below.setCell ?_ (by first | (simp; done) | (simp; omega) | omega) _) | (with_reducible refine bplus ?_ _)))⟩
          have q2 : ((u1 : Int) == 0) = false := by rw [beq_eq_false_iff_ne]; omega
          have hno : ¬ (((false : Bool) = true ∧ u2 < 2) ∨ ((true : Bool) = true ∧ u1 = 0)) := by
            rintro (g | g)
            · exact (fun g => Bool.noConfusion g.1) g
            · exact hz0 g.2
          have d0 : ((u2 : Int) == 0) = false := by rw [beq_eq_false_iff_ne]; omega
          rw [if_neg hno] at RP2
          cases hV : isV (-(u1 : Int)) u2 with
          | false =>
            have FIN := hide (RPN.out (by rw [RP2.out, hV]; rfl))
            have MB := hide (show mayB (-(u1 : Int)) u2 = false by unfold mayB; rw [hV, d0]; simp)
            clear RPN RPS RP2 hV hno
            go_wp2_with (first
              | (go_at_call 15; refine (rmay_any _ _ _ (by omega) (by omega) (by omega) (by omega)).mono ?_; rintro e w5 ⟨rfl, U5⟩; rw [MB.out]; have B5 := (show Below w3.heap.size w3 w5 from bto (by repeat (first | exact Below.refl _ _ | (with_reducible refine Below.setCell ?_ (by first | (simp; done) | (simp; omega) | omega) _) | (with_reducible refine bplus ?_ _))) U5.1); clear z m0 m1 f0 f1; replace R := hide (R.out.below B5); obtain ⟨z, m0, m1, f0, f1⟩ := R.out; replace B1 := hide (bto B1.out B5))
              | (go_at_call 13; refine (overB_any _).mono ?_; rintro e w7 ⟨rfl, B7⟩; clear z m0 m1 f0 f1; replace R := hide (R.out.below B7); obtain ⟨z, m0, m1, f0, f1⟩ := R.out; replace B1 := hide (bto B1.out B7)))
            refine bodyPost_ret (v := .tuple #[.agg #[.int .i64 0, .int .i64 0], .int .i64 3]) (by simp [results, Tryd.results7, go_sem, m0, m1, z]) rfl ?_
            exact ⟨0, 0, 3, rfl, FIN.out, (by repeat (first | (with_reducible exact B1.out) | (with_reducible refine Below.setCell ?_ (by first | (simp; done) | (simp; omega) | omega) _) | (with_reducible refine bplus ?_ _)))⟩
          | true =>
            have FIN := hide (RPS.out (-(u1 : Int)) (u2 : Int) (by rw [RP2.out, hV]; rfl))
            have MB := hide (show mayB (-(u1 : Int)) u2 = true by unfold mayB; rw [hV]; simp)
            clear RPN RPS RP2 hV hno
            go_wp2_with (go_at_call 15; refine (rmay_any _ _ _ (by omega) (by omega) (by omega) (by omega)).mono ?_; rintro e w5 ⟨rfl, U5⟩; rw [MB.out]; have k0 := (U5.cell _ _ (by simp) : w5.cell? ⟨w3.heap.size, 0, none⟩ = _).trans (show _ = some (.int .i64 (-(u1 : Int))) by simp [go_sem]); have k1 := (U5.cell _ _ (by simp) : w5.cell? ⟨w3.heap.size, 1, none⟩ = _).trans (show _ = some (.int .i64 (u2 : Int)) by simp [go_sem]); have B5 := (show Below w3.heap.size w3 w5 from bto (by repeat (first | exact Below.refl _ _ | (with_reducible refine Below.setCell ?_ (by first | (simp; done) | (simp; omega) | omega) _) | (with_reducible refine bplus ?_ _))) U5.1); clear z m0 m1 f0 f1; replace R := hide (R.out.below B5); obtain ⟨z, m0, m1, f0, f1⟩ := R.out; replace B1 := hide (bto B1.out B5))
            refine bodyPost_ret (v := .tuple #[.agg #[.int .i64 (-(u1 : Int)), .int .i64 (u2 : Int)], .int .i64 0]) (by simp [results, Tryd.results7, go_sem, m0, m1, z, k0, k1]) rfl ?_
            exact ⟨(-(u1 : Int)), u2, 0, rfl, FIN.out, (by repeat (first | (with_reducible exact B1.out) | (with_reducible refine Below.setCell ?_ (by first | (simp; done) | (simp; omega) | omega) _) | (with_reducible refine bplus ?_ _)))⟩
end Go.Proofs.YtakkblmcmlkjmaaDoor
