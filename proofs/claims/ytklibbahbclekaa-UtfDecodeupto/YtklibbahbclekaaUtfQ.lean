/-
  The characters of a stylesheet, by the reference; the law of both.
-/
import Derived.Test.YtklibbahbclekaaUtfO
set_option linter.unusedVariables false
set_option linter.unusedSimpArgs false
namespace Go.Proofs.Ytklibbahbclekaa
open Go.RowKit

def RelLi2 (W : World) (n : Nat) (ls : List Int) (l la i : Value) (wr : World) : Prop :=
  ∃ (k : Nat) (xs : List Int), k ≤ n ∧ i = .int .i64 k ∧ la = .int .i32 (pv ls k) ∧ xs.length ≤ k ∧ Own W .i32 21 wr l xs ∧ Hid (lin 0 ls = xs ++ lin (pv ls k) (ls.drop k))
theorem RelLi2.mk {W : World} {n : Nat} {ls : List Int} {l la i : Value} {wr : World} (k : Nat) (xs : List Int) (h1 : k ≤ n) (h2 : i = .int .i64 k) (h2' : la = .int .i32 (pv ls k)) (h3 : xs.length ≤ k) (h4 : Own W .i32 21 wr l xs) (h5 : lin 0 ls = xs ++ lin (pv ls k) (ls.drop k)) : RelLi2 W n ls l la i wr :=
  ⟨k, xs, h1, h2, h2', h3, h4, h5⟩
theorem pv_succ (ls : List Int) (k : Nat) : pv ls (k + 1) = gt ls k := rfl

set_option maxHeartbeats 4000000 in
theorem decR_short (bs ds : List Int) (a : Option Addr) (n c : Nat) (w : World) (hn9 : n ≤ 4611686018427387904) (hc9 : True) (hs : n < 3)
    (BC : By ds) (NC : Hid (Nums .u8 w (.slice a n c) ds)) (LR : (raw ds).length ≤ 1099511627776) (LD : ds.length ≤ 1099511627776) (D : Hid (dec bs = lin 0 (raw ds))) :
    Calls Try.prog 14 #[.slice a n c] w fun e w' => ∃ u, e = .returned u ∧ Nums .i32 w' u (dec bs) ∧ Below w.heap.size w w' := by
  obtain ⟨i0, hi, hz0, hz1, hz2⟩ := info_parts info32
  go_enter Try.func14, Try.ntmps14
  go_wp2_with (go_at_call 11; refine (rawR_any ds _ _ BC NC.out (by omega)).mono ?_; rintro e w1 ⟨u1, rfl, N1, B1⟩; obtain ⟨a1, n1, c1, rfl, hn1, hn19, _, hc1⟩ := N1.form; replace N1 := hide N1; replace B1 := hide B1; have HN1 := hide hn1; have HC1 := hide hc1; have hnb : n1 ≤ 1099511627776 := (by omega); clear hn1 hc1)
  go_loopw [3, 4, 34] (fun l la i wr => RelLi2 w1 n1 (raw ds) l la i wr) (fun _ _ i _ => n1 - (intOf i).toNat)
  case atStart => exact .mk 0 [] (by omega) rfl rfl (by simp) (Own.nil _ _ _) rfl
  case round =>
    obtain ⟨k, xs, hk, rfl, rfl, hxs, HO, R⟩ := hrel
    replace HO := hide HO
    by_cases hlt : k < n1
    · obtain ⟨b1, o1, rfl, hbw1, hcl1, hc91, hcc1⟩ := HC1.out (by omega)
      have cx : wr.cell? ⟨b1, o1 + k, none⟩ = some (.int .i32 (gt (raw ds) k)) := (HO.out.2.cell (p := ⟨b1, o1 + k, none⟩) hbw1).trans (hcc1 k hlt)
      have R1 := hide (lin_in R.out (by rw [← HN1.out]; exact hlt))
      have R2 := hide (lin_out R.out (by rw [← HN1.out]; exact hlt))
      have PS := hide (pv_succ (raw ds) k)
      clear hcc1 R
      generalize gt (raw ds) k = x at *
      generalize pv (raw ds) k = p at *
      rcases tr_cases x p with ⟨rfl, rfl⟩ | ⟨hno, q⟩
      · have R := hide (R2.out ⟨rfl, rfl⟩)
        clear R1 R2
        go_wp2
        go_roundw
        case rel => exact .mk (k + 1) xs (by omega) (by go_num) (by rw [PS.out]) (by omega) HO.out R.out
        case measure => simp [intOf]; omega
      · have R := hide (R1.out hno)
        clear R1 R2 hno
        rcases q with ⟨rfl, hp, e⟩ | ⟨rfl, e⟩ | ⟨rfl, e⟩ | ⟨rfl, e⟩ | ⟨x1, x2, x3, x4, e⟩
        · rw [e] at R
          have hp' : (p != 13) = true := by simp [hp]
          clear hp
          clear e
          go_wp2_with (at_builtin; refine wpList_append_own _ rfl _ _ 24 rfl w1.heap.size 21 i0 (.int .i32 0) 1 4 Try.underlying24 hi hz0 hz1 hz2 rfl (by decide) _ _ _ rfl (HO.out.1.alloc _) ⟨_, 0, none⟩ 1 1 [.int .i32 10] rfl rfl (news1 _ _ _) (by intro u hu; simp at hu; subst hu; rfl) (by unfold maxLen; omega) (by omega) (by have := HO.out.2.size; simp; omega) ?_; intro v' w2 hown' hgrow _; replace HO := hide (HO.out.grow (ys := [10]) hown' hgrow); clear hown' hgrow)
          go_roundw
          case rel => exact .mk (k + 1) (xs ++ [10]) (by omega) (by go_num) (by rw [PS.out]) (by rw [List.length_append, List.length_singleton]; omega) HO.out R.out
          case measure => simp [intOf]; omega
        · rw [e] at R
          clear e
          go_wp2_with (at_builtin; refine wpList_append_own _ rfl _ _ 24 rfl w1.heap.size 21 i0 (.int .i32 0) 1 4 Try.underlying24 hi hz0 hz1 hz2 rfl (by decide) _ _ _ rfl (HO.out.1.alloc _) ⟨_, 0, none⟩ 1 1 [.int .i32 10] rfl rfl (news1 _ _ _) (by intro u hu; simp at hu; subst hu; rfl) (by unfold maxLen; omega) (by omega) (by have := HO.out.2.size; simp; omega) ?_; intro v' w2 hown' hgrow _; replace HO := hide (HO.out.grow (ys := [10]) hown' hgrow); clear hown' hgrow)
          go_roundw
          case rel => exact .mk (k + 1) (xs ++ [10]) (by omega) (by go_num) (by rw [PS.out]) (by rw [List.length_append, List.length_singleton]; omega) HO.out R.out
          case measure => simp [intOf]; omega
        · rw [e] at R
          clear e
          go_wp2_with (at_builtin; refine wpList_append_own _ rfl _ _ 24 rfl w1.heap.size 21 i0 (.int .i32 0) 1 4 Try.underlying24 hi hz0 hz1 hz2 rfl (by decide) _ _ _ rfl (HO.out.1.alloc _) ⟨_, 0, none⟩ 1 1 [.int .i32 10] rfl rfl (news1 _ _ _) (by intro u hu; simp at hu; subst hu; rfl) (by unfold maxLen; omega) (by omega) (by have := HO.out.2.size; simp; omega) ?_; intro v' w2 hown' hgrow _; replace HO := hide (HO.out.grow (ys := [10]) hown' hgrow); clear hown' hgrow)
          go_roundw
          case rel => exact .mk (k + 1) (xs ++ [10]) (by omega) (by go_num) (by rw [PS.out]) (by rw [List.length_append, List.length_singleton]; omega) HO.out R.out
          case measure => simp [intOf]; omega
        · rw [e] at R
          clear e
          go_wp2_with (at_builtin; refine wpList_append_own _ rfl _ _ 24 rfl w1.heap.size 21 i0 (.int .i32 0) 1 4 Try.underlying24 hi hz0 hz1 hz2 rfl (by decide) _ _ _ rfl (HO.out.1.alloc _) ⟨_, 0, none⟩ 1 1 [.int .i32 65533] rfl rfl (news1 _ _ _) (by intro u hu; simp at hu; subst hu; rfl) (by unfold maxLen; omega) (by omega) (by have := HO.out.2.size; simp; omega) ?_; intro v' w2 hown' hgrow _; replace HO := hide (HO.out.grow (ys := [65533]) hown' hgrow); clear hown' hgrow)
          go_roundw
          case rel => exact .mk (k + 1) (xs ++ [65533]) (by omega) (by go_num) (by rw [PS.out]) (by rw [List.length_append, List.length_singleton]; omega) HO.out R.out
          case measure => simp [intOf]; omega
        · rw [e] at R
          have y1 : (x == 10) = false := by simp [x1]
          have y5 : (x != 10) = true := by simp [x1]
          have y2 : (x == 13) = false := by simp [x2]
          have y3 : (x == 12) = false := by simp [x3]
          have y4 : (x == 0) = false := by simp [x4]
          clear x1 x2 x3 x4
          clear e
          go_wp2_with (at_builtin; refine wpList_append_own _ rfl _ _ 24 rfl w1.heap.size 21 i0 (.int .i32 0) 1 4 Try.underlying24 hi hz0 hz1 hz2 rfl (by decide) _ _ _ rfl (HO.out.1.alloc _) ⟨_, 0, none⟩ 1 1 [.int .i32 x] rfl rfl (news1 _ _ _) (by intro u hu; simp at hu; subst hu; rfl) (by unfold maxLen; omega) (by omega) (by have := HO.out.2.size; simp; omega) ?_; intro v' w2 hown' hgrow _; replace HO := hide (HO.out.grow (ys := [x]) hown' hgrow); clear hown' hgrow)
          go_roundw
          case rel => exact .mk (k + 1) (xs ++ [x]) (by omega) (by go_num) (by rw [PS.out]) (by rw [List.length_append, List.length_singleton]; omega) HO.out R.out
          case measure => simp [intOf]; omega
    · have R' := hide (lin_end R.out (by rw [← HN1.out]; omega))
      have N := hide (HO.out.nums (by omega))
      go_wp2
      go_ret
      exact ⟨_, rfl, by rw [D.out, R'.out]; exact N.out, bto B1.out HO.out.2⟩
set_option maxHeartbeats 4000000 in
theorem decR_no0 (bs ds : List Int) (b o n c : Nat) (w : World) (hn9 : n ≤ 4611686018427387904) (hc9 : c ≤ 9223372036854775807) (hs : 3 ≤ n) (y0 : Int) (c0 : w.cell? ⟨b, o, none⟩ = some (.int .u8 y0)) (g0 : (y0 == 239) = false)
    (BC : By ds) (NC : Hid (Nums .u8 w (.slice (some ⟨b, o, none⟩) n c) ds)) (LR : (raw ds).length ≤ 1099511627776) (LD : ds.length ≤ 1099511627776) (D : Hid (dec bs = lin 0 (raw ds))) :
    Calls Try.prog 14 #[.slice (some ⟨b, o, none⟩) n c] w fun e w' => ∃ u, e = .returned u ∧ Nums .i32 w' u (dec bs) ∧ Below w.heap.size w w' := by
  obtain ⟨i0, hi, hz0, hz1, hz2⟩ := info_parts info32
  go_enter Try.func14, Try.ntmps14
  go_wp2_with (go_at_call 11; refine (rawR_any ds _ _ BC NC.out (by omega)).mono ?_; rintro e w1 ⟨u1, rfl, N1, B1⟩; obtain ⟨a1, n1, c1, rfl, hn1, hn19, _, hc1⟩ := N1.form; replace N1 := hide N1; replace B1 := hide B1; have HN1 := hide hn1; have HC1 := hide hc1; have hnb : n1 ≤ 1099511627776 := (by omega); clear hn1 hc1)
  go_loopw [3, 4, 34] (fun l la i wr => RelLi2 w1 n1 (raw ds) l la i wr) (fun _ _ i _ => n1 - (intOf i).toNat)
  case atStart => exact .mk 0 [] (by omega) rfl rfl (by simp) (Own.nil _ _ _) rfl
  case round =>
    obtain ⟨k, xs, hk, rfl, rfl, hxs, HO, R⟩ := hrel
    replace HO := hide HO
    by_cases hlt : k < n1
    · obtain ⟨b1, o1, rfl, hbw1, hcl1, hc91, hcc1⟩ := HC1.out (by omega)
      have cx : wr.cell? ⟨b1, o1 + k, none⟩ = some (.int .i32 (gt (raw ds) k)) := (HO.out.2.cell (p := ⟨b1, o1 + k, none⟩) hbw1).trans (hcc1 k hlt)
      have R1 := hide (lin_in R.out (by rw [← HN1.out]; exact hlt))
      have R2 := hide (lin_out R.out (by rw [← HN1.out]; exact hlt))
      have PS := hide (pv_succ (raw ds) k)
      clear hcc1 R
      generalize gt (raw ds) k = x at *
      generalize pv (raw ds) k = p at *
      rcases tr_cases x p with ⟨rfl, rfl⟩ | ⟨hno, q⟩
      · have R := hide (R2.out ⟨rfl, rfl⟩)
        clear R1 R2
        go_wp2
        go_roundw
        case rel => exact .mk (k + 1) xs (by omega) (by go_num) (by rw [PS.out]) (by omega) HO.out R.out
        case measure => simp [intOf]; omega
      · have R := hide (R1.out hno)
        clear R1 R2 hno
        rcases q with ⟨rfl, hp, e⟩ | ⟨rfl, e⟩ | ⟨rfl, e⟩ | ⟨rfl, e⟩ | ⟨x1, x2, x3, x4, e⟩
        · rw [e] at R
          have hp' : (p != 13) = true := by simp [hp]
          clear hp
          clear e
          go_wp2_with (at_builtin; refine wpList_append_own _ rfl _ _ 24 rfl w1.heap.size 21 i0 (.int .i32 0) 1 4 Try.underlying24 hi hz0 hz1 hz2 rfl (by decide) _ _ _ rfl (HO.out.1.alloc _) ⟨_, 0, none⟩ 1 1 [.int .i32 10] rfl rfl (news1 _ _ _) (by intro u hu; simp at hu; subst hu; rfl) (by unfold maxLen; omega) (by omega) (by have := HO.out.2.size; simp; omega) ?_; intro v' w2 hown' hgrow _; replace HO := hide (HO.out.grow (ys := [10]) hown' hgrow); clear hown' hgrow)
          go_roundw
          case rel => exact .mk (k + 1) (xs ++ [10]) (by omega) (by go_num) (by rw [PS.out]) (by rw [List.length_append, List.length_singleton]; omega) HO.out R.out
          case measure => simp [intOf]; omega
        · rw [e] at R
          clear e
          go_wp2_with (at_builtin; refine wpList_append_own _ rfl _ _ 24 rfl w1.heap.size 21 i0 (.int .i32 0) 1 4 Try.underlying24 hi hz0 hz1 hz2 rfl (by decide) _ _ _ rfl (HO.out.1.alloc _) ⟨_, 0, none⟩ 1 1 [.int .i32 10] rfl rfl (news1 _ _ _) (by intro u hu; simp at hu; subst hu; rfl) (by unfold maxLen; omega) (by omega) (by have := HO.out.2.size; simp; omega) ?_; intro v' w2 hown' hgrow _; replace HO := hide (HO.out.grow (ys := [10]) hown' hgrow); clear hown' hgrow)
          go_roundw
          case rel => exact .mk (k + 1) (xs ++ [10]) (by omega) (by go_num) (by rw [PS.out]) (by rw [List.length_append, List.length_singleton]; omega) HO.out R.out
          case measure => simp [intOf]; omega
        · rw [e] at R
          clear e
          go_wp2_with (at_builtin; refine wpList_append_own _ rfl _ _ 24 rfl w1.heap.size 21 i0 (.int .i32 0) 1 4 Try.underlying24 hi hz0 hz1 hz2 rfl (by decide) _ _ _ rfl (HO.out.1.alloc _) ⟨_, 0, none⟩ 1 1 [.int .i32 10] rfl rfl (news1 _ _ _) (by intro u hu; simp at hu; subst hu; rfl) (by unfold maxLen; omega) (by omega) (by have := HO.out.2.size; simp; omega) ?_; intro v' w2 hown' hgrow _; replace HO := hide (HO.out.grow (ys := [10]) hown' hgrow); clear hown' hgrow)
          go_roundw
          case rel => exact .mk (k + 1) (xs ++ [10]) (by omega) (by go_num) (by rw [PS.out]) (by rw [List.length_append, List.length_singleton]; omega) HO.out R.out
          case measure => simp [intOf]; omega
        · rw [e] at R
          clear e
          go_wp2_with (at_builtin; refine wpList_append_own _ rfl _ _ 24 rfl w1.heap.size 21 i0 (.int .i32 0) 1 4 Try.underlying24 hi hz0 hz1 hz2 rfl (by decide) _ _ _ rfl (HO.out.1.alloc _) ⟨_, 0, none⟩ 1 1 [.int .i32 65533] rfl rfl (news1 _ _ _) (by intro u hu; simp at hu; subst hu; rfl) (by unfold maxLen; omega) (by omega) (by have := HO.out.2.size; simp; omega) ?_; intro v' w2 hown' hgrow _; replace HO := hide (HO.out.grow (ys := [65533]) hown' hgrow); clear hown' hgrow)
          go_roundw
          case rel => exact .mk (k + 1) (xs ++ [65533]) (by omega) (by go_num) (by rw [PS.out]) (by rw [List.length_append, List.length_singleton]; omega) HO.out R.out
          case measure => simp [intOf]; omega
        · rw [e] at R
          have y1 : (x == 10) = false := by simp [x1]
          have y5 : (x != 10) = true := by simp [x1]
          have y2 : (x == 13) = false := by simp [x2]
          have y3 : (x == 12) = false := by simp [x3]
          have y4 : (x == 0) = false := by simp [x4]
          clear x1 x2 x3 x4
          clear e
          go_wp2_with (at_builtin; refine wpList_append_own _ rfl _ _ 24 rfl w1.heap.size 21 i0 (.int .i32 0) 1 4 Try.underlying24 hi hz0 hz1 hz2 rfl (by decide) _ _ _ rfl (HO.out.1.alloc _) ⟨_, 0, none⟩ 1 1 [.int .i32 x] rfl rfl (news1 _ _ _) (by intro u hu; simp at hu; subst hu; rfl) (by unfold maxLen; omega) (by omega) (by have := HO.out.2.size; simp; omega) ?_; intro v' w2 hown' hgrow _; replace HO := hide (HO.out.grow (ys := [x]) hown' hgrow); clear hown' hgrow)
          go_roundw
          case rel => exact .mk (k + 1) (xs ++ [x]) (by omega) (by go_num) (by rw [PS.out]) (by rw [List.length_append, List.length_singleton]; omega) HO.out R.out
          case measure => simp [intOf]; omega
    · have R' := hide (lin_end R.out (by rw [← HN1.out]; omega))
      have N := hide (HO.out.nums (by omega))
      go_wp2
      go_ret
      exact ⟨_, rfl, by rw [D.out, R'.out]; exact N.out, bto B1.out HO.out.2⟩
set_option maxHeartbeats 4000000 in
theorem decR_no1 (bs ds : List Int) (b o n c : Nat) (w : World) (hn9 : n ≤ 4611686018427387904) (hc9 : c ≤ 9223372036854775807) (hs : 3 ≤ n) (y1 : Int) (c0 : w.cell? ⟨b, o, none⟩ = some (.int .u8 239)) (c1 : w.cell? ⟨b, o + 1, none⟩ = some (.int .u8 y1)) (g1 : (y1 == 187) = false)
    (BC : By ds) (NC : Hid (Nums .u8 w (.slice (some ⟨b, o, none⟩) n c) ds)) (LR : (raw ds).length ≤ 1099511627776) (LD : ds.length ≤ 1099511627776) (D : Hid (dec bs = lin 0 (raw ds))) :
    Calls Try.prog 14 #[.slice (some ⟨b, o, none⟩) n c] w fun e w' => ∃ u, e = .returned u ∧ Nums .i32 w' u (dec bs) ∧ Below w.heap.size w w' := by
  obtain ⟨i0, hi, hz0, hz1, hz2⟩ := info_parts info32
  go_enter Try.func14, Try.ntmps14
  go_wp2_with (go_at_call 11; refine (rawR_any ds _ _ BC NC.out (by omega)).mono ?_; rintro e w1 ⟨u1, rfl, N1, B1⟩; obtain ⟨a1, n1, c1, rfl, hn1, hn19, _, hc1⟩ := N1.form; replace N1 := hide N1; replace B1 := hide B1; have HN1 := hide hn1; have HC1 := hide hc1; have hnb : n1 ≤ 1099511627776 := (by omega); clear hn1 hc1)
  go_loopw [3, 4, 34] (fun l la i wr => RelLi2 w1 n1 (raw ds) l la i wr) (fun _ _ i _ => n1 - (intOf i).toNat)
  case atStart => exact .mk 0 [] (by omega) rfl rfl (by simp) (Own.nil _ _ _) rfl
  case round =>
    obtain ⟨k, xs, hk, rfl, rfl, hxs, HO, R⟩ := hrel
    replace HO := hide HO
    by_cases hlt : k < n1
    · obtain ⟨b1, o1, rfl, hbw1, hcl1, hc91, hcc1⟩ := HC1.out (by omega)
      have cx : wr.cell? ⟨b1, o1 + k, none⟩ = some (.int .i32 (gt (raw ds) k)) := (HO.out.2.cell (p := ⟨b1, o1 + k, none⟩) hbw1).trans (hcc1 k hlt)
      have R1 := hide (lin_in R.out (by rw [← HN1.out]; exact hlt))
      have R2 := hide (lin_out R.out (by rw [← HN1.out]; exact hlt))
      have PS := hide (pv_succ (raw ds) k)
      clear hcc1 R
      generalize gt (raw ds) k = x at *
      generalize pv (raw ds) k = p at *
      rcases tr_cases x p with ⟨rfl, rfl⟩ | ⟨hno, q⟩
      · have R := hide (R2.out ⟨rfl, rfl⟩)
        clear R1 R2
        go_wp2
        go_roundw
        case rel => exact .mk (k + 1) xs (by omega) (by go_num) (by rw [PS.out]) (by omega) HO.out R.out
        case measure => simp [intOf]; omega
      · have R := hide (R1.out hno)
        clear R1 R2 hno
        rcases q with ⟨rfl, hp, e⟩ | ⟨rfl, e⟩ | ⟨rfl, e⟩ | ⟨rfl, e⟩ | ⟨x1, x2, x3, x4, e⟩
        · rw [e] at R
          have hp' : (p != 13) = true := by simp [hp]
          clear hp
          clear e
          go_wp2_with (at_builtin; refine wpList_append_own _ rfl _ _ 24 rfl w1.heap.size 21 i0 (.int .i32 0) 1 4 Try.underlying24 hi hz0 hz1 hz2 rfl (by decide) _ _ _ rfl (HO.out.1.alloc _) ⟨_, 0, none⟩ 1 1 [.int .i32 10] rfl rfl (news1 _ _ _) (by intro u hu; simp at hu; subst hu; rfl) (by unfold maxLen; omega) (by omega) (by have := HO.out.2.size; simp; omega) ?_; intro v' w2 hown' hgrow _; replace HO := hide (HO.out.grow (ys := [10]) hown' hgrow); clear hown' hgrow)
          go_roundw
          case rel => exact .mk (k + 1) (xs ++ [10]) (by omega) (by go_num) (by rw [PS.out]) (by rw [List.length_append, List.length_singleton]; omega) HO.out R.out
          case measure => simp [intOf]; omega
        · rw [e] at R
          clear e
          go_wp2_with (at_builtin; refine wpList_append_own _ rfl _ _ 24 rfl w1.heap.size 21 i0 (.int .i32 0) 1 4 Try.underlying24 hi hz0 hz1 hz2 rfl (by decide) _ _ _ rfl (HO.out.1.alloc _) ⟨_, 0, none⟩ 1 1 [.int .i32 10] rfl rfl (news1 _ _ _) (by intro u hu; simp at hu; subst hu; rfl) (by unfold maxLen; omega) (by omega) (by have := HO.out.2.size; simp; omega) ?_; intro v' w2 hown' hgrow _; replace HO := hide (HO.out.grow (ys := [10]) hown' hgrow); clear hown' hgrow)
          go_roundw
          case rel => exact .mk (k + 1) (xs ++ [10]) (by omega) (by go_num) (by rw [PS.out]) (by rw [List.length_append, List.length_singleton]; omega) HO.out R.out
          case measure => simp [intOf]; omega
        · rw [e] at R
          clear e
          go_wp2_with (at_builtin; refine wpList_append_own _ rfl _ _ 24 rfl w1.heap.size 21 i0 (.int .i32 0) 1 4 Try.underlying24 hi hz0 hz1 hz2 rfl (by decide) _ _ _ rfl (HO.out.1.alloc _) ⟨_, 0, none⟩ 1 1 [.int .i32 10] rfl rfl (news1 _ _ _) (by intro u hu; simp at hu; subst hu; rfl) (by unfold maxLen; omega) (by omega) (by have := HO.out.2.size; simp; omega) ?_; intro v' w2 hown' hgrow _; replace HO := hide (HO.out.grow (ys := [10]) hown' hgrow); clear hown' hgrow)
          go_roundw
          case rel => exact .mk (k + 1) (xs ++ [10]) (by omega) (by go_num) (by rw [PS.out]) (by rw [List.length_append, List.length_singleton]; omega) HO.out R.out
          case measure => simp [intOf]; omega
        · rw [e] at R
          clear e
          go_wp2_with (at_builtin; refine wpList_append_own _ rfl _ _ 24 rfl w1.heap.size 21 i0 (.int .i32 0) 1 4 Try.underlying24 hi hz0 hz1 hz2 rfl (by decide) _ _ _ rfl (HO.out.1.alloc _) ⟨_, 0, none⟩ 1 1 [.int .i32 65533] rfl rfl (news1 _ _ _) (by intro u hu; simp at hu; subst hu; rfl) (by unfold maxLen; omega) (by omega) (by have := HO.out.2.size; simp; omega) ?_; intro v' w2 hown' hgrow _; replace HO := hide (HO.out.grow (ys := [65533]) hown' hgrow); clear hown' hgrow)
          go_roundw
          case rel => exact .mk (k + 1) (xs ++ [65533]) (by omega) (by go_num) (by rw [PS.out]) (by rw [List.length_append, List.length_singleton]; omega) HO.out R.out
          case measure => simp [intOf]; omega
        · rw [e] at R
          have y1 : (x == 10) = false := by simp [x1]
          have y5 : (x != 10) = true := by simp [x1]
          have y2 : (x == 13) = false := by simp [x2]
          have y3 : (x == 12) = false := by simp [x3]
          have y4 : (x == 0) = false := by simp [x4]
          clear x1 x2 x3 x4
          clear e
          go_wp2_with (at_builtin; refine wpList_append_own _ rfl _ _ 24 rfl w1.heap.size 21 i0 (.int .i32 0) 1 4 Try.underlying24 hi hz0 hz1 hz2 rfl (by decide) _ _ _ rfl (HO.out.1.alloc _) ⟨_, 0, none⟩ 1 1 [.int .i32 x] rfl rfl (news1 _ _ _) (by intro u hu; simp at hu; subst hu; rfl) (by unfold maxLen; omega) (by omega) (by have := HO.out.2.size; simp; omega) ?_; intro v' w2 hown' hgrow _; replace HO := hide (HO.out.grow (ys := [x]) hown' hgrow); clear hown' hgrow)
          go_roundw
          case rel => exact .mk (k + 1) (xs ++ [x]) (by omega) (by go_num) (by rw [PS.out]) (by rw [List.length_append, List.length_singleton]; omega) HO.out R.out
          case measure => simp [intOf]; omega
    · have R' := hide (lin_end R.out (by rw [← HN1.out]; omega))
      have N := hide (HO.out.nums (by omega))
      go_wp2
      go_ret
      exact ⟨_, rfl, by rw [D.out, R'.out]; exact N.out, bto B1.out HO.out.2⟩
set_option maxHeartbeats 4000000 in
theorem decR_no2 (bs ds : List Int) (b o n c : Nat) (w : World) (hn9 : n ≤ 4611686018427387904) (hc9 : c ≤ 9223372036854775807) (hs : 3 ≤ n) (y2 : Int) (c0 : w.cell? ⟨b, o, none⟩ = some (.int .u8 239)) (c1 : w.cell? ⟨b, o + 1, none⟩ = some (.int .u8 187)) (c2 : w.cell? ⟨b, o + 2, none⟩ = some (.int .u8 y2)) (g2 : (y2 == 191) = false)
    (BC : By ds) (NC : Hid (Nums .u8 w (.slice (some ⟨b, o, none⟩) n c) ds)) (LR : (raw ds).length ≤ 1099511627776) (LD : ds.length ≤ 1099511627776) (D : Hid (dec bs = lin 0 (raw ds))) :
    Calls Try.prog 14 #[.slice (some ⟨b, o, none⟩) n c] w fun e w' => ∃ u, e = .returned u ∧ Nums .i32 w' u (dec bs) ∧ Below w.heap.size w w' := by
  obtain ⟨i0, hi, hz0, hz1, hz2⟩ := info_parts info32
  go_enter Try.func14, Try.ntmps14
  go_wp2_with (go_at_call 11; refine (rawR_any ds _ _ BC NC.out (by omega)).mono ?_; rintro e w1 ⟨u1, rfl, N1, B1⟩; obtain ⟨a1, n1, c1, rfl, hn1, hn19, _, hc1⟩ := N1.form; replace N1 := hide N1; replace B1 := hide B1; have HN1 := hide hn1; have HC1 := hide hc1; have hnb : n1 ≤ 1099511627776 := (by omega); clear hn1 hc1)
  go_loopw [3, 4, 34] (fun l la i wr => RelLi2 w1 n1 (raw ds) l la i wr) (fun _ _ i _ => n1 - (intOf i).toNat)
  case atStart => exact .mk 0 [] (by omega) rfl rfl (by simp) (Own.nil _ _ _) rfl
  case round =>
    obtain ⟨k, xs, hk, rfl, rfl, hxs, HO, R⟩ := hrel
    replace HO := hide HO
    by_cases hlt : k < n1
    · obtain ⟨b1, o1, rfl, hbw1, hcl1, hc91, hcc1⟩ := HC1.out (by omega)
      have cx : wr.cell? ⟨b1, o1 + k, none⟩ = some (.int .i32 (gt (raw ds) k)) := (HO.out.2.cell (p := ⟨b1, o1 + k, none⟩) hbw1).trans (hcc1 k hlt)
      have R1 := hide (lin_in R.out (by rw [← HN1.out]; exact hlt))
      have R2 := hide (lin_out R.out (by rw [← HN1.out]; exact hlt))
      have PS := hide (pv_succ (raw ds) k)
      clear hcc1 R
      generalize gt (raw ds) k = x at *
      generalize pv (raw ds) k = p at *
      rcases tr_cases x p with ⟨rfl, rfl⟩ | ⟨hno, q⟩
      · have R := hide (R2.out ⟨rfl, rfl⟩)
        clear R1 R2
        go_wp2
        go_roundw
        case rel => exact .mk (k + 1) xs (by omega) (by go_num) (by rw [PS.out]) (by omega) HO.out R.out
        case measure => simp [intOf]; omega
      · have R := hide (R1.out hno)
        clear R1 R2 hno
        rcases q with ⟨rfl, hp, e⟩ | ⟨rfl, e⟩ | ⟨rfl, e⟩ | ⟨rfl, e⟩ | ⟨x1, x2, x3, x4, e⟩
        · rw [e] at R
          have hp' : (p != 13) = true := by simp [hp]
          clear hp
          clear e
          go_wp2_with (at_builtin; refine wpList_append_own _ rfl _ _ 24 rfl w1.heap.size 21 i0 (.int .i32 0) 1 4 Try.underlying24 hi hz0 hz1 hz2 rfl (by decide) _ _ _ rfl (HO.out.1.alloc _) ⟨_, 0, none⟩ 1 1 [.int .i32 10] rfl rfl (news1 _ _ _) (by intro u hu; simp at hu; subst hu; rfl) (by unfold maxLen; omega) (by omega) (by have := HO.out.2.size; simp; omega) ?_; intro v' w2 hown' hgrow _; replace HO := hide (HO.out.grow (ys := [10]) hown' hgrow); clear hown' hgrow)
          go_roundw
          case rel => exact .mk (k + 1) (xs ++ [10]) (by omega) (by go_num) (by rw [PS.out]) (by rw [List.length_append, List.length_singleton]; omega) HO.out R.out
          case measure => simp [intOf]; omega
        · rw [e] at R
          clear e
          go_wp2_with (at_builtin; refine wpList_append_own _ rfl _ _ 24 rfl w1.heap.size 21 i0 (.int .i32 0) 1 4 Try.underlying24 hi hz0 hz1 hz2 rfl (by decide) _ _ _ rfl (HO.out.1.alloc _) ⟨_, 0, none⟩ 1 1 [.int .i32 10] rfl rfl (news1 _ _ _) (by intro u hu; simp at hu; subst hu; rfl) (by unfold maxLen; omega) (by omega) (by have := HO.out.2.size; simp; omega) ?_; intro v' w2 hown' hgrow _; replace HO := hide (HO.out.grow (ys := [10]) hown' hgrow); clear hown' hgrow)
          go_roundw
          case rel => exact .mk (k + 1) (xs ++ [10]) (by omega) (by go_num) (by rw [PS.out]) (by rw [List.length_append, List.length_singleton]; omega) HO.out R.out
          case measure => simp [intOf]; omega
        · rw [e] at R
          clear e
          go_wp2_with (at_builtin; refine wpList_append_own _ rfl _ _ 24 rfl w1.heap.size 21 i0 (.int .i32 0) 1 4 Try.underlying24 hi hz0 hz1 hz2 rfl (by decide) _ _ _ rfl (HO.out.1.alloc _) ⟨_, 0, none⟩ 1 1 [.int .i32 10] rfl rfl (news1 _ _ _) (by intro u hu; simp at hu; subst hu; rfl) (by unfold maxLen; omega) (by omega) (by have := HO.out.2.size; simp; omega) ?_; intro v' w2 hown' hgrow _; replace HO := hide (HO.out.grow (ys := [10]) hown' hgrow); clear hown' hgrow)
          go_roundw
          case rel => exact .mk (k + 1) (xs ++ [10]) (by omega) (by go_num) (by rw [PS.out]) (by rw [List.length_append, List.length_singleton]; omega) HO.out R.out
          case measure => simp [intOf]; omega
        · rw [e] at R
          clear e
          go_wp2_with (at_builtin; refine wpList_append_own _ rfl _ _ 24 rfl w1.heap.size 21 i0 (.int .i32 0) 1 4 Try.underlying24 hi hz0 hz1 hz2 rfl (by decide) _ _ _ rfl (HO.out.1.alloc _) ⟨_, 0, none⟩ 1 1 [.int .i32 65533] rfl rfl (news1 _ _ _) (by intro u hu; simp at hu; subst hu; rfl) (by unfold maxLen; omega) (by omega) (by have := HO.out.2.size; simp; omega) ?_; intro v' w2 hown' hgrow _; replace HO := hide (HO.out.grow (ys := [65533]) hown' hgrow); clear hown' hgrow)
          go_roundw
          case rel => exact .mk (k + 1) (xs ++ [65533]) (by omega) (by go_num) (by rw [PS.out]) (by rw [List.length_append, List.length_singleton]; omega) HO.out R.out
          case measure => simp [intOf]; omega
        · rw [e] at R
          have y1 : (x == 10) = false := by simp [x1]
          have y5 : (x != 10) = true := by simp [x1]
          have y2 : (x == 13) = false := by simp [x2]
          have y3 : (x == 12) = false := by simp [x3]
          have y4 : (x == 0) = false := by simp [x4]
          clear x1 x2 x3 x4
          clear e
          go_wp2_with (at_builtin; refine wpList_append_own _ rfl _ _ 24 rfl w1.heap.size 21 i0 (.int .i32 0) 1 4 Try.underlying24 hi hz0 hz1 hz2 rfl (by decide) _ _ _ rfl (HO.out.1.alloc _) ⟨_, 0, none⟩ 1 1 [.int .i32 x] rfl rfl (news1 _ _ _) (by intro u hu; simp at hu; subst hu; rfl) (by unfold maxLen; omega) (by omega) (by have := HO.out.2.size; simp; omega) ?_; intro v' w2 hown' hgrow _; replace HO := hide (HO.out.grow (ys := [x]) hown' hgrow); clear hown' hgrow)
          go_roundw
          case rel => exact .mk (k + 1) (xs ++ [x]) (by omega) (by go_num) (by rw [PS.out]) (by rw [List.length_append, List.length_singleton]; omega) HO.out R.out
          case measure => simp [intOf]; omega
    · have R' := hide (lin_end R.out (by rw [← HN1.out]; omega))
      have N := hide (HO.out.nums (by omega))
      go_wp2
      go_ret
      exact ⟨_, rfl, by rw [D.out, R'.out]; exact N.out, bto B1.out HO.out.2⟩
set_option maxHeartbeats 4000000 in
theorem decR_yes3 (bs ds : List Int) (b o : Nat) (w : World) (hn9 : True) (hc9 : True) (c0 : w.cell? ⟨b, o, none⟩ = some (.int .u8 239)) (c1 : w.cell? ⟨b, o + 1, none⟩ = some (.int .u8 187)) (c2 : w.cell? ⟨b, o + 2, none⟩ = some (.int .u8 191))
    (BC : By ds) (NC : Hid (Nums .u8 w (.slice (some ⟨b, o, none⟩) 0 0) ds)) (LR : (raw ds).length ≤ 1099511627776) (LD : ds.length ≤ 1099511627776) (D : Hid (dec bs = lin 0 (raw ds))) :
    Calls Try.prog 14 #[.slice (some ⟨b, o, none⟩) 3 3] w fun e w' => ∃ u, e = .returned u ∧ Nums .i32 w' u (dec bs) ∧ Below w.heap.size w w' := by
  obtain ⟨i0, hi, hz0, hz1, hz2⟩ := info_parts info32
  go_enter Try.func14, Try.ntmps14
  go_wp2_with (go_at_call 11; refine (rawR_any ds _ _ BC NC.out (by omega)).mono ?_; rintro e w1 ⟨u1, rfl, N1, B1⟩; obtain ⟨a1, n1, c1, rfl, hn1, hn19, _, hc1⟩ := N1.form; replace N1 := hide N1; replace B1 := hide B1; have HN1 := hide hn1; have HC1 := hide hc1; have hnb : n1 ≤ 1099511627776 := (by omega); clear hn1 hc1)
  go_loopw [3, 4, 34] (fun l la i wr => RelLi2 w1 n1 (raw ds) l la i wr) (fun _ _ i _ => n1 - (intOf i).toNat)
  case atStart => exact .mk 0 [] (by omega) rfl rfl (by simp) (Own.nil _ _ _) rfl
  case round =>
    obtain ⟨k, xs, hk, rfl, rfl, hxs, HO, R⟩ := hrel
    replace HO := hide HO
    by_cases hlt : k < n1
    · obtain ⟨b1, o1, rfl, hbw1, hcl1, hc91, hcc1⟩ := HC1.out (by omega)
      have cx : wr.cell? ⟨b1, o1 + k, none⟩ = some (.int .i32 (gt (raw ds) k)) := (HO.out.2.cell (p := ⟨b1, o1 + k, none⟩) hbw1).trans (hcc1 k hlt)
      have R1 := hide (lin_in R.out (by rw [← HN1.out]; exact hlt))
      have R2 := hide (lin_out R.out (by rw [← HN1.out]; exact hlt))
      have PS := hide (pv_succ (raw ds) k)
      clear hcc1 R
      generalize gt (raw ds) k = x at *
      generalize pv (raw ds) k = p at *
      rcases tr_cases x p with ⟨rfl, rfl⟩ | ⟨hno, q⟩
      · have R := hide (R2.out ⟨rfl, rfl⟩)
        clear R1 R2
        go_wp2
        go_roundw
        case rel => exact .mk (k + 1) xs (by omega) (by go_num) (by rw [PS.out]) (by omega) HO.out R.out
        case measure => simp [intOf]; omega
      · have R := hide (R1.out hno)
        clear R1 R2 hno
        rcases q with ⟨rfl, hp, e⟩ | ⟨rfl, e⟩ | ⟨rfl, e⟩ | ⟨rfl, e⟩ | ⟨x1, x2, x3, x4, e⟩
        · rw [e] at R
          have hp' : (p != 13) = true := by simp [hp]
          clear hp
          clear e
          go_wp2_with (at_builtin; refine wpList_append_own _ rfl _ _ 24 rfl w1.heap.size 21 i0 (.int .i32 0) 1 4 Try.underlying24 hi hz0 hz1 hz2 rfl (by decide) _ _ _ rfl (HO.out.1.alloc _) ⟨_, 0, none⟩ 1 1 [.int .i32 10] rfl rfl (news1 _ _ _) (by intro u hu; simp at hu; subst hu; rfl) (by unfold maxLen; omega) (by omega) (by have := HO.out.2.size; simp; omega) ?_; intro v' w2 hown' hgrow _; replace HO := hide (HO.out.grow (ys := [10]) hown' hgrow); clear hown' hgrow)
          go_roundw
          case rel => exact .mk (k + 1) (xs ++ [10]) (by omega) (by go_num) (by rw [PS.out]) (by rw [List.length_append, List.length_singleton]; omega) HO.out R.out
          case measure => simp [intOf]; omega
        · rw [e] at R
          clear e
          go_wp2_with (at_builtin; refine wpList_append_own _ rfl _ _ 24 rfl w1.heap.size 21 i0 (.int .i32 0) 1 4 Try.underlying24 hi hz0 hz1 hz2 rfl (by decide) _ _ _ rfl (HO.out.1.alloc _) ⟨_, 0, none⟩ 1 1 [.int .i32 10] rfl rfl (news1 _ _ _) (by intro u hu; simp at hu; subst hu; rfl) (by unfold maxLen; omega) (by omega) (by have := HO.out.2.size; simp; omega) ?_; intro v' w2 hown' hgrow _; replace HO := hide (HO.out.grow (ys := [10]) hown' hgrow); clear hown' hgrow)
          go_roundw
          case rel => exact .mk (k + 1) (xs ++ [10]) (by omega) (by go_num) (by rw [PS.out]) (by rw [List.length_append, List.length_singleton]; omega) HO.out R.out
          case measure => simp [intOf]; omega
        · rw [e] at R
          clear e
          go_wp2_with (at_builtin; refine wpList_append_own _ rfl _ _ 24 rfl w1.heap.size 21 i0 (.int .i32 0) 1 4 Try.underlying24 hi hz0 hz1 hz2 rfl (by decide) _ _ _ rfl (HO.out.1.alloc _) ⟨_, 0, none⟩ 1 1 [.int .i32 10] rfl rfl (news1 _ _ _) (by intro u hu; simp at hu; subst hu; rfl) (by unfold maxLen; omega) (by omega) (by have := HO.out.2.size; simp; omega) ?_; intro v' w2 hown' hgrow _; replace HO := hide (HO.out.grow (ys := [10]) hown' hgrow); clear hown' hgrow)
          go_roundw
          case rel => exact .mk (k + 1) (xs ++ [10]) (by omega) (by go_num) (by rw [PS.out]) (by rw [List.length_append, List.length_singleton]; omega) HO.out R.out
          case measure => simp [intOf]; omega
        · rw [e] at R
          clear e
          go_wp2_with (at_builtin; refine wpList_append_own _ rfl _ _ 24 rfl w1.heap.size 21 i0 (.int .i32 0) 1 4 Try.underlying24 hi hz0 hz1 hz2 rfl (by decide) _ _ _ rfl (HO.out.1.alloc _) ⟨_, 0, none⟩ 1 1 [.int .i32 65533] rfl rfl (news1 _ _ _) (by intro u hu; simp at hu; subst hu; rfl) (by unfold maxLen; omega) (by omega) (by have := HO.out.2.size; simp; omega) ?_; intro v' w2 hown' hgrow _; replace HO := hide (HO.out.grow (ys := [65533]) hown' hgrow); clear hown' hgrow)
          go_roundw
          case rel => exact .mk (k + 1) (xs ++ [65533]) (by omega) (by go_num) (by rw [PS.out]) (by rw [List.length_append, List.length_singleton]; omega) HO.out R.out
          case measure => simp [intOf]; omega
        · rw [e] at R
          have y1 : (x == 10) = false := by simp [x1]
          have y5 : (x != 10) = true := by simp [x1]
          have y2 : (x == 13) = false := by simp [x2]
          have y3 : (x == 12) = false := by simp [x3]
          have y4 : (x == 0) = false := by simp [x4]
          clear x1 x2 x3 x4
          clear e
          go_wp2_with (at_builtin; refine wpList_append_own _ rfl _ _ 24 rfl w1.heap.size 21 i0 (.int .i32 0) 1 4 Try.underlying24 hi hz0 hz1 hz2 rfl (by decide) _ _ _ rfl (HO.out.1.alloc _) ⟨_, 0, none⟩ 1 1 [.int .i32 x] rfl rfl (news1 _ _ _) (by intro u hu; simp at hu; subst hu; rfl) (by unfold maxLen; omega) (by omega) (by have := HO.out.2.size; simp; omega) ?_; intro v' w2 hown' hgrow _; replace HO := hide (HO.out.grow (ys := [x]) hown' hgrow); clear hown' hgrow)
          go_roundw
          case rel => exact .mk (k + 1) (xs ++ [x]) (by omega) (by go_num) (by rw [PS.out]) (by rw [List.length_append, List.length_singleton]; omega) HO.out R.out
          case measure => simp [intOf]; omega
    · have R' := hide (lin_end R.out (by rw [← HN1.out]; omega))
      have N := hide (HO.out.nums (by omega))
      go_wp2
      go_ret
      exact ⟨_, rfl, by rw [D.out, R'.out]; exact N.out, bto B1.out HO.out.2⟩
set_option maxHeartbeats 4000000 in
theorem decR_yes (bs ds : List Int) (b o n c : Nat) (w : World) (hn9 : n ≤ 4611686018427387904) (hc9 : c ≤ 9223372036854775807) (hs : 3 ≤ n) (hnc : n ≤ c) (hc3 : ¬ c = 3) (c0 : w.cell? ⟨b, o, none⟩ = some (.int .u8 239)) (c1 : w.cell? ⟨b, o + 1, none⟩ = some (.int .u8 187)) (c2 : w.cell? ⟨b, o + 2, none⟩ = some (.int .u8 191))
    (BC : By ds) (NC : Hid (Nums .u8 w (.slice (some ⟨b, o + 3, none⟩) (n - 3) (c - 3)) ds)) (LR : (raw ds).length ≤ 1099511627776) (LD : ds.length ≤ 1099511627776) (D : Hid (dec bs = lin 0 (raw ds))) :
    Calls Try.prog 14 #[.slice (some ⟨b, o, none⟩) n c] w fun e w' => ∃ u, e = .returned u ∧ Nums .i32 w' u (dec bs) ∧ Below w.heap.size w w' := by
  obtain ⟨i0, hi, hz0, hz1, hz2⟩ := info_parts info32
  go_enter Try.func14, Try.ntmps14
  go_wp2_with (go_at_call 11; refine (rawR_any ds _ _ BC NC.out (by omega)).mono ?_; rintro e w1 ⟨u1, rfl, N1, B1⟩; obtain ⟨a1, n1, c1, rfl, hn1, hn19, _, hc1⟩ := N1.form; replace N1 := hide N1; replace B1 := hide B1; have HN1 := hide hn1; have HC1 := hide hc1; have hnb : n1 ≤ 1099511627776 := (by omega); clear hn1 hc1)
  go_loopw [3, 4, 34] (fun l la i wr => RelLi2 w1 n1 (raw ds) l la i wr) (fun _ _ i _ => n1 - (intOf i).toNat)
  case atStart => exact .mk 0 [] (by omega) rfl rfl (by simp) (Own.nil _ _ _) rfl
  case round =>
    obtain ⟨k, xs, hk, rfl, rfl, hxs, HO, R⟩ := hrel
    replace HO := hide HO
    by_cases hlt : k < n1
    · obtain ⟨b1, o1, rfl, hbw1, hcl1, hc91, hcc1⟩ := HC1.out (by omega)
      have cx : wr.cell? ⟨b1, o1 + k, none⟩ = some (.int .i32 (gt (raw ds) k)) := (HO.out.2.cell (p := ⟨b1, o1 + k, none⟩) hbw1).trans (hcc1 k hlt)
      have R1 := hide (lin_in R.out (by rw [← HN1.out]; exact hlt))
      have R2 := hide (lin_out R.out (by rw [← HN1.out]; exact hlt))
      have PS := hide (pv_succ (raw ds) k)
      clear hcc1 R
      generalize gt (raw ds) k = x at *
      generalize pv (raw ds) k = p at *
      rcases tr_cases x p with ⟨rfl, rfl⟩ | ⟨hno, q⟩
      · have R := hide (R2.out ⟨rfl, rfl⟩)
        clear R1 R2
        go_wp2
        go_roundw
        case rel => exact .mk (k + 1) xs (by omega) (by go_num) (by rw [PS.out]) (by omega) HO.out R.out
        case measure => simp [intOf]; omega
      · have R := hide (R1.out hno)
        clear R1 R2 hno
        rcases q with ⟨rfl, hp, e⟩ | ⟨rfl, e⟩ | ⟨rfl, e⟩ | ⟨rfl, e⟩ | ⟨x1, x2, x3, x4, e⟩
        · rw [e] at R
          have hp' : (p != 13) = true := by simp [hp]
          clear hp
          clear e
          go_wp2_with (at_builtin; refine wpList_append_own _ rfl _ _ 24 rfl w1.heap.size 21 i0 (.int .i32 0) 1 4 Try.underlying24 hi hz0 hz1 hz2 rfl (by decide) _ _ _ rfl (HO.out.1.alloc _) ⟨_, 0, none⟩ 1 1 [.int .i32 10] rfl rfl (news1 _ _ _) (by intro u hu; simp at hu; subst hu; rfl) (by unfold maxLen; omega) (by omega) (by have := HO.out.2.size; simp; omega) ?_; intro v' w2 hown' hgrow _; replace HO := hide (HO.out.grow (ys := [10]) hown' hgrow); clear hown' hgrow)
          go_roundw
          case rel => exact .mk (k + 1) (xs ++ [10]) (by omega) (by go_num) (by rw [PS.out]) (by rw [List.length_append, List.length_singleton]; omega) HO.out R.out
          case measure => simp [intOf]; omega
        · rw [e] at R
          clear e
          go_wp2_with (at_builtin; refine wpList_append_own _ rfl _ _ 24 rfl w1.heap.size 21 i0 (.int .i32 0) 1 4 Try.underlying24 hi hz0 hz1 hz2 rfl (by decide) _ _ _ rfl (HO.out.1.alloc _) ⟨_, 0, none⟩ 1 1 [.int .i32 10] rfl rfl (news1 _ _ _) (by intro u hu; simp at hu; subst hu; rfl) (by unfold maxLen; omega) (by omega) (by have := HO.out.2.size; simp; omega) ?_; intro v' w2 hown' hgrow _; replace HO := hide (HO.out.grow (ys := [10]) hown' hgrow); clear hown' hgrow)
          go_roundw
          case rel => exact .mk (k + 1) (xs ++ [10]) (by omega) (by go_num) (by rw [PS.out]) (by rw [List.length_append, List.length_singleton]; omega) HO.out R.out
          case measure => simp [intOf]; omega
        · rw [e] at R
          clear e
          go_wp2_with (at_builtin; refine wpList_append_own _ rfl _ _ 24 rfl w1.heap.size 21 i0 (.int .i32 0) 1 4 Try.underlying24 hi hz0 hz1 hz2 rfl (by decide) _ _ _ rfl (HO.out.1.alloc _) ⟨_, 0, none⟩ 1 1 [.int .i32 10] rfl rfl (news1 _ _ _) (by intro u hu; simp at hu; subst hu; rfl) (by unfold maxLen; omega) (by omega) (by have := HO.out.2.size; simp; omega) ?_; intro v' w2 hown' hgrow _; replace HO := hide (HO.out.grow (ys := [10]) hown' hgrow); clear hown' hgrow)
          go_roundw
          case rel => exact .mk (k + 1) (xs ++ [10]) (by omega) (by go_num) (by rw [PS.out]) (by rw [List.length_append, List.length_singleton]; omega) HO.out R.out
          case measure => simp [intOf]; omega
        · rw [e] at R
          clear e
          go_wp2_with (at_builtin; refine wpList_append_own _ rfl _ _ 24 rfl w1.heap.size 21 i0 (.int .i32 0) 1 4 Try.underlying24 hi hz0 hz1 hz2 rfl (by decide) _ _ _ rfl (HO.out.1.alloc _) ⟨_, 0, none⟩ 1 1 [.int .i32 65533] rfl rfl (news1 _ _ _) (by intro u hu; simp at hu; subst hu; rfl) (by unfold maxLen; omega) (by omega) (by have := HO.out.2.size; simp; omega) ?_; intro v' w2 hown' hgrow _; replace HO := hide (HO.out.grow (ys := [65533]) hown' hgrow); clear hown' hgrow)
          go_roundw
          case rel => exact .mk (k + 1) (xs ++ [65533]) (by omega) (by go_num) (by rw [PS.out]) (by rw [List.length_append, List.length_singleton]; omega) HO.out R.out
          case measure => simp [intOf]; omega
        · rw [e] at R
          have y1 : (x == 10) = false := by simp [x1]
          have y5 : (x != 10) = true := by simp [x1]
          have y2 : (x == 13) = false := by simp [x2]
          have y3 : (x == 12) = false := by simp [x3]
          have y4 : (x == 0) = false := by simp [x4]
          clear x1 x2 x3 x4
          clear e
          go_wp2_with (at_builtin; refine wpList_append_own _ rfl _ _ 24 rfl w1.heap.size 21 i0 (.int .i32 0) 1 4 Try.underlying24 hi hz0 hz1 hz2 rfl (by decide) _ _ _ rfl (HO.out.1.alloc _) ⟨_, 0, none⟩ 1 1 [.int .i32 x] rfl rfl (news1 _ _ _) (by intro u hu; simp at hu; subst hu; rfl) (by unfold maxLen; omega) (by omega) (by have := HO.out.2.size; simp; omega) ?_; intro v' w2 hown' hgrow _; replace HO := hide (HO.out.grow (ys := [x]) hown' hgrow); clear hown' hgrow)
          go_roundw
          case rel => exact .mk (k + 1) (xs ++ [x]) (by omega) (by go_num) (by rw [PS.out]) (by rw [List.length_append, List.length_singleton]; omega) HO.out R.out
          case measure => simp [intOf]; omega
    · have R' := hide (lin_end R.out (by rw [← HN1.out]; omega))
      have N := hide (HO.out.nums (by omega))
      go_wp2
      go_ret
      exact ⟨_, rfl, by rw [D.out, R'.out]; exact N.out, bto B1.out HO.out.2⟩
theorem decR_any (bs : List Int) (v : Value) (w : World) (hb : By bs) (hv : Nums .u8 w v bs) (hl9 : bs.length ≤ 1099511627776) :
    Calls Try.prog 14 #[v] w fun e w' => ∃ u, e = .returned u ∧ Nums .i32 w' u (dec bs) ∧ Below w.heap.size w w' := by
  obtain ⟨a, n, c, rfl, hn, hn9, _, hc⟩ := hv.form
  have LC := cut_len bs
  have LR := (raw_le (cut bs)).1
  have BC := hb.cut
  have D : dec bs = lin 0 (raw (cut bs)) := rfl
  rcases mark_cases bs with ⟨h, e⟩ | ⟨h, h0, e⟩ | ⟨h, h0, h1, e⟩ | ⟨h, h0, h1, h2, e⟩ | ⟨h, h0, h1, h2, e⟩
  · have e1 : cut bs = bs := by unfold cut; rw [e]; rfl
    rw [e1] at LC LR BC D
    exact decR_short bs bs a n c w hn9 trivial (by omega) BC hv (by omega) (by omega) D
  all_goals
    obtain ⟨b, o, rfl, hbw, hl, hc9, hcc⟩ := hc (by omega)
    have c0 : w.cell? ⟨b, o, none⟩ = some (.int .u8 (gt bs 0)) := hcc 0 (by omega)
    have c1 : w.cell? ⟨b, o + 1, none⟩ = some (.int .u8 (gt bs 1)) := hcc 1 (by omega)
    have c2 : w.cell? ⟨b, o + 2, none⟩ = some (.int .u8 (gt bs 2)) := hcc 2 (by omega)
  · have e1 : cut bs = bs := by unfold cut; rw [e]; rfl
    rw [e1] at LC LR BC D
    exact decR_no0 bs bs b o n c w hn9 hc9 (by omega) _ c0 (by simp [h0]) BC hv (by omega) (by omega) D
  · have e1 : cut bs = bs := by unfold cut; rw [e]; rfl
    rw [e1] at LC LR BC D
    rw [h0] at c0
    exact decR_no1 bs bs b o n c w hn9 hc9 (by omega) _ c0 c1 (by simp [h1]) BC hv (by omega) (by omega) D
  · have e1 : cut bs = bs := by unfold cut; rw [e]; rfl
    rw [e1] at LC LR BC D
    rw [h0] at c0
    rw [h1] at c1
    exact decR_no2 bs bs b o n c w hn9 hc9 (by omega) _ c0 c1 c2 (by simp [h2]) BC hv (by omega) (by omega) D
  · have e1 : cut bs = bs.drop 3 := by unfold cut; rw [e]; rfl
    rw [e1] at LC LR BC D
    rw [h0] at c0
    rw [h1] at c1
    rw [h2] at c2
    by_cases hc3 : c = 3
    · obtain ⟨e2, e3⟩ := hv.none3 (by omega) hc3
      subst hc3
      subst e2
      exact decR_yes3 bs (bs.drop 3) b o w trivial trivial c0 c1 c2 BC (.inl ⟨_, _, rfl, e3⟩) (by omega) (by omega) D
    · exact decR_yes bs (bs.drop 3) b o n c w hn9 hc9 (by omega) hl hc3 c0 c1 c2 BC (hv.three (by omega) hc3) (by omega) (by omega) D
theorem dec_three : dec [97, 13, 10] = [97, 10] := by
  have e1 : cut [97, 13, 10] = [97, 13, 10] := by decide
  have e2 : raw [97, 13, 10] = [97, 13, 10] := by
    rw [raw_cut (by simp)]
    show (97 : Int) :: raw [13, 10] = _
    rw [raw_cut (by simp)]
    show (97 : Int) :: 13 :: raw [10] = _
    rw [raw_cut (by simp)]
    show (97 : Int) :: 13 :: 10 :: raw [] = _
    rw [raw_nil]
  unfold dec
  rw [e1, e2]
  decide
theorem By.three : By [97, 13, 10] := by intro x hx; simp at hx; omega
set_option maxHeartbeats 1000000 in
theorem law_decode (bs : List Int) (v : Value) (w : World) (hb : By bs) (hv : Nums .u8 w v bs) (hl : bs.length ≤ 1099511627776) :
    Calls Try.prog 4 #[v] w fun e w' => e = .returned (.bool true) ∧ Below w.heap.size w w' := by
  replace hv := hide hv
  have h2 : ∀ u : World, Nums .u8 (u.alloc (.cells #[.int .u8 97, .int .u8 13, .int .u8 10] 5)) (.slice (some ⟨u.heap.size, 0, none⟩) 3 3) [97, 13, 10] := fun u => Nums.lit u 5 [97, 13, 10] 3 rfl (by omega) (by omega)
  have h3 : ∀ u : World, Nums .i32 (u.alloc (.cells #[.int .i32 97, .int .i32 10] 21)) (.slice (some ⟨u.heap.size, 0, none⟩) 2 2) [97, 10] := fun u => Nums.lit u 21 [97, 10] 2 rfl (by omega) (by omega)
  have H2 := hide h2
  have H3 := hide h3
  clear h2 h3
  have B := hide (Below.refl w.heap.size w)
  go_enter Try.func4, Try.ntmps4
  go_wp2_with (first
    | (go_at_call_of 13 v; refine (decP_any bs v _ hb hv.out hl).mono ?_; rintro e w1 ⟨u, rfl, N, B1⟩; replace N := hide N; replace B := hide (bto B.out B1); clear B1)
    | (go_at_call 14; refine (decR_any bs v _ hb (hv.out.below B.out) hl).mono ?_; rintro e w2 ⟨u2, rfl, N2, B2⟩; replace N2 := hide N2; replace N := hide (N.out.below B2); replace B := hide (bto B.out B2); clear B2)
    | (go_at_call_of 9 u2; refine (same_any (dec bs) (dec bs) _ _ _ N.out N2.out).mono ?_; rintro e w3 ⟨rfl, B3⟩; rw [eqB_refl]; replace B := hide (bto B.out B3); clear B3 N N2)
    | (go_at_call 13; refine (decP_any [97, 13, 10] _ _ By.three (H2.out _) (by decide)).mono ?_; rintro e w4 ⟨u4, rfl, N4, B4⟩; rw [dec_three] at N4; replace N4 := hide N4; replace B := hide (bto (bplus B.out _) B4); clear B4)
    | (go_at_call 9; refine (same_any [97, 10] [97, 10] _ _ _ (N4.out.below ((Below.refl _ _).alloc (Nat.le_refl _) _)) (H3.out _)).mono ?_; rintro e w5 ⟨rfl, B5⟩; rw [eqB_refl]; replace B := hide (bto (bplus B.out _) B5); clear B5))
  go_ret
  exact ⟨rfl, B.out⟩
end Go.Proofs.Ytklibbahbclekaa
