/-
  The characters of a stylesheet, by the reference; the law of both.
  All tokens of some characters, of bytes, by the reference; the laws.
  Texts as bytes.
  All component values of bytes: by the reference.
-/
import Derived.Test.YtlkocepoohhglaaDoorA19
import Derived.Test.YtlkocepoohhglaaDoorA24
import Derived.Test.YtlkocepoohhglaaDoorA02
import Derived.Test.YtlkocepoohhglaaDoorA11
import Derived.Laws.IdiomStrings
import Derived.Test.YtlkocepoohhglaaDoorA06
import Derived.Test.YtlkocepoohhglaaDoorA08
set_option linter.unusedVariables false
set_option linter.unusedSimpArgs false
namespace Go.Proofs.YtlkocepoohhglaaDoor
open Go.RowKit

def RelLi2 (W : World) (n : Nat) (ls : List Int) (l la i : Value) (wr : World) : Prop :=
  ∃ (k : Nat) (xs : List Int), k ≤ n ∧ i = .int .i64 k ∧ la = .int .i32 (pv ls k) ∧ xs.length ≤ k ∧ Own W .i32 21 wr l xs ∧ Hid (lin 0 ls = xs ++ lin (pv ls k) (ls.drop k))
theorem RelLi2.mk {W : World} {n : Nat} {ls : List Int} {l la i : Value} {wr : World} (k : Nat) (xs : List Int) (h1 : k ≤ n) (h2 : i = .int .i64 k) (h2' : la = .int .i32 (pv ls k)) (h3 : xs.length ≤ k) (h4 : Own W .i32 21 wr l xs) (h5 : lin 0 ls = xs ++ lin (pv ls k) (ls.drop k)) : RelLi2 W n ls l la i wr :=
  ⟨k, xs, h1, h2, h2', h3, h4, h5⟩
theorem pv_succ (ls : List Int) (k : Nat) : pv ls (k + 1) = gt ls k := rfl

set_option maxRecDepth 100000 in
set_option maxHeartbeats 4000000 in
theorem decR_short (bs ds : List Int) (a : Option Addr) (n c : Nat) (w : World) (hn9 : n ≤ 4611686018427387904) (hc9 : True) (hs : n < 3)
    (BC : By ds) (NC : Hid (Nums .u8 w (.slice a n c) ds)) (LR : (raw ds).length ≤ 1099511627776) (LD : ds.length ≤ 1099511627776) (D : Hid (dcd bs = lin 0 (raw ds))) :
    Calls Tryd.prog 50 #[.slice a n c] w fun e w' => ∃ u, e = .returned u ∧ Nums .i32 w' u (dcd bs) ∧ Below w.heap.size w w' := by
  obtain ⟨i0, hi, hz0, hz1, hz2⟩ := info_parts info32
  go_enter Tryd.func50, Tryd.ntmps50
  go_wp2_with (go_at_call 57; refine (rawR_any ds _ _ BC NC.out (by omega)).mono ?_; rintro e w1 ⟨u1, rfl, N1, B1⟩; obtain ⟨a1, n1, c1, rfl, hn1, hn19, _, hc1⟩ := N1.form; replace N1 := hide N1; replace B1 := hide B1; have HN1 := hide hn1; have HC1 := hide hc1; have hnb : n1 ≤ 1099511627776 := (by omega); clear hn1 hc1)
  go_loopw [3, 4, 34] (fun l la i wr => RelLi2 w1 n1 (raw ds) l la i wr) (fun _ _ i _ => n1 - (intOf i).toNat)
  case atStart => exact .mk 0 [] (by omega) rfl rfl (by simp) (Own.nil _ _ _) rfl
  case round =>
    obtain ⟨k, xs, hk, rfl, rfl, hxs, HO, R⟩ := hrel
    replace HO := hide HO
    by_cases hlt : k < n1
    · obtain ⟨b1, o1, rfl, hbw1, hcl1, hc91, hcc1⟩ := HC1.out (by omega)
      have cx : wr.cell? ⟨b1, o1 + k, none⟩ = some (.int .i32 (gt (raw ds) k)) := (HO.out.2.cell (p := ⟨b1, o1 + k, none⟩) hbw1).trans (hcc1 k hlt)
      have R1 := hide (lin_in R.out (by rw [← HN1.out]; exact hlt))
      have R2 := hide (lin_out R.out (by rw [← HN1.out]; exact hlt))
      have PS := hide (pv_succ (raw ds) k)
      clear hcc1 R
      generalize gt (raw ds) k = x at *
      generalize pv (raw ds) k = p at *
      rcases tr_cases x p with ⟨rfl, rfl⟩ | ⟨hno, q⟩
      · have R := hide (R2.out ⟨rfl, rfl⟩)
        clear R1 R2
        go_wp2
        go_roundw
        case rel => exact .mk (k + 1) xs (by omega) (by go_num) (by rw [PS.out]) (by omega) HO.out R.out
        case measure => simp [intOf]; omega
      · have R := hide (R1.out hno)
        clear R1 R2 hno
        rcases q with ⟨rfl, hp, e⟩ | ⟨rfl, e⟩ | ⟨rfl, e⟩ | ⟨rfl, e⟩ | ⟨x1, x2, x3, x4, e⟩
        · rw [e] at R
          have hp' : (p != 13) = true := by simp [hp]
          clear hp
          clear e
          go_wp2_with (at_builtin; refine wpList_append_own _ rfl _ _ 81 rfl w1.heap.size 21 i0 (.int .i32 0) 1 4 Tryd.underlying81 hi hz0 hz1 hz2 rfl (by decide) _ _ _ rfl (HO.out.1.alloc _) ⟨_, 0, none⟩ 1 1 [.int .i32 10] rfl rfl (news1 _ _ _) (by intro u hu; simp at hu; subst hu; rfl) (by unfold maxLen; omega) (by omega) (by have := HO.out.2.size; simp; omega) ?_; intro v' w2 hown' hgrow _; replace HO := hide (HO.out.grow (ys := [10]) hown' hgrow); clear hown' hgrow)
          go_roundw
          case rel => exact .mk (k + 1) (xs ++ [10]) (by omega) (by go_num) (by rw [PS.out]) (by rw [List.length_append, List.length_singleton]; omega) HO.out R.out
          case measure => simp [intOf]; omega
        · rw [e] at R
          clear e
          go_wp2_with (at_builtin; refine wpList_append_own _ rfl _ _ 81 rfl w1.heap.size 21 i0 (.int .i32 0) 1 4 Tryd.underlying81 hi hz0 hz1 hz2 rfl (by decide) _ _ _ rfl (HO.out.1.alloc _) ⟨_, 0, none⟩ 1 1 [.int .i32 10] rfl rfl (news1 _ _ _) (by intro u hu; simp at hu; subst hu; rfl) (by unfold maxLen; omega) (by omega) (by have := HO.out.2.size; simp; omega) ?_; intro v' w2 hown' hgrow _; replace HO := hide (HO.out.grow (ys := [10]) hown' hgrow); clear hown' hgrow)
          go_roundw
          case rel => exact .mk (k + 1) (xs ++ [10]) (by omega) (by go_num) (by rw [PS.out]) (by rw [List.length_append, List.length_singleton]; omega) HO.out R.out
          case measure => simp [intOf]; omega
        · rw [e] at R
          clear e
          go_wp2_with (at_builtin; refine wpList_append_own _ rfl _ _ 81 rfl w1.heap.size 21 i0 (.int .i32 0) 1 4 Tryd.underlying81 hi hz0 hz1 hz2 rfl (by decide) _ _ _ rfl (HO.out.1.alloc _) ⟨_, 0, none⟩ 1 1 [.int .i32 10] rfl rfl (news1 _ _ _) (by intro u hu; simp at hu; subst hu; rfl) (by unfold maxLen; omega) (by omega) (by have := HO.out.2.size; simp; omega) ?_; intro v' w2 hown' hgrow _; replace HO := hide (HO.out.grow (ys := [10]) hown' hgrow); clear hown' hgrow)
          go_roundw
          case rel => exact .mk (k + 1) (xs ++ [10]) (by omega) (by go_num) (by rw [PS.out]) (by rw [List.length_append, List.length_singleton]; omega) HO.out R.out
          case measure => simp [intOf]; omega
        · rw [e] at R
          clear e
          go_wp2_with (at_builtin; refine wpList_append_own _ rfl _ _ 81 rfl w1.heap.size 21 i0 (.int .i32 0) 1 4 Tryd.underlying81 hi hz0 hz1 hz2 rfl (by decide) _ _ _ rfl (HO.out.1.alloc _) ⟨_, 0, none⟩ 1 1 [.int .i32 65533] rfl rfl (news1 _ _ _) (by intro u hu; simp at hu; subst hu; rfl) (by unfold maxLen; omega) (by omega) (by have := HO.out.2.size; simp; omega) ?_; intro v' w2 hown' hgrow _; replace HO := hide (HO.out.grow (ys := [65533]) hown' hgrow); clear hown' hgrow)
          go_roundw
          case rel => exact .mk (k + 1) (xs ++ [65533]) (by omega) (by go_num) (by rw [PS.out]) (by rw [List.length_append, List.length_singleton]; omega) HO.out R.out
          case measure => simp [intOf]; omega
        · rw [e] at R
          have y1 : (x == 10) = false := by simp [x1]
          have y5 : (x != 10) = true := by simp [x1]
          have y2 : (x == 13) = false := by simp [x2]
          have y3 : (x == 12) = false := by simp [x3]
          have y4 : (x == 0) = false := by simp [x4]
          clear x1 x2 x3 x4
          clear e
          go_wp2_with (at_builtin; refine wpList_append_own _ rfl _ _ 81 rfl w1.heap.size 21 i0 (.int .i32 0) 1 4 Tryd.underlying81 hi hz0 hz1 hz2 rfl (by decide) _ _ _ rfl (HO.out.1.alloc _) ⟨_, 0, none⟩ 1 1 [.int .i32 x] rfl rfl (news1 _ _ _) (by intro u hu; simp at hu; subst hu; rfl) (by unfold maxLen; omega) (by omega) (by have := HO.out.2.size; simp; omega) ?_; intro v' w2 hown' hgrow _; replace HO := hide (HO.out.grow (ys := [x]) hown' hgrow); clear hown' hgrow)
          go_roundw
          case rel => exact .mk (k + 1) (xs ++ [x]) (by omega) (by go_num) (by rw [PS.out]) (by rw [List.length_append, List.length_singleton]; omega) HO.out R.out
          case measure => simp [intOf]; omega
    · have R' := hide (lin_end R.out (by rw [← HN1.out]; omega))
      have N := hide (HO.out.nums (by omega))
      go_wp2
      go_ret
      exact ⟨_, rfl, by rw [D.out, R'.out]; exact N.out, bto B1.out HO.out.2⟩
set_option maxRecDepth 100000 in
set_option maxHeartbeats 4000000 in
theorem decR_no0 (bs ds : List Int) (b o n c : Nat) (w : World) (hn9 : n ≤ 4611686018427387904) (hc9 : c ≤ 9223372036854775807) (hs : 3 ≤ n) (y0 : Int) (c0 : w.cell? ⟨b, o, none⟩ = some (.int .u8 y0)) (g0 : (y0 == 239) = false)
    (BC : By ds) (NC : Hid (Nums .u8 w (.slice (some ⟨b, o, none⟩) n c) ds)) (LR : (raw ds).length ≤ 1099511627776) (LD : ds.length ≤ 1099511627776) (D : Hid (dcd bs = lin 0 (raw ds))) :
    Calls Tryd.prog 50 #[.slice (some ⟨b, o, none⟩) n c] w fun e w' => ∃ u, e = .returned u ∧ Nums .i32 w' u (dcd bs) ∧ Below w.heap.size w w' := by
  obtain ⟨i0, hi, hz0, hz1, hz2⟩ := info_parts info32
  go_enter Tryd.func50, Tryd.ntmps50
  go_wp2_with (go_at_call 57; refine (rawR_any ds _ _ BC NC.out (by omega)).mono ?_; rintro e w1 ⟨u1, rfl, N1, B1⟩; obtain ⟨a1, n1, c1, rfl, hn1, hn19, _, hc1⟩ := N1.form; replace N1 := hide N1; replace B1 := hide B1; have HN1 := hide hn1; have HC1 := hide hc1; have hnb : n1 ≤ 1099511627776 := (by omega); clear hn1 hc1)
  go_loopw [3, 4, 34] (fun l la i wr => RelLi2 w1 n1 (raw ds) l la i wr) (fun _ _ i _ => n1 - (intOf i).toNat)
  case atStart => exact .mk 0 [] (by omega) rfl rfl (by simp) (Own.nil _ _ _) rfl
  case round =>
    obtain ⟨k, xs, hk, rfl, rfl, hxs, HO, R⟩ := hrel
    replace HO := hide HO
    by_cases hlt : k < n1
    · obtain ⟨b1, o1, rfl, hbw1, hcl1, hc91, hcc1⟩ := HC1.out (by omega)
      have cx : wr.cell? ⟨b1, o1 + k, none⟩ = some (.int .i32 (gt (raw ds) k)) := (HO.out.2.cell (p := ⟨b1, o1 + k, none⟩) hbw1).trans (hcc1 k hlt)
      have R1 := hide (lin_in R.out (by rw [← HN1.out]; exact hlt))
      have R2 := hide (lin_out R.out (by rw [← HN1.out]; exact hlt))
      have PS := hide (pv_succ (raw ds) k)
      clear hcc1 R
      generalize gt (raw ds) k = x at *
      generalize pv (raw ds) k = p at *
      rcases tr_cases x p with ⟨rfl, rfl⟩ | ⟨hno, q⟩
      · have R := hide (R2.out ⟨rfl, rfl⟩)
        clear R1 R2
        go_wp2
        go_roundw
        case rel => exact .mk (k + 1) xs (by omega) (by go_num) (by rw [PS.out]) (by omega) HO.out R.out
        case measure => simp [intOf]; omega
      · have R := hide (R1.out hno)
        clear R1 R2 hno
        rcases q with ⟨rfl, hp, e⟩ | ⟨rfl, e⟩ | ⟨rfl, e⟩ | ⟨rfl, e⟩ | ⟨x1, x2, x3, x4, e⟩
        · rw [e] at R
          have hp' : (p != 13) = true := by simp [hp]
          clear hp
          clear e
          go_wp2_with (at_builtin; refine wpList_append_own _ rfl _ _ 81 rfl w1.heap.size 21 i0 (.int .i32 0) 1 4 Tryd.underlying81 hi hz0 hz1 hz2 rfl (by decide) _ _ _ rfl (HO.out.1.alloc _) ⟨_, 0, none⟩ 1 1 [.int .i32 10] rfl rfl (news1 _ _ _) (by intro u hu; simp at hu; subst hu; rfl) (by unfold maxLen; omega) (by omega) (by have := HO.out.2.size; simp; omega) ?_; intro v' w2 hown' hgrow _; replace HO := hide (HO.out.grow (ys := [10]) hown' hgrow); clear hown' hgrow)
          go_roundw
          case rel => exact .mk (k + 1) (xs ++ [10]) (by omega) (by go_num) (by rw [PS.out]) (by rw [List.length_append, List.length_singleton]; omega) HO.out R.out
          case measure => simp [intOf]; omega
        · rw [e] at R
          clear e
          go_wp2_with (at_builtin; refine wpList_append_own _ rfl _ _ 81 rfl w1.heap.size 21 i0 (.int .i32 0) 1 4 Tryd.underlying81 hi hz0 hz1 hz2 rfl (by decide) _ _ _ rfl (HO.out.1.alloc _) ⟨_, 0, none⟩ 1 1 [.int .i32 10] rfl rfl (news1 _ _ _) (by intro u hu; simp at hu; subst hu; rfl) (by unfold maxLen; omega) (by omega) (by have := HO.out.2.size; simp; omega) ?_; intro v' w2 hown' hgrow _; replace HO := hide (HO.out.grow (ys := [10]) hown' hgrow); clear hown' hgrow)
          go_roundw
          case rel => exact .mk (k + 1) (xs ++ [10]) (by omega) (by go_num) (by rw [PS.out]) (by rw [List.length_append, List.length_singleton]; omega) HO.out R.out
          case measure => simp [intOf]; omega
        · rw [e] at R
          clear e
          go_wp2_with (at_builtin; refine wpList_append_own _ rfl _ _ 81 rfl w1.heap.size 21 i0 (.int .i32 0) 1 4 Tryd.underlying81 hi hz0 hz1 hz2 rfl (by decide) _ _ _ rfl (HO.out.1.alloc _) ⟨_, 0, none⟩ 1 1 [.int .i32 10] rfl rfl (news1 _ _ _) (by intro u hu; simp at hu; subst hu; rfl) (by unfold maxLen; omega) (by omega) (by have := HO.out.2.size; simp; omega) ?_; intro v' w2 hown' hgrow _; replace HO := hide (HO.out.grow (ys := [10]) hown' hgrow); clear hown' hgrow)
          go_roundw
          case rel => exact .mk (k + 1) (xs ++ [10]) (by omega) (by go_num) (by rw [PS.out]) (by rw [List.length_append, List.length_singleton]; omega) HO.out R.out
          case measure => simp [intOf]; omega
        · rw [e] at R
          clear e
          go_wp2_with (at_builtin; refine wpList_append_own _ rfl _ _ 81 rfl w1.heap.size 21 i0 (.int .i32 0) 1 4 Tryd.underlying81 hi hz0 hz1 hz2 rfl (by decide) _ _ _ rfl (HO.out.1.alloc _) ⟨_, 0, none⟩ 1 1 [.int .i32 65533] rfl rfl (news1 _ _ _) (by intro u hu; simp at hu; subst hu; rfl) (by unfold maxLen; omega) (by omega) (by have := HO.out.2.size; simp; omega) ?_; intro v' w2 hown' hgrow _; replace HO := hide (HO.out.grow (ys := [65533]) hown' hgrow); clear hown' hgrow)
          go_roundw
          case rel => exact .mk (k + 1) (xs ++ [65533]) (by omega) (by go_num) (by rw [PS.out]) (by rw [List.length_append, List.length_singleton]; omega) HO.out R.out
          case measure => simp [intOf]; omega
        · rw [e] at R
          have y1 : (x == 10) = false := by simp [x1]
          have y5 : (x != 10) = true := by simp [x1]
          have y2 : (x == 13) = false := by simp [x2]
          have y3 : (x == 12) = false := by simp [x3]
          have y4 : (x == 0) = false := by simp [x4]
          clear x1 x2 x3 x4
          clear e
          go_wp2_with (at_builtin; refine wpList_append_own _ rfl _ _ 81 rfl w1.heap.size 21 i0 (.int .i32 0) 1 4 Tryd.underlying81 hi hz0 hz1 hz2 rfl (by decide) _ _ _ rfl (HO.out.1.alloc _) ⟨_, 0, none⟩ 1 1 [.int .i32 x] rfl rfl (news1 _ _ _) (by intro u hu; simp at hu; subst hu; rfl) (by unfold maxLen; omega) (by omega) (by have := HO.out.2.size; simp; omega) ?_; intro v' w2 hown' hgrow _; replace HO := hide (HO.out.grow (ys := [x]) hown' hgrow); clear hown' hgrow)
          go_roundw
          case rel => exact .mk (k + 1) (xs ++ [x]) (by omega) (by go_num) (by rw [PS.out]) (by rw [List.length_append, List.length_singleton]; omega) HO.out R.out
          case measure => simp [intOf]; omega
    · have R' := hide (lin_end R.out (by rw [← HN1.out]; omega))
      have N := hide (HO.out.nums (by omega))
      go_wp2
      go_ret
      exact ⟨_, rfl, by rw [D.out, R'.out]; exact N.out, bto B1.out HO.out.2⟩
set_option maxRecDepth 100000 in
set_option maxHeartbeats 4000000 in
theorem decR_no1 (bs ds : List Int) (b o n c : Nat) (w : World) (hn9 : n ≤ 4611686018427387904) (hc9 : c ≤ 9223372036854775807) (hs : 3 ≤ n) (y1 : Int) (c0 : w.cell? ⟨b, o, none⟩ = some (.int .u8 239)) (c1 : w.cell? ⟨b, o + 1, none⟩ = some (.int .u8 y1)) (g1 : (y1 == 187) = false)
    (BC : By ds) (NC : Hid (Nums .u8 w (.slice (some ⟨b, o, none⟩) n c) ds)) (LR : (raw ds).length ≤ 1099511627776) (LD : ds.length ≤ 1099511627776) (D : Hid (dcd bs = lin 0 (raw ds))) :
    Calls Tryd.prog 50 #[.slice (some ⟨b, o, none⟩) n c] w fun e w' => ∃ u, e = .returned u ∧ Nums .i32 w' u (dcd bs) ∧ Below w.heap.size w w' := by
  obtain ⟨i0, hi, hz0, hz1, hz2⟩ := info_parts info32
  go_enter Tryd.func50, Tryd.ntmps50
  go_wp2_with (go_at_call 57; refine (rawR_any ds _ _ BC NC.out (by omega)).mono ?_; rintro e w1 ⟨u1, rfl, N1, B1⟩; obtain ⟨a1, n1, c1, rfl, hn1, hn19, _, hc1⟩ := N1.form; replace N1 := hide N1; replace B1 := hide B1; have HN1 := hide hn1; have HC1 := hide hc1; have hnb : n1 ≤ 1099511627776 := (by omega); clear hn1 hc1)
  go_loopw [3, 4, 34] (fun l la i wr => RelLi2 w1 n1 (raw ds) l la i wr) (fun _ _ i _ => n1 - (intOf i).toNat)
  case atStart => exact .mk 0 [] (by omega) rfl rfl (by simp) (Own.nil _ _ _) rfl
  case round =>
    obtain ⟨k, xs, hk, rfl, rfl, hxs, HO, R⟩ := hrel
    replace HO := hide HO
    by_cases hlt : k < n1
    · obtain ⟨b1, o1, rfl, hbw1, hcl1, hc91, hcc1⟩ := HC1.out (by omega)
      have cx : wr.cell? ⟨b1, o1 + k, none⟩ = some (.int .i32 (gt (raw ds) k)) := (HO.out.2.cell (p := ⟨b1, o1 + k, none⟩) hbw1).trans (hcc1 k hlt)
      have R1 := hide (lin_in R.out (by rw [← HN1.out]; exact hlt))
      have R2 := hide (lin_out R.out (by rw [← HN1.out]; exact hlt))
      have PS := hide (pv_succ (raw ds) k)
      clear hcc1 R
      generalize gt (raw ds) k = x at *
      generalize pv (raw ds) k = p at *
      rcases tr_cases x p with ⟨rfl, rfl⟩ | ⟨hno, q⟩
      · have R := hide (R2.out ⟨rfl, rfl⟩)
        clear R1 R2
        go_wp2
        go_roundw
        case rel => exact .mk (k + 1) xs (by omega) (by go_num) (by rw [PS.out]) (by omega) HO.out R.out
        case measure => simp [intOf]; omega
      · have R := hide (R1.out hno)
        clear R1 R2 hno
        rcases q with ⟨rfl, hp, e⟩ | ⟨rfl, e⟩ | ⟨rfl, e⟩ | ⟨rfl, e⟩ | ⟨x1, x2, x3, x4, e⟩
        · rw [e] at R
          have hp' : (p != 13) = true := by simp [hp]
          clear hp
          clear e
          go_wp2_with (at_builtin; refine wpList_append_own _ rfl _ _ 81 rfl w1.heap.size 21 i0 (.int .i32 0) 1 4 Tryd.underlying81 hi hz0 hz1 hz2 rfl (by decide) _ _ _ rfl (HO.out.1.alloc _) ⟨_, 0, none⟩ 1 1 [.int .i32 10] rfl rfl (news1 _ _ _) (by intro u hu; simp at hu; subst hu; rfl) (by unfold maxLen; omega) (by omega) (by have := HO.out.2.size; simp; omega) ?_; intro v' w2 hown' hgrow _; replace HO := hide (HO.out.grow (ys := [10]) hown' hgrow); clear hown' hgrow)
          go_roundw
          case rel => exact .mk (k + 1) (xs ++ [10]) (by omega) (by go_num) (by rw [PS.out]) (by rw [List.length_append, List.length_singleton]; omega) HO.out R.out
          case measure => simp [intOf]; omega
        · rw [e] at R
          clear e
          go_wp2_with (at_builtin; refine wpList_append_own _ rfl _ _ 81 rfl w1.heap.size 21 i0 (.int .i32 0) 1 4 Tryd.underlying81 hi hz0 hz1 hz2 rfl (by decide) _ _ _ rfl (HO.out.1.alloc _) ⟨_, 0, none⟩ 1 1 [.int .i32 10] rfl rfl (news1 _ _ _) (by intro u hu; simp at hu; subst hu; rfl) (by unfold maxLen; omega) (by omega) (by have := HO.out.2.size; simp; omega) ?_; intro v' w2 hown' hgrow _; replace HO := hide (HO.out.grow (ys := [10]) hown' hgrow); clear hown' hgrow)
          go_roundw
          case rel => exact .mk (k + 1) (xs ++ [10]) (by omega) (by go_num) (by rw [PS.out]) (by rw [List.length_append, List.length_singleton]; omega) HO.out R.out
          case measure => simp [intOf]; omega
        · rw [e] at R
          clear e
          go_wp2_with (at_builtin; refine wpList_append_own _ rfl _ _ 81 rfl w1.heap.size 21 i0 (.int .i32 0) 1 4 Tryd.underlying81 hi hz0 hz1 hz2 rfl (by decide) _ _ _ rfl (HO.out.1.alloc _) ⟨_, 0, none⟩ 1 1 [.int .i32 10] rfl rfl (news1 _ _ _) (by intro u hu; simp at hu; subst hu; rfl) (by unfold maxLen; omega) (by omega) (by have := HO.out.2.size; simp; omega) ?_; intro v' w2 hown' hgrow _; replace HO := hide (HO.out.grow (ys := [10]) hown' hgrow); clear hown' hgrow)
          go_roundw
          case rel => exact .mk (k + 1) (xs ++ [10]) (by omega) (by go_num) (by rw [PS.out]) (by rw [List.length_append, List.length_singleton]; omega) HO.out R.out
          case measure => simp [intOf]; omega
        · rw [e] at R
          clear e
          go_wp2_with (at_builtin; refine wpList_append_own _ rfl _ _ 81 rfl w1.heap.size 21 i0 (.int .i32 0) 1 4 Tryd.underlying81 hi hz0 hz1 hz2 rfl (by decide) _ _ _ rfl (HO.out.1.alloc _) ⟨_, 0, none⟩ 1 1 [.int .i32 65533] rfl rfl (news1 _ _ _) (by intro u hu; simp at hu; subst hu; rfl) (by unfold maxLen; omega) (by omega) (by have := HO.out.2.size; simp; omega) ?_; intro v' w2 hown' hgrow _; replace HO := hide (HO.out.grow (ys := [65533]) hown' hgrow); clear hown' hgrow)
          go_roundw
          case rel => exact .mk (k + 1) (xs ++ [65533]) (by omega) (by go_num) (by rw [PS.out]) (by rw [List.length_append, List.length_singleton]; omega) HO.out R.out
          case measure => simp [intOf]; omega
        · rw [e] at R
          have y1 : (x == 10) = false := by simp [x1]
          have y5 : (x != 10) = true := by simp [x1]
          have y2 : (x == 13) = false := by simp [x2]
          have y3 : (x == 12) = false := by simp [x3]
          have y4 : (x == 0) = false := by simp [x4]
          clear x1 x2 x3 x4
          clear e
          go_wp2_with (at_builtin; refine wpList_append_own _ rfl _ _ 81 rfl w1.heap.size 21 i0 (.int .i32 0) 1 4 Tryd.underlying81 hi hz0 hz1 hz2 rfl (by decide) _ _ _ rfl (HO.out.1.alloc _) ⟨_, 0, none⟩ 1 1 [.int .i32 x] rfl rfl (news1 _ _ _) (by intro u hu; simp at hu; subst hu; rfl) (by unfold maxLen; omega) (by omega) (by have := HO.out.2.size; simp; omega) ?_; intro v' w2 hown' hgrow _; replace HO := hide (HO.out.grow (ys := [x]) hown' hgrow); clear hown' hgrow)
          go_roundw
          case rel => exact .mk (k + 1) (xs ++ [x]) (by omega) (by go_num) (by rw [PS.out]) (by rw [List.length_append, List.length_singleton]; omega) HO.out R.out
          case measure => simp [intOf]; omega
    · have R' := hide (lin_end R.out (by rw [← HN1.out]; omega))
      have N := hide (HO.out.nums (by omega))
      go_wp2
      go_ret
      exact ⟨_, rfl, by rw [D.out, R'.out]; exact N.out, bto B1.out HO.out.2⟩
set_option maxRecDepth 100000 in
set_option maxHeartbeats 4000000 in
theorem decR_no2 (bs ds : List Int) (b o n c : Nat) (w : World) (hn9 : n ≤ 4611686018427387904) (hc9 : c ≤ 9223372036854775807) (hs : 3 ≤ n) (y2 : Int) (c0 : w.cell? ⟨b, o, none⟩ = some (.int .u8 239)) (c1 : w.cell? ⟨b, o + 1, none⟩ = some (.int .u8 187)) (c2 : w.cell? ⟨b, o + 2, none⟩ = some (.int .u8 y2)) (g2 : (y2 == 191) = false)
    (BC : By ds) (NC : Hid (Nums .u8 w (.slice (some ⟨b, o, none⟩) n c) ds)) (LR : (raw ds).length ≤ 1099511627776) (LD : ds.length ≤ 1099511627776) (D : Hid (dcd bs = lin 0 (raw ds))) :
    Calls Tryd.prog 50 #[.slice (some ⟨b, o, none⟩) n c] w fun e w' => ∃ u, e = .returned u ∧ Nums .i32 w' u (dcd bs) ∧ Below w.heap.size w w' := by
  obtain ⟨i0, hi, hz0, hz1, hz2⟩ := info_parts info32
  go_enter Tryd.func50, Tryd.ntmps50
  go_wp2_with (go_at_call 57; refine (rawR_any ds _ _ BC NC.out (by omega)).mono ?_; rintro e w1 ⟨u1, rfl, N1, B1⟩; obtain ⟨a1, n1, c1, rfl, hn1, hn19, _, hc1⟩ := N1.form; replace N1 := hide N1; replace B1 := hide B1; have HN1 := hide hn1; have HC1 := hide hc1; have hnb : n1 ≤ 1099511627776 := (by omega); clear hn1 hc1)
  go_loopw [3, 4, 34] (fun l la i wr => RelLi2 w1 n1 (raw ds) l la i wr) (fun _ _ i _ => n1 - (intOf i).toNat)
  case atStart => exact .mk 0 [] (by omega) rfl rfl (by simp) (Own.nil _ _ _) rfl
  case round =>
    obtain ⟨k, xs, hk, rfl, rfl, hxs, HO, R⟩ := hrel
    replace HO := hide HO
    by_cases hlt : k < n1
    · obtain ⟨b1, o1, rfl, hbw1, hcl1, hc91, hcc1⟩ := HC1.out (by omega)
      have cx : wr.cell? ⟨b1, o1 + k, none⟩ = some (.int .i32 (gt (raw ds) k)) := (HO.out.2.cell (p := ⟨b1, o1 + k, none⟩) hbw1).trans (hcc1 k hlt)
      have R1 := hide (lin_in R.out (by rw [← HN1.out]; exact hlt))
      have R2 := hide (lin_out R.out (by rw [← HN1.out]; exact hlt))
      have PS := hide (pv_succ (raw ds) k)
      clear hcc1 R
      generalize gt (raw ds) k = x at *
      generalize pv (raw ds) k = p at *
      rcases tr_cases x p with ⟨rfl, rfl⟩ | ⟨hno, q⟩
      · have R := hide (R2.out ⟨rfl, rfl⟩)
        clear R1 R2
        go_wp2
        go_roundw
        case rel => exact .mk (k + 1) xs (by omega) (by go_num) (by rw [PS.out]) (by omega) HO.out R.out
        case measure => simp [intOf]; omega
      · have R := hide (R1.out hno)
        clear R1 R2 hno
        rcases q with ⟨rfl, hp, e⟩ | ⟨rfl, e⟩ | ⟨rfl, e⟩ | ⟨rfl, e⟩ | ⟨x1, x2, x3, x4, e⟩
        · rw [e] at R
          have hp' : (p != 13) = true := by simp [hp]
          clear hp
          clear e
          go_wp2_with (at_builtin; refine wpList_append_own _ rfl _ _ 81 rfl w1.heap.size 21 i0 (.int .i32 0) 1 4 Tryd.underlying81 hi hz0 hz1 hz2 rfl (by decide) _ _ _ rfl (HO.out.1.alloc _) ⟨_, 0, none⟩ 1 1 [.int .i32 10] rfl rfl (news1 _ _ _) (by intro u hu; simp at hu; subst hu; rfl) (by unfold maxLen; omega) (by omega) (by have := HO.out.2.size; simp; omega) ?_; intro v' w2 hown' hgrow _; replace HO := hide (HO.out.grow (ys := [10]) hown' hgrow); clear hown' hgrow)
          go_roundw
          case rel => exact .mk (k + 1) (xs ++ [10]) (by omega) (by go_num) (by rw [PS.out]) (by rw [List.length_append, List.length_singleton]; omega) HO.out R.out
          case measure => simp [intOf]; omega
        · rw [e] at R
          clear e
          go_wp2_with (at_builtin; refine wpList_append_own _ rfl _ _ 81 rfl w1.heap.size 21 i0 (.int .i32 0) 1 4 Tryd.underlying81 hi hz0 hz1 hz2 rfl (by decide) _ _ _ rfl (HO.out.1.alloc _) ⟨_, 0, none⟩ 1 1 [.int .i32 10] rfl rfl (news1 _ _ _) (by intro u hu; simp at hu; subst hu; rfl) (by unfold maxLen; omega) (by omega) (by have := HO.out.2.size; simp; omega) ?_; intro v' w2 hown' hgrow _; replace HO := hide (HO.out.grow (ys := [10]) hown' hgrow); clear hown' hgrow)
          go_roundw
          case rel => exact .mk (k + 1) (xs ++ [10]) (by omega) (by go_num) (by rw [PS.out]) (by rw [List.length_append, List.length_singleton]; omega) HO.out R.out
          case measure => simp [intOf]; omega
        · rw [e] at R
          clear e
          go_wp2_with (at_builtin; refine wpList_append_own _ rfl _ _ 81 rfl w1.heap.size 21 i0 (.int .i32 0) 1 4 Tryd.underlying81 hi hz0 hz1 hz2 rfl (by decide) _ _ _ rfl (HO.out.1.alloc _) ⟨_, 0, none⟩ 1 1 [.int .i32 10] rfl rfl (news1 _ _ _) (by intro u hu; simp at hu; subst hu; rfl) (by unfold maxLen; omega) (by omega) (by have := HO.out.2.size; simp; omega) ?_; intro v' w2 hown' hgrow _; replace HO := hide (HO.out.grow (ys := [10]) hown' hgrow); clear hown' hgrow)
          go_roundw
          case rel => exact .mk (k + 1) (xs ++ [10]) (by omega) (by go_num) (by rw [PS.out]) (by rw [List.length_append, List.length_singleton]; omega) HO.out R.out
          case measure => simp [intOf]; omega
        · rw [e] at R
          clear e
          go_wp2_with (at_builtin; refine wpList_append_own _ rfl _ _ 81 rfl w1.heap.size 21 i0 (.int .i32 0) 1 4 Tryd.underlying81 hi hz0 hz1 hz2 rfl (by decide) _ _ _ rfl (HO.out.1.alloc _) ⟨_, 0, none⟩ 1 1 [.int .i32 65533] rfl rfl (news1 _ _ _) (by intro u hu; simp at hu; subst hu; rfl) (by unfold maxLen; omega) (by omega) (by have := HO.out.2.size; simp; omega) ?_; intro v' w2 hown' hgrow _; replace HO := hide (HO.out.grow (ys := [65533]) hown' hgrow); clear hown' hgrow)
          go_roundw
          case rel => exact .mk (k + 1) (xs ++ [65533]) (by omega) (by go_num) (by rw [PS.out]) (by rw [List.length_append, List.length_singleton]; omega) HO.out R.out
          case measure => simp [intOf]; omega
        · rw [e] at R
          have y1 : (x == 10) = false := by simp [x1]
          have y5 : (x != 10) = true := by simp [x1]
          have y2 : (x == 13) = false := by simp [x2]
          have y3 : (x == 12) = false := by simp [x3]
          have y4 : (x == 0) = false := by simp [x4]
          clear x1 x2 x3 x4
          clear e
          go_wp2_with (at_builtin; refine wpList_append_own _ rfl _ _ 81 rfl w1.heap.size 21 i0 (.int .i32 0) 1 4 Tryd.underlying81 hi hz0 hz1 hz2 rfl (by decide) _ _ _ rfl (HO.out.1.alloc _) ⟨_, 0, none⟩ 1 1 [.int .i32 x] rfl rfl (news1 _ _ _) (by intro u hu; simp at hu; subst hu; rfl) (by unfold maxLen; omega) (by omega) (by have := HO.out.2.size; simp; omega) ?_; intro v' w2 hown' hgrow _; replace HO := hide (HO.out.grow (ys := [x]) hown' hgrow); clear hown' hgrow)
          go_roundw
          case rel => exact .mk (k + 1) (xs ++ [x]) (by omega) (by go_num) (by rw [PS.out]) (by rw [List.length_append, List.length_singleton]; omega) HO.out R.out
          case measure => simp [intOf]; omega
    · have R' := hide (lin_end R.out (by rw [← HN1.out]; omega))
      have N := hide (HO.out.nums (by omega))
      go_wp2
      go_ret
      exact ⟨_, rfl, by rw [D.out, R'.out]; exact N.out, bto B1.out HO.out.2⟩
set_option maxRecDepth 100000 in
set_option maxHeartbeats 4000000 in
theorem decR_yes3 (bs ds : List Int) (b o : Nat) (w : World) (hn9 : True) (hc9 : True) (c0 : w.cell? ⟨b, o, none⟩ = some (.int .u8 239)) (c1 : w.cell? ⟨b, o + 1, none⟩ = some (.int .u8 187)) (c2 : w.cell? ⟨b, o + 2, none⟩ = some (.int .u8 191))
    (BC : By ds) (NC : Hid (Nums .u8 w (.slice (some ⟨b, o, none⟩) 0 0) ds)) (LR : (raw ds).length ≤ 1099511627776) (LD : ds.length ≤ 1099511627776) (D : Hid (dcd bs = lin 0 (raw ds))) :
    Calls Tryd.prog 50 #[.slice (some ⟨b, o, none⟩) 3 3] w fun e w' => ∃ u, e = .returned u ∧ Nums .i32 w' u (dcd bs) ∧ Below w.heap.size w w' := by
  obtain ⟨i0, hi, hz0, hz1, hz2⟩ := info_parts info32
  go_enter Tryd.func50, Tryd.ntmps50
  go_wp2_with (go_at_call 57; refine (rawR_any ds _ _ BC NC.out (by omega)).mono ?_; rintro e w1 ⟨u1, rfl, N1, B1⟩; obtain ⟨a1, n1, c1, rfl, hn1, hn19, _, hc1⟩ := N1.form; replace N1 := hide N1; replace B1 := hide B1; have HN1 := hide hn1; have HC1 := hide hc1; have hnb : n1 ≤ 1099511627776 := (by omega); clear hn1 hc1)
  go_loopw [3, 4, 34] (fun l la i wr => RelLi2 w1 n1 (raw ds) l la i wr) (fun _ _ i _ => n1 - (intOf i).toNat)
  case atStart => exact .mk 0 [] (by omega) rfl rfl (by simp) (Own.nil _ _ _) rfl
  case round =>
    obtain ⟨k, xs, hk, rfl, rfl, hxs, HO, R⟩ := hrel
    replace HO := hide HO
    by_cases hlt : k < n1
    · obtain ⟨b1, o1, rfl, hbw1, hcl1, hc91, hcc1⟩ := HC1.out (by omega)
      have cx : wr.cell? ⟨b1, o1 + k, none⟩ = some (.int .i32 (gt (raw ds) k)) := (HO.out.2.cell (p := ⟨b1, o1 + k, none⟩) hbw1).trans (hcc1 k hlt)
      have R1 := hide (lin_in R.out (by rw [← HN1.out]; exact hlt))
      have R2 := hide (lin_out R.out (by rw [← HN1.out]; exact hlt))
      have PS := hide (pv_succ (raw ds) k)
      clear hcc1 R
      generalize gt (raw ds) k = x at *
      generalize pv (raw ds) k = p at *
      rcases tr_cases x p with ⟨rfl, rfl⟩ | ⟨hno, q⟩
      · have R := hide (R2.out ⟨rfl, rfl⟩)
        clear R1 R2
        go_wp2
        go_roundw
        case rel => exact .mk (k + 1) xs (by omega) (by go_num) (by rw [PS.out]) (by omega) HO.out R.out
        case measure => simp [intOf]; omega
      · have R := hide (R1.out hno)
        clear R1 R2 hno
        rcases q with ⟨rfl, hp, e⟩ | ⟨rfl, e⟩ | ⟨rfl, e⟩ | ⟨rfl, e⟩ | ⟨x1, x2, x3, x4, e⟩
        · rw [e] at R
          have hp' : (p != 13) = true := by simp [hp]
          clear hp
          clear e
          go_wp2_with (at_builtin; refine wpList_append_own _ rfl _ _ 81 rfl w1.heap.size 21 i0 (.int .i32 0) 1 4 Tryd.underlying81 hi hz0 hz1 hz2 rfl (by decide) _ _ _ rfl (HO.out.1.alloc _) ⟨_, 0, none⟩ 1 1 [.int .i32 10] rfl rfl (news1 _ _ _) (by intro u hu; simp at hu; subst hu; rfl) (by unfold maxLen; omega) (by omega) (by have := HO.out.2.size; simp; omega) ?_; intro v' w2 hown' hgrow _; replace HO := hide (HO.out.grow (ys := [10]) hown' hgrow); clear hown' hgrow)
          go_roundw
          case rel => exact .mk (k + 1) (xs ++ [10]) (by omega) (by go_num) (by rw [PS.out]) (by rw [List.length_append, List.length_singleton]; omega) HO.out R.out
          case measure => simp [intOf]; omega
        · rw [e] at R
          clear e
          go_wp2_with (at_builtin; refine wpList_append_own _ rfl _ _ 81 rfl w1.heap.size 21 i0 (.int .i32 0) 1 4 Tryd.underlying81 hi hz0 hz1 hz2 rfl (by decide) _ _ _ rfl (HO.out.1.alloc _) ⟨_, 0, none⟩ 1 1 [.int .i32 10] rfl rfl (news1 _ _ _) (by intro u hu; simp at hu; subst hu; rfl) (by unfold maxLen; omega) (by omega) (by have := HO.out.2.size; simp; omega) ?_; intro v' w2 hown' hgrow _; replace HO := hide (HO.out.grow (ys := [10]) hown' hgrow); clear hown' hgrow)
          go_roundw
          case rel => exact .mk (k + 1) (xs ++ [10]) (by omega) (by go_num) (by rw [PS.out]) (by rw [List.length_append, List.length_singleton]; omega) HO.out R.out
          case measure => simp [intOf]; omega
        · rw [e] at R
          clear e
          go_wp2_with (at_builtin; refine wpList_append_own _ rfl _ _ 81 rfl w1.heap.size 21 i0 (.int .i32 0) 1 4 Tryd.underlying81 hi hz0 hz1 hz2 rfl (by decide) _ _ _ rfl (HO.out.1.alloc _) ⟨_, 0, none⟩ 1 1 [.int .i32 10] rfl rfl (news1 _ _ _) (by intro u hu; simp at hu; subst hu; rfl) (by unfold maxLen; omega) (by omega) (by have := HO.out.2.size; simp; omega) ?_; intro v' w2 hown' hgrow _; replace HO := hide (HO.out.grow (ys := [10]) hown' hgrow); clear hown' hgrow)
          go_roundw
          case rel => exact .mk (k + 1) (xs ++ [10]) (by omega) (by go_num) (by rw [PS.out]) (by rw [List.length_append, List.length_singleton]; omega) HO.out R.out
          case measure => simp [intOf]; omega
        · rw [e] at R
          clear e
          go_wp2_with (at_builtin; refine wpList_append_own _ rfl _ _ 81 rfl w1.heap.size 21 i0 (.int .i32 0) 1 4 Tryd.underlying81 hi hz0 hz1 hz2 rfl (by decide) _ _ _ rfl (HO.out.1.alloc _) ⟨_, 0, none⟩ 1 1 [.int .i32 65533] rfl rfl (news1 _ _ _) (by intro u hu; simp at hu; subst hu; rfl) (by unfold maxLen; omega) (by omega) (by have := HO.out.2.size; simp; omega) ?_; intro v' w2 hown' hgrow _; replace HO := hide (HO.out.grow (ys := [65533]) hown' hgrow); clear hown' hgrow)
          go_roundw
          case rel => exact .mk (k + 1) (xs ++ [65533]) (by omega) (by go_num) (by rw [PS.out]) (by rw [List.length_append, List.length_singleton]; omega) HO.out R.out
          case measure => simp [intOf]; omega
        · rw [e] at R
          have y1 : (x == 10) = false := by simp [x1]
          have y5 : (x != 10) = true := by simp [x1]
          have y2 : (x == 13) = false := by simp [x2]
          have y3 : (x == 12) = false := by simp [x3]
          have y4 : (x == 0) = false := by simp [x4]
          clear x1 x2 x3 x4
          clear e
          go_wp2_with (at_builtin; refine wpList_append_own _ rfl _ _ 81 rfl w1.heap.size 21 i0 (.int .i32 0) 1 4 Tryd.underlying81 hi hz0 hz1 hz2 rfl (by decide) _ _ _ rfl (HO.out.1.alloc _) ⟨_, 0, none⟩ 1 1 [.int .i32 x] rfl rfl (news1 _ _ _) (by intro u hu; simp at hu; subst hu; rfl) (by unfold maxLen; omega) (by omega) (by have := HO.out.2.size; simp; omega) ?_; intro v' w2 hown' hgrow _; replace HO := hide (HO.out.grow (ys := [x]) hown' hgrow); clear hown' hgrow)
          go_roundw
          case rel => exact .mk (k + 1) (xs ++ [x]) (by omega) (by go_num) (by rw [PS.out]) (by rw [List.length_append, List.length_singleton]; omega) HO.out R.out
          case measure => simp [intOf]; omega
    · have R' := hide (lin_end R.out (by rw [← HN1.out]; omega))
      have N := hide (HO.out.nums (by omega))
      go_wp2
      go_ret
      exact ⟨_, rfl, by rw [D.out, R'.out]; exact N.out, bto B1.out HO.out.2⟩
set_option maxRecDepth 100000 in
set_option maxHeartbeats 4000000 in
theorem decR_yes (bs ds : List Int) (b o n c : Nat) (w : World) (hn9 : n ≤ 4611686018427387904) (hc9 : c ≤ 9223372036854775807) (hs : 3 ≤ n) (hnc : n ≤ c) (hc3 : ¬ c = 3) (c0 : w.cell? ⟨b, o, none⟩ = some (.int .u8 239)) (c1 : w.cell? ⟨b, o + 1, none⟩ = some (.int .u8 187)) (c2 : w.cell? ⟨b, o + 2, none⟩ = some (.int .u8 191))
    (BC : By ds) (NC : Hid (Nums .u8 w (.slice (some ⟨b, o + 3, none⟩) (n - 3) (c - 3)) ds)) (LR : (raw ds).length ≤ 1099511627776) (LD : ds.length ≤ 1099511627776) (D : Hid (dcd bs = lin 0 (raw ds))) :
    Calls Tryd.prog 50 #[.slice (some ⟨b, o, none⟩) n c] w fun e w' => ∃ u, e = .returned u ∧ Nums .i32 w' u (dcd bs) ∧ Below w.heap.size w w' := by
  obtain ⟨i0, hi, hz0, hz1, hz2⟩ := info_parts info32
  go_enter Tryd.func50, Tryd.ntmps50
  go_wp2_with (go_at_call 57; refine (rawR_any ds _ _ BC NC.out (by omega)).mono ?_; rintro e w1 ⟨u1, rfl, N1, B1⟩; obtain ⟨a1, n1, c1, rfl, hn1, hn19, _, hc1⟩ := N1.form; replace N1 := hide N1; replace B1 := hide B1; have HN1 := hide hn1; have HC1 := hide hc1; have hnb : n1 ≤ 1099511627776 := (by omega); clear hn1 hc1)
  go_loopw [3, 4, 34] (fun l la i wr => RelLi2 w1 n1 (raw ds) l la i wr) (fun _ _ i _ => n1 - (intOf i).toNat)
  case atStart => exact .mk 0 [] (by omega) rfl rfl (by simp) (Own.nil _ _ _) rfl
  case round =>
    obtain ⟨k, xs, hk, rfl, rfl, hxs, HO, R⟩ := hrel
    replace HO := hide HO
    by_cases hlt : k < n1
    · obtain ⟨b1, o1, rfl, hbw1, hcl1, hc91, hcc1⟩ := HC1.out (by omega)
      have cx : wr.cell? ⟨b1, o1 + k, none⟩ = some (.int .i32 (gt (raw ds) k)) := (HO.out.2.cell (p := ⟨b1, o1 + k, none⟩) hbw1).trans (hcc1 k hlt)
      have R1 := hide (lin_in R.out (by rw [← HN1.out]; exact hlt))
      have R2 := hide (lin_out R.out (by rw [← HN1.out]; exact hlt))
      have PS := hide (pv_succ (raw ds) k)
      clear hcc1 R
      generalize gt (raw ds) k = x at *
      generalize pv (raw ds) k = p at *
      rcases tr_cases x p with ⟨rfl, rfl⟩ | ⟨hno, q⟩
      · have R := hide (R2.out ⟨rfl, rfl⟩)
        clear R1 R2
        go_wp2
        go_roundw
        case rel => exact .mk (k + 1) xs (by omega) (by go_num) (by rw [PS.out]) (by omega) HO.out R.out
        case measure => simp [intOf]; omega
      · have R := hide (R1.out hno)
        clear R1 R2 hno
        rcases q with ⟨rfl, hp, e⟩ | ⟨rfl, e⟩ | ⟨rfl, e⟩ | ⟨rfl, e⟩ | ⟨x1, x2, x3, x4, e⟩
        · rw [e] at R
          have hp' : (p != 13) = true := by simp [hp]
          clear hp
          clear e
          go_wp2_with (at_builtin; refine wpList_append_own _ rfl _ _ 81 rfl w1.heap.size 21 i0 (.int .i32 0) 1 4 Tryd.underlying81 hi hz0 hz1 hz2 rfl (by decide) _ _ _ rfl (HO.out.1.alloc _) ⟨_, 0, none⟩ 1 1 [.int .i32 10] rfl rfl (news1 _ _ _) (by intro u hu; simp at hu; subst hu; rfl) (by unfold maxLen; omega) (by omega) (by have := HO.out.2.size; simp; omega) ?_; intro v' w2 hown' hgrow _; replace HO := hide (HO.out.grow (ys := [10]) hown' hgrow); clear hown' hgrow)
          go_roundw
          case rel => exact .mk (k + 1) (xs ++ [10]) (by omega) (by go_num) (by rw [PS.out]) (by rw [List.length_append, List.length_singleton]; omega) HO.out R.out
          case measure => simp [intOf]; omega
        · rw [e] at R
          clear e
          go_wp2_with (at_builtin; refine wpList_append_own _ rfl _ _ 81 rfl w1.heap.size 21 i0 (.int .i32 0) 1 4 Tryd.underlying81 hi hz0 hz1 hz2 rfl (by decide) _ _ _ rfl (HO.out.1.alloc _) ⟨_, 0, none⟩ 1 1 [.int .i32 10] rfl rfl (news1 _ _ _) (by intro u hu; simp at hu; subst hu; rfl) (by unfold maxLen; omega) (by omega) (by have := HO.out.2.size; simp; omega) ?_; intro v' w2 hown' hgrow _; replace HO := hide (HO.out.grow (ys := [10]) hown' hgrow); clear hown' hgrow)
          go_roundw
          case rel => exact .mk (k + 1) (xs ++ [10]) (by omega) (by go_num) (by rw [PS.out]) (by rw [List.length_append, List.length_singleton]; omega) HO.out R.out
          case measure => simp [intOf]; omega
        · rw [e] at R
          clear e
          go_wp2_with (at_builtin; refine wpList_append_own _ rfl _ _ 81 rfl w1.heap.size 21 i0 (.int .i32 0) 1 4 Tryd.underlying81 hi hz0 hz1 hz2 rfl (by decide) _ _ _ rfl (HO.out.1.alloc _) ⟨_, 0, none⟩ 1 1 [.int .i32 10] rfl rfl (news1 _ _ _) (by intro u hu; simp at hu; subst hu; rfl) (by unfold maxLen; omega) (by omega) (by have := HO.out.2.size; simp; omega) ?_; intro v' w2 hown' hgrow _; replace HO := hide (HO.out.grow (ys := [10]) hown' hgrow); clear hown' hgrow)
          go_roundw
          case rel => exact .mk (k + 1) (xs ++ [10]) (by omega) (by go_num) (by rw [PS.out]) (by rw [List.length_append, List.length_singleton]; omega) HO.out R.out
          case measure => simp [intOf]; omega
        · rw [e] at R
          clear e
          go_wp2_with (at_builtin; refine wpList_append_own _ rfl _ _ 81 rfl w1.heap.size 21 i0 (.int .i32 0) 1 4 Tryd.underlying81 hi hz0 hz1 hz2 rfl (by decide) _ _ _ rfl (HO.out.1.alloc _) ⟨_, 0, none⟩ 1 1 [.int .i32 65533] rfl rfl (news1 _ _ _) (by intro u hu; simp at hu; subst hu; rfl) (by unfold maxLen; omega) (by omega) (by have := HO.out.2.size; simp; omega) ?_; intro v' w2 hown' hgrow _; replace HO := hide (HO.out.grow (ys := [65533]) hown' hgrow); clear hown' hgrow)
          go_roundw
          case rel => exact .mk (k + 1) (xs ++ [65533]) (by omega) (by go_num) (by rw [PS.out]) (by rw [List.length_append, List.length_singleton]; omega) HO.out R.out
          case measure => simp [intOf]; omega
        · rw [e] at R
          have y1 : (x == 10) = false := by simp [x1]
          have y5 : (x != 10) = true := by simp [x1]
          have y2 : (x == 13) = false := by simp [x2]
          have y3 : (x == 12) = false := by simp [x3]
          have y4 : (x == 0) = false := by simp [x4]
          clear x1 x2 x3 x4
          clear e
          go_wp2_with (at_builtin; refine wpList_append_own _ rfl _ _ 81 rfl w1.heap.size 21 i0 (.int .i32 0) 1 4 Tryd.underlying81 hi hz0 hz1 hz2 rfl (by decide) _ _ _ rfl (HO.out.1.alloc _) ⟨_, 0, none⟩ 1 1 [.int .i32 x] rfl rfl (news1 _ _ _) (by intro u hu; simp at hu; subst hu; rfl) (by unfold maxLen; omega) (by omega) (by have := HO.out.2.size; simp; omega) ?_; intro v' w2 hown' hgrow _; replace HO := hide (HO.out.grow (ys := [x]) hown' hgrow); clear hown' hgrow)
          go_roundw
          case rel => exact .mk (k + 1) (xs ++ [x]) (by omega) (by go_num) (by rw [PS.out]) (by rw [List.length_append, List.length_singleton]; omega) HO.out R.out
          case measure => simp [intOf]; omega
    · have R' := hide (lin_end R.out (by rw [← HN1.out]; omega))
      have N := hide (HO.out.nums (by omega))
      go_wp2
      go_ret
      exact ⟨_, rfl, by rw [D.out, R'.out]; exact N.out, bto B1.out HO.out.2⟩
theorem dcdR_any (bs : List Int) (v : Value) (w : World) (hb : By bs) (hv : Nums .u8 w v bs) (hl9 : bs.length ≤ 1099511627776) :
    Calls Tryd.prog 50 #[v] w fun e w' => ∃ u, e = .returned u ∧ Nums .i32 w' u (dcd bs) ∧ Below w.heap.size w w' := by
  obtain ⟨a, n, c, rfl, hn, hn9, _, hc⟩ := hv.form
  have LC := cutm_len bs
  have LR := (raw_le (cut bs)).1
  have BC := hb.cut
  have D : dcd bs = lin 0 (raw (cut bs)) := rfl
  rcases mark_cases bs with ⟨h, e⟩ | ⟨h, h0, e⟩ | ⟨h, h0, h1, e⟩ | ⟨h, h0, h1, h2, e⟩ | ⟨h, h0, h1, h2, e⟩
  · have e1 : cut bs = bs := by unfold cut; rw [e]; rfl
    rw [e1] at LC LR BC D
    exact decR_short bs bs a n c w hn9 trivial (by omega) BC hv (by omega) (by omega) D
  all_goals
    obtain ⟨b, o, rfl, hbw, hl, hc9, hcc⟩ := hc (by omega)
    have c0 : w.cell? ⟨b, o, none⟩ = some (.int .u8 (gt bs 0)) := hcc 0 (by omega)
    have c1 : w.cell? ⟨b, o + 1, none⟩ = some (.int .u8 (gt bs 1)) := hcc 1 (by omega)
    have c2 : w.cell? ⟨b, o + 2, none⟩ = some (.int .u8 (gt bs 2)) := hcc 2 (by omega)
  · have e1 : cut bs = bs := by unfold cut; rw [e]; rfl
    rw [e1] at LC LR BC D
    exact decR_no0 bs bs b o n c w hn9 hc9 (by omega) _ c0 (by simp [h0]) BC hv (by omega) (by omega) D
  · have e1 : cut bs = bs := by unfold cut; rw [e]; rfl
    rw [e1] at LC LR BC D
    rw [h0] at c0
    exact decR_no1 bs bs b o n c w hn9 hc9 (by omega) _ c0 c1 (by simp [h1]) BC hv (by omega) (by omega) D
  · have e1 : cut bs = bs := by unfold cut; rw [e]; rfl
    rw [e1] at LC LR BC D
    rw [h0] at c0
    rw [h1] at c1
    exact decR_no2 bs bs b o n c w hn9 hc9 (by omega) _ c0 c1 c2 (by simp [h2]) BC hv (by omega) (by omega) D
  · have e1 : cut bs = bs.drop 3 := by unfold cut; rw [e]; rfl
    rw [e1] at LC LR BC D
    rw [h0] at c0
    rw [h1] at c1
    rw [h2] at c2
    by_cases hc3 : c = 3
    · obtain ⟨e2, e3⟩ := hv.none3 (by omega) hc3
      subst hc3
      subst e2
      exact decR_yes3 bs (bs.drop 3) b o w trivial trivial c0 c1 c2 BC (.inl ⟨_, _, rfl, e3⟩) (by omega) (by omega) D
    · exact decR_yes bs (bs.drop 3) b o n c w hn9 hc9 (by omega) hl hc3 c0 c1 c2 BC (hv.three (by omega) hc3) (by omega) (by omega) D
theorem dec_three : dcd [97, 13, 10] = [97, 10] := by
  have e1 : cut [97, 13, 10] = [97, 13, 10] := by decide
  have e2 : raw [97, 13, 10] = [97, 13, 10] := by
    rw [raw_cut (by simp)]
    show (97 : Int) :: raw [13, 10] = _
    rw [raw_cut (by simp)]
    show (97 : Int) :: 13 :: raw [10] = _
    rw [raw_cut (by simp)]
    show (97 : Int) :: 13 :: 10 :: raw [] = _
    rw [raw_nil]
  unfold dcd
  rw [e1, e2]
  decide
theorem By.three : By [97, 13, 10] := by intro x hx; simp at hx; omega
end Go.Proofs.YtlkocepoohhglaaDoor
set_option linter.unusedVariables false
set_option linter.unusedSimpArgs false
namespace Go.Proofs.YtlkocepoohhglaaDoor
open Go.RowKit

theorem AtR.growT {T : TypeId} {W w wr w1 : World} {b : Nat} {u v : Value} {l s : List Int} {o : Obj} {ts : List Tk} (h : AtR T W wr b u l s) (hb : b < w.heap.size) (ho : OwnT b w wr v ts) (hg : (wr.alloc o).grownBy w1 v.ownBlock) : AtR T W w1 b u l s := by
  obtain ⟨p, h1, h2, h3⟩ := h.ex
  have B := bplus (Below.refl wr.heap.size wr) o
  have hbe := h1.ge
  refine ⟨p, ⟨(bto h1.bel B).grown hg (Nat.le_trans h1.bel.size B.size) (fun k hk => by have := (ho.1.lt k hk).1; omega), h1.ge, ?_, h1.nums, h1.len, h1.le⟩, h2, h3⟩
  exact (hg.block b (Nat.lt_of_lt_of_le h1.lt B.size) (fun e => by have := (ho.1.lt b e.symm).1; omega)).trans ((B.block b h1.lt).trans h1.blk)
def RelTr (T : TypeId) (W w0 : World) (b : Nat) (v : Value) (l s : List Int) (g : Nat) (tv : Value) (wr : World) : Prop :=
  ∃ ts t, AtR T W wr b v l t ∧ t.length ≤ g ∧ ts.length + t.length ≤ s.length ∧ OwnT b w0 wr tv ts ∧ Hid (toks s = ts ++ toks t)
theorem RelTr.mk {T : TypeId} {W w0 : World} {b : Nat} {v : Value} {l s : List Int} {g : Nat} {tv : Value} {wr : World} (ts : List Tk) (t : List Int) (h1 : AtR T W wr b v l t) (h2 : t.length ≤ g) (h3 : ts.length + t.length ≤ s.length) (h4 : OwnT b w0 wr tv ts) (h5 : toks s = ts ++ toks t) : RelTr T W w0 b v l s g tv wr := ⟨ts, t, h1, h2, h3, h4, h5⟩
set_option maxRecDepth 100000 in
set_option maxHeartbeats 2000000 in
theorem toksR_any (l : List Int) (v : Value) (w : World) (hK : Kinds w) (hv : Nums .i32 w v l) (hL : l.length ≤ 250000000) :
    Calls Tryd.prog 49 #[v] w fun e w' => ∃ u, e = .returned u ∧ Toks w' u (toks (chs l)) ∧ Below w.heap.size w w' := by
  obtain ⟨i0, hi, hz0, hz1, hz2⟩ := info_parts infoT
  obtain ⟨a, n, c, rfl⟩ := hv.shape
  have A1 := hide (At.start w (.slice a n c) l 87 hv (by omega)).r
  have hcl : (chs l).length = l.length := chs_len l
  clear hv
  obtain ⟨s, hs⟩ : ∃ s, chs l = s := ⟨_, rfl⟩
  rw [hs] at A1 hcl ⊢
  clear hs
  have hsl : s.length ≤ 250000000 := by omega
  have L0 := hide hL
  have KH := hide hK
  clear hL hcl hK
  obtain ⟨w0, hw0⟩ : ∃ x, w.alloc (.cells #[.slice a n c, .int .i64 0] 87) = x := ⟨_, rfl⟩
  have hbw : w.heap.size < w0.heap.size := by rw [← hw0]; simp
  rw [hw0] at A1
  have W0 := hide hw0
  clear hw0
  go_enter Tryd.func49, Tryd.ntmps49
  go_wp2_with fail
  rw [W0.out]
  go_loopg [3] s.length (fun g tv wr => RelTr 87 w w0 w.heap.size (.slice a n c) l s g tv wr)
  case atStart => exact .mk [] s A1.out (Nat.le_refl _) (by simp) (OwnT.nil _ _) rfl
  case round =>
    clear A1
    obtain ⟨ts, t, A1, hg, hx, OW, R⟩ := hrel
    replace A1 := hide A1
    replace OW := hide OW
    obtain ⟨q, hq⟩ : ∃ q, rmk t = q := ⟨_, rfl⟩
    have RQ := hide hq
    have lq := rmk_le t
    rw [hq] at lq
    obtain ⟨x, hx0⟩ : ∃ x, nx q 0 = x := ⟨_, rfl⟩
    have H0 := hide (show nx q (Int.toNat 0) = x from hx0)
    by_cases hm : x = -1
    · subst hm
      have E := R.out
      rw [toks_end (s := t) (by rw [hq]; exact hx0), List.append_nil] at E
      replace E := hide E
      clear hx0 hq
      go_wp2_with (first
        | (go_at_call 54; refine (remarksR_any 87 w _ w.heap.size _ l t A1.out).mono ?_; rintro e w4 ⟨rfl, A2, M2⟩; rw [RQ.out] at A2; replace A1 := hide A2; replace OW := hide (OW.out.mod hbw M2); clear A2 M2)
        | (go_at_call 55; refine (atR_any 87 w _ w.heap.size _ l q _ A1.out (by decide) (by decide)).mono ?_; rintro e w1 ⟨he, B1⟩; rw [H0.out] at he; subst he; replace A1 := hide (A1.out.below B1); replace OW := hide (OW.out.mod hbw (Mod.of _ B1)); clear B1))
      go_ret
      obtain ⟨p, hp, _⟩ := A1.out.ex
      exact ⟨_, rfl, by rw [E.out]; exact OW.out.toks (by omega), hp.bel⟩
    · have em : (x == -1) = false := by simpa using hm
      have hne : nx q 0 ≠ -1 := by rw [hx0]; exact hm
      have HN := hide hne
      have E := R.out
      rw [toks_go (s := t) (by rw [hq]; exact hne), hq] at E
      have l1 := tokn_lt hne
      clear hx0 hne hq
      obtain ⟨⟨⟨k, tx, nu, de, wh, id⟩, r⟩, ht⟩ : ∃ z, tokn q = z := ⟨_, rfl⟩
      have TT := hide ht
      rw [ht] at E l1
      clear ht
      simp only at E l1
      rw [show ts ++ (⟨k, tx, nu, de, wh, id⟩ : Tk) :: toks r = (ts ++ [⟨k, tx, nu, de, wh, id⟩]) ++ toks r by simp] at E
      replace E := hide E
      go_wp2_with (first
        | (go_at_call 54; refine (remarksR_any 87 w _ w.heap.size _ l t A1.out).mono ?_; rintro e w4 ⟨rfl, A2, M2⟩; rw [RQ.out] at A2; replace A1 := hide A2; replace OW := hide (OW.out.mod hbw M2); clear A2 M2)
        | (go_at_call 55; refine (atR_any 87 w _ w.heap.size _ l q _ A1.out (by decide) (by decide)).mono ?_; rintro e w1 ⟨he, B1⟩; rw [H0.out] at he; subst he; replace A1 := hide (A1.out.below B1); replace OW := hide (OW.out.mod hbw (Mod.of _ B1)); clear B1)
        | (go_at_call 56; refine (nextR_any 87 w _ w.heap.size _ l q L0.out KH.out HN.out (A1.out.in HN.out)).mono ?_; rintro e w3 ⟨he, A2, M2⟩; replace he := he.cells; rw [TT.out] at he A2; subst he; replace A1 := hide A2; replace OW := hide (OW.out.mod hbw M2); clear A2 M2)
        | (at_builtin; refine wpList_append_own _ rfl _ _ 53 rfl w0.heap.size 66 i0 _ 6 48 Tryd.underlying53 hi hz0 hz1 hz2 rfl (by decide) _ _ _ rfl (OW.out.1.alloc _) ⟨_, 0, none⟩ 1 1 (tkC ⟨k, tx, nu, de, wh, id⟩) rfl rfl (news6 _ _ _ _ _ _ _ _) (one6 _) (by unfold maxLen; omega) (by omega) (by have := OW.out.2.size; simp; omega) ?_; intro v' w5 hown' hgrow _; replace A1 := hide (A1.out.growT hbw OW.out hgrow); replace OW := hide (OW.out.grow hown' hgrow); clear hown' hgrow))
      go_roundg (gk - 1)
      case measure => omega
      case rel => exact .mk _ r A1.out (by omega) (by rw [List.length_append, List.length_singleton]; omega) OW.out E.out
theorem Kinds.below {w w' : World} (h : Kinds w) (hw : Below w.heap.size w w') : Kinds w' :=
  ⟨Nat.lt_of_lt_of_le h.lt hw.size, (hw.cell (p := ⟨1, 0, none⟩) h.lt).trans h.k0, (hw.cell (p := ⟨1, 1, none⟩) h.lt).trans h.k1, (hw.cell (p := ⟨1, 2, none⟩) h.lt).trans h.k2, (hw.cell (p := ⟨1, 3, none⟩) h.lt).trans h.k3, (hw.cell (p := ⟨1, 4, none⟩) h.lt).trans h.k4, (hw.cell (p := ⟨1, 5, none⟩) h.lt).trans h.k5, (hw.cell (p := ⟨1, 6, none⟩) h.lt).trans h.k6, (hw.cell (p := ⟨1, 7, none⟩) h.lt).trans h.k7, (hw.cell (p := ⟨1, 8, none⟩) h.lt).trans h.k8⟩
set_option maxRecDepth 100000 in
set_option maxHeartbeats 1000000 in
theorem tbytesR_any (bs : List Int) (v : Value) (w : World) (hK : Kinds w) (hb : By bs) (hv : Nums .u8 w v bs) (hl : bs.length ≤ 250000000) :
    Calls Tryd.prog 32 #[v] w fun e w' => ∃ u, e = .returned u ∧ Toks w' u (toks (chs (dcd bs))) ∧ Below w.heap.size w w' := by
  have hd := dcd_len bs
  have L := hide (show (dcd bs).length ≤ 250000000 by omega)
  have HV := hide hv
  have HB := hide hb
  have KH := hide hK
  have H9 := hide (show bs.length ≤ 1099511627776 by omega)
  clear hv hb hl hd hK
  go_enter Tryd.func32, Tryd.ntmps32
  go_wp2_with (first
    | (go_at_call 50; refine (dcdR_any bs v _ HB.out HV.out H9.out).mono ?_; rintro e w1 ⟨u, rfl, N, B1⟩; replace N := hide N; replace KH := hide (KH.out.below B1); replace B1 := hide B1)
    | (go_at_call 49; refine (toksR_any (dcd bs) _ _ KH.out N.out L.out).mono ?_; rintro e w2 ⟨u2, rfl, N2, B2⟩; replace N2 := hide N2; replace B1 := hide (bto B1.out B2); clear B2))
  go_ret
  exact ⟨_, rfl, N2.out, B1.out⟩
end Go.Proofs.YtlkocepoohhglaaDoor
set_option linter.unusedVariables false
set_option linter.unusedSimpArgs false
namespace Go.Proofs.YtlkocepoohhglaaDoor
open Go.RowKit

theorem row_at (s : ByteArray) (c i : Nat) (h : i < s.size) : (bytesRow s c)[i]? = some (.int .u8 (s[i].toNat : Int)) := by
  unfold bytesRow
  have h' : i < s.data.size := h
  rw [Array.getElem?_append_left (by simpa using h'), Array.getElem?_map, Array.getElem?_eq_getElem h']
  rfl
/-- A text as bytes. -/
theorem conv_any (s : ByteArray) (w : World) (hs : s.size ≤ 140737488355328) : ∃ v w1, (convert 9 55 (.string s)).run Tryd.prog w = .ok v w1 ∧ Nums .u8 w1 v (bl s) ∧ Below w.heap.size w w1 := by
  refine ⟨_, _, run_bytes_of_string (P := Tryd.prog) w 9 55 5 s Tryd.underlying9 Tryd.underlying55 Tryd.underlying5, ?_, bplus (Below.refl _ _).drew _⟩
  have hc1 := grownCap_ge w s.size 0 5
  have hc2 := grownCap_le_maxLen w s.size 0 5 (by unfold maxLen; omega)
  unfold maxLen at hc2
  generalize grownCap w s.size 0 5 = c at *
  by_cases h0 : 0 < s.size
  · right
    refine ⟨w.heap.size, 0, s.size, c, rfl, (bl_len s).symm, h0, ?_, hc1, by omega, by omega, fun i hi => ?_⟩
    · have hb : (w.drew.alloc (.cells (bytesRow s c) 5 ((bytesRow s c).size, (bytesRow s c).size + 1))).heap[w.heap.size]? = some (.cells (bytesRow s c) 5 ((bytesRow s c).size, (bytesRow s c).size + 1)) := heap_alloc_new w.drew _
      exact (Array.getElem?_eq_some_iff.1 hb).1
    · have hb : (w.drew.alloc (.cells (bytesRow s c) 5 ((bytesRow s c).size, (bytesRow s c).size + 1))).heap[w.heap.size]? = some (.cells (bytesRow s c) 5 ((bytesRow s c).size, (bytesRow s c).size + 1)) := heap_alloc_new w.drew _
      rw [Nat.zero_add, row_blk hb, row_at s c i hi, bl_at s i hi]
  · left
    have e : s.size = 0 := by omega
    refine ⟨some ⟨w.heap.size, 0, none⟩, c, by rw [e], bl_nil e⟩
end Go.Proofs.YtlkocepoohhglaaDoor
set_option linter.unusedVariables false
set_option linter.unusedSimpArgs false
namespace Go.Proofs.YtlkocepoohhglaaDoor
open Go.RowKit

theorem valuesF_any (l : List TS) (v : Value) (w : World) (hv : Toks4 w v l) (hL : l.length ≤ 250000000) :
    Calls Tryd.prog 31 #[v] w fun e w' => ∃ u, e = .returned u ∧ VM w' u (valsF l) ∧ Below w.heap.size w w' := valuesF_of shut5_any l v w hv hL
/-- A token that is read, as a raw one. -/
def tsK (τ : Tk) : TS := ⟨τ.kind, tb τ.text, τ.num, τ.den, τ.whole, τ.id⟩
theorem Toks.four {w : World} {v : Value} {ts : List Tk} (h : Toks w v ts) : Toks4 w v (ts.map tsK) := by
  rcases h with ⟨a, c, rfl, rfl⟩ | ⟨b, o, n, c, rfl, rfl, h0, hb, hn, hl, hc, hr⟩
  · exact .inl ⟨a, c, rfl, rfl⟩
  · refine .inr ⟨b, o, ts.length, c, rfl, by simp, h0, hb, hn, by omega, hc, fun i t ht => ?_⟩
    rw [List.getElem?_map, Option.map_eq_some_iff] at ht
    obtain ⟨τ, h1, rfl⟩ := ht
    have C := hr i τ h1
    exact ⟨C 0 (by omega), C 1 (by omega), C 2 (by omega), C 3 (by omega), C 4 (by omega), C 5 (by omega)⟩
/-- The component values of some bytes. -/
def ofV (bs : List Int) : List VT := valsF ((toks (chs (dcd bs))).map tsK)
theorem toks_le : ∀ (n : Nat) (s : List Int), s.length ≤ n → (toks s).length ≤ s.length := by
  intro n
  induction n with
  | zero =>
    intro s h
    have : s = [] := List.eq_nil_of_length_eq_zero (by omega)
    subst this
    rw [toks_end (by rw [rmk_end (by simp [nx])]; rfl)]; simp
  | succ n ih =>
    intro s h
    by_cases hx : nx (rmk s) 0 = -1
    · rw [toks_end hx]; simp
    · have h1 := tokn_lt hx
      have h2 := rmk_le s
      rw [toks_go hx, List.length_cons]
      have := ih (tokn (rmk s)).2 (by omega)
      omega
end Go.Proofs.YtlkocepoohhglaaDoor
