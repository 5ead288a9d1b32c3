/-
  Which tokens may be: by the reference: signs, numbers; the whole.
-/
import Derived.Test.YticboondiojofaaGreatDoorSpmH
set_option linter.unusedVariables false
set_option linter.unusedSimpArgs false
namespace Go.Proofs.YticboondiojofaaGreatDoor
open Go.RowKit

set_option maxRecDepth 100000 in
set_option maxHeartbeats 4000000 in
theorem mayR_delim (s : ByteArray) (n d : Int) (i h : Bool) (w : World)  (hs : s.size ≤ 1099511627776) :
    Calls Tryz.prog 18 #[tokV 9 s n d i h] w fun e w' => e = .returned (.bool (mayT 9 (bl s) n d i h)) ∧ Below w.heap.size w w' := by
  have M := hide (may_delim (bl s) n d i h)
  have CD := hide (fun W => delimR_any s W (by omega))
  unfold tokV
  have CH := hide (fun W => charsR_any s W hs)
  have RE := hide (raw_empty (bl s))
  have EM := hide (emp_iff s)
  go_enter Tryz.func18, Tryz.ntmps18
  go_wp2_with fail
  go_at_call 21
  refine (CH.out _).mono ?_
  rintro e w1 ⟨a, nn, c, rfl, hN, hb⟩
  have R := MR.mk' hb
  clear hb
  have BB := hide R.bel
  have AP := hide R.ap
  obtain ⟨z0, p0, p1, p2, p3, p4, p5⟩ := R.t0
  obtain ⟨z1, q0, q1, q2, q3, q4, q5⟩ := R.t1
  have fr1 := R.fr 1
  clear R
  have NL := hide (fun hc => nums_len (hN hc))
  clear hN
  rcases z_ways n d i h with ⟨x1, x2⟩ | ⟨x1, x3, x2⟩ | ⟨x1, x3, rfl, x2⟩ | ⟨x1, x3, rfl, x2⟩
  case inr.inr.inr =>
    cases h with
    | true =>
      have F := hide (show mayT 9 (bl s) n d false true = false by rw [M.out]; simp)
      go_wp2
      go_ret
      refine ⟨ret_bool F.out.symm, ?_⟩
      repeat (first | (with_reducible exact BB.out) | (with_reducible refine Below.setCell ?_ (by simp) _) | (with_reducible refine bplus ?_ _) | (with_reducible refine Below.drew ?_) | (with_reducible refine below_drewN ?_ _))
    | false =>
      have F := hide (show mayT 9 (bl s) n d false false = dlB (bl s) by rw [M.out, x2]; rfl)
      go_wp2_with (go_at_call 38; refine (CD.out _).mono ?_; rintro e2 w2 ⟨rfl, rfl⟩)
      go_ret
      refine ⟨ret_bool F.out.symm, ?_⟩
      repeat (first | (with_reducible exact BB.out) | (with_reducible refine Below.setCell ?_ (by simp) _) | (with_reducible refine bplus ?_ _) | (with_reducible refine Below.drew ?_) | (with_reducible refine below_drewN ?_ _))
  all_goals
    have F := hide (M.out.trans (by rw [x2, Bool.false_and, Bool.false_and]))
    go_wp2
    go_ret
    refine ⟨ret_bool F.out.symm, ?_⟩
    repeat (first | (with_reducible exact BB.out) | (with_reducible refine Below.setCell ?_ (by simp) _) | (with_reducible refine bplus ?_ _) | (with_reducible refine Below.drew ?_) | (with_reducible refine below_drewN ?_ _))
set_option maxRecDepth 100000 in
set_option maxHeartbeats 4000000 in
theorem mayR_num (k : Int) (s : ByteArray) (n d : Int) (i h : Bool) (w : World) (hk : k = 10 ∨ k = 11) (hs : s.size ≤ 1099511627776) (n1 : -9223372036854775808 ≤ n) (n2 : n ≤ 9223372036854775807) (d1 : -9223372036854775808 ≤ d) (d2 : d ≤ 9223372036854775807) (hT : Tabs w) :
    Calls Tryz.prog 18 #[tokV k s n d i h] w fun e w' => e = .returned (.bool (mayT k (bl s) n d i h)) ∧ Below w.heap.size w w' := by
  have M := hide (may_num hk (bl s) n d i h)
  have W1 := hide (fun (W : World) (h : Below w.heap.size w W) => hT.below h)
  have C := hide (fun (W : World) (h : Below w.heap.size w W) => plainR_any n d i W n1 n2 d1 d2 (W1.out W h))
  unfold tokV
  have CH := hide (fun W => charsR_any s W hs)
  have RE := hide (raw_empty (bl s))
  have EM := hide (emp_iff s)
  go_enter Tryz.func18, Tryz.ntmps18
  go_wp2_with fail
  go_at_call 21
  refine (CH.out _).mono ?_
  rintro e w1 ⟨a, nn, c, rfl, hN, hb⟩
  have R := MR.mk' hb
  clear hb
  have BB := hide R.bel
  have AP := hide R.ap
  obtain ⟨z0, p0, p1, p2, p3, p4, p5⟩ := R.t0
  obtain ⟨z1, q0, q1, q2, q3, q4, q5⟩ := R.t1
  have fr2 := R.fr 2
  have fr3 := R.fr 3
  have fr4 := R.fr 4
  clear R
  have NL := hide (fun hc => nums_len (hN hc))
  clear hN
  cases he : s.toList.isEmpty with
  | false =>
    have F := hide (show mayT k (bl s) n d i h = false by rw [M.out, EM.out, he]; rfl)
    have hse : (s.toList == []) = false := by
      cases hq : s.toList with
      | nil => rw [hq] at he; cases he
      | cons c r => rfl
    rcases hk with rfl | rfl
    · go_wp2
      go_region
      go_wp2_with fail
      go_at_call 19
      refine (C.out _ (by repeat (first | (with_reducible exact BB.out) | (with_reducible refine Below.setCell ?_ (by simp) _) | (with_reducible refine bplus ?_ _) | (with_reducible refine Below.drew ?_) | (with_reducible refine below_drewN ?_ _)))).mono ?_
      rintro e2 w2 ⟨ps, px, rfl, PP, B2⟩
      have r0 : w2.cell? ⟨w.heap.size, 0, none⟩ = some (.int .i64 10) := (by rw [B2.cell (p := ⟨w.heap.size, 0, none⟩) (by simp; omega)]; simp [go_sem, p0])
      have t0 : w2.cell? ⟨w.heap.size + 1, 0, none⟩ = some (.int .i64 10) := (by rw [B2.cell (p := ⟨w.heap.size + 1, 0, none⟩) (by simp; omega)]; simp [go_sem, q0, q1, q2, q3, q4, q5])
      have r1 : w2.cell? ⟨w.heap.size, 1, none⟩ = some (.string s) := (by rw [B2.cell (p := ⟨w.heap.size, 1, none⟩) (by simp; omega)]; simp [go_sem, p1])
      have t1 : w2.cell? ⟨w.heap.size + 1, 1, none⟩ = some (.string ⟨#[]⟩) := (by rw [B2.cell (p := ⟨w.heap.size + 1, 1, none⟩) (by simp; omega)]; simp [go_sem, q0, q1, q2, q3, q4, q5])
      have r2 : w2.cell? ⟨w.heap.size, 2, none⟩ = some (.int .i64 n) := (by rw [B2.cell (p := ⟨w.heap.size, 2, none⟩) (by simp; omega)]; simp [go_sem, p2])
      have t2 : w2.cell? ⟨w.heap.size + 1, 2, none⟩ = some (.int .i64 n) := (by rw [B2.cell (p := ⟨w.heap.size + 1, 2, none⟩) (by simp; omega)]; simp [go_sem, q0, q1, q2, q3, q4, q5])
      have r3 : w2.cell? ⟨w.heap.size, 3, none⟩ = some (.int .i64 d) := (by rw [B2.cell (p := ⟨w.heap.size, 3, none⟩) (by simp; omega)]; simp [go_sem, p3])
      have t3 : w2.cell? ⟨w.heap.size + 1, 3, none⟩ = some (.int .i64 d) := (by rw [B2.cell (p := ⟨w.heap.size + 1, 3, none⟩) (by simp; omega)]; simp [go_sem, q0, q1, q2, q3, q4, q5])
      have r4 : w2.cell? ⟨w.heap.size, 4, none⟩ = some (.bool i) := (by rw [B2.cell (p := ⟨w.heap.size, 4, none⟩) (by simp; omega)]; simp [go_sem, p4])
      have t4 : w2.cell? ⟨w.heap.size + 1, 4, none⟩ = some (.bool i) := (by rw [B2.cell (p := ⟨w.heap.size + 1, 4, none⟩) (by simp; omega)]; simp [go_sem, q0, q1, q2, q3, q4, q5])
      have r5 : w2.cell? ⟨w.heap.size, 5, none⟩ = some (.bool h) := (by rw [B2.cell (p := ⟨w.heap.size, 5, none⟩) (by simp; omega)]; simp [go_sem, p5])
      have t5 : w2.cell? ⟨w.heap.size + 1, 5, none⟩ = some (.bool false) := (by rw [B2.cell (p := ⟨w.heap.size + 1, 5, none⟩) (by simp; omega)]; simp [go_sem, q0, q1, q2, q3, q4, q5])
      have Q := hide (plR_ok PP)
      clear PP
      replace BB := hide (show Below w.heap.size w w2 from bto (by repeat (first | (with_reducible exact BB.out) | (with_reducible refine Below.setCell ?_ (by simp) _) | (with_reducible refine bplus ?_ _) | (with_reducible refine Below.drew ?_) | (with_reducible refine below_drewN ?_ _))) B2)
      go_wp2
      go_ret
      exact ⟨ret_bool (F.out.symm), BB.out⟩
    · go_wp2
      go_region
      go_wp2_with fail
      go_at_call 19
      refine (C.out _ (by repeat (first | (with_reducible exact BB.out) | (with_reducible refine Below.setCell ?_ (by simp) _) | (with_reducible refine bplus ?_ _) | (with_reducible refine Below.drew ?_) | (with_reducible refine below_drewN ?_ _)))).mono ?_
      rintro e2 w2 ⟨ps, px, rfl, PP, B2⟩
      have r0 : w2.cell? ⟨w.heap.size, 0, none⟩ = some (.int .i64 11) := (by rw [B2.cell (p := ⟨w.heap.size, 0, none⟩) (by simp; omega)]; simp [go_sem, p0])
      have t0 : w2.cell? ⟨w.heap.size + 1, 0, none⟩ = some (.int .i64 11) := (by rw [B2.cell (p := ⟨w.heap.size + 1, 0, none⟩) (by simp; omega)]; simp [go_sem, q0, q1, q2, q3, q4, q5])
      have r1 : w2.cell? ⟨w.heap.size, 1, none⟩ = some (.string s) := (by rw [B2.cell (p := ⟨w.heap.size, 1, none⟩) (by simp; omega)]; simp [go_sem, p1])
      have t1 : w2.cell? ⟨w.heap.size + 1, 1, none⟩ = some (.string ⟨#[]⟩) := (by rw [B2.cell (p := ⟨w.heap.size + 1, 1, none⟩) (by simp; omega)]; simp [go_sem, q0, q1, q2, q3, q4, q5])
      have r2 : w2.cell? ⟨w.heap.size, 2, none⟩ = some (.int .i64 n) := (by rw [B2.cell (p := ⟨w.heap.size, 2, none⟩) (by simp; omega)]; simp [go_sem, p2])
      have t2 : w2.cell? ⟨w.heap.size + 1, 2, none⟩ = some (.int .i64 n) := (by rw [B2.cell (p := ⟨w.heap.size + 1, 2, none⟩) (by simp; omega)]; simp [go_sem, q0, q1, q2, q3, q4, q5])
      have r3 : w2.cell? ⟨w.heap.size, 3, none⟩ = some (.int .i64 d) := (by rw [B2.cell (p := ⟨w.heap.size, 3, none⟩) (by simp; omega)]; simp [go_sem, p3])
      have t3 : w2.cell? ⟨w.heap.size + 1, 3, none⟩ = some (.int .i64 d) := (by rw [B2.cell (p := ⟨w.heap.size + 1, 3, none⟩) (by simp; omega)]; simp [go_sem, q0, q1, q2, q3, q4, q5])
      have r4 : w2.cell? ⟨w.heap.size, 4, none⟩ = some (.bool i) := (by rw [B2.cell (p := ⟨w.heap.size, 4, none⟩) (by simp; omega)]; simp [go_sem, p4])
      have t4 : w2.cell? ⟨w.heap.size + 1, 4, none⟩ = some (.bool i) := (by rw [B2.cell (p := ⟨w.heap.size + 1, 4, none⟩) (by simp; omega)]; simp [go_sem, q0, q1, q2, q3, q4, q5])
      have r5 : w2.cell? ⟨w.heap.size, 5, none⟩ = some (.bool h) := (by rw [B2.cell (p := ⟨w.heap.size, 5, none⟩) (by simp; omega)]; simp [go_sem, p5])
      have t5 : w2.cell? ⟨w.heap.size + 1, 5, none⟩ = some (.bool false) := (by rw [B2.cell (p := ⟨w.heap.size + 1, 5, none⟩) (by simp; omega)]; simp [go_sem, q0, q1, q2, q3, q4, q5])
      have Q := hide (plR_ok PP)
      clear PP
      replace BB := hide (show Below w.heap.size w w2 from bto (by repeat (first | (with_reducible exact BB.out) | (with_reducible refine Below.setCell ?_ (by simp) _) | (with_reducible refine bplus ?_ _) | (with_reducible refine Below.drew ?_) | (with_reducible refine below_drewN ?_ _))) B2)
      go_wp2
      go_ret
      exact ⟨ret_bool (F.out.symm), BB.out⟩
  | true =>
    cases h with
    | true =>
      have F := hide (show mayT k (bl s) n d i true = false by rw [M.out]; simp)
      rcases hk with rfl | rfl
      · go_wp2
        go_region
        go_wp2_with fail
        go_at_call 19
        refine (C.out _ (by repeat (first | (with_reducible exact BB.out) | (with_reducible refine Below.setCell ?_ (by simp) _) | (with_reducible refine bplus ?_ _) | (with_reducible refine Below.drew ?_) | (with_reducible refine below_drewN ?_ _)))).mono ?_
        rintro e2 w2 ⟨ps, px, rfl, PP, B2⟩
        have r0 : w2.cell? ⟨w.heap.size, 0, none⟩ = some (.int .i64 10) := (by rw [B2.cell (p := ⟨w.heap.size, 0, none⟩) (by simp; omega)]; simp [go_sem, p0])
        have t0 : w2.cell? ⟨w.heap.size + 1, 0, none⟩ = some (.int .i64 10) := (by rw [B2.cell (p := ⟨w.heap.size + 1, 0, none⟩) (by simp; omega)]; simp [go_sem, q0, q1, q2, q3, q4, q5])
        have r1 : w2.cell? ⟨w.heap.size, 1, none⟩ = some (.string s) := (by rw [B2.cell (p := ⟨w.heap.size, 1, none⟩) (by simp; omega)]; simp [go_sem, p1])
        have t1 : w2.cell? ⟨w.heap.size + 1, 1, none⟩ = some (.string ⟨#[]⟩) := (by rw [B2.cell (p := ⟨w.heap.size + 1, 1, none⟩) (by simp; omega)]; simp [go_sem, q0, q1, q2, q3, q4, q5])
        have r2 : w2.cell? ⟨w.heap.size, 2, none⟩ = some (.int .i64 n) := (by rw [B2.cell (p := ⟨w.heap.size, 2, none⟩) (by simp; omega)]; simp [go_sem, p2])
        have t2 : w2.cell? ⟨w.heap.size + 1, 2, none⟩ = some (.int .i64 n) := (by rw [B2.cell (p := ⟨w.heap.size + 1, 2, none⟩) (by simp; omega)]; simp [go_sem, q0, q1, q2, q3, q4, q5])
        have r3 : w2.cell? ⟨w.heap.size, 3, none⟩ = some (.int .i64 d) := (by rw [B2.cell (p := ⟨w.heap.size, 3, none⟩) (by simp; omega)]; simp [go_sem, p3])
        have t3 : w2.cell? ⟨w.heap.size + 1, 3, none⟩ = some (.int .i64 d) := (by rw [B2.cell (p := ⟨w.heap.size + 1, 3, none⟩) (by simp; omega)]; simp [go_sem, q0, q1, q2, q3, q4, q5])
        have r4 : w2.cell? ⟨w.heap.size, 4, none⟩ = some (.bool i) := (by rw [B2.cell (p := ⟨w.heap.size, 4, none⟩) (by simp; omega)]; simp [go_sem, p4])
        have t4 : w2.cell? ⟨w.heap.size + 1, 4, none⟩ = some (.bool i) := (by rw [B2.cell (p := ⟨w.heap.size + 1, 4, none⟩) (by simp; omega)]; simp [go_sem, q0, q1, q2, q3, q4, q5])
        have r5 : w2.cell? ⟨w.heap.size, 5, none⟩ = some (.bool true) := (by rw [B2.cell (p := ⟨w.heap.size, 5, none⟩) (by simp; omega)]; simp [go_sem, p5])
        have t5 : w2.cell? ⟨w.heap.size + 1, 5, none⟩ = some (.bool false) := (by rw [B2.cell (p := ⟨w.heap.size + 1, 5, none⟩) (by simp; omega)]; simp [go_sem, q0, q1, q2, q3, q4, q5])
        have Q := hide (plR_ok PP)
        clear PP
        replace BB := hide (show Below w.heap.size w w2 from bto (by repeat (first | (with_reducible exact BB.out) | (with_reducible refine Below.setCell ?_ (by simp) _) | (with_reducible refine bplus ?_ _) | (with_reducible refine Below.drew ?_) | (with_reducible refine below_drewN ?_ _))) B2)
        go_wp2
        go_ret
        exact ⟨ret_bool (F.out.symm), BB.out⟩
      · go_wp2
        go_region
        go_wp2_with fail
        go_at_call 19
        refine (C.out _ (by repeat (first | (with_reducible exact BB.out) | (with_reducible refine Below.setCell ?_ (by simp) _) | (with_reducible refine bplus ?_ _) | (with_reducible refine Below.drew ?_) | (with_reducible refine below_drewN ?_ _)))).mono ?_
        rintro e2 w2 ⟨ps, px, rfl, PP, B2⟩
        have r0 : w2.cell? ⟨w.heap.size, 0, none⟩ = some (.int .i64 11) := (by rw [B2.cell (p := ⟨w.heap.size, 0, none⟩) (by simp; omega)]; simp [go_sem, p0])
        have t0 : w2.cell? ⟨w.heap.size + 1, 0, none⟩ = some (.int .i64 11) := (by rw [B2.cell (p := ⟨w.heap.size + 1, 0, none⟩) (by simp; omega)]; simp [go_sem, q0, q1, q2, q3, q4, q5])
        have r1 : w2.cell? ⟨w.heap.size, 1, none⟩ = some (.string s) := (by rw [B2.cell (p := ⟨w.heap.size, 1, none⟩) (by simp; omega)]; simp [go_sem, p1])
        have t1 : w2.cell? ⟨w.heap.size + 1, 1, none⟩ = some (.string ⟨#[]⟩) := (by rw [B2.cell (p := ⟨w.heap.size + 1, 1, none⟩) (by simp; omega)]; simp [go_sem, q0, q1, q2, q3, q4, q5])
        have r2 : w2.cell? ⟨w.heap.size, 2, none⟩ = some (.int .i64 n) := (by rw [B2.cell (p := ⟨w.heap.size, 2, none⟩) (by simp; omega)]; simp [go_sem, p2])
        have t2 : w2.cell? ⟨w.heap.size + 1, 2, none⟩ = some (.int .i64 n) := (by rw [B2.cell (p := ⟨w.heap.size + 1, 2, none⟩) (by simp; omega)]; simp [go_sem, q0, q1, q2, q3, q4, q5])
        have r3 : w2.cell? ⟨w.heap.size, 3, none⟩ = some (.int .i64 d) := (by rw [B2.cell (p := ⟨w.heap.size, 3, none⟩) (by simp; omega)]; simp [go_sem, p3])
        have t3 : w2.cell? ⟨w.heap.size + 1, 3, none⟩ = some (.int .i64 d) := (by rw [B2.cell (p := ⟨w.heap.size + 1, 3, none⟩) (by simp; omega)]; simp [go_sem, q0, q1, q2, q3, q4, q5])
        have r4 : w2.cell? ⟨w.heap.size, 4, none⟩ = some (.bool i) := (by rw [B2.cell (p := ⟨w.heap.size, 4, none⟩) (by simp; omega)]; simp [go_sem, p4])
        have t4 : w2.cell? ⟨w.heap.size + 1, 4, none⟩ = some (.bool i) := (by rw [B2.cell (p := ⟨w.heap.size + 1, 4, none⟩) (by simp; omega)]; simp [go_sem, q0, q1, q2, q3, q4, q5])
        have r5 : w2.cell? ⟨w.heap.size, 5, none⟩ = some (.bool true) := (by rw [B2.cell (p := ⟨w.heap.size, 5, none⟩) (by simp; omega)]; simp [go_sem, p5])
        have t5 : w2.cell? ⟨w.heap.size + 1, 5, none⟩ = some (.bool false) := (by rw [B2.cell (p := ⟨w.heap.size + 1, 5, none⟩) (by simp; omega)]; simp [go_sem, q0, q1, q2, q3, q4, q5])
        have Q := hide (plR_ok PP)
        clear PP
        replace BB := hide (show Below w.heap.size w w2 from bto (by repeat (first | (with_reducible exact BB.out) | (with_reducible refine Below.setCell ?_ (by simp) _) | (with_reducible refine bplus ?_ _) | (with_reducible refine Below.drew ?_) | (with_reducible refine below_drewN ?_ _))) B2)
        go_wp2
        go_ret
        exact ⟨ret_bool (F.out.symm), BB.out⟩
    | false =>
      have F := hide (show mayT k (bl s) n d i false = (plT n d i).isSome by rw [M.out, EM.out, he]; rfl)
      rcases hk with rfl | rfl
      · go_wp2
        go_region
        go_wp2_with fail
        go_at_call 19
        refine (C.out _ (by repeat (first | (with_reducible exact BB.out) | (with_reducible refine Below.setCell ?_ (by simp) _) | (with_reducible refine bplus ?_ _) | (with_reducible refine Below.drew ?_) | (with_reducible refine below_drewN ?_ _)))).mono ?_
        rintro e2 w2 ⟨ps, px, rfl, PP, B2⟩
        have r0 : w2.cell? ⟨w.heap.size, 0, none⟩ = some (.int .i64 10) := (by rw [B2.cell (p := ⟨w.heap.size, 0, none⟩) (by simp; omega)]; simp [go_sem, p0])
        have t0 : w2.cell? ⟨w.heap.size + 1, 0, none⟩ = some (.int .i64 10) := (by rw [B2.cell (p := ⟨w.heap.size + 1, 0, none⟩) (by simp; omega)]; simp [go_sem, q0, q1, q2, q3, q4, q5])
        have r1 : w2.cell? ⟨w.heap.size, 1, none⟩ = some (.string s) := (by rw [B2.cell (p := ⟨w.heap.size, 1, none⟩) (by simp; omega)]; simp [go_sem, p1])
        have t1 : w2.cell? ⟨w.heap.size + 1, 1, none⟩ = some (.string ⟨#[]⟩) := (by rw [B2.cell (p := ⟨w.heap.size + 1, 1, none⟩) (by simp; omega)]; simp [go_sem, q0, q1, q2, q3, q4, q5])
        have r2 : w2.cell? ⟨w.heap.size, 2, none⟩ = some (.int .i64 n) := (by rw [B2.cell (p := ⟨w.heap.size, 2, none⟩) (by simp; omega)]; simp [go_sem, p2])
        have t2 : w2.cell? ⟨w.heap.size + 1, 2, none⟩ = some (.int .i64 n) := (by rw [B2.cell (p := ⟨w.heap.size + 1, 2, none⟩) (by simp; omega)]; simp [go_sem, q0, q1, q2, q3, q4, q5])
        have r3 : w2.cell? ⟨w.heap.size, 3, none⟩ = some (.int .i64 d) := (by rw [B2.cell (p := ⟨w.heap.size, 3, none⟩) (by simp; omega)]; simp [go_sem, p3])
        have t3 : w2.cell? ⟨w.heap.size + 1, 3, none⟩ = some (.int .i64 d) := (by rw [B2.cell (p := ⟨w.heap.size + 1, 3, none⟩) (by simp; omega)]; simp [go_sem, q0, q1, q2, q3, q4, q5])
        have r4 : w2.cell? ⟨w.heap.size, 4, none⟩ = some (.bool i) := (by rw [B2.cell (p := ⟨w.heap.size, 4, none⟩) (by simp; omega)]; simp [go_sem, p4])
        have t4 : w2.cell? ⟨w.heap.size + 1, 4, none⟩ = some (.bool i) := (by rw [B2.cell (p := ⟨w.heap.size + 1, 4, none⟩) (by simp; omega)]; simp [go_sem, q0, q1, q2, q3, q4, q5])
        have r5 : w2.cell? ⟨w.heap.size, 5, none⟩ = some (.bool false) := (by rw [B2.cell (p := ⟨w.heap.size, 5, none⟩) (by simp; omega)]; simp [go_sem, p5])
        have t5 : w2.cell? ⟨w.heap.size + 1, 5, none⟩ = some (.bool false) := (by rw [B2.cell (p := ⟨w.heap.size + 1, 5, none⟩) (by simp; omega)]; simp [go_sem, q0, q1, q2, q3, q4, q5])
        have Q := hide (plR_ok PP)
        clear PP
        replace BB := hide (show Below w.heap.size w w2 from bto (by repeat (first | (with_reducible exact BB.out) | (with_reducible refine Below.setCell ?_ (by simp) _) | (with_reducible refine bplus ?_ _) | (with_reducible refine Below.drew ?_) | (with_reducible refine below_drewN ?_ _))) B2)
        go_wp2
        go_ret
        exact ⟨ret_bool (by rw [F.out, ← Q.out]), BB.out⟩
      · go_wp2
        go_region
        go_wp2_with fail
        go_at_call 19
        refine (C.out _ (by repeat (first | (with_reducible exact BB.out) | (with_reducible refine Below.setCell ?_ (by simp) _) | (with_reducible refine bplus ?_ _) | (with_reducible refine Below.drew ?_) | (with_reducible refine below_drewN ?_ _)))).mono ?_
        rintro e2 w2 ⟨ps, px, rfl, PP, B2⟩
        have r0 : w2.cell? ⟨w.heap.size, 0, none⟩ = some (.int .i64 11) := (by rw [B2.cell (p := ⟨w.heap.size, 0, none⟩) (by simp; omega)]; simp [go_sem, p0])
        have t0 : w2.cell? ⟨w.heap.size + 1, 0, none⟩ = some (.int .i64 11) := (by rw [B2.cell (p := ⟨w.heap.size + 1, 0, none⟩) (by simp; omega)]; simp [go_sem, q0, q1, q2, q3, q4, q5])
        have r1 : w2.cell? ⟨w.heap.size, 1, none⟩ = some (.string s) := (by rw [B2.cell (p := ⟨w.heap.size, 1, none⟩) (by simp; omega)]; simp [go_sem, p1])
        have t1 : w2.cell? ⟨w.heap.size + 1, 1, none⟩ = some (.string ⟨#[]⟩) := (by rw [B2.cell (p := ⟨w.heap.size + 1, 1, none⟩) (by simp; omega)]; simp [go_sem, q0, q1, q2, q3, q4, q5])
        have r2 : w2.cell? ⟨w.heap.size, 2, none⟩ = some (.int .i64 n) := (by rw [B2.cell (p := ⟨w.heap.size, 2, none⟩) (by simp; omega)]; simp [go_sem, p2])
        have t2 : w2.cell? ⟨w.heap.size + 1, 2, none⟩ = some (.int .i64 n) := (by rw [B2.cell (p := ⟨w.heap.size + 1, 2, none⟩) (by simp; omega)]; simp [go_sem, q0, q1, q2, q3, q4, q5])
        have r3 : w2.cell? ⟨w.heap.size, 3, none⟩ = some (.int .i64 d) := (by rw [B2.cell (p := ⟨w.heap.size, 3, none⟩) (by simp; omega)]; simp [go_sem, p3])
        have t3 : w2.cell? ⟨w.heap.size + 1, 3, none⟩ = some (.int .i64 d) := (by rw [B2.cell (p := ⟨w.heap.size + 1, 3, none⟩) (by simp; omega)]; simp [go_sem, q0, q1, q2, q3, q4, q5])
        have r4 : w2.cell? ⟨w.heap.size, 4, none⟩ = some (.bool i) := (by rw [B2.cell (p := ⟨w.heap.size, 4, none⟩) (by simp; omega)]; simp [go_sem, p4])
        have t4 : w2.cell? ⟨w.heap.size + 1, 4, none⟩ = some (.bool i) := (by rw [B2.cell (p := ⟨w.heap.size + 1, 4, none⟩) (by simp; omega)]; simp [go_sem, q0, q1, q2, q3, q4, q5])
        have r5 : w2.cell? ⟨w.heap.size, 5, none⟩ = some (.bool false) := (by rw [B2.cell (p := ⟨w.heap.size, 5, none⟩) (by simp; omega)]; simp [go_sem, p5])
        have t5 : w2.cell? ⟨w.heap.size + 1, 5, none⟩ = some (.bool false) := (by rw [B2.cell (p := ⟨w.heap.size + 1, 5, none⟩) (by simp; omega)]; simp [go_sem, q0, q1, q2, q3, q4, q5])
        have Q := hide (plR_ok PP)
        clear PP
        replace BB := hide (show Below w.heap.size w w2 from bto (by repeat (first | (with_reducible exact BB.out) | (with_reducible refine Below.setCell ?_ (by simp) _) | (with_reducible refine bplus ?_ _) | (with_reducible refine Below.drew ?_) | (with_reducible refine below_drewN ?_ _))) B2)
        go_wp2
        go_ret
        exact ⟨ret_bool (by rw [F.out, ← Q.out]), BB.out⟩
end Go.Proofs.YticboondiojofaaGreatDoor
