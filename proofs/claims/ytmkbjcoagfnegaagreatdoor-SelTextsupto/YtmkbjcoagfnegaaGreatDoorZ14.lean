/-
  Which tokens may be: by the reference: signs, numbers; the whole.
  Which tokens may be: by the reference: dimensions; the whole.
  One identifier, written.
  The law of identifiers.
-/
import Derived.Test.YtmkbjcoagfnegaaGreatDoorZ13
import Derived.Test.YtmkbjcoagfnegaaGreatDoorZ12
set_option linter.unusedVariables false
set_option linter.unusedSimpArgs false
namespace Go.Proofs.YtmkbjcoagfnegaaGreatDoor
open Go.RowKit

set_option maxRecDepth 100000 in
set_option maxHeartbeats 4000000 in
theorem mayR_delim (s : ByteArray) (n d : Int) (i h : Bool) (w : World)  (hs : s.size ≤ 1099511627776) :
    Calls Tryz.prog 120 #[tokV 9 s n d i h] w fun e w' => e = .returned (.bool (mayT 9 (bl s) n d i h)) ∧ Below w.heap.size w w' := by
  have M := hide (may_delim (bl s) n d i h)
  have CD := hide (fun W => delimR_any s W (by omega))
  unfold tokV
  have CH := hide (fun W => charsR_any s W hs)
  have RE := hide (raw_empty (bl s))
  have EM := hide (emp_iff s)
  go_enter Tryz.func120, Tryz.ntmps120
  go_wp2_with fail
  go_at_call 114
  refine (CH.out _).mono ?_
  rintro e w1 ⟨a, nn, c, rfl, hN, hb⟩
  have R := MR.mk' hb
  clear hb
  have BB := hide R.bel
  have AP := hide R.ap
  obtain ⟨z0, p0, p1, p2, p3, p4, p5⟩ := R.t0
  obtain ⟨z1, q0, q1, q2, q3, q4, q5⟩ := R.t1
  have fr1 := R.fr 1
  clear R
  have NL := hide (fun hc => nums_len (hN hc))
  clear hN
  rcases z_ways n d i h with ⟨x1, x2⟩ | ⟨x1, x3, x2⟩ | ⟨x1, x3, rfl, x2⟩ | ⟨x1, x3, rfl, x2⟩
  case inr.inr.inr =>
    cases h with
    | true =>
      have F := hide (show mayT 9 (bl s) n d false true = false by rw [M.out]; simp)
      go_wp2
      go_ret
      refine ⟨ret_bool F.out.symm, ?_⟩
      repeat (first | (with_reducible exact BB.out) | (with_reducible refine Below.setCell ?_ (by simp) _) | (with_reducible refine bplus ?_ _) | (with_reducible refine Below.drew ?_) | (with_reducible refine below_drewN ?_ _))
    | false =>
      have F := hide (show mayT 9 (bl s) n d false false = dlB (bl s) by rw [M.out, x2]; rfl)
      go_wp2_with (go_at_call 150; refine (CD.out _).mono ?_; rintro e2 w2 ⟨rfl, rfl⟩)
      go_ret
      refine ⟨ret_bool F.out.symm, ?_⟩
      repeat (first | (with_reducible exact BB.out) | (with_reducible refine Below.setCell ?_ (by simp) _) | (with_reducible refine bplus ?_ _) | (with_reducible refine Below.drew ?_) | (with_reducible refine below_drewN ?_ _))
  all_goals
    have F := hide (M.out.trans (by rw [x2, Bool.false_and, Bool.false_and]))
    go_wp2
    go_ret
    refine ⟨ret_bool F.out.symm, ?_⟩
    repeat (first | (with_reducible exact BB.out) | (with_reducible refine Below.setCell ?_ (by simp) _) | (with_reducible refine bplus ?_ _) | (with_reducible refine Below.drew ?_) | (with_reducible refine below_drewN ?_ _))
set_option maxRecDepth 100000 in
set_option maxHeartbeats 4000000 in
theorem mayR_num (k : Int) (s : ByteArray) (n d : Int) (i h : Bool) (w : World) (hk : k = 10 ∨ k = 11) (hs : s.size ≤ 1099511627776) (n1 : -9223372036854775808 ≤ n) (n2 : n ≤ 9223372036854775807) (d1 : -9223372036854775808 ≤ d) (d2 : d ≤ 9223372036854775807) (hT : Tabs w) :
    Calls Tryz.prog 120 #[tokV k s n d i h] w fun e w' => e = .returned (.bool (mayT k (bl s) n d i h)) ∧ Below w.heap.size w w' := by
  have M := hide (may_num hk (bl s) n d i h)
  have W1 := hide (fun (W : World) (h : Below w.heap.size w W) => hT.below h)
  have C := hide (fun (W : World) (h : Below w.heap.size w W) => plainR_any n d i W n1 n2 d1 d2 (W1.out W h))
  unfold tokV
  have CH := hide (fun W => charsR_any s W hs)
  have RE := hide (raw_empty (bl s))
  have EM := hide (emp_iff s)
  go_enter Tryz.func120, Tryz.ntmps120
  go_wp2_with fail
  go_at_call 114
  refine (CH.out _).mono ?_
  rintro e w1 ⟨a, nn, c, rfl, hN, hb⟩
  have R := MR.mk' hb
  clear hb
  have BB := hide R.bel
  have AP := hide R.ap
  obtain ⟨z0, p0, p1, p2, p3, p4, p5⟩ := R.t0
  obtain ⟨z1, q0, q1, q2, q3, q4, q5⟩ := R.t1
  have fr2 := R.fr 2
  have fr3 := R.fr 3
  have fr4 := R.fr 4
  clear R
  have NL := hide (fun hc => nums_len (hN hc))
  clear hN
  cases he : s.toList.isEmpty with
  | false =>
    have F := hide (show mayT k (bl s) n d i h = false by rw [M.out, EM.out, he]; rfl)
    have hse : (s.toList == []) = false := by
      cases hq : s.toList with
      | nil => rw [hq] at he; cases he
      | cons c r => rfl
    rcases hk with rfl | rfl
    · go_wp2
      go_region
      go_wp2_with fail
      go_at_call 121
      refine (C.out _ (by repeat (first | (with_reducible exact BB.out) | (with_reducible refine Below.setCell ?_ (by simp) _) | (with_reducible refine bplus ?_ _) | (with_reducible refine Below.drew ?_) | (with_reducible refine below_drewN ?_ _)))).mono ?_
      rintro e2 w2 ⟨ps, px, rfl, PP, B2⟩
      have r0 : w2.cell? ⟨w.heap.size, 0, none⟩ = some (.int .i64 10) := (by rw [B2.cell (p := ⟨w.heap.size, 0, none⟩) (by simp; omega)]; simp [go_sem, p0])
      have t0 : w2.cell? ⟨w.heap.size + 1, 0, none⟩ = some (.int .i64 10) := (by rw [B2.cell (p := ⟨w.heap.size + 1, 0, none⟩) (by simp; omega)]; simp [go_sem, q0, q1, q2, q3, q4, q5])
      have r1 : w2.cell? ⟨w.heap.size, 1, none⟩ = some (.string s) := (by rw [B2.cell (p := ⟨w.heap.size, 1, none⟩) (by simp; omega)]; simp [go_sem, p1])
      have t1 : w2.cell? ⟨w.heap.size + 1, 1, none⟩ = some (.string ⟨#[]⟩) := (by rw [B2.cell (p := ⟨w.heap.size + 1, 1, none⟩) (by simp; omega)]; simp [go_sem, q0, q1, q2, q3, q4, q5])
      have r2 : w2.cell? ⟨w.heap.size, 2, none⟩ = some (.int .i64 n) := (by rw [B2.cell (p := ⟨w.heap.size, 2, none⟩) (by simp; omega)]; simp [go_sem, p2])
      have t2 : w2.cell? ⟨w.heap.size + 1, 2, none⟩ = some (.int .i64 n) := (by rw [B2.cell (p := ⟨w.heap.size + 1, 2, none⟩) (by simp; omega)]; simp [go_sem, q0, q1, q2, q3, q4, q5])
      have r3 : w2.cell? ⟨w.heap.size, 3, none⟩ = some (.int .i64 d) := (by rw [B2.cell (p := ⟨w.heap.size, 3, none⟩) (by simp; omega)]; simp [go_sem, p3])
      have t3 : w2.cell? ⟨w.heap.size + 1, 3, none⟩ = some (.int .i64 d) := (by rw [B2.cell (p := ⟨w.heap.size + 1, 3, none⟩) (by simp; omega)]; simp [go_sem, q0, q1, q2, q3, q4, q5])
      have r4 : w2.cell? ⟨w.heap.size, 4, none⟩ = some (.bool i) := (by rw [B2.cell (p := ⟨w.heap.size, 4, none⟩) (by simp; omega)]; simp [go_sem, p4])
      have t4 : w2.cell? ⟨w.heap.size + 1, 4, none⟩ = some (.bool i) := (by rw [B2.cell (p := ⟨w.heap.size + 1, 4, none⟩) (by simp; omega)]; simp [go_sem, q0, q1, q2, q3, q4, q5])
      have r5 : w2.cell? ⟨w.heap.size, 5, none⟩ = some (.bool h) := (by rw [B2.cell (p := ⟨w.heap.size, 5, none⟩) (by simp; omega)]; simp [go_sem, p5])
      have t5 : w2.cell? ⟨w.heap.size + 1, 5, none⟩ = some (.bool false) := (by rw [B2.cell (p := ⟨w.heap.size + 1, 5, none⟩) (by simp; omega)]; simp [go_sem, q0, q1, q2, q3, q4, q5])
      have Q := hide (plR_ok PP)
      clear PP
      replace BB := hide (show Below w.heap.size w w2 from bto (by repeat (first | (with_reducible exact BB.out) | (with_reducible refine Below.setCell ?_ (by simp) _) | (with_reducible refine bplus ?_ _) | (with_reducible refine Below.drew ?_) | (with_reducible refine below_drewN ?_ _))) B2)
      go_wp2
      go_ret
      exact ⟨ret_bool (F.out.symm), BB.out⟩
    · go_wp2
      go_region
      go_wp2_with fail
      go_at_call 121
      refine (C.out _ (by repeat (first | (with_reducible exact BB.out) | (with_reducible refine Below.setCell ?_ (by simp) _) | (with_reducible refine bplus ?_ _) | (with_reducible refine Below.drew ?_) | (with_reducible refine below_drewN ?_ _)))).mono ?_
      rintro e2 w2 ⟨ps, px, rfl, PP, B2⟩
      have r0 : w2.cell? ⟨w.heap.size, 0, none⟩ = some (.int .i64 11) := (by rw [B2.cell (p := ⟨w.heap.size, 0, none⟩) (by simp; omega)]; simp [go_sem, p0])
      have t0 : w2.cell? ⟨w.heap.size + 1, 0, none⟩ = some (.int .i64 11) := (by rw [B2.cell (p := ⟨w.heap.size + 1, 0, none⟩) (by simp; omega)]; simp [go_sem, q0, q1, q2, q3, q4, q5])
      have r1 : w2.cell? ⟨w.heap.size, 1, none⟩ = some (.string s) := (by rw [B2.cell (p := ⟨w.heap.size, 1, none⟩) (by simp; omega)]; simp [go_sem, p1])
      have t1 : w2.cell? ⟨w.heap.size + 1, 1, none⟩ = some (.string ⟨#[]⟩) := (by rw [B2.cell (p := ⟨w.heap.size + 1, 1, none⟩) (by simp; omega)]; simp [go_sem, q0, q1, q2, q3, q4, q5])
      have r2 : w2.cell? ⟨w.heap.size, 2, none⟩ = some (.int .i64 n) := (by rw [B2.cell (p := ⟨w.heap.size, 2, none⟩) (by simp; omega)]; simp [go_sem, p2])
      have t2 : w2.cell? ⟨w.heap.size + 1, 2, none⟩ = some (.int .i64 n) := (by rw [B2.cell (p := ⟨w.heap.size + 1, 2, none⟩) (by simp; omega)]; simp [go_sem, q0, q1, q2, q3, q4, q5])
      have r3 : w2.cell? ⟨w.heap.size, 3, none⟩ = some (.int .i64 d) := (by rw [B2.cell (p := ⟨w.heap.size, 3, none⟩) (by simp; omega)]; simp [go_sem, p3])
      have t3 : w2.cell? ⟨w.heap.size + 1, 3, none⟩ = some (.int .i64 d) := (by rw [B2.cell (p := ⟨w.heap.size + 1, 3, none⟩) (by simp; omega)]; simp [go_sem, q0, q1, q2, q3, q4, q5])
      have r4 : w2.cell? ⟨w.heap.size, 4, none⟩ = some (.bool i) := (by rw [B2.cell (p := ⟨w.heap.size, 4, none⟩) (by simp; omega)]; simp [go_sem, p4])
      have t4 : w2.cell? ⟨w.heap.size + 1, 4, none⟩ = some (.bool i) := (by rw [B2.cell (p := ⟨w.heap.size + 1, 4, none⟩) (by simp; omega)]; simp [go_sem, q0, q1, q2, q3, q4, q5])
      have r5 : w2.cell? ⟨w.heap.size, 5, none⟩ = some (.bool h) := (by rw [B2.cell (p := ⟨w.heap.size, 5, none⟩) (by simp; omega)]; simp [go_sem, p5])
      have t5 : w2.cell? ⟨w.heap.size + 1, 5, none⟩ = some (.bool false) := (by rw [B2.cell (p := ⟨w.heap.size + 1, 5, none⟩) (by simp; omega)]; simp [go_sem, q0, q1, q2, q3, q4, q5])
      have Q := hide (plR_ok PP)
      clear PP
      replace BB := hide (show Below w.heap.size w w2 from bto (by repeat (first | (with_reducible exact BB.out) | (with_reducible refine Below.setCell ?_ (by simp) _) | (with_reducible refine bplus ?_ _) | (with_reducible refine Below.drew ?_) | (with_reducible refine below_drewN ?_ _))) B2)
      go_wp2
      go_ret
      exact ⟨ret_bool (F.out.symm), BB.out⟩
  | true =>
    cases h with
    | true =>
      have F := hide (show mayT k (bl s) n d i true = false by rw [M.out]; simp)
      rcases hk with rfl | rfl
      · go_wp2
        go_region
        go_wp2_with fail
        go_at_call 121
        refine (C.out _ (by repeat (first | (with_reducible exact BB.out) | (with_reducible refine Below.setCell ?_ (by simp) _) | (with_reducible refine bplus ?_ _) | (with_reducible refine Below.drew ?_) | (with_reducible refine below_drewN ?_ _)))).mono ?_
        rintro e2 w2 ⟨ps, px, rfl, PP, B2⟩
        have r0 : w2.cell? ⟨w.heap.size, 0, none⟩ = some (.int .i64 10) := (by rw [B2.cell (p := ⟨w.heap.size, 0, none⟩) (by simp; omega)]; simp [go_sem, p0])
        have t0 : w2.cell? ⟨w.heap.size + 1, 0, none⟩ = some (.int .i64 10) := (by rw [B2.cell (p := ⟨w.heap.size + 1, 0, none⟩) (by simp; omega)]; simp [go_sem, q0, q1, q2, q3, q4, q5])
        have r1 : w2.cell? ⟨w.heap.size, 1, none⟩ = some (.string s) := (by rw [B2.cell (p := ⟨w.heap.size, 1, none⟩) (by simp; omega)]; simp [go_sem, p1])
        have t1 : w2.cell? ⟨w.heap.size + 1, 1, none⟩ = some (.string ⟨#[]⟩) := (by rw [B2.cell (p := ⟨w.heap.size + 1, 1, none⟩) (by simp; omega)]; simp [go_sem, q0, q1, q2, q3, q4, q5])
        have r2 : w2.cell? ⟨w.heap.size, 2, none⟩ = some (.int .i64 n) := (by rw [B2.cell (p := ⟨w.heap.size, 2, none⟩) (by simp; omega)]; simp [go_sem, p2])
        have t2 : w2.cell? ⟨w.heap.size + 1, 2, none⟩ = some (.int .i64 n) := (by rw [B2.cell (p := ⟨w.heap.size + 1, 2, none⟩) (by simp; omega)]; simp [go_sem, q0, q1, q2, q3, q4, q5])
        have r3 : w2.cell? ⟨w.heap.size, 3, none⟩ = some (.int .i64 d) := (by rw [B2.cell (p := ⟨w.heap.size, 3, none⟩) (by simp; omega)]; simp [go_sem, p3])
        have t3 : w2.cell? ⟨w.heap.size + 1, 3, none⟩ = some (.int .i64 d) := (by rw [B2.cell (p := ⟨w.heap.size + 1, 3, none⟩) (by simp; omega)]; simp [go_sem, q0, q1, q2, q3, q4, q5])
        have r4 : w2.cell? ⟨w.heap.size, 4, none⟩ = some (.bool i) := (by rw [B2.cell (p := ⟨w.heap.size, 4, none⟩) (by simp; omega)]; simp [go_sem, p4])
        have t4 : w2.cell? ⟨w.heap.size + 1, 4, none⟩ = some (.bool i) := (by rw [B2.cell (p := ⟨w.heap.size + 1, 4, none⟩) (by simp; omega)]; simp [go_sem, q0, q1, q2, q3, q4, q5])
        have r5 : w2.cell? ⟨w.heap.size, 5, none⟩ = some (.bool true) := (by rw [B2.cell (p := ⟨w.heap.size, 5, none⟩) (by simp; omega)]; simp [go_sem, p5])
        have t5 : w2.cell? ⟨w.heap.size + 1, 5, none⟩ = some (.bool false) := (by rw [B2.cell (p := ⟨w.heap.size + 1, 5, none⟩) (by simp; omega)]; simp [go_sem, q0, q1, q2, q3, q4, q5])
        have Q := hide (plR_ok PP)
        clear PP
        replace BB := hide (show Below w.heap.size w w2 from bto (by repeat (first | (with_reducible exact BB.out) | (with_reducible refine Below.setCell ?_ (by simp) _) | (with_reducible refine bplus ?_ _) | (with_reducible refine Below.drew ?_) | (with_reducible refine below_drewN ?_ _))) B2)
        go_wp2
        go_ret
        exact ⟨ret_bool (F.out.symm), BB.out⟩
      · go_wp2
        go_region
        go_wp2_with fail
        go_at_call 121
        refine (C.out _ (by repeat (first | (with_reducible exact BB.out) | (with_reducible refine Below.setCell ?_ (by simp) _) | (with_reducible refine bplus ?_ _) | (with_reducible refine Below.drew ?_) | (with_reducible refine below_drewN ?_ _)))).mono ?_
        rintro e2 w2 ⟨ps, px, rfl, PP, B2⟩
        have r0 : w2.cell? ⟨w.heap.size, 0, none⟩ = some (.int .i64 11) := (by rw [B2.cell (p := ⟨w.heap.size, 0, none⟩) (by simp; omega)]; simp [go_sem, p0])
        have t0 : w2.cell? ⟨w.heap.size + 1, 0, none⟩ = some (.int .i64 11) := (by rw [B2.cell (p := ⟨w.heap.size + 1, 0, none⟩) (by simp; omega)]; simp [go_sem, q0, q1, q2, q3, q4, q5])
        have r1 : w2.cell? ⟨w.heap.size, 1, none⟩ = some (.string s) := (by rw [B2.cell (p := ⟨w.heap.size, 1, none⟩) (by simp; omega)]; simp [go_sem, p1])
        have t1 : w2.cell? ⟨w.heap.size + 1, 1, none⟩ = some (.string ⟨#[]⟩) := (by rw [B2.cell (p := ⟨w.heap.size + 1, 1, none⟩) (by simp; omega)]; simp [go_sem, q0, q1, q2, q3, q4, q5])
        have r2 : w2.cell? ⟨w.heap.size, 2, none⟩ = some (.int .i64 n) := (by rw [B2.cell (p := ⟨w.heap.size, 2, none⟩) (by simp; omega)]; simp [go_sem, p2])
        have t2 : w2.cell? ⟨w.heap.size + 1, 2, none⟩ = some (.int .i64 n) := (by rw [B2.cell (p := ⟨w.heap.size + 1, 2, none⟩) (by simp; omega)]; simp [go_sem, q0, q1, q2, q3, q4, q5])
        have r3 : w2.cell? ⟨w.heap.size, 3, none⟩ = some (.int .i64 d) := (by rw [B2.cell (p := ⟨w.heap.size, 3, none⟩) (by simp; omega)]; simp [go_sem, p3])
        have t3 : w2.cell? ⟨w.heap.size + 1, 3, none⟩ = some (.int .i64 d) := (by rw [B2.cell (p := ⟨w.heap.size + 1, 3, none⟩) (by simp; omega)]; simp [go_sem, q0, q1, q2, q3, q4, q5])
        have r4 : w2.cell? ⟨w.heap.size, 4, none⟩ = some (.bool i) := (by rw [B2.cell (p := ⟨w.heap.size, 4, none⟩) (by simp; omega)]; simp [go_sem, p4])
        have t4 : w2.cell? ⟨w.heap.size + 1, 4, none⟩ = some (.bool i) := (by rw [B2.cell (p := ⟨w.heap.size + 1, 4, none⟩) (by simp; omega)]; simp [go_sem, q0, q1, q2, q3, q4, q5])
        have r5 : w2.cell? ⟨w.heap.size, 5, none⟩ = some (.bool true) := (by rw [B2.cell (p := ⟨w.heap.size, 5, none⟩) (by simp; omega)]; simp [go_sem, p5])
        have t5 : w2.cell? ⟨w.heap.size + 1, 5, none⟩ = some (.bool false) := (by rw [B2.cell (p := ⟨w.heap.size + 1, 5, none⟩) (by simp; omega)]; simp [go_sem, q0, q1, q2, q3, q4, q5])
        have Q := hide (plR_ok PP)
        clear PP
        replace BB := hide (show Below w.heap.size w w2 from bto (by repeat (first | (with_reducible exact BB.out) | (with_reducible refine Below.setCell ?_ (by simp) _) | (with_reducible refine bplus ?_ _) | (with_reducible refine Below.drew ?_) | (with_reducible refine below_drewN ?_ _))) B2)
        go_wp2
        go_ret
        exact ⟨ret_bool (F.out.symm), BB.out⟩
    | false =>
      have F := hide (show mayT k (bl s) n d i false = (plT n d i).isSome by rw [M.out, EM.out, he]; rfl)
      rcases hk with rfl | rfl
      · go_wp2
        go_region
        go_wp2_with fail
        go_at_call 121
        refine (C.out _ (by repeat (first | (with_reducible exact BB.out) | (with_reducible refine Below.setCell ?_ (by simp) _) | (with_reducible refine bplus ?_ _) | (with_reducible refine Below.drew ?_) | (with_reducible refine below_drewN ?_ _)))).mono ?_
        rintro e2 w2 ⟨ps, px, rfl, PP, B2⟩
        have r0 : w2.cell? ⟨w.heap.size, 0, none⟩ = some (.int .i64 10) := (by rw [B2.cell (p := ⟨w.heap.size, 0, none⟩) (by simp; omega)]; simp [go_sem, p0])
        have t0 : w2.cell? ⟨w.heap.size + 1, 0, none⟩ = some (.int .i64 10) := (by rw [B2.cell (p := ⟨w.heap.size + 1, 0, none⟩) (by simp; omega)]; simp [go_sem, q0, q1, q2, q3, q4, q5])
        have r1 : w2.cell? ⟨w.heap.size, 1, none⟩ = some (.string s) := (by rw [B2.cell (p := ⟨w.heap.size, 1, none⟩) (by simp; omega)]; simp [go_sem, p1])
        have t1 : w2.cell? ⟨w.heap.size + 1, 1, none⟩ = some (.string ⟨#[]⟩) := (by rw [B2.cell (p := ⟨w.heap.size + 1, 1, none⟩) (by simp; omega)]; simp [go_sem, q0, q1, q2, q3, q4, q5])
        have r2 : w2.cell? ⟨w.heap.size, 2, none⟩ = some (.int .i64 n) := (by rw [B2.cell (p := ⟨w.heap.size, 2, none⟩) (by simp; omega)]; simp [go_sem, p2])
        have t2 : w2.cell? ⟨w.heap.size + 1, 2, none⟩ = some (.int .i64 n) := (by rw [B2.cell (p := ⟨w.heap.size + 1, 2, none⟩) (by simp; omega)]; simp [go_sem, q0, q1, q2, q3, q4, q5])
        have r3 : w2.cell? ⟨w.heap.size, 3, none⟩ = some (.int .i64 d) := (by rw [B2.cell (p := ⟨w.heap.size, 3, none⟩) (by simp; omega)]; simp [go_sem, p3])
        have t3 : w2.cell? ⟨w.heap.size + 1, 3, none⟩ = some (.int .i64 d) := (by rw [B2.cell (p := ⟨w.heap.size + 1, 3, none⟩) (by simp; omega)]; simp [go_sem, q0, q1, q2, q3, q4, q5])
        have r4 : w2.cell? ⟨w.heap.size, 4, none⟩ = some (.bool i) := (by rw [B2.cell (p := ⟨w.heap.size, 4, none⟩) (by simp; omega)]; simp [go_sem, p4])
        have t4 : w2.cell? ⟨w.heap.size + 1, 4, none⟩ = some (.bool i) := (by rw [B2.cell (p := ⟨w.heap.size + 1, 4, none⟩) (by simp; omega)]; simp [go_sem, q0, q1, q2, q3, q4, q5])
        have r5 : w2.cell? ⟨w.heap.size, 5, none⟩ = some (.bool false) := (by rw [B2.cell (p := ⟨w.heap.size, 5, none⟩) (by simp; omega)]; simp [go_sem, p5])
        have t5 : w2.cell? ⟨w.heap.size + 1, 5, none⟩ = some (.bool false) := (by rw [B2.cell (p := ⟨w.heap.size + 1, 5, none⟩) (by simp; omega)]; simp [go_sem, q0, q1, q2, q3, q4, q5])
        have Q := hide (plR_ok PP)
        clear PP
        replace BB := hide (show Below w.heap.size w w2 from bto (by repeat (first | (with_reducible exact BB.out) | (with_reducible refine Below.setCell ?_ (by simp) _) | (with_reducible refine bplus ?_ _) | (with_reducible refine Below.drew ?_) | (with_reducible refine below_drewN ?_ _))) B2)
        go_wp2
        go_ret
        exact ⟨ret_bool (by rw [F.out, ← Q.out]), BB.out⟩
      · go_wp2
        go_region
        go_wp2_with fail
        go_at_call 121
        refine (C.out _ (by repeat (first | (with_reducible exact BB.out) | (with_reducible refine Below.setCell ?_ (by simp) _) | (with_reducible refine bplus ?_ _) | (with_reducible refine Below.drew ?_) | (with_reducible refine below_drewN ?_ _)))).mono ?_
        rintro e2 w2 ⟨ps, px, rfl, PP, B2⟩
        have r0 : w2.cell? ⟨w.heap.size, 0, none⟩ = some (.int .i64 11) := (by rw [B2.cell (p := ⟨w.heap.size, 0, none⟩) (by simp; omega)]; simp [go_sem, p0])
        have t0 : w2.cell? ⟨w.heap.size + 1, 0, none⟩ = some (.int .i64 11) := (by rw [B2.cell (p := ⟨w.heap.size + 1, 0, none⟩) (by simp; omega)]; simp [go_sem, q0, q1, q2, q3, q4, q5])
        have r1 : w2.cell? ⟨w.heap.size, 1, none⟩ = some (.string s) := (by rw [B2.cell (p := ⟨w.heap.size, 1, none⟩) (by simp; omega)]; simp [go_sem, p1])
        have t1 : w2.cell? ⟨w.heap.size + 1, 1, none⟩ = some (.string ⟨#[]⟩) := (by rw [B2.cell (p := ⟨w.heap.size + 1, 1, none⟩) (by simp; omega)]; simp [go_sem, q0, q1, q2, q3, q4, q5])
        have r2 : w2.cell? ⟨w.heap.size, 2, none⟩ = some (.int .i64 n) := (by rw [B2.cell (p := ⟨w.heap.size, 2, none⟩) (by simp; omega)]; simp [go_sem, p2])
        have t2 : w2.cell? ⟨w.heap.size + 1, 2, none⟩ = some (.int .i64 n) := (by rw [B2.cell (p := ⟨w.heap.size + 1, 2, none⟩) (by simp; omega)]; simp [go_sem, q0, q1, q2, q3, q4, q5])
        have r3 : w2.cell? ⟨w.heap.size, 3, none⟩ = some (.int .i64 d) := (by rw [B2.cell (p := ⟨w.heap.size, 3, none⟩) (by simp; omega)]; simp [go_sem, p3])
        have t3 : w2.cell? ⟨w.heap.size + 1, 3, none⟩ = some (.int .i64 d) := (by rw [B2.cell (p := ⟨w.heap.size + 1, 3, none⟩) (by simp; omega)]; simp [go_sem, q0, q1, q2, q3, q4, q5])
        have r4 : w2.cell? ⟨w.heap.size, 4, none⟩ = some (.bool i) := (by rw [B2.cell (p := ⟨w.heap.size, 4, none⟩) (by simp; omega)]; simp [go_sem, p4])
        have t4 : w2.cell? ⟨w.heap.size + 1, 4, none⟩ = some (.bool i) := (by rw [B2.cell (p := ⟨w.heap.size + 1, 4, none⟩) (by simp; omega)]; simp [go_sem, q0, q1, q2, q3, q4, q5])
        have r5 : w2.cell? ⟨w.heap.size, 5, none⟩ = some (.bool false) := (by rw [B2.cell (p := ⟨w.heap.size, 5, none⟩) (by simp; omega)]; simp [go_sem, p5])
        have t5 : w2.cell? ⟨w.heap.size + 1, 5, none⟩ = some (.bool false) := (by rw [B2.cell (p := ⟨w.heap.size + 1, 5, none⟩) (by simp; omega)]; simp [go_sem, q0, q1, q2, q3, q4, q5])
        have Q := hide (plR_ok PP)
        clear PP
        replace BB := hide (show Below w.heap.size w w2 from bto (by repeat (first | (with_reducible exact BB.out) | (with_reducible refine Below.setCell ?_ (by simp) _) | (with_reducible refine bplus ?_ _) | (with_reducible refine Below.drew ?_) | (with_reducible refine below_drewN ?_ _))) B2)
        go_wp2
        go_ret
        exact ⟨ret_bool (by rw [F.out, ← Q.out]), BB.out⟩
end Go.Proofs.YtmkbjcoagfnegaaGreatDoor
set_option linter.unusedVariables false
set_option linter.unusedSimpArgs false
namespace Go.Proofs.YtmkbjcoagfnegaaGreatDoor
open Go.RowKit

set_option maxRecDepth 100000 in
set_option maxHeartbeats 4000000 in
theorem mayR_dim (s : ByteArray) (n d : Int) (i h : Bool) (w : World) (hs : s.size ≤ 1099511627776) (n1 : -9223372036854775808 ≤ n) (n2 : n ≤ 9223372036854775807) (d1 : -9223372036854775808 ≤ d) (d2 : d ≤ 9223372036854775807) (hT : Tabs w) :
    Calls Tryz.prog 120 #[tokV 12 s n d i h] w fun e w' => e = .returned (.bool (mayT 12 (bl s) n d i h)) ∧ Below w.heap.size w w' := by
  have M := hide (may_dim (bl s) n d i h)
  have W1 := hide (fun (W : World) (h : Below w.heap.size w W) => hT.below h)
  have C := hide (fun (W : World) (h : Below w.heap.size w W) => plainR_any n d i W n1 n2 d1 d2 (W1.out W h))
  unfold tokV
  have CH := hide (fun W => charsR_any s W hs)
  have RE := hide (raw_empty (bl s))
  have EM := hide (emp_iff s)
  go_enter Tryz.func120, Tryz.ntmps120
  go_wp2_with fail
  go_at_call 114
  refine (CH.out _).mono ?_
  rintro e w1 ⟨a, nn, c, rfl, hN, hb⟩
  have R := MR.mk' hb
  clear hb
  have BB := hide R.bel
  have AP := hide R.ap
  obtain ⟨z0, p0, p1, p2, p3, p4, p5⟩ := R.t0
  obtain ⟨z1, q0, q1, q2, q3, q4, q5⟩ := R.t1
  have fr1 := R.fr 1
  have fr2 := R.fr 2
  have fr3 := R.fr 3
  have fr4 := R.fr 4
  clear R
  have NL := hide (fun hc => nums_len (hN hc))
  clear hN
  cases hc : chB (bl s) with
  | false =>
    have F := hide (show mayT 12 (bl s) n d i h = false by rw [M.out, hc]; rfl)
    clear hc
    go_wp2
    go_region
    go_wp2
    go_ret
    refine ⟨ret_bool F.out.symm, ?_⟩
    repeat (first | (with_reducible exact BB.out) | (with_reducible refine Below.setCell ?_ (by simp) _) | (with_reducible refine bplus ?_ _) | (with_reducible refine Below.drew ?_) | (with_reducible refine below_drewN ?_ _))
  | true =>
    have hl := NL.out hc
    by_cases he : bl s = []
    · have F := hide (show mayT 12 (bl s) n d i h = false by rw [M.out, he]; simp)
      have hnn : nn = 0 := by have := RE.out.2 he; omega
      subst hnn
      clear hc hl he
      go_wp2
      go_region
      go_wp2
      go_ret
      refine ⟨ret_bool F.out.symm, ?_⟩
      repeat (first | (with_reducible exact BB.out) | (with_reducible refine Below.setCell ?_ (by simp) _) | (with_reducible refine bplus ?_ _) | (with_reducible refine Below.drew ?_) | (with_reducible refine below_drewN ?_ _))
    · have F0 := hide (show mayT 12 (bl s) n d i h = (!h && (plT n d i).isSome) by rw [M.out, hc]; cases hb : bl s; exact absurd hb he; rfl)
      have hnn' : ((nn : Int) == 0) = false := by
        have : ¬ (raw (bl s)).length = 0 := fun h0 => he (RE.out.1 h0)
        simp; omega
      clear hc hl he
      cases h with
      | true =>
        have F := hide (show mayT 12 (bl s) n d i true = false by rw [F0.out]; rfl)
        go_wp2
        go_region
        go_wp2_with fail
        go_at_call 121
        refine (C.out _ (by repeat (first | (with_reducible exact BB.out) | (with_reducible refine Below.setCell ?_ (by simp) _) | (with_reducible refine bplus ?_ _) | (with_reducible refine Below.drew ?_) | (with_reducible refine below_drewN ?_ _)))).mono ?_
        rintro e2 w2 ⟨ps, px, rfl, PP, B2⟩
        have r0 : w2.cell? ⟨w.heap.size, 0, none⟩ = some (.int .i64 12) := (by rw [B2.cell (p := ⟨w.heap.size, 0, none⟩) (by simp; omega)]; simp [go_sem, p0])
        have t0 : w2.cell? ⟨w.heap.size + 1, 0, none⟩ = some (.int .i64 12) := (by rw [B2.cell (p := ⟨w.heap.size + 1, 0, none⟩) (by simp; omega)]; simp [go_sem, q0, q1, q2, q3, q4, q5])
        have r1 : w2.cell? ⟨w.heap.size, 1, none⟩ = some (.string s) := (by rw [B2.cell (p := ⟨w.heap.size, 1, none⟩) (by simp; omega)]; simp [go_sem, p1])
        have t1 : w2.cell? ⟨w.heap.size + 1, 1, none⟩ = some (.string s) := (by rw [B2.cell (p := ⟨w.heap.size + 1, 1, none⟩) (by simp; omega)]; simp [go_sem, q0, q1, q2, q3, q4, q5])
        have r2 : w2.cell? ⟨w.heap.size, 2, none⟩ = some (.int .i64 n) := (by rw [B2.cell (p := ⟨w.heap.size, 2, none⟩) (by simp; omega)]; simp [go_sem, p2])
        have t2 : w2.cell? ⟨w.heap.size + 1, 2, none⟩ = some (.int .i64 n) := (by rw [B2.cell (p := ⟨w.heap.size + 1, 2, none⟩) (by simp; omega)]; simp [go_sem, q0, q1, q2, q3, q4, q5])
        have r3 : w2.cell? ⟨w.heap.size, 3, none⟩ = some (.int .i64 d) := (by rw [B2.cell (p := ⟨w.heap.size, 3, none⟩) (by simp; omega)]; simp [go_sem, p3])
        have t3 : w2.cell? ⟨w.heap.size + 1, 3, none⟩ = some (.int .i64 d) := (by rw [B2.cell (p := ⟨w.heap.size + 1, 3, none⟩) (by simp; omega)]; simp [go_sem, q0, q1, q2, q3, q4, q5])
        have r4 : w2.cell? ⟨w.heap.size, 4, none⟩ = some (.bool i) := (by rw [B2.cell (p := ⟨w.heap.size, 4, none⟩) (by simp; omega)]; simp [go_sem, p4])
        have t4 : w2.cell? ⟨w.heap.size + 1, 4, none⟩ = some (.bool i) := (by rw [B2.cell (p := ⟨w.heap.size + 1, 4, none⟩) (by simp; omega)]; simp [go_sem, q0, q1, q2, q3, q4, q5])
        have r5 : w2.cell? ⟨w.heap.size, 5, none⟩ = some (.bool true) := (by rw [B2.cell (p := ⟨w.heap.size, 5, none⟩) (by simp; omega)]; simp [go_sem, p5])
        have t5 : w2.cell? ⟨w.heap.size + 1, 5, none⟩ = some (.bool false) := (by rw [B2.cell (p := ⟨w.heap.size + 1, 5, none⟩) (by simp; omega)]; simp [go_sem, q0, q1, q2, q3, q4, q5])
        have Q := hide (plR_ok PP)
        clear PP
        replace BB := hide (show Below w.heap.size w w2 from bto (by repeat (first | (with_reducible exact BB.out) | (with_reducible refine Below.setCell ?_ (by simp) _) | (with_reducible refine bplus ?_ _) | (with_reducible refine Below.drew ?_) | (with_reducible refine below_drewN ?_ _))) B2)
        go_wp2
        go_ret
        exact ⟨ret_bool (F.out.symm), BB.out⟩
      | false =>
        have F := hide (show mayT 12 (bl s) n d i false = (plT n d i).isSome by rw [F0.out]; rfl)
        go_wp2
        go_region
        go_wp2_with fail
        go_at_call 121
        refine (C.out _ (by repeat (first | (with_reducible exact BB.out) | (with_reducible refine Below.setCell ?_ (by simp) _) | (with_reducible refine bplus ?_ _) | (with_reducible refine Below.drew ?_) | (with_reducible refine below_drewN ?_ _)))).mono ?_
        rintro e2 w2 ⟨ps, px, rfl, PP, B2⟩
        have r0 : w2.cell? ⟨w.heap.size, 0, none⟩ = some (.int .i64 12) := (by rw [B2.cell (p := ⟨w.heap.size, 0, none⟩) (by simp; omega)]; simp [go_sem, p0])
        have t0 : w2.cell? ⟨w.heap.size + 1, 0, none⟩ = some (.int .i64 12) := (by rw [B2.cell (p := ⟨w.heap.size + 1, 0, none⟩) (by simp; omega)]; simp [go_sem, q0, q1, q2, q3, q4, q5])
        have r1 : w2.cell? ⟨w.heap.size, 1, none⟩ = some (.string s) := (by rw [B2.cell (p := ⟨w.heap.size, 1, none⟩) (by simp; omega)]; simp [go_sem, p1])
        have t1 : w2.cell? ⟨w.heap.size + 1, 1, none⟩ = some (.string s) := (by rw [B2.cell (p := ⟨w.heap.size + 1, 1, none⟩) (by simp; omega)]; simp [go_sem, q0, q1, q2, q3, q4, q5])
        have r2 : w2.cell? ⟨w.heap.size, 2, none⟩ = some (.int .i64 n) := (by rw [B2.cell (p := ⟨w.heap.size, 2, none⟩) (by simp; omega)]; simp [go_sem, p2])
        have t2 : w2.cell? ⟨w.heap.size + 1, 2, none⟩ = some (.int .i64 n) := (by rw [B2.cell (p := ⟨w.heap.size + 1, 2, none⟩) (by simp; omega)]; simp [go_sem, q0, q1, q2, q3, q4, q5])
        have r3 : w2.cell? ⟨w.heap.size, 3, none⟩ = some (.int .i64 d) := (by rw [B2.cell (p := ⟨w.heap.size, 3, none⟩) (by simp; omega)]; simp [go_sem, p3])
        have t3 : w2.cell? ⟨w.heap.size + 1, 3, none⟩ = some (.int .i64 d) := (by rw [B2.cell (p := ⟨w.heap.size + 1, 3, none⟩) (by simp; omega)]; simp [go_sem, q0, q1, q2, q3, q4, q5])
        have r4 : w2.cell? ⟨w.heap.size, 4, none⟩ = some (.bool i) := (by rw [B2.cell (p := ⟨w.heap.size, 4, none⟩) (by simp; omega)]; simp [go_sem, p4])
        have t4 : w2.cell? ⟨w.heap.size + 1, 4, none⟩ = some (.bool i) := (by rw [B2.cell (p := ⟨w.heap.size + 1, 4, none⟩) (by simp; omega)]; simp [go_sem, q0, q1, q2, q3, q4, q5])
        have r5 : w2.cell? ⟨w.heap.size, 5, none⟩ = some (.bool false) := (by rw [B2.cell (p := ⟨w.heap.size, 5, none⟩) (by simp; omega)]; simp [go_sem, p5])
        have t5 : w2.cell? ⟨w.heap.size + 1, 5, none⟩ = some (.bool false) := (by rw [B2.cell (p := ⟨w.heap.size + 1, 5, none⟩) (by simp; omega)]; simp [go_sem, q0, q1, q2, q3, q4, q5])
        have Q := hide (plR_ok PP)
        clear PP
        replace BB := hide (show Below w.heap.size w w2 from bto (by repeat (first | (with_reducible exact BB.out) | (with_reducible refine Below.setCell ?_ (by simp) _) | (with_reducible refine bplus ?_ _) | (with_reducible refine Below.drew ?_) | (with_reducible refine below_drewN ?_ _))) B2)
        go_wp2
        go_ret
        exact ⟨ret_bool (by rw [F.out, ← Q.out]), BB.out⟩
/-- Which tokens may be: by the reference. -/
theorem mayR_any (k : Int) (s : ByteArray) (n d : Int) (i h : Bool) (w : World) (hs : s.size ≤ 1099511627776) (n1 : -9223372036854775808 ≤ n) (n2 : n ≤ 9223372036854775807) (d1 : -9223372036854775808 ≤ d) (d2 : d ≤ 9223372036854775807) (hT : Tabs w) :
    Calls Tryz.prog 120 #[tokV k s n d i h] w fun e w' => e = .returned (.bool (mayT k (bl s) n d i h)) ∧ Below w.heap.size w w' := by
  by_cases h1 : k = 1 ∨ k = 2 ∨ k = 3
  · exact mayR_name k s n d i h w h1 hs
  by_cases h4 : k = 4
  · subst h4; exact mayR_hash s n d i h w hs
  by_cases h5 : k = 5 ∨ k = 7
  · exact mayR_text k s n d i h w h5 hs
  by_cases h9 : k = 9
  · subst h9; exact mayR_delim s n d i h w hs
  by_cases h10 : k = 10 ∨ k = 11
  · exact mayR_num k s n d i h w h10 hs n1 n2 d1 d2 hT
  by_cases h12 : k = 12
  · subst h12; exact mayR_dim s n d i h w hs n1 n2 d1 d2 hT
  exact mayR_rest k s n d i h w (by omega) hs
end Go.Proofs.YtmkbjcoagfnegaaGreatDoor
set_option linter.unusedVariables false
set_option linter.unusedSimpArgs false
namespace Go.Proofs.YtmkbjcoagfnegaaGreatDoor
open Go.RowKit Go.Shelf

def idT (s : ByteArray) : TS := ⟨1, s, 0, 0, false, false⟩
def wtI (t : TS) : List Int := wId (bl t.s)
theorem may_id (s : ByteArray) : (idT s).may = (chB (bl s) && !(bl s).isEmpty) := by
  show mayT 1 (bl s) 0 0 false false = _
  cases hb : bl s with
  | nil => simp [mayT, fdB, txB, nuB1, nu, tx, nm]
  | cons a r =>
    have : mayT 1 (a :: r) 0 0 false false = chB (a :: r) := by
      simp [mayT, fdB, txB, nuB1, nu, tx, nm]
    rw [this]; simp
theorem may_id_ch {s : ByteArray} (h : (idT s).may = true) : chB (bl s) = true := by
  rw [may_id, Bool.and_eq_true] at h; exact h.1
theorem ch_whole {bs : List Int} (h : chB bs = true) : whole bs = true := by unfold chB at h; rw [Bool.and_eq_true] at h; exact h.1
set_option maxRecDepth 100000 in
set_option maxHeartbeats 2000000 in
theorem writes_id (s : ByteArray) (hs : s.size ≤ 1099511627776) (hm : (idT s).may = true) : Writes wtI (idT s) := by
  intro B b xs W hb hl hB hT hK
  have hw := ch_whole (may_id_ch hm)
  have PW := hide (fun (W1 : World) (hb1 : Below W.heap.size W W1) => (PB.start hb).grow hB hb1)
  have C := hide (fun (W1 : World) (hb1 : Below W.heap.size W W1) => wId_any B b xs s W1 hw (PW.out W1 hb1).bd (by omega) ((PW.out W1 hb1).size hB) (hT.on (PW.out W1 hb1).bel))
  have f0 := fld0
  have f1 := fld1
  clear hb hT hK hw hm
  unfold TS.v idT tokV wtI
  go_enter Tryz.func184, Tryz.ntmps184
  go_wp2_with (go_at_call 198; refine (C.out _ (by first | exact Below.refl _ _ | exact bplus (Below.refl _ _) _)).mono ?_; rintro e w1 ⟨rfl, P1⟩; replace P1 := hide ((PW.out _ (by first | exact Below.refl _ _ | exact bplus (Below.refl _ _) _)).trans P1))
  go_end0
  exact ⟨rfl, P1.out⟩
theorem six_row {W : World} {b o : Nat} {t : TS} {cs : Array Value} {T : TypeId} {q : Nat × Nat} (h : W.heap[b]? = some (.cells cs T q)) (h0 : cs[o]? = some (.int .i64 t.k)) (h1 : cs[o + 1]? = some (.string t.s)) (h2 : cs[o + 2]? = some (.int .i64 t.n)) (h3 : cs[o + 3]? = some (.int .i64 t.d)) (h4 : cs[o + 4]? = some (.bool t.i)) (h5 : cs[o + 5]? = some (.bool t.h)) : Six4 W b o t :=
  ⟨by rw [row_blk h]; exact h0, by rw [row_blk h]; exact h1, by rw [row_blk h]; exact h2, by rw [row_blk h]; exact h3, by rw [row_blk h]; exact h4, by rw [row_blk h]; exact h5⟩
theorem toks_one (w : World) (t : TS) (T : TypeId) : Toks4 (w.alloc (.cells #[.int .i64 t.k, .string t.s, .int .i64 t.n, .int .i64 t.d, .bool t.i, .bool t.h] T)) (.slice (some ⟨w.heap.size, 0, none⟩) 1 1) [t] :=
  .inr ⟨w.heap.size, 0, 1, 1, rfl, rfl, by omega, by simp, by omega, by omega, by omega, fun i u hi => by
    cases i with
    | zero => cases hi; exact six_row (heap_alloc_new w _) rfl rfl rfl rfl rfl rfl
    | succ i => simp at hi⟩
theorem toks_one_at (w : World) (t : TS) (T : TypeId) (m : Nat) (hm : m = w.heap.size) : Toks4 (w.alloc (.cells #[.int .i64 t.k, .string t.s, .int .i64 t.n, .int .i64 t.d, .bool t.i, .bool t.h] T)) (.slice (some ⟨m, 0, none⟩) 1 1) [t] := by subst hm; exact toks_one w t T
def Sp2 (wt : TS → List Int) (ts : List TS) (s : ByteArray) (c : Int) : Prop := ((∀ t ∈ ts, t.may = true) ∧ c = 0 ∧ bl s = spK wt ts ts.length) ∨ ((∃ t ∈ ts, t.may = false) ∧ c = 1 ∧ s = ⟨#[]⟩)
theorem PostSp.uni {wt : TS → List Int} {ts : List TS} {w : World} {e : Ending} {w' : World} (h : PostSp wt ts w e w') : Below w.heap.size w w' ∧ ∃ s c, e = .returned (.tuple #[.string s, .int .i64 c]) ∧ Hid (Sp2 wt ts s c) := by
  obtain ⟨h1, ⟨A, s, rfl, hs⟩ | ⟨A, rfl⟩⟩ := h
  · exact ⟨h1, s, 0, rfl, .inl ⟨A, rfl, hs⟩⟩
  · exact ⟨h1, _, 1, rfl, .inr ⟨A, rfl, rfl⟩⟩
theorem PostSp.of {wt : TS → List Int} {ts : List TS} {w : World} {e : Ending} {w' : World} (h : Below w.heap.size w w') {s : ByteArray} {c : Int} (he : e = .returned (.tuple #[.string s, .int .i64 c])) (H : Sp2 wt ts s c) : PostSp wt ts w e w' := by
  subst he
  rcases H with ⟨A, rfl, hs⟩ | ⟨A, rfl, rfl⟩
  · exact ⟨h, .inl ⟨A, s, rfl, hs⟩⟩
  · exact ⟨h, .inr ⟨A, rfl⟩⟩
theorem spK_one (wt : TS → List Int) (t : TS) : spK wt [t] 1 = wt t := by
  rw [spK_zero (t := t) rfl]; rfl
set_option maxRecDepth 100000 in
set_option maxHeartbeats 400000 in
theorem token_any (wt : TS → List Int) (t : TS) (w : World) (ho : t.Ok) (hW : t.may = true → Writes wt t) (hby : By (wt t)) (hl9 : (wt t).length ≤ 35184372088000) (hK : KT w) (hT : Tabs w) :
    Calls Tryz.prog 147 #[t.v] w fun e w' => PostSp wt [t] w e w' := by
  have TO := hide (toks_one_at (w.alloc (.cells #[.int .i64 t.k, .string t.s, .int .i64 t.n, .int .i64 t.d, .bool t.i, .bool t.h] 73)) t 73 (w.heap.size + 1) (by simp))
  have B0 := hide (bplus (bplus (Below.refl w.heap.size w) (.cells #[.int .i64 t.k, .string t.s, .int .i64 t.n, .int .i64 t.d, .bool t.i, .bool t.h] 73)) (.cells #[.int .i64 t.k, .string t.s, .int .i64 t.n, .int .i64 t.d, .bool t.i, .bool t.h] 73))
  have E1 : spK wt [t] [t].length = wt t := spK_one wt t
  have C := hide (tokens_any wt [t] _ _ TO.out (fun u hu => by rw [List.mem_singleton.1 hu]; exact ho) (fun u hu => by rw [List.mem_singleton.1 hu]; exact hW) (by rw [E1]; exact hby) (by rw [E1]; exact hl9) (hK.below B0.out) (hT.below B0.out))
  clear E1
  clear ho hW hby hl9 hK hT TO
  unfold TS.v tokV
  go_enter Tryz.func147, Tryz.ntmps147
  go_wp2_with (go_at_call 169; refine C.out.mono ?_; intro e w1 hP; obtain ⟨B1, u, c, rfl, H⟩ := hP.uni; clear hP; replace B1 := hide (show Below w.heap.size w w1 from bto B0.out B1))
  go_ret2
  exact .of B1.out rfl H.out
theorem fol_no5 (m : Nat) : ∀ (c lo hi : Int) (k : Nat) (r : List Int), (fol m c lo hi k r).2.2 = false → (fol m c lo hi k r).1 = 65533 := by
  induction m with
  | zero => intro c lo hi k r h; simp [fol] at h
  | succ m ih =>
    intro c lo hi k r
    cases r with
    | nil => simp [fol]
    | cons b r =>
      simp only [fol]
      split
      · simp
      · exact ih _ _ _ _ _
theorem stp_no5 (bs : List Int) (h : (stp bs).2.2 = false) : (stp bs).1 = 65533 := by
  cases bs with
  | nil => rfl
  | cons a r =>
    simp only [stp] at h ⊢
    split at h
    · rename_i q; rw [if_pos q]
    · rename_i q; rw [if_neg q]; exact fol_no5 _ _ _ _ _ _ h
theorem stp_isC5 (bs : List Int) (hb : By bs) (hne : bs ≠ []) : isC (stp bs).1 = true := by
  by_cases h : (stp bs).2.2 = true
  · exact (stp_back bs hb hne h).1
  · rw [stp_no5 bs (by simpa using h)]; rfl
theorem raw_isC5 (n : Nat) : ∀ bs : List Int, bs.length ≤ n → By bs → ∀ x ∈ raw bs, isC x = true := by
  induction n with
  | zero => intro bs h _ x hx; obtain rfl : bs = [] := List.eq_nil_of_length_eq_zero (by omega); rw [raw_nil] at hx; simp at hx
  | succ n ih =>
    intro bs h hb x hx
    by_cases hne : bs = []
    · subst hne; rw [raw_nil] at hx; simp at hx
    · have hs := stp_len bs hne
      rw [raw_cut hne] at hx
      rcases List.mem_cons.1 hx with rfl | hx
      · exact stp_isC5 bs hb hne
      · exact ih _ (by rw [List.length_drop]; omega) (hb.drop _) x hx
theorem hxL_by (n : Nat) : By (hxL n) := by
  induction n using Nat.strongRecOn with
  | _ n ih =>
    by_cases h : n < 16
    · rw [hxL_one h]; intro x hx; rw [List.mem_singleton.1 hx]; exact hd_by n h
    · rw [hxL_big h]
      exact (ih (n / 16) (by omega)).app (fun x hx => by rw [List.mem_singleton.1 hx]; exact hd_by _ (Nat.mod_lt _ (by omega)))
theorem by_cons {x : Int} {l : List Int} (h : 0 ≤ x ∧ x ≤ 255) (hl : By l) : By (x :: l) := fun y hy => by
  rcases List.mem_cons.1 hy with rfl | hy
  · exact h
  · exact hl y hy
theorem by_nil : By [] := fun x hx => by cases hx
theorem esc_by (c : Int) : By (esc c) := by_cons (by omega) ((hxL_by _).app (by_cons (by omega) by_nil))
theorem wLt_by {c : Int} (h : isC c = true) : By (wLt c) := by
  unfold wLt
  split
  · exact esc_by c
  split
  · exact enc1_by h
  · exact by_cons (by omega) (enc1_by h)
theorem hdT_by {c : Int} (h : isC c = true) : By (hdT c) := by
  unfold hdT
  split
  · exact esc_by c
  · exact wLt_by h
theorem wNm_by {l : List Int} (h : ∀ x ∈ l, isC x = true) : By (wNm l) := by
  induction l with
  | nil => exact by_nil
  | cons a r ih =>
    rw [wNm_cons]
    exact (wLt_by (h a (by simp))).app (ih fun x hx => h x (by simp [hx]))
theorem hdT_len (c : Int) : (hdT c).length ≤ 6 := by
  unfold hdT
  split
  · rename_i h; exact esc_len (dig_bd h).1 (dig_bd h).2
  · exact wLt_len c
theorem wId_by (s : ByteArray) : By (wId (bl s)) := by
  unfold wId
  split
  · exact by_cons (by omega) (by_cons (by omega) by_nil)
  · have h := raw_isC5 _ (bl s) (Nat.le_refl _) (bl_by s)
    cases hr : raw (bl s) with
    | nil => exact by_nil
    | cons c r =>
      rw [hr] at h
      show By (hdT c ++ _)
      refine (hdT_by (h c (by simp))).app ?_
      split
      · cases r with
        | nil => exact by_nil
        | cons d q =>
          show By (hdT d ++ _)
          exact (hdT_by (h d (by simp))).app (wNm_by fun x hx => h x (by simp [hx]))
      · exact wNm_by fun x hx => h x (by simp [hx])
theorem wId_len (s : ByteArray) : (wId (bl s)).length ≤ 6 * s.size + 2 := by
  unfold wId
  split
  · simp
  · have h := raw_le (bl s)
    rw [bl_len] at h
    cases hr : raw (bl s) with
    | nil => simp [wId0]
    | cons c r =>
      rw [hr] at h
      have h1 := hdT_len c
      have h2 := wNm_len r
      show (hdT c ++ _).length ≤ _
      rw [List.length_append]
      simp only [List.length_cons] at h
      split
      · cases r with
        | nil => simp [wId1]; omega
        | cons d q =>
          have h3 := hdT_len d
          have h4 := wNm_len q
          show _ + (hdT d ++ _).length ≤ _
          rw [List.length_append]
          simp only [List.length_cons] at h
          omega
      · omega
theorem idT_ok (s : ByteArray) (hs : s.size ≤ 1099511627776) : (idT s).Ok := ⟨by simp [idT], by simp [idT], hs, by simp [idT], by simp [idT], by simp [idT], by simp [idT]⟩
set_option maxRecDepth 100000 in
set_option maxHeartbeats 400000 in
theorem identS_any (s : ByteArray) (w : World) (hs : s.size ≤ 1099511627776) (hK : KT w) (hT : Tabs w) :
    Calls Tryz.prog 146 #[.string s] w fun e w' => PostSp wtI [idT s] w e w' := by
  have C := hide (fun (W : World) (hb : Below w.heap.size w W) => token_any wtI (idT s) W (idT_ok s hs) (fun h => writes_id s hs h) (wId_by s) (by have := wId_len s; show (wId (bl s)).length ≤ _; omega) (hK.below hb) (hT.below hb))
  clear hK hT
  unfold TS.v idT tokV at C
  go_enter Tryz.func146, Tryz.ntmps146
  go_wp2_with (go_at_call 147; refine (C.out _ (by first | exact Below.refl _ _ | exact bplus (Below.refl _ _) _)).mono ?_; intro e w1 hP; obtain ⟨B1, u, c, rfl, H⟩ := hP.uni; clear hP; replace B1 := hide (show Below w.heap.size w w1 from (by first | exact B1 | exact bto (bplus (Below.refl _ _) _) B1)))
  go_ret2
  exact .of B1.out rfl H.out
end Go.Proofs.YtmkbjcoagfnegaaGreatDoor
set_option linter.unusedVariables false
set_option linter.unusedSimpArgs false
namespace Go.Proofs.YtmkbjcoagfnegaaGreatDoor
open Go.RowKit Go.Shelf

set_option maxRecDepth 100000 in
set_option maxHeartbeats 1000000 in
theorem token4_id (s : ByteArray) (w : World) (hs : s.size ≤ 1099511627776) (hT : Tabs w) :
    Calls Tryz.prog 91 #[.agg #[.int .i64 1, .string s, .int .i64 0, .int .i64 0, .bool false, .bool false]] w fun e w' => ∃ u c, e = .returned (.tuple #[.string u, .int .i64 c]) ∧ Hid (Sp2 wtI [idT s] u c) ∧ Below w.heap.size w w' := by
  have TX := hide (Tok6.box w 1 s 0 0 false false 73)
  have B0 := hide (bplus (Below.refl w.heap.size w) (.cells #[.int .i64 1, .string s, .int .i64 0, .int .i64 0, .bool false, .bool false] 73))
  have CM := hide (mayR_any 1 s 0 0 false false (w.alloc (.cells #[.int .i64 1, .string s, .int .i64 0, .int .i64 0, .bool false, .bool false] 73)) hs (by omega) (by omega) (by omega) (by omega) (hT.below B0.out))
  have W1 := hide (fun (W : World) (h : Below w.heap.size w W) => hT.below h)
  clear hT
  unfold tokV at CM
  cases hm : mayT 1 (bl s) 0 0 false false with
  | false =>
    have E := hide hm
    have FIN := hide (show Sp2 wtI [idT s] ⟨#[]⟩ 1 from .inr ⟨⟨idT s, by simp, hm⟩, rfl, rfl⟩)
    clear hm
    go_enter Tryz.func91, Tryz.ntmps91
    go_wp2_with (go_at_call 120; refine CM.out.mono ?_; rintro e w1 ⟨rfl, B1⟩; rw [E.out]; replace B1 := hide (show Below w.heap.size w w1 from bto B0.out B1))
    go_ret2
    exact ⟨_, _, rfl, FIN.out, B1.out⟩
  | true =>
    have E := hide hm
    have FIN := hide (fun (u : ByteArray) (hu : bl u = wId (bl s)) => show Sp2 wtI [idT s] u 0 from .inl ⟨fun t ht => by rw [List.mem_singleton.1 ht]; exact hm, rfl, by rw [hu]; exact (spK_one wtI (idT s)).symm⟩)
    have CI := hide (fun (W : World) (h : Below w.heap.size w W) => ident4_any s W hs (may_id_ch (s := s) hm) (W1.out W h))
    clear hm
    go_enter Tryz.func91, Tryz.ntmps91
    go_wp2_with (first
      | (go_at_call 120; refine CM.out.mono ?_; rintro e w1 ⟨rfl, B1⟩; rw [E.out]; obtain ⟨z1, q0, q1, q2, q3, q4, q5⟩ := TX.out.below B1; replace B1 := hide (show Below w.heap.size w w1 from bto B0.out B1))
      | (go_at_call 122; refine (CI.out _ B1.out).mono ?_; rintro e w2 ⟨u, rfl, hu, B2⟩; replace hu := hide hu; replace B1 := hide (bto B1.out B2)))
    go_ret2
    exact ⟨u, 0, rfl, FIN.out u hu.out, B1.out⟩
end Go.Proofs.YtmkbjcoagfnegaaGreatDoor

