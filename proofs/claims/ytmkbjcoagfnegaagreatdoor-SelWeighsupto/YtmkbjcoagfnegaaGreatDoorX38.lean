/-
  Which tokens may be: by the reference: hashes, signs, numbers.
  Which tokens may be: by the reference: signs, numbers; the whole.
  Which tokens may be: by the reference: dimensions; the whole.
  Which tokens may be, which must stand apart: the law.
-/
import Derived.Test.YtmkbjcoagfnegaaGreatDoorX37
import Derived.Deep.RegionHeld3
set_option linter.unusedVariables false
set_option linter.unusedSimpArgs false
namespace Go.Proofs.YtmkbjcoagfnegaaGreatDoor
open Go.RowKit

set_option maxRecDepth 100000 in
set_option maxHeartbeats 4000000 in
theorem mayR_hash (s : ByteArray) (n d : Int) (i h : Bool) (w : World)  (hs : s.size ≤ 1099511627776) :
    Calls Tryz.prog 120 #[tokV 4 s n d i h] w fun e w' => e = .returned (.bool (mayT 4 (bl s) n d i h)) ∧ Below w.heap.size w w' := by
  have M := hide (may_hash (bl s) n d i h)
  have HR := hide (fun hb hn hw => hash_raw (bl s) hb hn hw)
  unfold tokV
  have CH := hide (fun W => charsR_any s W hs)
  have RE := hide (raw_empty (bl s))
  have EM := hide (emp_iff s)
  go_enter Tryz.func120, Tryz.ntmps120
  go_wp2_with fail
  go_at_call 114
  refine (CH.out _).mono ?_
  rintro e w1 ⟨a, nn, c, rfl, hN, hb⟩
  have R := MR.mk' hb
  clear hb
  have BB := hide R.bel
  have AP := hide R.ap
  obtain ⟨z0, p0, p1, p2, p3, p4, p5⟩ := R.t0
  obtain ⟨z1, q0, q1, q2, q3, q4, q5⟩ := R.t1
  have fr1 := R.fr 1
  have fr5 := R.fr 5
  clear R
  have NL := hide (fun hc => nums_len (hN hc))
  have NN := hide hN
  clear hN
  rcases z_ways n d i h with ⟨x1, x2⟩ | ⟨x1, x3, x2⟩ | ⟨x1, x3, rfl, x2⟩ | ⟨x1, x3, rfl, x2⟩
  case inr.inr.inr =>
    have M2 := hide (show mayT 4 (bl s) n d false h = ((chB (bl s) && !(bl s).isEmpty) && (h || fB (bl s))) by rw [M.out, x2]; rfl)
    cases hc : chB (bl s) with
    | false =>
      have F := hide (show mayT 4 (bl s) n d false h = false by rw [M2.out, hc]; rfl)
      clear hc
      go_wp2
      go_region
      all_goals go_wp2
      all_goals go_ret
      all_goals refine ⟨ret_bool F.out.symm, ?_⟩
      all_goals
        repeat (first | (with_reducible exact BB.out) | (with_reducible refine Below.setCell ?_ (by simp) _) | (with_reducible refine bplus ?_ _) | (with_reducible refine Below.drew ?_) | (with_reducible refine below_drewN ?_ _))
    | true =>
      have hl := NL.out hc
      by_cases he : bl s = []
      · have F := hide (show mayT 4 (bl s) n d false h = false by rw [M2.out, he]; simp)
        have hnn : nn = 0 := by have := RE.out.2 he; omega
        subst hnn
        clear hc hl he
        go_wp2
        go_region
        all_goals go_wp2
        all_goals go_ret
        all_goals refine ⟨ret_bool F.out.symm, ?_⟩
        all_goals
          repeat (first | (with_reducible exact BB.out) | (with_reducible refine Below.setCell ?_ (by simp) _) | (with_reducible refine bplus ?_ _) | (with_reducible refine Below.drew ?_) | (with_reducible refine below_drewN ?_ _))
      · have F0 := hide (show mayT 4 (bl s) n d false h = (h || fB (bl s)) by rw [M2.out, hc]; cases hb : bl s; exact absurd hb he; rfl)
        have hnn : 0 < nn := by
          have : ¬ (raw (bl s)).length = 0 := fun h0 => he (RE.out.1 h0)
          omega
        have hnn' : ((nn : Int) == 0) = false := by simp; omega
        cases h with
        | true =>
          have F := hide (show mayT 4 (bl s) n d false true = true by rw [F0.out]; rfl)
          clear hc hl he
          go_wp2
          go_region
          all_goals go_wp2
          all_goals go_ret
          all_goals refine ⟨ret_bool F.out.symm, ?_⟩
          all_goals
            repeat (first | (with_reducible exact BB.out) | (with_reducible refine Below.setCell ?_ (by simp) _) | (with_reducible refine bplus ?_ _) | (with_reducible refine Below.drew ?_) | (with_reducible refine below_drewN ?_ _))
        | false =>
          have hwh : whole (bl s) = true := by unfold chB at hc; simp at hc; exact hc.1
          have G := hide (show mayT 4 (bl s) n d false false = gB (raw (bl s)) by rw [F0.out, HR.out (bl_by s) he hwh]; rfl)
          rcases NN.out hc with ⟨a', c', hv, hr⟩ | ⟨b, o, m, c', hv, hm, hm0, hbw, hmc, hm9, hc9, hcell⟩
          · simp at hv; omega
          · simp only [Value.slice.injEq] at hv
            obtain ⟨rfl, rfl, rfl⟩ := hv
            have hbn : b ≠ w.heap.size + 1 := fun hb => by
              have := hcell 0 hm0
              rw [hb] at this
              exact AP.out _ _ this
            have l0 := hcell 0 hm0
            rw [Nat.add_zero] at l0
            have e0 : gt (raw (bl s)) 0 = nx (raw (bl s)) 0 := by rw [gt_eq (by omega)]; simp [nx, List.getD_eq_getElem?_getD, List.getElem?_eq_getElem (show 0 < (raw (bl s)).length by omega)]
            rw [e0] at l0
            have GB := hide (show gB (raw (bl s)) = (isDig (nx (raw (bl s)) 0) || ((nx (raw (bl s)) 0 == 45) && (((raw (bl s)).length == 1) || isDig (nx (raw (bl s)) 1)))) from rfl)
            have HM := hide hm
            have l1 : 1 < nn → w1.cell? ⟨b, o + 1, none⟩ = some (.int .i32 (nx (raw (bl s)) 1)) := fun h1 => by
              rw [hcell 1 h1, gt_eq (by omega)]; simp [nx, List.getD_eq_getElem?_getD, List.getElem?_eq_getElem (show 1 < (raw (bl s)).length by omega)]
            have L1 := hide l1
            clear hcell e0 hc hl he hwh hm l1
            generalize nx (raw (bl s)) 0 = u0 at *
            generalize nx (raw (bl s)) 1 = u1 at *
            cases hd0 : isDig u0 with
            | true =>
              have F := hide (show mayT 4 (bl s) n d false false = true by rw [G.out, GB.out, hd0]; rfl)
              have D0 := hide hd0
              clear hd0
              go_wp2
              go_region
              all_goals go_wp2_with (go_at_call 149; refine (digitR_any _ _).mono ?_; rintro e2 w2 ⟨rfl, rfl⟩; rw [D0.out])
              all_goals go_ret
              all_goals refine ⟨ret_bool F.out.symm, ?_⟩
              all_goals
                repeat (first | (with_reducible exact BB.out) | (with_reducible refine Below.setCell ?_ (by simp) _) | (with_reducible refine bplus ?_ _) | (with_reducible refine Below.drew ?_) | (with_reducible refine below_drewN ?_ _))
            | false =>
              have D0 := hide hd0
              by_cases h45 : u0 = 45
              · have h45' : (u0 == 45) = true := by simpa using h45
                by_cases hn1 : nn = 1
                · subst hn1
                  have F := hide (show mayT 4 (bl s) n d false false = true by rw [G.out, GB.out, hd0, h45', ← HM.out]; rfl)
                  clear hd0 h45
                  go_wp2
                  go_region
                  all_goals go_wp2_with (go_at_call 149; refine (digitR_any _ _).mono ?_; rintro e2 w2 ⟨rfl, rfl⟩; rw [D0.out])
                  all_goals go_ret
                  all_goals refine ⟨ret_bool F.out.symm, ?_⟩
                  all_goals
                    repeat (first | (with_reducible exact BB.out) | (with_reducible refine Below.setCell ?_ (by simp) _) | (with_reducible refine bplus ?_ _) | (with_reducible refine Below.drew ?_) | (with_reducible refine below_drewN ?_ _))
                · have F := hide (show mayT 4 (bl s) n d false false = isDig u1 by
                    have : ((raw (bl s)).length == 1) = false := by rw [← HM.out]; simpa using hn1
                    rw [G.out, GB.out, hd0, h45', this]; rfl)
                  have l1 := L1.out (by omega)
                  have hn1' : ((nn : Int) == 1) = false := by simp; omega
                  have hi1 : (1 : Int) < nn := by omega
                  by_cases hu : u1 = u0
                  · have F2 := hide (show mayT 4 (bl s) n d false false = false by rw [F.out, hu, hd0])
                    subst hu
                    clear hd0 h45 F
                    go_wp2
                    go_region
                    all_goals go_wp2_with (go_at_call 149; refine (digitR_any _ _).mono ?_; rintro e2 w2 ⟨rfl, rfl⟩; rw [D0.out])
                    all_goals go_ret
                    all_goals refine ⟨ret_bool F2.out.symm, ?_⟩
                    all_goals
                      repeat (first | (with_reducible exact BB.out) | (with_reducible refine Below.setCell ?_ (by simp) _) | (with_reducible refine bplus ?_ _) | (with_reducible refine Below.drew ?_) | (with_reducible refine below_drewN ?_ _))
                  · clear hd0 h45
                    go_wp2
                    go_region
                    all_goals go_wp2_with (first | (go_at_call_of 149 (Value.int IntKind.i32 u0); refine (digitR_any _ _).mono ?_; rintro e2 w2 ⟨rfl, rfl⟩; rw [D0.out]) | (go_at_call 149; refine (digitR_any u1 _).mono ?_; rintro e2 w2 ⟨rfl, rfl⟩))
                    all_goals go_ret
                    all_goals refine ⟨ret_bool F.out.symm, ?_⟩
                    all_goals
                      repeat (first | (with_reducible exact BB.out) | (with_reducible refine Below.setCell ?_ (by simp) _) | (with_reducible refine bplus ?_ _) | (with_reducible refine Below.drew ?_) | (with_reducible refine below_drewN ?_ _))
              · have h45' : (u0 == 45) = false := by simpa using h45
                have F := hide (show mayT 4 (bl s) n d false false = false by rw [G.out, GB.out, hd0, h45']; rfl)
                clear hd0 h45
                go_wp2
                go_region
                all_goals go_wp2_with (go_at_call 149; refine (digitR_any _ _).mono ?_; rintro e2 w2 ⟨rfl, rfl⟩; rw [D0.out])
                all_goals go_ret
                all_goals refine ⟨ret_bool F.out.symm, ?_⟩
                all_goals
                  repeat (first | (with_reducible exact BB.out) | (with_reducible refine Below.setCell ?_ (by simp) _) | (with_reducible refine bplus ?_ _) | (with_reducible refine Below.drew ?_) | (with_reducible refine below_drewN ?_ _))
  all_goals
    have F := hide (M.out.trans (by rw [x2, Bool.false_and]))
    go_wp2
    go_region
    all_goals go_wp2
    all_goals go_ret
    all_goals refine ⟨ret_bool F.out.symm, ?_⟩
    all_goals
      repeat (first | (with_reducible exact BB.out) | (with_reducible refine Below.setCell ?_ (by simp) _) | (with_reducible refine bplus ?_ _) | (with_reducible refine Below.drew ?_) | (with_reducible refine below_drewN ?_ _))
end Go.Proofs.YtmkbjcoagfnegaaGreatDoor
set_option linter.unusedVariables false
set_option linter.unusedSimpArgs false
namespace Go.Proofs.YtmkbjcoagfnegaaGreatDoor
open Go.RowKit

set_option maxRecDepth 100000 in
set_option maxHeartbeats 4000000 in
theorem mayR_delim (s : ByteArray) (n d : Int) (i h : Bool) (w : World)  (hs : s.size ≤ 1099511627776) :
    Calls Tryz.prog 120 #[tokV 9 s n d i h] w fun e w' => e = .returned (.bool (mayT 9 (bl s) n d i h)) ∧ Below w.heap.size w w' := by
  have M := hide (may_delim (bl s) n d i h)
  have CD := hide (fun W => delimR_any s W (by omega))
  unfold tokV
  have CH := hide (fun W => charsR_any s W hs)
  have RE := hide (raw_empty (bl s))
  have EM := hide (emp_iff s)
  go_enter Tryz.func120, Tryz.ntmps120
  go_wp2_with fail
  go_at_call 114
  refine (CH.out _).mono ?_
  rintro e w1 ⟨a, nn, c, rfl, hN, hb⟩
  have R := MR.mk' hb
  clear hb
  have BB := hide R.bel
  have AP := hide R.ap
  obtain ⟨z0, p0, p1, p2, p3, p4, p5⟩ := R.t0
  obtain ⟨z1, q0, q1, q2, q3, q4, q5⟩ := R.t1
  have fr1 := R.fr 1
  clear R
  have NL := hide (fun hc => nums_len (hN hc))
  clear hN
  rcases z_ways n d i h with ⟨x1, x2⟩ | ⟨x1, x3, x2⟩ | ⟨x1, x3, rfl, x2⟩ | ⟨x1, x3, rfl, x2⟩
  case inr.inr.inr =>
    cases h with
    | true =>
      have F := hide (show mayT 9 (bl s) n d false true = false by rw [M.out]; simp)
      go_wp2
      go_ret
      refine ⟨ret_bool F.out.symm, ?_⟩
      repeat (first | (with_reducible exact BB.out) | (with_reducible refine Below.setCell ?_ (by simp) _) | (with_reducible refine bplus ?_ _) | (with_reducible refine Below.drew ?_) | (with_reducible refine below_drewN ?_ _))
    | false =>
      have F := hide (show mayT 9 (bl s) n d false false = dlB (bl s) by rw [M.out, x2]; rfl)
      go_wp2_with (go_at_call 150; refine (CD.out _).mono ?_; rintro e2 w2 ⟨rfl, rfl⟩)
      go_ret
      refine ⟨ret_bool F.out.symm, ?_⟩
      repeat (first | (with_reducible exact BB.out) | (with_reducible refine Below.setCell ?_ (by simp) _) | (with_reducible refine bplus ?_ _) | (with_reducible refine Below.drew ?_) | (with_reducible refine below_drewN ?_ _))
  all_goals
    have F := hide (M.out.trans (by rw [x2, Bool.false_and, Bool.false_and]))
    go_wp2
    go_ret
    refine ⟨ret_bool F.out.symm, ?_⟩
    repeat (first | (with_reducible exact BB.out) | (with_reducible refine Below.setCell ?_ (by simp) _) | (with_reducible refine bplus ?_ _) | (with_reducible refine Below.drew ?_) | (with_reducible refine below_drewN ?_ _))
set_option maxRecDepth 100000 in
set_option maxHeartbeats 4000000 in
theorem mayR_num (k : Int) (s : ByteArray) (n d : Int) (i h : Bool) (w : World) (hk : k = 10 ∨ k = 11) (hs : s.size ≤ 1099511627776) (n1 : -9223372036854775808 ≤ n) (n2 : n ≤ 9223372036854775807) (d1 : -9223372036854775808 ≤ d) (d2 : d ≤ 9223372036854775807) (hT : Tabs w) :
    Calls Tryz.prog 120 #[tokV k s n d i h] w fun e w' => e = .returned (.bool (mayT k (bl s) n d i h)) ∧ Below w.heap.size w w' := by
  have M := hide (may_num hk (bl s) n d i h)
  have W1 := hide (fun (W : World) (h : Below w.heap.size w W) => hT.below h)
  have C := hide (fun (W : World) (h : Below w.heap.size w W) => plainR_any n d i W n1 n2 d1 d2 (W1.out W h))
  unfold tokV
  have CH := hide (fun W => charsR_any s W hs)
  have RE := hide (raw_empty (bl s))
  have EM := hide (emp_iff s)
  go_enter Tryz.func120, Tryz.ntmps120
  go_wp2_with fail
  go_at_call 114
  refine (CH.out _).mono ?_
  rintro e w1 ⟨a, nn, c, rfl, hN, hb⟩
  have R := MR.mk' hb
  clear hb
  have BB := hide R.bel
  have AP := hide R.ap
  obtain ⟨z0, p0, p1, p2, p3, p4, p5⟩ := R.t0
  obtain ⟨z1, q0, q1, q2, q3, q4, q5⟩ := R.t1
  have fr2 := R.fr 2
  have fr3 := R.fr 3
  have fr4 := R.fr 4
  clear R
  have NL := hide (fun hc => nums_len (hN hc))
  clear hN
  cases he : s.toList.isEmpty with
  | false =>
    have F := hide (show mayT k (bl s) n d i h = false by rw [M.out, EM.out, he]; rfl)
    have hse : (s.toList == []) = false := by
      cases hq : s.toList with
      | nil => rw [hq] at he; cases he
      | cons c r => rfl
    rcases hk with rfl | rfl
    · go_wp2
      go_region
      go_wp2_with fail
      go_at_call 121
      refine (C.out _ (by repeat (first | (with_reducible exact BB.out) | (with_reducible refine Below.setCell ?_ (by simp) _) | (with_reducible refine bplus ?_ _) | (with_reducible refine Below.drew ?_) | (with_reducible refine below_drewN ?_ _)))).mono ?_
      rintro e2 w2 ⟨ps, px, rfl, PP, B2⟩
      have r0 : w2.cell? ⟨w.heap.size, 0, none⟩ = some (.int .i64 10) := (by rw [B2.cell (p := ⟨w.heap.size, 0, none⟩) (by simp; omega)]; simp [go_sem, p0])
      have t0 : w2.cell? ⟨w.heap.size + 1, 0, none⟩ = some (.int .i64 10) := (by rw [B2.cell (p := ⟨w.heap.size + 1, 0, none⟩) (by simp; omega)]; simp [go_sem, q0, q1, q2, q3, q4, q5])
      have r1 : w2.cell? ⟨w.heap.size, 1, none⟩ = some (.string s) := (by rw [B2.cell (p := ⟨w.heap.size, 1, none⟩) (by simp; omega)]; simp [go_sem, p1])
      have t1 : w2.cell? ⟨w.heap.size + 1, 1, none⟩ = some (.string ⟨#[]⟩) := (by rw [B2.cell (p := ⟨w.heap.size + 1, 1, none⟩) (by simp; omega)]; simp [go_sem, q0, q1, q2, q3, q4, q5])
      have r2 : w2.cell? ⟨w.heap.size, 2, none⟩ = some (.int .i64 n) := (by rw [B2.cell (p := ⟨w.heap.size, 2, none⟩) (by simp; omega)]; simp [go_sem, p2])
      have t2 : w2.cell? ⟨w.heap.size + 1, 2, none⟩ = some (.int .i64 n) := (by rw [B2.cell (p := ⟨w.heap.size + 1, 2, none⟩) (by simp; omega)]; simp [go_sem, q0, q1, q2, q3, q4, q5])
      have r3 : w2.cell? ⟨w.heap.size, 3, none⟩ = some (.int .i64 d) := (by rw [B2.cell (p := ⟨w.heap.size, 3, none⟩) (by simp; omega)]; simp [go_sem, p3])
      have t3 : w2.cell? ⟨w.heap.size + 1, 3, none⟩ = some (.int .i64 d) := (by rw [B2.cell (p := ⟨w.heap.size + 1, 3, none⟩) (by simp; omega)]; simp [go_sem, q0, q1, q2, q3, q4, q5])
      have r4 : w2.cell? ⟨w.heap.size, 4, none⟩ = some (.bool i) := (by rw [B2.cell (p := ⟨w.heap.size, 4, none⟩) (by simp; omega)]; simp [go_sem, p4])
      have t4 : w2.cell? ⟨w.heap.size + 1, 4, none⟩ = some (.bool i) := (by rw [B2.cell (p := ⟨w.heap.size + 1, 4, none⟩) (by simp; omega)]; simp [go_sem, q0, q1, q2, q3, q4, q5])
      have r5 : w2.cell? ⟨w.heap.size, 5, none⟩ = some (.bool h) := (by rw [B2.cell (p := ⟨w.heap.size, 5, none⟩) (by simp; omega)]; simp [go_sem, p5])
      have t5 : w2.cell? ⟨w.heap.size + 1, 5, none⟩ = some (.bool false) := (by rw [B2.cell (p := ⟨w.heap.size + 1, 5, none⟩) (by simp; omega)]; simp [go_sem, q0, q1, q2, q3, q4, q5])
      have Q := hide (plR_ok PP)
      clear PP
      replace BB := hide (show Below w.heap.size w w2 from bto (by repeat (first | (with_reducible exact BB.out) | (with_reducible refine Below.setCell ?_ (by simp) _) | (with_reducible refine bplus ?_ _) | (with_reducible refine Below.drew ?_) | (with_reducible refine below_drewN ?_ _))) B2)
      go_wp2
      go_ret
      exact ⟨ret_bool (F.out.symm), BB.out⟩
    · go_wp2
      go_region
      go_wp2_with fail
      go_at_call 121
      refine (C.out _ (by repeat (first | (with_reducible exact BB.out) | (with_reducible refine Below.setCell ?_ (by simp) _) | (with_reducible refine bplus ?_ _) | (with_reducible refine Below.drew ?_) | (with_reducible refine below_drewN ?_ _)))).mono ?_
      rintro e2 w2 ⟨ps, px, rfl, PP, B2⟩
      have r0 : w2.cell? ⟨w.heap.size, 0, none⟩ = some (.int .i64 11) := (by rw [B2.cell (p := ⟨w.heap.size, 0, none⟩) (by simp; omega)]; simp [go_sem, p0])
      have t0 : w2.cell? ⟨w.heap.size + 1, 0, none⟩ = some (.int .i64 11) := (by rw [B2.cell (p := ⟨w.heap.size + 1, 0, none⟩) (by simp; omega)]; simp [go_sem, q0, q1, q2, q3, q4, q5])
      have r1 : w2.cell? ⟨w.heap.size, 1, none⟩ = some (.string s) := (by rw [B2.cell (p := ⟨w.heap.size, 1, none⟩) (by simp; omega)]; simp [go_sem, p1])
      have t1 : w2.cell? ⟨w.heap.size + 1, 1, none⟩ = some (.string ⟨#[]⟩) := (by rw [B2.cell (p := ⟨w.heap.size + 1, 1, none⟩) (by simp; omega)]; simp [go_sem, q0, q1, q2, q3, q4, q5])
      have r2 : w2.cell? ⟨w.heap.size, 2, none⟩ = some (.int .i64 n) := (by rw [B2.cell (p := ⟨w.heap.size, 2, none⟩) (by simp; omega)]; simp [go_sem, p2])
      have t2 : w2.cell? ⟨w.heap.size + 1, 2, none⟩ = some (.int .i64 n) := (by rw [B2.cell (p := ⟨w.heap.size + 1, 2, none⟩) (by simp; omega)]; simp [go_sem, q0, q1, q2, q3, q4, q5])
      have r3 : w2.cell? ⟨w.heap.size, 3, none⟩ = some (.int .i64 d) := (by rw [B2.cell (p := ⟨w.heap.size, 3, none⟩) (by simp; omega)]; simp [go_sem, p3])
      have t3 : w2.cell? ⟨w.heap.size + 1, 3, none⟩ = some (.int .i64 d) := (by rw [B2.cell (p := ⟨w.heap.size + 1, 3, none⟩) (by simp; omega)]; simp [go_sem, q0, q1, q2, q3, q4, q5])
      have r4 : w2.cell? ⟨w.heap.size, 4, none⟩ = some (.bool i) := (by rw [B2.cell (p := ⟨w.heap.size, 4, none⟩) (by simp; omega)]; simp [go_sem, p4])
      have t4 : w2.cell? ⟨w.heap.size + 1, 4, none⟩ = some (.bool i) := (by rw [B2.cell (p := ⟨w.heap.size + 1, 4, none⟩) (by simp; omega)]; simp [go_sem, q0, q1, q2, q3, q4, q5])
      have r5 : w2.cell? ⟨w.heap.size, 5, none⟩ = some (.bool h) := (by rw [B2.cell (p := ⟨w.heap.size, 5, none⟩) (by simp; omega)]; simp [go_sem, p5])
      have t5 : w2.cell? ⟨w.heap.size + 1, 5, none⟩ = some (.bool false) := (by rw [B2.cell (p := ⟨w.heap.size + 1, 5, none⟩) (by simp; omega)]; simp [go_sem, q0, q1, q2, q3, q4, q5])
      have Q := hide (plR_ok PP)
      clear PP
      replace BB := hide (show Below w.heap.size w w2 from bto (by repeat (first | (with_reducible exact BB.out) | (with_reducible refine Below.setCell ?_ (by simp) _) | (with_reducible refine bplus ?_ _) | (with_reducible refine Below.drew ?_) | (with_reducible refine below_drewN ?_ _))) B2)
      go_wp2
      go_ret
      exact ⟨ret_bool (F.out.symm), BB.out⟩
  | true =>
    cases h with
    | true =>
      have F := hide (show mayT k (bl s) n d i true = false by rw [M.out]; simp)
      rcases hk with rfl | rfl
      · go_wp2
        go_region
        go_wp2_with fail
        go_at_call 121
        refine (C.out _ (by repeat (first | (with_reducible exact BB.out) | (with_reducible refine Below.setCell ?_ (by simp) _) | (with_reducible refine bplus ?_ _) | (with_reducible refine Below.drew ?_) | (with_reducible refine below_drewN ?_ _)))).mono ?_
        rintro e2 w2 ⟨ps, px, rfl, PP, B2⟩
        have r0 : w2.cell? ⟨w.heap.size, 0, none⟩ = some (.int .i64 10) := (by rw [B2.cell (p := ⟨w.heap.size, 0, none⟩) (by simp; omega)]; simp [go_sem, p0])
        have t0 : w2.cell? ⟨w.heap.size + 1, 0, none⟩ = some (.int .i64 10) := (by rw [B2.cell (p := ⟨w.heap.size + 1, 0, none⟩) (by simp; omega)]; simp [go_sem, q0, q1, q2, q3, q4, q5])
        have r1 : w2.cell? ⟨w.heap.size, 1, none⟩ = some (.string s) := (by rw [B2.cell (p := ⟨w.heap.size, 1, none⟩) (by simp; omega)]; simp [go_sem, p1])
        have t1 : w2.cell? ⟨w.heap.size + 1, 1, none⟩ = some (.string ⟨#[]⟩) := (by rw [B2.cell (p := ⟨w.heap.size + 1, 1, none⟩) (by simp; omega)]; simp [go_sem, q0, q1, q2, q3, q4, q5])
        have r2 : w2.cell? ⟨w.heap.size, 2, none⟩ = some (.int .i64 n) := (by rw [B2.cell (p := ⟨w.heap.size, 2, none⟩) (by simp; omega)]; simp [go_sem, p2])
        have t2 : w2.cell? ⟨w.heap.size + 1, 2, none⟩ = some (.int .i64 n) := (by rw [B2.cell (p := ⟨w.heap.size + 1, 2, none⟩) (by simp; omega)]; simp [go_sem, q0, q1, q2, q3, q4, q5])
        have r3 : w2.cell? ⟨w.heap.size, 3, none⟩ = some (.int .i64 d) := (by rw [B2.cell (p := ⟨w.heap.size, 3, none⟩) (by simp; omega)]; simp [go_sem, p3])
        have t3 : w2.cell? ⟨w.heap.size + 1, 3, none⟩ = some (.int .i64 d) := (by rw [B2.cell (p := ⟨w.heap.size + 1, 3, none⟩) (by simp; omega)]; simp [go_sem, q0, q1, q2, q3, q4, q5])
        have r4 : w2.cell? ⟨w.heap.size, 4, none⟩ = some (.bool i) := (by rw [B2.cell (p := ⟨w.heap.size, 4, none⟩) (by simp; omega)]; simp [go_sem, p4])
        have t4 : w2.cell? ⟨w.heap.size + 1, 4, none⟩ = some (.bool i) := (by rw [B2.cell (p := ⟨w.heap.size + 1, 4, none⟩) (by simp; omega)]; simp [go_sem, q0, q1, q2, q3, q4, q5])
        have r5 : w2.cell? ⟨w.heap.size, 5, none⟩ = some (.bool true) := (by rw [B2.cell (p := ⟨w.heap.size, 5, none⟩) (by simp; omega)]; simp [go_sem, p5])
        have t5 : w2.cell? ⟨w.heap.size + 1, 5, none⟩ = some (.bool false) := (by rw [B2.cell (p := ⟨w.heap.size + 1, 5, none⟩) (by simp; omega)]; simp [go_sem, q0, q1, q2, q3, q4, q5])
        have Q := hide (plR_ok PP)
        clear PP
        replace BB := hide (show Below w.heap.size w w2 from bto (by repeat (first | (with_reducible exact BB.out) | (with_reducible refine Below.setCell ?_ (by simp) _) | (with_reducible refine bplus ?_ _) | (with_reducible refine Below.drew ?_) | (with_reducible refine below_drewN ?_ _))) B2)
        go_wp2
        go_ret
        exact ⟨ret_bool (F.out.symm), BB.out⟩
      · go_wp2
        go_region
        go_wp2_with fail
        go_at_call 121
        refine (C.out _ (by repeat (first | (with_reducible exact BB.out) | (with_reducible refine Below.setCell ?_ (by simp) _) | (with_reducible refine bplus ?_ _) | (with_reducible refine Below.drew ?_) | (with_reducible refine below_drewN ?_ _)))).mono ?_
        rintro e2 w2 ⟨ps, px, rfl, PP, B2⟩
        have r0 : w2.cell? ⟨w.heap.size, 0, none⟩ = some (.int .i64 11) := (by rw [B2.cell (p := ⟨w.heap.size, 0, none⟩) (by simp; omega)]; simp [go_sem, p0])
        have t0 : w2.cell? ⟨w.heap.size + 1, 0, none⟩ = some (.int .i64 11) := (by rw [B2.cell (p := ⟨w.heap.size + 1, 0, none⟩) (by simp; omega)]; simp [go_sem, q0, q1, q2, q3, q4, q5])
        have r1 : w2.cell? ⟨w.heap.size, 1, none⟩ = some (.string s) := (by rw [B2.cell (p := ⟨w.heap.size, 1, none⟩) (by simp; omega)]; simp [go_sem, p1])
        have t1 : w2.cell? ⟨w.heap.size + 1, 1, none⟩ = some (.string ⟨#[]⟩) := (by rw [B2.cell (p := ⟨w.heap.size + 1, 1, none⟩) (by simp; omega)]; simp [go_sem, q0, q1, q2, q3, q4, q5])
        have r2 : w2.cell? ⟨w.heap.size, 2, none⟩ = some (.int .i64 n) := (by rw [B2.cell (p := ⟨w.heap.size, 2, none⟩) (by simp; omega)]; simp [go_sem, p2])
        have t2 : w2.cell? ⟨w.heap.size + 1, 2, none⟩ = some (.int .i64 n) := (by rw [B2.cell (p := ⟨w.heap.size + 1, 2, none⟩) (by simp; omega)]; simp [go_sem, q0, q1, q2, q3, q4, q5])
        have r3 : w2.cell? ⟨w.heap.size, 3, none⟩ = some (.int .i64 d) := (by rw [B2.cell (p := ⟨w.heap.size, 3, none⟩) (by simp; omega)]; simp [go_sem, p3])
        have t3 : w2.cell? ⟨w.heap.size + 1, 3, none⟩ = some (.int .i64 d) := (by rw [B2.cell (p := ⟨w.heap.size + 1, 3, none⟩) (by simp; omega)]; simp [go_sem, q0, q1, q2, q3, q4, q5])
        have r4 : w2.cell? ⟨w.heap.size, 4, none⟩ = some (.bool i) := (by rw [B2.cell (p := ⟨w.heap.size, 4, none⟩) (by simp; omega)]; simp [go_sem, p4])
        have t4 : w2.cell? ⟨w.heap.size + 1, 4, none⟩ = some (.bool i) := (by rw [B2.cell (p := ⟨w.heap.size + 1, 4, none⟩) (by simp; omega)]; simp [go_sem, q0, q1, q2, q3, q4, q5])
        have r5 : w2.cell? ⟨w.heap.size, 5, none⟩ = some (.bool true) := (by rw [B2.cell (p := ⟨w.heap.size, 5, none⟩) (by simp; omega)]; simp [go_sem, p5])
        have t5 : w2.cell? ⟨w.heap.size + 1, 5, none⟩ = some (.bool false) := (by rw [B2.cell (p := ⟨w.heap.size + 1, 5, none⟩) (by simp; omega)]; simp [go_sem, q0, q1, q2, q3, q4, q5])
        have Q := hide (plR_ok PP)
        clear PP
        replace BB := hide (show Below w.heap.size w w2 from bto (by repeat (first | (with_reducible exact BB.out) | (with_reducible refine Below.setCell ?_ (by simp) _) | (with_reducible refine bplus ?_ _) | (with_reducible refine Below.drew ?_) | (with_reducible refine below_drewN ?_ _))) B2)
        go_wp2
        go_ret
        exact ⟨ret_bool (F.out.symm), BB.out⟩
    | false =>
      have F := hide (show mayT k (bl s) n d i false = (plT n d i).isSome by rw [M.out, EM.out, he]; rfl)
      rcases hk with rfl | rfl
      · go_wp2
        go_region
        go_wp2_with fail
        go_at_call 121
        refine (C.out _ (by repeat (first | (with_reducible exact BB.out) | (with_reducible refine Below.setCell ?_ (by simp) _) | (with_reducible refine bplus ?_ _) | (with_reducible refine Below.drew ?_) | (with_reducible refine below_drewN ?_ _)))).mono ?_
        rintro e2 w2 ⟨ps, px, rfl, PP, B2⟩
        have r0 : w2.cell? ⟨w.heap.size, 0, none⟩ = some (.int .i64 10) := (by rw [B2.cell (p := ⟨w.heap.size, 0, none⟩) (by simp; omega)]; simp [go_sem, p0])
        have t0 : w2.cell? ⟨w.heap.size + 1, 0, none⟩ = some (.int .i64 10) := (by rw [B2.cell (p := ⟨w.heap.size + 1, 0, none⟩) (by simp; omega)]; simp [go_sem, q0, q1, q2, q3, q4, q5])
        have r1 : w2.cell? ⟨w.heap.size, 1, none⟩ = some (.string s) := (by rw [B2.cell (p := ⟨w.heap.size, 1, none⟩) (by simp; omega)]; simp [go_sem, p1])
        have t1 : w2.cell? ⟨w.heap.size + 1, 1, none⟩ = some (.string ⟨#[]⟩) := (by rw [B2.cell (p := ⟨w.heap.size + 1, 1, none⟩) (by simp; omega)]; simp [go_sem, q0, q1, q2, q3, q4, q5])
        have r2 : w2.cell? ⟨w.heap.size, 2, none⟩ = some (.int .i64 n) := (by rw [B2.cell (p := ⟨w.heap.size, 2, none⟩) (by simp; omega)]; simp [go_sem, p2])
        have t2 : w2.cell? ⟨w.heap.size + 1, 2, none⟩ = some (.int .i64 n) := (by rw [B2.cell (p := ⟨w.heap.size + 1, 2, none⟩) (by simp; omega)]; simp [go_sem, q0, q1, q2, q3, q4, q5])
        have r3 : w2.cell? ⟨w.heap.size, 3, none⟩ = some (.int .i64 d) := (by rw [B2.cell (p := ⟨w.heap.size, 3, none⟩) (by simp; omega)]; simp [go_sem, p3])
        have t3 : w2.cell? ⟨w.heap.size + 1, 3, none⟩ = some (.int .i64 d) := (by rw [B2.cell (p := ⟨w.heap.size + 1, 3, none⟩) (by simp; omega)]; simp [go_sem, q0, q1, q2, q3, q4, q5])
        have r4 : w2.cell? ⟨w.heap.size, 4, none⟩ = some (.bool i) := (by rw [B2.cell (p := ⟨w.heap.size, 4, none⟩) (by simp; omega)]; simp [go_sem, p4])
        have t4 : w2.cell? ⟨w.heap.size + 1, 4, none⟩ = some (.bool i) := (by rw [B2.cell (p := ⟨w.heap.size + 1, 4, none⟩) (by simp; omega)]; simp [go_sem, q0, q1, q2, q3, q4, q5])
        have r5 : w2.cell? ⟨w.heap.size, 5, none⟩ = some (.bool false) := (by rw [B2.cell (p := ⟨w.heap.size, 5, none⟩) (by simp; omega)]; simp [go_sem, p5])
        have t5 : w2.cell? ⟨w.heap.size + 1, 5, none⟩ = some (.bool false) := (by rw [B2.cell (p := ⟨w.heap.size + 1, 5, none⟩) (by simp; omega)]; simp [go_sem, q0, q1, q2, q3, q4, q5])
        have Q := hide (plR_ok PP)
        clear PP
        replace BB := hide (show Below w.heap.size w w2 from bto (by repeat (first | (with_reducible exact BB.out) | (with_reducible refine Below.setCell ?_ (by simp) _) | (with_reducible refine bplus ?_ _) | (with_reducible refine Below.drew ?_) | (with_reducible refine below_drewN ?_ _))) B2)
        go_wp2
        go_ret
        exact ⟨ret_bool (by rw [F.out, ← Q.out]), BB.out⟩
      · go_wp2
        go_region
        go_wp2_with fail
        go_at_call 121
        refine (C.out _ (by repeat (first | (with_reducible exact BB.out) | (with_reducible refine Below.setCell ?_ (by simp) _) | (with_reducible refine bplus ?_ _) | (with_reducible refine Below.drew ?_) | (with_reducible refine below_drewN ?_ _)))).mono ?_
        rintro e2 w2 ⟨ps, px, rfl, PP, B2⟩
        have r0 : w2.cell? ⟨w.heap.size, 0, none⟩ = some (.int .i64 11) := (by rw [B2.cell (p := ⟨w.heap.size, 0, none⟩) (by simp; omega)]; simp [go_sem, p0])
        have t0 : w2.cell? ⟨w.heap.size + 1, 0, none⟩ = some (.int .i64 11) := (by rw [B2.cell (p := ⟨w.heap.size + 1, 0, none⟩) (by simp; omega)]; simp [go_sem, q0, q1, q2, q3, q4, q5])
        have r1 : w2.cell? ⟨w.heap.size, 1, none⟩ = some (.string s) := (by rw [B2.cell (p := ⟨w.heap.size, 1, none⟩) (by simp; omega)]; simp [go_sem, p1])
        have t1 : w2.cell? ⟨w.heap.size + 1, 1, none⟩ = some (.string ⟨#[]⟩) := (by rw [B2.cell (p := ⟨w.heap.size + 1, 1, none⟩) (by simp; omega)]; simp [go_sem, q0, q1, q2, q3, q4, q5])
        have r2 : w2.cell? ⟨w.heap.size, 2, none⟩ = some (.int .i64 n) := (by rw [B2.cell (p := ⟨w.heap.size, 2, none⟩) (by simp; omega)]; simp [go_sem, p2])
        have t2 : w2.cell? ⟨w.heap.size + 1, 2, none⟩ = some (.int .i64 n) := (by rw [B2.cell (p := ⟨w.heap.size + 1, 2, none⟩) (by simp; omega)]; simp [go_sem, q0, q1, q2, q3, q4, q5])
        have r3 : w2.cell? ⟨w.heap.size, 3, none⟩ = some (.int .i64 d) := (by rw [B2.cell (p := ⟨w.heap.size, 3, none⟩) (by simp; omega)]; simp [go_sem, p3])
        have t3 : w2.cell? ⟨w.heap.size + 1, 3, none⟩ = some (.int .i64 d) := (by rw [B2.cell (p := ⟨w.heap.size + 1, 3, none⟩) (by simp; omega)]; simp [go_sem, q0, q1, q2, q3, q4, q5])
        have r4 : w2.cell? ⟨w.heap.size, 4, none⟩ = some (.bool i) := (by rw [B2.cell (p := ⟨w.heap.size, 4, none⟩) (by simp; omega)]; simp [go_sem, p4])
        have t4 : w2.cell? ⟨w.heap.size + 1, 4, none⟩ = some (.bool i) := (by rw [B2.cell (p := ⟨w.heap.size + 1, 4, none⟩) (by simp; omega)]; simp [go_sem, q0, q1, q2, q3, q4, q5])
        have r5 : w2.cell? ⟨w.heap.size, 5, none⟩ = some (.bool false) := (by rw [B2.cell (p := ⟨w.heap.size, 5, none⟩) (by simp; omega)]; simp [go_sem, p5])
        have t5 : w2.cell? ⟨w.heap.size + 1, 5, none⟩ = some (.bool false) := (by rw [B2.cell (p := ⟨w.heap.size + 1, 5, none⟩) (by simp; omega)]; simp [go_sem, q0, q1, q2, q3, q4, q5])
        have Q := hide (plR_ok PP)
        clear PP
        replace BB := hide (show Below w.heap.size w w2 from bto (by repeat (first | (with_reducible exact BB.out) | (with_reducible refine Below.setCell ?_ (by simp) _) | (with_reducible refine bplus ?_ _) | (with_reducible refine Below.drew ?_) | (with_reducible refine below_drewN ?_ _))) B2)
        go_wp2
        go_ret
        exact ⟨ret_bool (by rw [F.out, ← Q.out]), BB.out⟩
end Go.Proofs.YtmkbjcoagfnegaaGreatDoor
set_option linter.unusedVariables false
set_option linter.unusedSimpArgs false
namespace Go.Proofs.YtmkbjcoagfnegaaGreatDoor
open Go.RowKit

set_option maxRecDepth 100000 in
set_option maxHeartbeats 4000000 in
theorem mayR_dim (s : ByteArray) (n d : Int) (i h : Bool) (w : World) (hs : s.size ≤ 1099511627776) (n1 : -9223372036854775808 ≤ n) (n2 : n ≤ 9223372036854775807) (d1 : -9223372036854775808 ≤ d) (d2 : d ≤ 9223372036854775807) (hT : Tabs w) :
    Calls Tryz.prog 120 #[tokV 12 s n d i h] w fun e w' => e = .returned (.bool (mayT 12 (bl s) n d i h)) ∧ Below w.heap.size w w' := by
  have M := hide (may_dim (bl s) n d i h)
  have W1 := hide (fun (W : World) (h : Below w.heap.size w W) => hT.below h)
  have C := hide (fun (W : World) (h : Below w.heap.size w W) => plainR_any n d i W n1 n2 d1 d2 (W1.out W h))
  unfold tokV
  have CH := hide (fun W => charsR_any s W hs)
  have RE := hide (raw_empty (bl s))
  have EM := hide (emp_iff s)
  go_enter Tryz.func120, Tryz.ntmps120
  go_wp2_with fail
  go_at_call 114
  refine (CH.out _).mono ?_
  rintro e w1 ⟨a, nn, c, rfl, hN, hb⟩
  have R := MR.mk' hb
  clear hb
  have BB := hide R.bel
  have AP := hide R.ap
  obtain ⟨z0, p0, p1, p2, p3, p4, p5⟩ := R.t0
  obtain ⟨z1, q0, q1, q2, q3, q4, q5⟩ := R.t1
  have fr1 := R.fr 1
  have fr2 := R.fr 2
  have fr3 := R.fr 3
  have fr4 := R.fr 4
  clear R
  have NL := hide (fun hc => nums_len (hN hc))
  clear hN
  cases hc : chB (bl s) with
  | false =>
    have F := hide (show mayT 12 (bl s) n d i h = false by rw [M.out, hc]; rfl)
    clear hc
    go_wp2
    go_region
    go_wp2
    go_ret
    refine ⟨ret_bool F.out.symm, ?_⟩
    repeat (first | (with_reducible exact BB.out) | (with_reducible refine Below.setCell ?_ (by simp) _) | (with_reducible refine bplus ?_ _) | (with_reducible refine Below.drew ?_) | (with_reducible refine below_drewN ?_ _))
  | true =>
    have hl := NL.out hc
    by_cases he : bl s = []
    · have F := hide (show mayT 12 (bl s) n d i h = false by rw [M.out, he]; simp)
      have hnn : nn = 0 := by have := RE.out.2 he; omega
      subst hnn
      clear hc hl he
      go_wp2
      go_region
      go_wp2
      go_ret
      refine ⟨ret_bool F.out.symm, ?_⟩
      repeat (first | (with_reducible exact BB.out) | (with_reducible refine Below.setCell ?_ (by simp) _) | (with_reducible refine bplus ?_ _) | (with_reducible refine Below.drew ?_) | (with_reducible refine below_drewN ?_ _))
    · have F0 := hide (show mayT 12 (bl s) n d i h = (!h && (plT n d i).isSome) by rw [M.out, hc]; cases hb : bl s; exact absurd hb he; rfl)
      have hnn' : ((nn : Int) == 0) = false := by
        have : ¬ (raw (bl s)).length = 0 := fun h0 => he (RE.out.1 h0)
        simp; omega
      clear hc hl he
      cases h with
      | true =>
        have F := hide (show mayT 12 (bl s) n d i true = false by rw [F0.out]; rfl)
        go_wp2
        go_region
        go_wp2_with fail
        go_at_call 121
        refine (C.out _ (by repeat (first | (with_reducible exact BB.out) | (with_reducible refine Below.setCell ?_ (by simp) _) | (with_reducible refine bplus ?_ _) | (with_reducible refine Below.drew ?_) | (with_reducible refine below_drewN ?_ _)))).mono ?_
        rintro e2 w2 ⟨ps, px, rfl, PP, B2⟩
        have r0 : w2.cell? ⟨w.heap.size, 0, none⟩ = some (.int .i64 12) := (by rw [B2.cell (p := ⟨w.heap.size, 0, none⟩) (by simp; omega)]; simp [go_sem, p0])
        have t0 : w2.cell? ⟨w.heap.size + 1, 0, none⟩ = some (.int .i64 12) := (by rw [B2.cell (p := ⟨w.heap.size + 1, 0, none⟩) (by simp; omega)]; simp [go_sem, q0, q1, q2, q3, q4, q5])
        have r1 : w2.cell? ⟨w.heap.size, 1, none⟩ = some (.string s) := (by rw [B2.cell (p := ⟨w.heap.size, 1, none⟩) (by simp; omega)]; simp [go_sem, p1])
        have t1 : w2.cell? ⟨w.heap.size + 1, 1, none⟩ = some (.string s) := (by rw [B2.cell (p := ⟨w.heap.size + 1, 1, none⟩) (by simp; omega)]; simp [go_sem, q0, q1, q2, q3, q4, q5])
        have r2 : w2.cell? ⟨w.heap.size, 2, none⟩ = some (.int .i64 n) := (by rw [B2.cell (p := ⟨w.heap.size, 2, none⟩) (by simp; omega)]; simp [go_sem, p2])
        have t2 : w2.cell? ⟨w.heap.size + 1, 2, none⟩ = some (.int .i64 n) := (by rw [B2.cell (p := ⟨w.heap.size + 1, 2, none⟩) (by simp; omega)]; simp [go_sem, q0, q1, q2, q3, q4, q5])
        have r3 : w2.cell? ⟨w.heap.size, 3, none⟩ = some (.int .i64 d) := (by rw [B2.cell (p := ⟨w.heap.size, 3, none⟩) (by simp; omega)]; simp [go_sem, p3])
        have t3 : w2.cell? ⟨w.heap.size + 1, 3, none⟩ = some (.int .i64 d) := (by rw [B2.cell (p := ⟨w.heap.size + 1, 3, none⟩) (by simp; omega)]; simp [go_sem, q0, q1, q2, q3, q4, q5])
        have r4 : w2.cell? ⟨w.heap.size, 4, none⟩ = some (.bool i) := (by rw [B2.cell (p := ⟨w.heap.size, 4, none⟩) (by simp; omega)]; simp [go_sem, p4])
        have t4 : w2.cell? ⟨w.heap.size + 1, 4, none⟩ = some (.bool i) := (by rw [B2.cell (p := ⟨w.heap.size + 1, 4, none⟩) (by simp; omega)]; simp [go_sem, q0, q1, q2, q3, q4, q5])
        have r5 : w2.cell? ⟨w.heap.size, 5, none⟩ = some (.bool true) := (by rw [B2.cell (p := ⟨w.heap.size, 5, none⟩) (by simp; omega)]; simp [go_sem, p5])
        have t5 : w2.cell? ⟨w.heap.size + 1, 5, none⟩ = some (.bool false) := (by rw [B2.cell (p := ⟨w.heap.size + 1, 5, none⟩) (by simp; omega)]; simp [go_sem, q0, q1, q2, q3, q4, q5])
        have Q := hide (plR_ok PP)
        clear PP
        replace BB := hide (show Below w.heap.size w w2 from bto (by repeat (first | (with_reducible exact BB.out) | (with_reducible refine Below.setCell ?_ (by simp) _) | (with_reducible refine bplus ?_ _) | (with_reducible refine Below.drew ?_) | (with_reducible refine below_drewN ?_ _))) B2)
        go_wp2
        go_ret
        exact ⟨ret_bool (F.out.symm), BB.out⟩
      | false =>
        have F := hide (show mayT 12 (bl s) n d i false = (plT n d i).isSome by rw [F0.out]; rfl)
        go_wp2
        go_region
        go_wp2_with fail
        go_at_call 121
        refine (C.out _ (by repeat (first | (with_reducible exact BB.out) | (with_reducible refine Below.setCell ?_ (by simp) _) | (with_reducible refine bplus ?_ _) | (with_reducible refine Below.drew ?_) | (with_reducible refine below_drewN ?_ _)))).mono ?_
        rintro e2 w2 ⟨ps, px, rfl, PP, B2⟩
        have r0 : w2.cell? ⟨w.heap.size, 0, none⟩ = some (.int .i64 12) := (by rw [B2.cell (p := ⟨w.heap.size, 0, none⟩) (by simp; omega)]; simp [go_sem, p0])
        have t0 : w2.cell? ⟨w.heap.size + 1, 0, none⟩ = some (.int .i64 12) := (by rw [B2.cell (p := ⟨w.heap.size + 1, 0, none⟩) (by simp; omega)]; simp [go_sem, q0, q1, q2, q3, q4, q5])
        have r1 : w2.cell? ⟨w.heap.size, 1, none⟩ = some (.string s) := (by rw [B2.cell (p := ⟨w.heap.size, 1, none⟩) (by simp; omega)]; simp [go_sem, p1])
        have t1 : w2.cell? ⟨w.heap.size + 1, 1, none⟩ = some (.string s) := (by rw [B2.cell (p := ⟨w.heap.size + 1, 1, none⟩) (by simp; omega)]; simp [go_sem, q0, q1, q2, q3, q4, q5])
        have r2 : w2.cell? ⟨w.heap.size, 2, none⟩ = some (.int .i64 n) := (by rw [B2.cell (p := ⟨w.heap.size, 2, none⟩) (by simp; omega)]; simp [go_sem, p2])
        have t2 : w2.cell? ⟨w.heap.size + 1, 2, none⟩ = some (.int .i64 n) := (by rw [B2.cell (p := ⟨w.heap.size + 1, 2, none⟩) (by simp; omega)]; simp [go_sem, q0, q1, q2, q3, q4, q5])
        have r3 : w2.cell? ⟨w.heap.size, 3, none⟩ = some (.int .i64 d) := (by rw [B2.cell (p := ⟨w.heap.size, 3, none⟩) (by simp; omega)]; simp [go_sem, p3])
        have t3 : w2.cell? ⟨w.heap.size + 1, 3, none⟩ = some (.int .i64 d) := (by rw [B2.cell (p := ⟨w.heap.size + 1, 3, none⟩) (by simp; omega)]; simp [go_sem, q0, q1, q2, q3, q4, q5])
        have r4 : w2.cell? ⟨w.heap.size, 4, none⟩ = some (.bool i) := (by rw [B2.cell (p := ⟨w.heap.size, 4, none⟩) (by simp; omega)]; simp [go_sem, p4])
        have t4 : w2.cell? ⟨w.heap.size + 1, 4, none⟩ = some (.bool i) := (by rw [B2.cell (p := ⟨w.heap.size + 1, 4, none⟩) (by simp; omega)]; simp [go_sem, q0, q1, q2, q3, q4, q5])
        have r5 : w2.cell? ⟨w.heap.size, 5, none⟩ = some (.bool false) := (by rw [B2.cell (p := ⟨w.heap.size, 5, none⟩) (by simp; omega)]; simp [go_sem, p5])
        have t5 : w2.cell? ⟨w.heap.size + 1, 5, none⟩ = some (.bool false) := (by rw [B2.cell (p := ⟨w.heap.size + 1, 5, none⟩) (by simp; omega)]; simp [go_sem, q0, q1, q2, q3, q4, q5])
        have Q := hide (plR_ok PP)
        clear PP
        replace BB := hide (show Below w.heap.size w w2 from bto (by repeat (first | (with_reducible exact BB.out) | (with_reducible refine Below.setCell ?_ (by simp) _) | (with_reducible refine bplus ?_ _) | (with_reducible refine Below.drew ?_) | (with_reducible refine below_drewN ?_ _))) B2)
        go_wp2
        go_ret
        exact ⟨ret_bool (by rw [F.out, ← Q.out]), BB.out⟩
/-- Which tokens may be: by the reference. -/
theorem mayR_any (k : Int) (s : ByteArray) (n d : Int) (i h : Bool) (w : World) (hs : s.size ≤ 1099511627776) (n1 : -9223372036854775808 ≤ n) (n2 : n ≤ 9223372036854775807) (d1 : -9223372036854775808 ≤ d) (d2 : d ≤ 9223372036854775807) (hT : Tabs w) :
    Calls Tryz.prog 120 #[tokV k s n d i h] w fun e w' => e = .returned (.bool (mayT k (bl s) n d i h)) ∧ Below w.heap.size w w' := by
  by_cases h1 : k = 1 ∨ k = 2 ∨ k = 3
  · exact mayR_name k s n d i h w h1 hs
  by_cases h4 : k = 4
  · subst h4; exact mayR_hash s n d i h w hs
  by_cases h5 : k = 5 ∨ k = 7
  · exact mayR_text k s n d i h w h5 hs
  by_cases h9 : k = 9
  · subst h9; exact mayR_delim s n d i h w hs
  by_cases h10 : k = 10 ∨ k = 11
  · exact mayR_num k s n d i h w h10 hs n1 n2 d1 d2 hT
  by_cases h12 : k = 12
  · subst h12; exact mayR_dim s n d i h w hs n1 n2 d1 d2 hT
  exact mayR_rest k s n d i h w (by omega) hs
end Go.Proofs.YtmkbjcoagfnegaaGreatDoor
set_option linter.unusedVariables false
set_option linter.unusedSimpArgs false
namespace Go.Proofs.YtmkbjcoagfnegaaGreatDoor
open Go.RowKit

theorem keep12 {w0 W : World} {b c : Nat} {k : Int} {s : ByteArray} {n d : Int} {i h : Bool} {k' : Int} {s' : ByteArray} {n' d' : Int} {i' h' : Bool} (hb : Below w0.heap.size w0 W) (t : Tok6 w0 b k s n d i h) (u : Tok6 w0 c k' s' n' d' i' h') :
    W.cell? ⟨b, 0, none⟩ = some (.int .i64 k) ∧ W.cell? ⟨b, 1, none⟩ = some (.string s) ∧ W.cell? ⟨b, 2, none⟩ = some (.int .i64 n) ∧ W.cell? ⟨b, 3, none⟩ = some (.int .i64 d) ∧ W.cell? ⟨b, 4, none⟩ = some (.bool i) ∧ W.cell? ⟨b, 5, none⟩ = some (.bool h) ∧
    W.cell? ⟨c, 0, none⟩ = some (.int .i64 k') ∧ W.cell? ⟨c, 1, none⟩ = some (.string s') ∧ W.cell? ⟨c, 2, none⟩ = some (.int .i64 n') ∧ W.cell? ⟨c, 3, none⟩ = some (.int .i64 d') ∧ W.cell? ⟨c, 4, none⟩ = some (.bool i') ∧ W.cell? ⟨c, 5, none⟩ = some (.bool h') := by
  obtain ⟨_, a0, a1, a2, a3, a4, a5⟩ := t.below hb
  obtain ⟨_, c0, c1, c2, c3, c4, c5⟩ := u.below hb
  exact ⟨a0, a1, a2, a3, a4, a5, c0, c1, c2, c3, c4, c5⟩
theorem may_13 : mayT 13 (bl ⟨#[]⟩) 0 0 false false = true := by
  rw [may_rest (by omega)]
  rfl
theorem ap_13 : apB 13 13 = true := rfl
end Go.Proofs.YtmkbjcoagfnegaaGreatDoor
