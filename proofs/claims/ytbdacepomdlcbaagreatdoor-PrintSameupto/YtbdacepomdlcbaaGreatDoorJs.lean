/-
  Which tokens may be: by the reference.
  Which tokens may be: by the reference: hashes, signs, numbers.
-/
import Derived.Test.YtbdacepomdlcbaaGreatDoorJr
set_option linter.unusedVariables false
set_option linter.unusedSimpArgs false
namespace Go.Proofs.YtbdacepomdlcbaaGreatDoor
open Go.RowKit

theorem z_ways (n d : Int) (i h : Bool) : ((n == 0) = false ∧ zB n d i = false) ∨ ((n == 0) = true ∧ (d == 0) = false ∧ zB n d i = false) ∨ ((n == 0) = true ∧ (d == 0) = true ∧ i = true ∧ zB n d i = false) ∨ ((n == 0) = true ∧ (d == 0) = true ∧ i = false ∧ zB n d i = true) := by
  unfold zB
  cases (n == 0) <;> cases (d == 0) <;> cases i <;> simp
/-- Where the reference's May stands behind its characters. -/
structure MR (w w1 : World) (k : Int) (s : ByteArray) (n d : Int) (i h : Bool) : Prop where
  bel : Below w.heap.size w w1
  t0 : Tok6 w1 w.heap.size k s n d i h
  t1 : Tok6 w1 (w.heap.size + 1) k ⟨#[]⟩ 0 0 false false
  fr : ∀ j, w1.frozen? ⟨w.heap.size + 1, j, none⟩ = false
  ap : ∀ j x, w1.cell? ⟨w.heap.size + 1, j, none⟩ ≠ some (.int .i32 x)
theorem MR.mk' {w w1 : World} {k : Int} {s : ByteArray} {n d : Int} {i h : Bool} (hb : Below ((w.alloc (.cells #[.int .i64 k, .string s, .int .i64 n, .int .i64 d, .bool i, .bool h] 41)).alloc (.cells #[.int .i64 k, .string ⟨#[]⟩, .int .i64 0, .int .i64 0, .bool false, .bool false] 41)).heap.size ((w.alloc (.cells #[.int .i64 k, .string s, .int .i64 n, .int .i64 d, .bool i, .bool h] 41)).alloc (.cells #[.int .i64 k, .string ⟨#[]⟩, .int .i64 0, .int .i64 0, .bool false, .bool false] 41)) w1) : MR w w1 k s n d i h := by
  have e1 : (w.alloc (.cells #[.int .i64 k, .string s, .int .i64 n, .int .i64 d, .bool i, .bool h] 41)).heap.size = w.heap.size + 1 := by simp
  have T0 := ((Tok6.box w k s n d i h 41).below (bplus (Below.refl _ _) (.cells #[.int .i64 k, .string ⟨#[]⟩, .int .i64 0, .int .i64 0, .bool false, .bool false] 41))).below hb
  have T1 := (Tok6.box (w.alloc (.cells #[.int .i64 k, .string s, .int .i64 n, .int .i64 d, .bool i, .bool h] 41)) k ⟨#[]⟩ 0 0 false false 41).below hb
  rw [e1] at T1
  refine ⟨bto (bplus (bplus (Below.refl _ _) _) _) hb, T0, T1, fun j => ?_, fun j x hx => ?_⟩
  rotate_left
  · rw [hb.cell (p := ⟨w.heap.size + 1, j, none⟩) (by simp)] at hx
    have hblk := heap_alloc_new (w.alloc (.cells #[.int .i64 k, .string s, .int .i64 n, .int .i64 d, .bool i, .bool h] 41)) (.cells #[.int .i64 k, .string ⟨#[]⟩, .int .i64 0, .int .i64 0, .bool false, .bool false] 41)
    rw [e1] at hblk
    rw [row_blk hblk] at hx
    match j with
    | 0 => simp at hx
    | 1 => simp at hx
    | 2 => simp at hx
    | 3 => simp at hx
    | 4 => simp at hx
    | 5 => simp at hx
    | j + 6 => simp at hx
  rw [hb.frozen (p := ⟨w.heap.size + 1, j, none⟩) (by simp)]
  have := World.frozen?_alloc_new (w.alloc (.cells #[.int .i64 k, .string s, .int .i64 n, .int .i64 d, .bool i, .bool h] 41)) #[.int .i64 k, .string ⟨#[]⟩, .int .i64 0, .int .i64 0, .bool false, .bool false] 41 j
  rw [e1] at this
  exact this
theorem nums_len {k : IntKind} {w : World} {a : Option Addr} {n c : Nat} {l : List Int} (h : Nums k w (.slice a n c) l) : n = l.length := by
  rcases h with ⟨a', c', h1, h2⟩ | ⟨b, o, m, c', h1, h2, _⟩
  · simp at h1; rw [h2, h1.2.1]; rfl
  · simp at h1; omega
set_option maxRecDepth 100000 in
set_option maxHeartbeats 4000000 in
theorem mayR_name (k : Int) (s : ByteArray) (n d : Int) (i h : Bool) (w : World) (hk : k = 1 ∨ k = 2 ∨ k = 3) (hs : s.size ≤ 1099511627776) :
    Calls Tryz.prog 48 #[tokV k s n d i h] w fun e w' => e = .returned (.bool (mayT k (bl s) n d i h)) ∧ Below w.heap.size w w' := by
  have M := hide (may_name hk (bl s) n d i h)
  unfold tokV
  have CH := hide (fun W => charsR_any s W hs)
  have RE := hide (raw_empty (bl s))
  have EM := hide (emp_iff s)
  go_enter Tryz.func48, Tryz.ntmps48
  go_wp2_with fail
  go_at_call 51
  refine (CH.out _).mono ?_
  rintro e w1 ⟨a, nn, c, rfl, hN, hb⟩
  have R := MR.mk' hb
  clear hb
  have BB := hide R.bel
  obtain ⟨z0, p0, p1, p2, p3, p4, p5⟩ := R.t0
  obtain ⟨z1, q0, q1, q2, q3, q4, q5⟩ := R.t1
  have fr1 := R.fr 1
  clear R
  have NL := hide (fun hc => nums_len (hN hc))
  clear hN
  rcases z_ways n d i h with ⟨x1, x2⟩ | ⟨x1, x3, x2⟩ | ⟨x1, x3, rfl, x2⟩ | ⟨x1, x3, rfl, x2⟩
  case inr.inr.inr =>
    cases h with
    | true =>
      have F := hide (show mayT k (bl s) n d false true = false by rw [M.out]; simp)
      rcases hk with rfl | rfl | rfl
      all_goals
        go_wp2
        go_ret
        refine ⟨ret_bool F.out.symm, ?_⟩
        repeat (first | (with_reducible exact BB.out) | (with_reducible refine Below.setCell ?_ (by simp) _) | (with_reducible refine bplus ?_ _))
    | false =>
      have M2 := hide (show mayT k (bl s) n d false false = (chB (bl s) && !(bl s).isEmpty) by rw [M.out, x2]; rfl)
      cases hc : chB (bl s) with
      | false =>
        have F := hide (show mayT k (bl s) n d false false = false by rw [M2.out, hc]; rfl)
        clear hc
        rcases hk with rfl | rfl | rfl
        all_goals
          go_wp2
          go_ret
          refine ⟨ret_bool F.out.symm, ?_⟩
          repeat (first | (with_reducible exact BB.out) | (with_reducible refine Below.setCell ?_ (by simp) _) | (with_reducible refine bplus ?_ _))
      | true =>
        have hl := NL.out hc
        by_cases he : bl s = []
        · have F := hide (show mayT k (bl s) n d false false = false by rw [M2.out, he]; simp)
          have hnn : ¬ (0 : Int) < nn := by have := RE.out.2 he; omega
          clear hc hl he
          rcases hk with rfl | rfl | rfl
          all_goals
            go_wp2
            go_ret
            refine ⟨ret_bool (by rw [F.out]; simp; omega), ?_⟩
            repeat (first | (with_reducible exact BB.out) | (with_reducible refine Below.setCell ?_ (by simp) _) | (with_reducible refine bplus ?_ _))
        · have F := hide (show mayT k (bl s) n d false false = true by rw [M2.out, hc]; cases hb : bl s; exact absurd hb he; rfl)
          have hnn : (0 : Int) < nn := by
            have : ¬ (raw (bl s)).length = 0 := fun h0 => he (RE.out.1 h0)
            omega
          clear hc hl he
          rcases hk with rfl | rfl | rfl
          all_goals
            go_wp2
            go_ret
            refine ⟨ret_bool (by rw [F.out]; simp; omega), ?_⟩
            repeat (first | (with_reducible exact BB.out) | (with_reducible refine Below.setCell ?_ (by simp) _) | (with_reducible refine bplus ?_ _))
  all_goals
    have F := hide (M.out.trans (by rw [x2, Bool.false_and, Bool.false_and]))
    rcases hk with rfl | rfl | rfl
    all_goals
      go_wp2
      go_ret
      refine ⟨ret_bool F.out.symm, ?_⟩
      repeat (first | (with_reducible exact BB.out) | (with_reducible refine Below.setCell ?_ (by simp) _) | (with_reducible refine bplus ?_ _))
set_option maxRecDepth 100000 in
set_option maxHeartbeats 4000000 in
theorem mayR_text (k : Int) (s : ByteArray) (n d : Int) (i h : Bool) (w : World) (hk : k = 5 ∨ k = 7) (hs : s.size ≤ 1099511627776) :
    Calls Tryz.prog 48 #[tokV k s n d i h] w fun e w' => e = .returned (.bool (mayT k (bl s) n d i h)) ∧ Below w.heap.size w w' := by
  have M := hide (may_text hk (bl s) n d i h)
  unfold tokV
  have CH := hide (fun W => charsR_any s W hs)
  have RE := hide (raw_empty (bl s))
  have EM := hide (emp_iff s)
  go_enter Tryz.func48, Tryz.ntmps48
  go_wp2_with fail
  go_at_call 51
  refine (CH.out _).mono ?_
  rintro e w1 ⟨a, nn, c, rfl, hN, hb⟩
  have R := MR.mk' hb
  clear hb
  have BB := hide R.bel
  obtain ⟨z0, p0, p1, p2, p3, p4, p5⟩ := R.t0
  obtain ⟨z1, q0, q1, q2, q3, q4, q5⟩ := R.t1
  have fr1 := R.fr 1
  clear R
  have NL := hide (fun hc => nums_len (hN hc))
  clear hN
  rcases z_ways n d i h with ⟨x1, x2⟩ | ⟨x1, x3, x2⟩ | ⟨x1, x3, rfl, x2⟩ | ⟨x1, x3, rfl, x2⟩
  case inr.inr.inr =>
    cases h with
    | true =>
      have F := hide (show mayT k (bl s) n d false true = false by rw [M.out]; simp)
      rcases hk with rfl | rfl
      all_goals
        go_wp2
        go_ret
        refine ⟨ret_bool F.out.symm, ?_⟩
        repeat (first | (with_reducible exact BB.out) | (with_reducible refine Below.setCell ?_ (by simp) _) | (with_reducible refine bplus ?_ _))
    | false =>
      have F := hide (show mayT k (bl s) n d false false = chB (bl s) by rw [M.out, x2]; rfl)
      rcases hk with rfl | rfl
      all_goals
        go_wp2
        go_ret
        refine ⟨ret_bool F.out.symm, ?_⟩
        repeat (first | (with_reducible exact BB.out) | (with_reducible refine Below.setCell ?_ (by simp) _) | (with_reducible refine bplus ?_ _))
  all_goals
    have F := hide (M.out.trans (by rw [x2, Bool.false_and, Bool.false_and]))
    rcases hk with rfl | rfl
    all_goals
      go_wp2
      go_ret
      refine ⟨ret_bool F.out.symm, ?_⟩
      repeat (first | (with_reducible exact BB.out) | (with_reducible refine Below.setCell ?_ (by simp) _) | (with_reducible refine bplus ?_ _))
set_option maxRecDepth 100000 in
set_option maxHeartbeats 4000000 in
theorem mayR_rest (k : Int) (s : ByteArray) (n d : Int) (i h : Bool) (w : World) (hk : ¬ (k = 1 ∨ k = 2 ∨ k = 3 ∨ k = 4 ∨ k = 5 ∨ k = 7 ∨ k = 9 ∨ k = 10 ∨ k = 11 ∨ k = 12)) (hs : s.size ≤ 1099511627776) :
    Calls Tryz.prog 48 #[tokV k s n d i h] w fun e w' => e = .returned (.bool (mayT k (bl s) n d i h)) ∧ Below w.heap.size w w' := by
  have M := hide (may_rest hk (bl s) n d i h)
  have g1 : (k == 1) = false := by simp; omega
  have g2 : (k == 2) = false := by simp; omega
  have g3 : (k == 3) = false := by simp; omega
  have g4 : (k == 4) = false := by simp; omega
  have g5 : (k == 5) = false := by simp; omega
  have g7 : (k == 7) = false := by simp; omega
  have g9 : (k == 9) = false := by simp; omega
  have g10 : (k == 10) = false := by simp; omega
  have g11 : (k == 11) = false := by simp; omega
  have g12 : (k == 12) = false := by simp; omega
  clear hk
  unfold tokV
  have CH := hide (fun W => charsR_any s W hs)
  have RE := hide (raw_empty (bl s))
  have EM := hide (emp_iff s)
  go_enter Tryz.func48, Tryz.ntmps48
  go_wp2_with fail
  go_at_call 51
  refine (CH.out _).mono ?_
  rintro e w1 ⟨a, nn, c, rfl, hN, hb⟩
  have R := MR.mk' hb
  clear hb
  have BB := hide R.bel
  obtain ⟨z0, p0, p1, p2, p3, p4, p5⟩ := R.t0
  obtain ⟨z1, q0, q1, q2, q3, q4, q5⟩ := R.t1
  clear R
  have NL := hide (fun hc => nums_len (hN hc))
  clear hN
  by_cases k1 : 1 ≤ k
  · by_cases k2 : k ≤ 24
    · have M2 := hide (show mayT k (bl s) n d i h = (s.toList.isEmpty && (zB n d i && !h)) by rw [M.out, ← EM.out]; simp [k1, k2])
      cases he : s.toList.isEmpty with
      | false =>
        have F := hide (show mayT k (bl s) n d i h = false by rw [M2.out, he]; rfl)
        have hse : (s.toList == []) = false := by
          cases hq : s.toList with
          | nil => rw [hq] at he; cases he
          | cons c r => rfl
        go_wp2
        go_ret
        refine ⟨ret_bool F.out.symm, ?_⟩
        repeat (first | (with_reducible exact BB.out) | (with_reducible refine Below.setCell ?_ (by simp) _) | (with_reducible refine bplus ?_ _))
      | true =>
        rcases z_ways n d i h with ⟨x1, x2⟩ | ⟨x1, x3, x2⟩ | ⟨x1, x3, rfl, x2⟩ | ⟨x1, x3, rfl, x2⟩
        case inr.inr.inr =>
          cases h
          all_goals
            have F := hide (M2.out.trans (by rw [he, x2]))
            go_wp2
            go_ret
            refine ⟨ret_bool F.out.symm, ?_⟩
            repeat (first | (with_reducible exact BB.out) | (with_reducible refine Below.setCell ?_ (by simp) _) | (with_reducible refine bplus ?_ _))
        all_goals
          have F := hide (M2.out.trans (by rw [he, x2, Bool.false_and, Bool.and_false]))
          go_wp2
          go_ret
          refine ⟨ret_bool F.out.symm, ?_⟩
          repeat (first | (with_reducible exact BB.out) | (with_reducible refine Below.setCell ?_ (by simp) _) | (with_reducible refine bplus ?_ _))
    · have F := hide (show mayT k (bl s) n d i h = false by rw [M.out]; simp [k2])
      have k2' : 24 < k := by omega
      go_wp2
      go_ret
      refine ⟨ret_bool F.out.symm, ?_⟩
      repeat (first | (with_reducible exact BB.out) | (with_reducible refine Below.setCell ?_ (by simp) _) | (with_reducible refine bplus ?_ _))
  · have F := hide (show mayT k (bl s) n d i h = false by rw [M.out]; simp [k1])
    have k1' : k < 1 := by omega
    go_wp2
    go_ret
    refine ⟨ret_bool F.out.symm, ?_⟩
    repeat (first | (with_reducible exact BB.out) | (with_reducible refine Below.setCell ?_ (by simp) _) | (with_reducible refine bplus ?_ _))
end Go.Proofs.YtbdacepomdlcbaaGreatDoor
set_option linter.unusedVariables false
set_option linter.unusedSimpArgs false
namespace Go.Proofs.YtbdacepomdlcbaaGreatDoor
open Go.RowKit

set_option maxRecDepth 100000 in
set_option maxHeartbeats 4000000 in
theorem mayR_hash (s : ByteArray) (n d : Int) (i h : Bool) (w : World)  (hs : s.size ≤ 1099511627776) :
    Calls Tryz.prog 48 #[tokV 4 s n d i h] w fun e w' => e = .returned (.bool (mayT 4 (bl s) n d i h)) ∧ Below w.heap.size w w' := by
  have M := hide (may_hash (bl s) n d i h)
  have HR := hide (fun hb hn hw => hash_raw (bl s) hb hn hw)
  unfold tokV
  have CH := hide (fun W => charsR_any s W hs)
  have RE := hide (raw_empty (bl s))
  have EM := hide (emp_iff s)
  go_enter Tryz.func48, Tryz.ntmps48
  go_wp2_with fail
  go_at_call 51
  refine (CH.out _).mono ?_
  rintro e w1 ⟨a, nn, c, rfl, hN, hb⟩
  have R := MR.mk' hb
  clear hb
  have BB := hide R.bel
  have AP := hide R.ap
  obtain ⟨z0, p0, p1, p2, p3, p4, p5⟩ := R.t0
  obtain ⟨z1, q0, q1, q2, q3, q4, q5⟩ := R.t1
  have fr1 := R.fr 1
  have fr5 := R.fr 5
  clear R
  have NL := hide (fun hc => nums_len (hN hc))
  have NN := hide hN
  clear hN
  rcases z_ways n d i h with ⟨x1, x2⟩ | ⟨x1, x3, x2⟩ | ⟨x1, x3, rfl, x2⟩ | ⟨x1, x3, rfl, x2⟩
  case inr.inr.inr =>
    have M2 := hide (show mayT 4 (bl s) n d false h = ((chB (bl s) && !(bl s).isEmpty) && (h || fB (bl s))) by rw [M.out, x2]; rfl)
    cases hc : chB (bl s) with
    | false =>
      have F := hide (show mayT 4 (bl s) n d false h = false by rw [M2.out, hc]; rfl)
      clear hc
      go_wp2
      go_region
      all_goals go_wp2
      all_goals go_ret
      all_goals refine ⟨ret_bool F.out.symm, ?_⟩
      all_goals
        repeat (first | (with_reducible exact BB.out) | (with_reducible refine Below.setCell ?_ (by simp) _) | (with_reducible refine bplus ?_ _) | (with_reducible refine Below.drew ?_) | (with_reducible refine below_drewN ?_ _))
    | true =>
      have hl := NL.out hc
      by_cases he : bl s = []
      · have F := hide (show mayT 4 (bl s) n d false h = false by rw [M2.out, he]; simp)
        have hnn : nn = 0 := by have := RE.out.2 he; omega
        subst hnn
        clear hc hl he
        go_wp2
        go_region
        all_goals go_wp2
        all_goals go_ret
        all_goals refine ⟨ret_bool F.out.symm, ?_⟩
        all_goals
          repeat (first | (with_reducible exact BB.out) | (with_reducible refine Below.setCell ?_ (by simp) _) | (with_reducible refine bplus ?_ _) | (with_reducible refine Below.drew ?_) | (with_reducible refine below_drewN ?_ _))
      · have F0 := hide (show mayT 4 (bl s) n d false h = (h || fB (bl s)) by rw [M2.out, hc]; cases hb : bl s; exact absurd hb he; rfl)
        have hnn : 0 < nn := by
          have : ¬ (raw (bl s)).length = 0 := fun h0 => he (RE.out.1 h0)
          omega
        have hnn' : ((nn : Int) == 0) = false := by simp; omega
        cases h with
        | true =>
          have F := hide (show mayT 4 (bl s) n d false true = true by rw [F0.out]; rfl)
          clear hc hl he
          go_wp2
          go_region
          all_goals go_wp2
          all_goals go_ret
          all_goals refine ⟨ret_bool F.out.symm, ?_⟩
          all_goals
            repeat (first | (with_reducible exact BB.out) | (with_reducible refine Below.setCell ?_ (by simp) _) | (with_reducible refine bplus ?_ _) | (with_reducible refine Below.drew ?_) | (with_reducible refine below_drewN ?_ _))
        | false =>
          have hwh : whole (bl s) = true := by unfold chB at hc; simp at hc; exact hc.1
          have G := hide (show mayT 4 (bl s) n d false false = gB (raw (bl s)) by rw [F0.out, HR.out (bl_by s) he hwh]; rfl)
          rcases NN.out hc with ⟨a', c', hv, hr⟩ | ⟨b, o, m, c', hv, hm, hm0, hbw, hmc, hm9, hc9, hcell⟩
          · simp at hv; omega
          · simp only [Value.slice.injEq] at hv
            obtain ⟨rfl, rfl, rfl⟩ := hv
            have hbn : b ≠ w.heap.size + 1 := fun hb => by
              have := hcell 0 hm0
              rw [hb] at this
              exact AP.out _ _ this
            have l0 := hcell 0 hm0
            rw [Nat.add_zero] at l0
            have e0 : gt (raw (bl s)) 0 = nx (raw (bl s)) 0 := by rw [gt_eq (by omega)]; simp [nx, List.getD_eq_getElem?_getD, List.getElem?_eq_getElem (show 0 < (raw (bl s)).length by omega)]
            rw [e0] at l0
            have GB := hide (show gB (raw (bl s)) = (isDig (nx (raw (bl s)) 0) || ((nx (raw (bl s)) 0 == 45) && (((raw (bl s)).length == 1) || isDig (nx (raw (bl s)) 1)))) from rfl)
            have HM := hide hm
            have l1 : 1 < nn → w1.cell? ⟨b, o + 1, none⟩ = some (.int .i32 (nx (raw (bl s)) 1)) := fun h1 => by
              rw [hcell 1 h1, gt_eq (by omega)]; simp [nx, List.getD_eq_getElem?_getD, List.getElem?_eq_getElem (show 1 < (raw (bl s)).length by omega)]
            have L1 := hide l1
            clear hcell e0 hc hl he hwh hm l1
            generalize nx (raw (bl s)) 0 = u0 at *
            generalize nx (raw (bl s)) 1 = u1 at *
            cases hd0 : isDig u0 with
            | true =>
              have F := hide (show mayT 4 (bl s) n d false false = true by rw [G.out, GB.out, hd0]; rfl)
              have D0 := hide hd0
              clear hd0
              go_wp2
              go_region
              all_goals go_wp2_with (go_at_call 76; refine (digitR_any _ _).mono ?_; rintro e2 w2 ⟨rfl, rfl⟩; rw [D0.out])
              all_goals go_ret
              all_goals refine ⟨ret_bool F.out.symm, ?_⟩
              all_goals
                repeat (first | (with_reducible exact BB.out) | (with_reducible refine Below.setCell ?_ (by simp) _) | (with_reducible refine bplus ?_ _) | (with_reducible refine Below.drew ?_) | (with_reducible refine below_drewN ?_ _))
            | false =>
              have D0 := hide hd0
              by_cases h45 : u0 = 45
              · have h45' : (u0 == 45) = true := by simpa using h45
                by_cases hn1 : nn = 1
                · subst hn1
                  have F := hide (show mayT 4 (bl s) n d false false = true by rw [G.out, GB.out, hd0, h45', ← HM.out]; rfl)
                  clear hd0 h45
                  go_wp2
                  go_region
                  all_goals go_wp2_with (go_at_call 76; refine (digitR_any _ _).mono ?_; rintro e2 w2 ⟨rfl, rfl⟩; rw [D0.out])
                  all_goals go_ret
                  all_goals refine ⟨ret_bool F.out.symm, ?_⟩
                  all_goals
                    repeat (first | (with_reducible exact BB.out) | (with_reducible refine Below.setCell ?_ (by simp) _) | (with_reducible refine bplus ?_ _) | (with_reducible refine Below.drew ?_) | (with_reducible refine below_drewN ?_ _))
                · have F := hide (show mayT 4 (bl s) n d false false = isDig u1 by
                    have : ((raw (bl s)).length == 1) = false := by rw [← HM.out]; simpa using hn1
                    rw [G.out, GB.out, hd0, h45', this]; rfl)
                  have l1 := L1.out (by omega)
                  have hn1' : ((nn : Int) == 1) = false := by simp; omega
                  have hi1 : (1 : Int) < nn := by omega
                  by_cases hu : u1 = u0
                  · have F2 := hide (show mayT 4 (bl s) n d false false = false by rw [F.out, hu, hd0])
                    subst hu
                    clear hd0 h45 F
                    go_wp2
                    go_region
                    all_goals go_wp2_with (go_at_call 76; refine (digitR_any _ _).mono ?_; rintro e2 w2 ⟨rfl, rfl⟩; rw [D0.out])
                    all_goals go_ret
                    all_goals refine ⟨ret_bool F2.out.symm, ?_⟩
                    all_goals
                      repeat (first | (with_reducible exact BB.out) | (with_reducible refine Below.setCell ?_ (by simp) _) | (with_reducible refine bplus ?_ _) | (with_reducible refine Below.drew ?_) | (with_reducible refine below_drewN ?_ _))
                  · clear hd0 h45
                    go_wp2
                    go_region
                    all_goals go_wp2_with (first | (go_at_call_of 76 (Value.int IntKind.i32 u0); refine (digitR_any _ _).mono ?_; rintro e2 w2 ⟨rfl, rfl⟩; rw [D0.out]) | (go_at_call 76; refine (digitR_any u1 _).mono ?_; rintro e2 w2 ⟨rfl, rfl⟩))
                    all_goals go_ret
                    all_goals refine ⟨ret_bool F.out.symm, ?_⟩
                    all_goals
                      repeat (first | (with_reducible exact BB.out) | (with_reducible refine Below.setCell ?_ (by simp) _) | (with_reducible refine bplus ?_ _) | (with_reducible refine Below.drew ?_) | (with_reducible refine below_drewN ?_ _))
              · have h45' : (u0 == 45) = false := by simpa using h45
                have F := hide (show mayT 4 (bl s) n d false false = false by rw [G.out, GB.out, hd0, h45']; rfl)
                clear hd0 h45
                go_wp2
                go_region
                all_goals go_wp2_with (go_at_call 76; refine (digitR_any _ _).mono ?_; rintro e2 w2 ⟨rfl, rfl⟩; rw [D0.out])
                all_goals go_ret
                all_goals refine ⟨ret_bool F.out.symm, ?_⟩
                all_goals
                  repeat (first | (with_reducible exact BB.out) | (with_reducible refine Below.setCell ?_ (by simp) _) | (with_reducible refine bplus ?_ _) | (with_reducible refine Below.drew ?_) | (with_reducible refine below_drewN ?_ _))
  all_goals
    have F := hide (M.out.trans (by rw [x2, Bool.false_and]))
    go_wp2
    go_region
    all_goals go_wp2
    all_goals go_ret
    all_goals refine ⟨ret_bool F.out.symm, ?_⟩
    all_goals
      repeat (first | (with_reducible exact BB.out) | (with_reducible refine Below.setCell ?_ (by simp) _) | (with_reducible refine bplus ?_ _) | (with_reducible refine Below.drew ?_) | (with_reducible refine below_drewN ?_ _))
end Go.Proofs.YtbdacepomdlcbaaGreatDoor
