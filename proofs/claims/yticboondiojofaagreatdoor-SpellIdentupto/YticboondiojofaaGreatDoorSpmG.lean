/-
  Which tokens may be: by the reference.
-/
import Derived.Test.YticboondiojofaaGreatDoorSpmF
set_option linter.unusedVariables false
set_option linter.unusedSimpArgs false
namespace Go.Proofs.YticboondiojofaaGreatDoor
open Go.RowKit

theorem z_ways (n d : Int) (i h : Bool) : ((n == 0) = false ∧ zB n d i = false) ∨ ((n == 0) = true ∧ (d == 0) = false ∧ zB n d i = false) ∨ ((n == 0) = true ∧ (d == 0) = true ∧ i = true ∧ zB n d i = false) ∨ ((n == 0) = true ∧ (d == 0) = true ∧ i = false ∧ zB n d i = true) := by
  unfold zB
  cases (n == 0) <;> cases (d == 0) <;> cases i <;> simp
/-- Where the reference's May stands behind its characters. -/
structure MR (w w1 : World) (k : Int) (s : ByteArray) (n d : Int) (i h : Bool) : Prop where
  bel : Below w.heap.size w w1
  t0 : Tok6 w1 w.heap.size k s n d i h
  t1 : Tok6 w1 (w.heap.size + 1) k ⟨#[]⟩ 0 0 false false
  fr : ∀ j, w1.frozen? ⟨w.heap.size + 1, j, none⟩ = false
  ap : ∀ j x, w1.cell? ⟨w.heap.size + 1, j, none⟩ ≠ some (.int .i32 x)
theorem MR.mk' {w w1 : World} {k : Int} {s : ByteArray} {n d : Int} {i h : Bool} (hb : Below ((w.alloc (.cells #[.int .i64 k, .string s, .int .i64 n, .int .i64 d, .bool i, .bool h] 25)).alloc (.cells #[.int .i64 k, .string ⟨#[]⟩, .int .i64 0, .int .i64 0, .bool false, .bool false] 25)).heap.size ((w.alloc (.cells #[.int .i64 k, .string s, .int .i64 n, .int .i64 d, .bool i, .bool h] 25)).alloc (.cells #[.int .i64 k, .string ⟨#[]⟩, .int .i64 0, .int .i64 0, .bool false, .bool false] 25)) w1) : MR w w1 k s n d i h := by
  have e1 : (w.alloc (.cells #[.int .i64 k, .string s, .int .i64 n, .int .i64 d, .bool i, .bool h] 25)).heap.size = w.heap.size + 1 := by simp
  have T0 := ((Tok6.box w k s n d i h 25).below (bplus (Below.refl _ _) (.cells #[.int .i64 k, .string ⟨#[]⟩, .int .i64 0, .int .i64 0, .bool false, .bool false] 25))).below hb
  have T1 := (Tok6.box (w.alloc (.cells #[.int .i64 k, .string s, .int .i64 n, .int .i64 d, .bool i, .bool h] 25)) k ⟨#[]⟩ 0 0 false false 25).below hb
  rw [e1] at T1
  refine ⟨bto (bplus (bplus (Below.refl _ _) _) _) hb, T0, T1, fun j => ?_, fun j x hx => ?_⟩
  rotate_left
  · rw [hb.cell (p := ⟨w.heap.size + 1, j, none⟩) (by simp)] at hx
    have hblk := heap_alloc_new (w.alloc (.cells #[.int .i64 k, .string s, .int .i64 n, .int .i64 d, .bool i, .bool h] 25)) (.cells #[.int .i64 k, .string ⟨#[]⟩, .int .i64 0, .int .i64 0, .bool false, .bool false] 25)
    rw [e1] at hblk
    rw [row_blk hblk] at hx
    match j with
    | 0 => simp at hx
    | 1 => simp at hx
    | 2 => simp at hx
    | 3 => simp at hx
    | 4 => simp at hx
    | 5 => simp at hx
    | j + 6 => simp at hx
  rw [hb.frozen (p := ⟨w.heap.size + 1, j, none⟩) (by simp)]
  have := World.frozen?_alloc_new (w.alloc (.cells #[.int .i64 k, .string s, .int .i64 n, .int .i64 d, .bool i, .bool h] 25)) #[.int .i64 k, .string ⟨#[]⟩, .int .i64 0, .int .i64 0, .bool false, .bool false] 25 j
  rw [e1] at this
  exact this
theorem nums_len {k : IntKind} {w : World} {a : Option Addr} {n c : Nat} {l : List Int} (h : Nums k w (.slice a n c) l) : n = l.length := by
  rcases h with ⟨a', c', h1, h2⟩ | ⟨b, o, m, c', h1, h2, _⟩
  · simp at h1; rw [h2, h1.2.1]; rfl
  · simp at h1; omega
set_option maxRecDepth 100000 in
set_option maxHeartbeats 4000000 in
theorem mayR_name (k : Int) (s : ByteArray) (n d : Int) (i h : Bool) (w : World) (hk : k = 1 ∨ k = 2 ∨ k = 3) (hs : s.size ≤ 1099511627776) :
    Calls Tryz.prog 18 #[tokV k s n d i h] w fun e w' => e = .returned (.bool (mayT k (bl s) n d i h)) ∧ Below w.heap.size w w' := by
  have M := hide (may_name hk (bl s) n d i h)
  unfold tokV
  have CH := hide (fun W => charsR_any s W hs)
  have RE := hide (raw_empty (bl s))
  have EM := hide (emp_iff s)
  go_enter Tryz.func18, Tryz.ntmps18
  go_wp2_with fail
  go_at_call 21
  refine (CH.out _).mono ?_
  rintro e w1 ⟨a, nn, c, rfl, hN, hb⟩
  have R := MR.mk' hb
  clear hb
  have BB := hide R.bel
  obtain ⟨z0, p0, p1, p2, p3, p4, p5⟩ := R.t0
  obtain ⟨z1, q0, q1, q2, q3, q4, q5⟩ := R.t1
  have fr1 := R.fr 1
  clear R
  have NL := hide (fun hc => nums_len (hN hc))
  clear hN
  rcases z_ways n d i h with ⟨x1, x2⟩ | ⟨x1, x3, x2⟩ | ⟨x1, x3, rfl, x2⟩ | ⟨x1, x3, rfl, x2⟩
  case inr.inr.inr =>
    cases h with
    | true =>
      have F := hide (show mayT k (bl s) n d false true = false by rw [M.out]; simp)
      rcases hk with rfl | rfl | rfl
      all_goals
        go_wp2
        go_ret
        refine ⟨ret_bool F.out.symm, ?_⟩
        repeat (first | (with_reducible exact BB.out) | (with_reducible refine Below.setCell ?_ (by simp) _) | (with_reducible refine bplus ?_ _))
    | false =>
      have M2 := hide (show mayT k (bl s) n d false false = (chB (bl s) && !(bl s).isEmpty) by rw [M.out, x2]; rfl)
      cases hc : chB (bl s) with
      | false =>
        have F := hide (show mayT k (bl s) n d false false = false by rw [M2.out, hc]; rfl)
        clear hc
        rcases hk with rfl | rfl | rfl
        all_goals
          go_wp2
          go_ret
          refine ⟨ret_bool F.out.symm, ?_⟩
          repeat (first | (with_reducible exact BB.out) | (with_reducible refine Below.setCell ?_ (by simp) _) | (with_reducible refine bplus ?_ _))
      | true =>
        have hl := NL.out hc
        by_cases he : bl s = []
        · have F := hide (show mayT k (bl s) n d false false = false by rw [M2.out, he]; simp)
          have hnn : ¬ (0 : Int) < nn := by have := RE.out.2 he; omega
          clear hc hl he
          rcases hk with rfl | rfl | rfl
          all_goals
            go_wp2
            go_ret
            refine ⟨ret_bool (by rw [F.out]; simp; omega), ?_⟩
            repeat (first | (with_reducible exact BB.out) | (with_reducible refine Below.setCell ?_ (by simp) _) | (with_reducible refine bplus ?_ _))
        · have F := hide (show mayT k (bl s) n d false false = true by rw [M2.out, hc]; cases hb : bl s; exact absurd hb he; rfl)
          have hnn : (0 : Int) < nn := by
            have : ¬ (raw (bl s)).length = 0 := fun h0 => he (RE.out.1 h0)
            omega
          clear hc hl he
          rcases hk with rfl | rfl | rfl
          all_goals
            go_wp2
            go_ret
            refine ⟨ret_bool (by rw [F.out]; simp; omega), ?_⟩
            repeat (first | (with_reducible exact BB.out) | (with_reducible refine Below.setCell ?_ (by simp) _) | (with_reducible refine bplus ?_ _))
  all_goals
    have F := hide (M.out.trans (by rw [x2, Bool.false_and, Bool.false_and]))
    rcases hk with rfl | rfl | rfl
    all_goals
      go_wp2
      go_ret
      refine ⟨ret_bool F.out.symm, ?_⟩
      repeat (first | (with_reducible exact BB.out) | (with_reducible refine Below.setCell ?_ (by simp) _) | (with_reducible refine bplus ?_ _))
set_option maxRecDepth 100000 in
set_option maxHeartbeats 4000000 in
theorem mayR_text (k : Int) (s : ByteArray) (n d : Int) (i h : Bool) (w : World) (hk : k = 5 ∨ k = 7) (hs : s.size ≤ 1099511627776) :
    Calls Tryz.prog 18 #[tokV k s n d i h] w fun e w' => e = .returned (.bool (mayT k (bl s) n d i h)) ∧ Below w.heap.size w w' := by
  have M := hide (may_text hk (bl s) n d i h)
  unfold tokV
  have CH := hide (fun W => charsR_any s W hs)
  have RE := hide (raw_empty (bl s))
  have EM := hide (emp_iff s)
  go_enter Tryz.func18, Tryz.ntmps18
  go_wp2_with fail
  go_at_call 21
  refine (CH.out _).mono ?_
  rintro e w1 ⟨a, nn, c, rfl, hN, hb⟩
  have R := MR.mk' hb
  clear hb
  have BB := hide R.bel
  obtain ⟨z0, p0, p1, p2, p3, p4, p5⟩ := R.t0
  obtain ⟨z1, q0, q1, q2, q3, q4, q5⟩ := R.t1
  have fr1 := R.fr 1
  clear R
  have NL := hide (fun hc => nums_len (hN hc))
  clear hN
  rcases z_ways n d i h with ⟨x1, x2⟩ | ⟨x1, x3, x2⟩ | ⟨x1, x3, rfl, x2⟩ | ⟨x1, x3, rfl, x2⟩
  case inr.inr.inr =>
    cases h with
    | true =>
      have F := hide (show mayT k (bl s) n d false true = false by rw [M.out]; simp)
      rcases hk with rfl | rfl
      all_goals
        go_wp2
        go_ret
        refine ⟨ret_bool F.out.symm, ?_⟩
        repeat (first | (with_reducible exact BB.out) | (with_reducible refine Below.setCell ?_ (by simp) _) | (with_reducible refine bplus ?_ _))
    | false =>
      have F := hide (show mayT k (bl s) n d false false = chB (bl s) by rw [M.out, x2]; rfl)
      rcases hk with rfl | rfl
      all_goals
        go_wp2
        go_ret
        refine ⟨ret_bool F.out.symm, ?_⟩
        repeat (first | (with_reducible exact BB.out) | (with_reducible refine Below.setCell ?_ (by simp) _) | (with_reducible refine bplus ?_ _))
  all_goals
    have F := hide (M.out.trans (by rw [x2, Bool.false_and, Bool.false_and]))
    rcases hk with rfl | rfl
    all_goals
      go_wp2
      go_ret
      refine ⟨ret_bool F.out.symm, ?_⟩
      repeat (first | (with_reducible exact BB.out) | (with_reducible refine Below.setCell ?_ (by simp) _) | (with_reducible refine bplus ?_ _))
set_option maxRecDepth 100000 in
set_option maxHeartbeats 4000000 in
theorem mayR_rest (k : Int) (s : ByteArray) (n d : Int) (i h : Bool) (w : World) (hk : ¬ (k = 1 ∨ k = 2 ∨ k = 3 ∨ k = 4 ∨ k = 5 ∨ k = 7 ∨ k = 9 ∨ k = 10 ∨ k = 11 ∨ k = 12)) (hs : s.size ≤ 1099511627776) :
    Calls Tryz.prog 18 #[tokV k s n d i h] w fun e w' => e = .returned (.bool (mayT k (bl s) n d i h)) ∧ Below w.heap.size w w' := by
  have M := hide (may_rest hk (bl s) n d i h)
  have g1 : (k == 1) = false := by simp; omega
  have g2 : (k == 2) = false := by simp; omega
  have g3 : (k == 3) = false := by simp; omega
  have g4 : (k == 4) = false := by simp; omega
  have g5 : (k == 5) = false := by simp; omega
  have g7 : (k == 7) = false := by simp; omega
  have g9 : (k == 9) = false := by simp; omega
  have g10 : (k == 10) = false := by simp; omega
  have g11 : (k == 11) = false := by simp; omega
  have g12 : (k == 12) = false := by simp; omega
  clear hk
  unfold tokV
  have CH := hide (fun W => charsR_any s W hs)
  have RE := hide (raw_empty (bl s))
  have EM := hide (emp_iff s)
  go_enter Tryz.func18, Tryz.ntmps18
  go_wp2_with fail
  go_at_call 21
  refine (CH.out _).mono ?_
  rintro e w1 ⟨a, nn, c, rfl, hN, hb⟩
  have R := MR.mk' hb
  clear hb
  have BB := hide R.bel
  obtain ⟨z0, p0, p1, p2, p3, p4, p5⟩ := R.t0
  obtain ⟨z1, q0, q1, q2, q3, q4, q5⟩ := R.t1
  clear R
  have NL := hide (fun hc => nums_len (hN hc))
  clear hN
  by_cases k1 : 1 ≤ k
  · by_cases k2 : k ≤ 24
    · have M2 := hide (show mayT k (bl s) n d i h = (s.toList.isEmpty && (zB n d i && !h)) by rw [M.out, ← EM.out]; simp [k1, k2])
      cases he : s.toList.isEmpty with
      | false =>
        have F := hide (show mayT k (bl s) n d i h = false by rw [M2.out, he]; rfl)
        have hse : (s.toList == []) = false := by
          cases hq : s.toList with
          | nil => rw [hq] at he; cases he
          | cons c r => rfl
        go_wp2
        go_ret
        refine ⟨ret_bool F.out.symm, ?_⟩
        repeat (first | (with_reducible exact BB.out) | (with_reducible refine Below.setCell ?_ (by simp) _) | (with_reducible refine bplus ?_ _))
      | true =>
        rcases z_ways n d i h with ⟨x1, x2⟩ | ⟨x1, x3, x2⟩ | ⟨x1, x3, rfl, x2⟩ | ⟨x1, x3, rfl, x2⟩
        case inr.inr.inr =>
          cases h
          all_goals
            have F := hide (M2.out.trans (by rw [he, x2]))
            go_wp2
            go_ret
            refine ⟨ret_bool F.out.symm, ?_⟩
            repeat (first | (with_reducible exact BB.out) | (with_reducible refine Below.setCell ?_ (by simp) _) | (with_reducible refine bplus ?_ _))
        all_goals
          have F := hide (M2.out.trans (by rw [he, x2, Bool.false_and, Bool.and_false]))
          go_wp2
          go_ret
          refine ⟨ret_bool F.out.symm, ?_⟩
          repeat (first | (with_reducible exact BB.out) | (with_reducible refine Below.setCell ?_ (by simp) _) | (with_reducible refine bplus ?_ _))
    · have F := hide (show mayT k (bl s) n d i h = false by rw [M.out]; simp [k2])
      have k2' : 24 < k := by omega
      go_wp2
      go_ret
      refine ⟨ret_bool F.out.symm, ?_⟩
      repeat (first | (with_reducible exact BB.out) | (with_reducible refine Below.setCell ?_ (by simp) _) | (with_reducible refine bplus ?_ _))
  · have F := hide (show mayT k (bl s) n d i h = false by rw [M.out]; simp [k1])
    have k1' : k < 1 := by omega
    go_wp2
    go_ret
    refine ⟨ret_bool F.out.symm, ?_⟩
    repeat (first | (with_reducible exact BB.out) | (with_reducible refine Below.setCell ?_ (by simp) _) | (with_reducible refine bplus ?_ _))
end Go.Proofs.YticboondiojofaaGreatDoor
