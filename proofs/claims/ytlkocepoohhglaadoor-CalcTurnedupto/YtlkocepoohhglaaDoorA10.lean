/-
  Characters by places, by the reference; where a name, a number, an escape begins.
  The program's reader: what comes next, what is taken.
  The characters of some bytes, by the program and by the reference.
  The characters of some bytes, by the reference; the law of both.
-/
import Derived.Test.YtlkocepoohhglaaDoorA09
import Derived.Deep.RegionHeld3
import Derived.Test.YtlkocepoohhglaaDoorA03
import Derived.OwnWalk
set_option linter.unusedVariables false
set_option linter.unusedSimpArgs false
namespace Go.Proofs.YtlkocepoohhglaaDoor
open Go.RowKit

/-- A reader in memory: a list, and how many of it are taken. -/
structure Rd (T : TypeId) (W w : World) (b : Nat) (v : Value) (l : List Int) (p : Nat) : Prop where
  bel : Below W.heap.size W w
  ge : W.heap.size ≤ b
  blk : w.heap[b]? = some (.cells #[v, .int .i64 p] T (0, 0))
  nums : Nums .i32 W v l
  len : l.length ≤ 140737488355328
  le : p ≤ l.length + 4
theorem Rd.lt {T : TypeId} {W w : World} {b : Nat} {v : Value} {l : List Int} {p : Nat} (h : Rd T W w b v l p) : b < w.heap.size := (Array.getElem?_eq_some_iff.1 h.blk).1
theorem Rd.below {T : TypeId} {W w w' : World} {b : Nat} {v : Value} {l : List Int} {p : Nat} (h : Rd T W w b v l p) (hw : Below w.heap.size w w') : Rd T W w' b v l p :=
  ⟨bto h.bel hw, h.ge, (hw.block b h.lt).trans h.blk, h.nums, h.len, h.le⟩
theorem cell_blk {w : World} {b : Nat} {cs : Array Value} {T : TypeId} {q : Nat × Nat} (h : w.heap[b]? = some (.cells cs T q)) (i : Nat) : w.cell? ⟨b, i, none⟩ = cs[i]? := by
  simp [World.cell?, h]
theorem Rd.c0 {T : TypeId} {W w : World} {b : Nat} {v : Value} {l : List Int} {p : Nat} (h : Rd T W w b v l p) : w.cell? ⟨b, 0, none⟩ = some v := by rw [cell_blk h.blk]; rfl
theorem Rd.c1 {T : TypeId} {W w : World} {b : Nat} {v : Value} {l : List Int} {p : Nat} (h : Rd T W w b v l p) : w.cell? ⟨b, 1, none⟩ = some (.int .i64 p) := by rw [cell_blk h.blk]; rfl
theorem Rd.ns {T : TypeId} {W w : World} {b : Nat} {v : Value} {l : List Int} {p : Nat} (h : Rd T W w b v l p) : Nums .i32 w v l := h.nums.below h.bel
theorem isRef_any (x : Int) (w : World) : Calls Tryd.prog 60 #[.int .i32 x] w fun e w' => e = .returned (.bool (isC x)) ∧ w' = w := by
  rcases isC5 x with ⟨h, e⟩ | ⟨h, e⟩ | ⟨h, g, e⟩ | ⟨h, g, e⟩ | ⟨h, g, e⟩
  all_goals
    have E := hide e
    clear e
    go_enter Tryd.func60, Tryd.ntmps60
    go_wp2
    go_ret
    exact ⟨ret_bool (by first | (rw [E.out]; done) | (rw [E.out]; simp; omega)), rfl⟩
set_option maxHeartbeats 1000000 in
theorem at_any (T : TypeId) (W w : World) (b : Nat) (v : Value) (l : List Int) (p : Nat) (k : Int) (h : Rd T W w b v l p) (k0 : 0 ≤ k) (k1 : k ≤ 9) :
    Calls Tryd.prog 55 #[.pointer (some ⟨b, 0, none⟩), .int .i64 k] w fun e w' => e = .returned (.int .i32 (nx ((chs l).drop p) k.toNat)) ∧ Below w.heap.size w w' := by
  obtain ⟨j, rfl⟩ := Int.eq_ofNat_of_zero_le k0
  have c0 := h.c0
  have c1 := h.c1
  have hl := h.len
  have hp := h.le
  have hv := h.ns
  clear h
  rcases hv with ⟨a, c, rfl, rfl⟩ | ⟨b', o, n, c, rfl, hn, h0, hbw, hc, hn9, hc9, hcell⟩
  · have E := hide (nx_out (l := []) (p := p) (k := j) (by simp))
    have q0 : (0 : Int) ≤ (p : Int) + j := by omega
    go_enter Tryd.func55, Tryd.ntmps55
    go_wp2
    go_quiet (fail)
    go_wp2
    go_ret
    exact ⟨ret_int (by simpa using E.out.symm), below_drewN (Below.refl _ _) _⟩
  · have HN := hide hn
    have hnl : n ≤ 140737488355328 := by omega
    have hpn : p ≤ n + 4 := by omega
    clear hl hp hn
    by_cases hlt : p + j < n
    · have E := hide (nx_in (l := l) (p := p) (k := j) (by rw [← HN.out]; exact hlt))
      have cx := hcell (p + j) hlt
      have q0 : ¬ ((n : Int) ≤ (p : Int) + j) := by omega
      clear hcell
      generalize gt l (p + j) = x at *
      by_cases hx : isC x = true
      · have X := hide hx
        have E' := hide (E.out.trans (chrT hx))
        clear hx E
        go_enter Tryd.func55, Tryd.ntmps55
        go_wp2
        go_quiet (fail)
        go_wp2
        go_quiet (fail)
        go_wp2_with (go_at_call 60; refine (isRef_any _ _).mono ?_; rintro e w' ⟨rfl, rfl⟩; rw [X.out])
        go_ret
        exact ⟨ret_int (by simpa using E'.out.symm), below_drewN (Below.refl _ _) _⟩
      · have hx' : isC x = false := by simpa using hx
        have X := hide hx'
        have E' := hide (E.out.trans (chrF hx'))
        clear hx hx' E
        go_enter Tryd.func55, Tryd.ntmps55
        go_wp2
        go_quiet (fail)
        go_wp2
        go_quiet (fail)
        go_wp2_with (go_at_call 60; refine (isRef_any _ _).mono ?_; rintro e w' ⟨rfl, rfl⟩; rw [X.out])
        go_ret
        exact ⟨ret_int (by simpa using E'.out.symm), below_drewN (Below.refl _ _) _⟩
    · have E := hide (nx_out (l := l) (p := p) (k := j) (by rw [← HN.out]; omega))
      have q0 : (n : Int) ≤ (p : Int) + j := by omega
      clear hcell
      go_enter Tryd.func55, Tryd.ntmps55
      go_wp2
      go_quiet (fail)
      go_wp2
      go_ret
      exact ⟨ret_int (by simpa using E.out.symm), below_drewN (Below.refl _ _) _⟩
theorem isDigR_any (c : Int) (w : World) : Calls Tryd.prog 76 #[.int .i32 c] w fun e w' => e = .returned (.bool (isDig c)) ∧ w' = w := by
  rcases (show c < 48 ∨ (48 ≤ c ∧ c ≤ 57) ∨ 57 < c by omega) with h | ⟨h, g⟩ | h
  all_goals
    go_enter Tryd.func76, Tryd.ntmps76
    go_wp2
    go_ret
    exact ⟨ret_bool (by simp [isDig]; omega), rfl⟩
set_option maxHeartbeats 1000000 in
theorem isFstR_any (c : Int) (w : World) : Calls Tryd.prog 75 #[.int .i32 c] w fun e w' => e = .returned (.bool (isFst c)) ∧ w' = w := by
  rcases fst_cases c with ⟨h, e⟩ | ⟨h, g, e⟩ | ⟨h, g, e⟩ | ⟨rfl, e⟩ | ⟨rfl, e⟩ | ⟨h, g, e⟩ | ⟨h, g, e⟩ | ⟨h, e⟩
  all_goals
    have E := hide e
    clear e
    go_enter Tryd.func75, Tryd.ntmps75
    go_wp2
    go_ret
    exact ⟨ret_bool (by rw [E.out]; first | done | rfl | (simp; omega)), rfl⟩
theorem escR_any (a b : Int) (w : World) : Calls Tryd.prog 65 #[.int .i32 a, .int .i32 b] w fun e w' => e = .returned (.bool (es2 a b)) ∧ w' = w := by
  by_cases ha : a = 92
  · subst ha
    by_cases hb : b = 10
    · subst hb
      go_enter Tryd.func65, Tryd.ntmps65
      go_wp2
      go_ret
      exact ⟨rfl, rfl⟩
    · have hb' : (b == 10) = false := by simpa using hb
      go_enter Tryd.func65, Tryd.ntmps65
      go_wp2
      go_ret
      exact ⟨ret_bool (by simp [es2, bne, hb']), rfl⟩
  · have ha' : (a == 92) = false := by simpa using ha
    go_enter Tryd.func65, Tryd.ntmps65
    go_wp2
    go_ret
    exact ⟨ret_bool (by simp [es2, ha']), rfl⟩
set_option maxHeartbeats 1000000 in
theorem begR_any (a b c : Int) (w : World) : Calls Tryd.prog 66 #[.int .i32 a, .int .i32 b, .int .i32 c] w fun e w' => e = .returned (.bool (nmB a b c)) ∧ w' = w := by
  by_cases ha : a = 45
  · subst ha
    have HE := hide (show nmB 45 b c = (isFst b || (b == 45) || es2 b c) by unfold nmB; rw [if_pos rfl])
    rw [HE.out]
    clear HE
    by_cases hb : b = 45
    · subst hb
      go_enter Tryd.func66, Tryd.ntmps66
      go_wp2_with (go_at_call 75; refine (isFstR_any _ _).mono ?_; rintro e w' ⟨rfl, rfl⟩; rw [show isFst 45 = false from rfl])
      go_ret
      exact ⟨rfl, rfl⟩
    · have hb' : (b == 45) = false := by simpa using hb
      cases hf : isFst b
      · have F := hide hf
        cases he : es2 b c
        all_goals
          have ES := hide he
          clear he hf
          go_enter Tryd.func66, Tryd.ntmps66
          go_wp2_with (first
            | (go_at_call 75; refine (isFstR_any _ _).mono ?_; rintro e w' ⟨rfl, rfl⟩; rw [F.out])
            | (go_at_call 65; refine (escR_any _ _ _).mono ?_; rintro e w' ⟨rfl, rfl⟩; rw [ES.out]))
          go_ret
          exact ⟨ret_bool (by rw [hb']; rfl), rfl⟩
      · have F := hide hf
        clear hf
        go_enter Tryd.func66, Tryd.ntmps66
        go_wp2_with (go_at_call 75; refine (isFstR_any _ _).mono ?_; rintro e w' ⟨rfl, rfl⟩; rw [F.out])
        go_ret
        exact ⟨ret_bool (by rfl), rfl⟩
  · have ha' : (a == 45) = false := by simpa using ha
    have HE := hide (show nmB a b c = (isFst a || es2 a b) by unfold nmB; rw [if_neg ha])
    rw [HE.out]
    clear HE
    cases hf : isFst a
    · have F := hide hf
      cases he : es2 a b
      all_goals
        have ES := hide he
        clear he hf
        go_enter Tryd.func66, Tryd.ntmps66
        go_wp2_with (first
          | (go_at_call 75; refine (isFstR_any _ _).mono ?_; rintro e w' ⟨rfl, rfl⟩; rw [F.out])
          | (go_at_call 65; refine (escR_any _ _ _).mono ?_; rintro e w' ⟨rfl, rfl⟩; rw [ES.out]))
        go_ret
        exact ⟨ret_bool (by rfl), rfl⟩
    · have F := hide hf
      clear hf
      go_enter Tryd.func66, Tryd.ntmps66
      go_wp2_with (go_at_call 75; refine (isFstR_any _ _).mono ?_; rintro e w' ⟨rfl, rfl⟩; rw [F.out])
      go_ret
      exact ⟨ret_bool (by rfl), rfl⟩
/-- A number begins at these two (a sign is gone). -/
def nu2 (a b : Int) : Bool := isDig a || ((a == 46) && isDig b)
set_option maxHeartbeats 2000000 in
theorem numR_any (a b c : Int) (w : World) : Calls Tryd.prog 68 #[.int .i32 a, .int .i32 b, .int .i32 c] w fun e w' => e = .returned (.bool (nuB a b c)) ∧ w' = w := by
  have fin : ∀ (x y : Int), (isDig x = true ∨ (isDig x = false ∧ x = 46 ∧ isDig y = true) ∨ (isDig x = false ∧ x = 46 ∧ isDig y = false) ∨ (isDig x = false ∧ (x == 46) = false)) := by
    intro x y
    cases isDig x
    · cases isDig y
      · by_cases h : x = 46 <;> simp [h]
      · by_cases h : x = 46 <;> simp [h]
    · simp
  rcases (show a = 43 ∨ a = 45 ∨ (a ≠ 43 ∧ a ≠ 45) by omega) with rfl | rfl | ⟨h, g⟩
  · have HE := hide (show nuB 43 b c = nu2 b c from rfl)
    rw [HE.out]; clear HE
    rcases fin b c with h | ⟨h, rfl, k⟩ | ⟨h, rfl, k⟩ | ⟨h, k⟩
    all_goals
      have D0 := hide h
      first | (have D1 := hide k) | (have D1 := D0)
      clear h
      go_enter Tryd.func68, Tryd.ntmps68
      go_wp2_with (go_at_call 76; refine (isDigR_any _ _).mono ?_; rintro e w' ⟨rfl, rfl⟩; (first | rw [D0.out] | rw [D1.out]))
      go_ret
      exact ⟨ret_bool (by unfold nu2; simp [D0.out, D1.out]), rfl⟩
  · have HE := hide (show nuB 45 b c = nu2 b c from rfl)
    rw [HE.out]; clear HE
    rcases fin b c with h | ⟨h, rfl, k⟩ | ⟨h, rfl, k⟩ | ⟨h, k⟩
    all_goals
      have D0 := hide h
      first | (have D1 := hide k) | (have D1 := D0)
      clear h
      go_enter Tryd.func68, Tryd.ntmps68
      go_wp2_with (go_at_call 76; refine (isDigR_any _ _).mono ?_; rintro e w' ⟨rfl, rfl⟩; (first | rw [D0.out] | rw [D1.out]))
      go_ret
      exact ⟨ret_bool (by unfold nu2; simp [D0.out, D1.out]), rfl⟩
  · have a1 : (a == 43) = false := by simpa using h
    have a2 : (a == 45) = false := by simpa using g
    have HE := hide (show nuB a b c = nu2 a b by unfold nuB nu2; rw [if_neg (by simp [isSg, h, g])])
    rw [HE.out]; clear HE h g
    rcases fin a b with h | ⟨h, rfl, k⟩ | ⟨h, rfl, k⟩ | ⟨h, k⟩
    all_goals
      have D0 := hide h
      first | (have D1 := hide k) | (have D1 := D0)
      clear h
      go_enter Tryd.func68, Tryd.ntmps68
      go_wp2_with (go_at_call 76; refine (isDigR_any _ _).mono ?_; rintro e w' ⟨rfl, rfl⟩; (first | rw [D0.out] | rw [D1.out]))
      go_ret
      exact ⟨ret_bool (by unfold nu2; simp [D0.out, D1.out]), rfl⟩
end Go.Proofs.YtlkocepoohhglaaDoor
set_option linter.unusedVariables false
set_option linter.unusedSimpArgs false
namespace Go.Proofs.YtlkocepoohhglaaDoor
open Go.RowKit

/-- All but block b is as it was. -/
theorem Mod.of {w w' : World} (b : Nat) (h : Below w.heap.size w w') : w.grownBy w' (some b) := ⟨h.os, h.tape, h.output, h.size, fun k hk _ => h.block k hk⟩
theorem Mod.trans {w w1 w2 : World} {b : Nat} (h : w.grownBy w1 (some b)) (k : w1.grownBy w2 (some b)) : w.grownBy w2 (some b) :=
  ⟨k.os.trans h.os, k.tape.trans h.tape, k.output.trans h.output, Nat.le_trans h.size k.size, fun i hi hb => (k.block i (Nat.lt_of_lt_of_le hi h.size) hb).trans (h.block i hi hb)⟩
theorem Mod.below {W w w' : World} {b : Nat} (h : w.grownBy w' (some b)) (hb : W.heap.size ≤ b) (hw : Below W.heap.size W w) : Below W.heap.size W w' :=
  hw.trans ⟨h.os, h.tape, h.output, h.size, fun k hk => h.block k (Nat.lt_of_lt_of_le hk hw.size) (by intro e; cases e; omega)⟩
theorem Mod.refl (w : World) (b : Nat) : w.grownBy w (some b) := Mod.of b (Below.refl _ _)
theorem heap_set {w : World} {b : Nat} {cs : Array Value} {T : TypeId} {q : Nat × Nat} (h : w.heap[b]? = some (.cells cs T q)) (i : Nat) (u : Value) : (w.setCell ⟨b, i, none⟩ u).heap[b]? = some (.cells (cs.setIfInBounds i u) T q) := by
  simp [World.setCell, Array.getElem?_modify, h]
theorem Rd.set {T : TypeId} {W w : World} {b : Nat} {v : Value} {l : List Int} {p : Nat} (h : Rd T W w b v l p) (q : Nat) (hq : q ≤ l.length + 4) : Rd T W (w.setCell ⟨b, 1, none⟩ (.int .i64 q)) b v l q ∧ w.grownBy (w.setCell ⟨b, 1, none⟩ (.int .i64 q)) (some b) :=
  ⟨⟨h.bel.setCell (p := ⟨b, 1, none⟩) h.ge _, h.ge, (heap_set h.blk 1 _).trans rfl, h.nums, h.len, hq⟩,
   rfl, rfl, rfl, by simp, fun k _ hk => Below.heap_setCell _ _ _ _ (by intro e; exact hk (by rw [e]))⟩
theorem Rd.drew {T : TypeId} {W w w' : World} {b : Nat} {v : Value} {l : List Int} {p : Nat} (h : Rd T W w' b v l p ∧ w.grownBy w' (some b)) : Rd T W w'.drew b v l p ∧ w.grownBy w'.drew (some b) :=
  ⟨⟨h.1.bel.drew, h.1.ge, h.1.blk, h.1.nums, h.1.len, h.1.le⟩, h.2.os, h.2.tape, h.2.output, h.2.size, h.2.block⟩
theorem drop_min (l : List Int) (p k : Nat) : (chs l).drop (min (p + k) l.length) = ((chs l).drop p).drop k := by
  rw [List.drop_drop]
  by_cases h : p + k ≤ l.length
  · rw [Nat.min_eq_left h]
  · rw [Nat.min_eq_right (by omega), List.drop_of_length_le (by rw [chs_len]; omega), List.drop_of_length_le (by rw [chs_len]; omega)]
/-- Where the reader stands. -/
structure At (T : TypeId) (W w : World) (b : Nat) (v : Value) (l : List Int) (s : List Int) : Prop where
  ex : ∃ p, Rd T W w b v l p ∧ p ≤ l.length ∧ s = (chs l).drop p
theorem At.below {T : TypeId} {W w w' : World} {b : Nat} {v : Value} {l s : List Int} (h : At T W w b v l s) (hw : Below w.heap.size w w') : At T W w' b v l s := by
  obtain ⟨p, h1, h2, h3⟩ := h.ex
  exact ⟨p, h1.below hw, h2, h3⟩
theorem At.lt {T : TypeId} {W w : World} {b : Nat} {v : Value} {l s : List Int} (h : At T W w b v l s) : b < w.heap.size := by
  obtain ⟨p, h1, _⟩ := h.ex; exact h1.lt
theorem At.len {T : TypeId} {W w : World} {b : Nat} {v : Value} {l s : List Int} (h : At T W w b v l s) : s.length ≤ l.length ∧ l.length ≤ 140737488355328 := by
  obtain ⟨p, h1, _, rfl⟩ := h.ex
  exact ⟨by rw [List.length_drop, chs_len]; omega, h1.len⟩
theorem At.chr {T : TypeId} {W w : World} {b : Nat} {v : Value} {l s : List Int} (h : At T W w b v l s) : ∀ x ∈ s, isC x = true := by
  obtain ⟨p, _, _, rfl⟩ := h.ex
  intro x hx
  obtain ⟨y, _, rfl⟩ := List.mem_map.1 (List.mem_of_mem_drop hx)
  exact isC_chr y
end Go.Proofs.YtlkocepoohhglaaDoor
set_option linter.unusedVariables false
set_option linter.unusedSimpArgs false
namespace Go.Proofs.YtlkocepoohhglaaDoor
open Go.RowKit

theorem info32 : (Tryd.prog.info? 21).map (fun i => (i.zero, i.size, i.bytes)) = some (some (.int .i32 0), 1, 4) := by kernel_rfl
/-- What the call owns, as numbers. -/
def Own (W : World) (k : IntKind) (e : TypeId) (wr : World) (v : Value) (xs : List Int) : Prop := wr.ownsRow W.heap.size e 1 v xs.length (xs.map (Value.int k)) ∧ Below W.heap.size W wr
theorem Own.nums {W wr : World} {k : IntKind} {e : TypeId} {v : Value} {xs : List Int} (h : Own W k e wr v xs) (hl : xs.length ≤ 4611686018427387904) : Nums k wr v xs := by
  rcases h.1.2 with ⟨rfl, h0⟩ | ⟨g, cap, cur, rfl, hb, hg, hn, hm, hs, ht⟩
  · exact .inl ⟨_, _, rfl, List.eq_nil_of_length_eq_zero h0⟩
  · by_cases h0 : xs.length = 0
    · obtain rfl : xs = [] := List.eq_nil_of_length_eq_zero h0
      exact .inl ⟨_, _, rfl, rfl⟩
    · refine .inr ⟨g, 0, xs.length, cap, rfl, rfl, by omega, (Array.getElem?_eq_some_iff.1 hg).1, hn, hl, by unfold maxLen at hm; exact hm, fun i hi => ?_⟩
      rw [Nat.zero_add, h.1.cellAt i (by omega)]
      simp [gt, List.getD_eq_getElem?_getD, List.getElem?_eq_getElem hi]
theorem Own.nil (W : World) (k : IntKind) (e : TypeId) : Own W k e W (.slice none 0 0) [] := ⟨World.ownsRow_nil _ _ _ _, Below.refl _ _⟩
theorem Own.made {W w1 : World} {k : IntKind} {e : TypeId} {v : Value} (h : w1.ownsRow W.heap.size e 1 v 0 []) (hg : W.grownBy w1 none) : Own W k e w1 v [] :=
  ⟨h, (Below.refl _ _).grown hg (Nat.le_refl _) (fun _ h => by cases h)⟩
theorem Own.grow {W wr w1 : World} {k : IntKind} {e : TypeId} {v v' : Value} {xs ys : List Int} {o : Obj} (h : Own W k e wr v xs)
    (h1 : w1.ownsRow W.heap.size e 1 v' (xs.length + ys.length) (xs.map (Value.int k) ++ ys.map (Value.int k))) (hg : (wr.alloc o).grownBy w1 v.ownBlock) : Own W k e w1 v' (xs ++ ys) := by
  refine ⟨by rw [List.length_append, List.map_append]; exact h1, ?_⟩
  exact (h.2.alloc h.2.size o).grown hg (by have := h.2.size; simp; omega) (fun k hk => (h.1.lt k hk).1)
/-- The state of a loop that reads characters. -/
def RelRaw (W : World) (n : Nat) (bs : List Int) (l a : Value) (wr : World) : Prop :=
  ∃ (i : Nat) (xs : List Int), i ≤ n ∧ a = .int .i64 i ∧ xs.length ≤ i ∧ Own W .i32 21 wr l xs ∧ Hid (raw bs = xs ++ raw (bs.drop i))
theorem RelRaw.mk {W : World} {n : Nat} {bs : List Int} {l a : Value} {wr : World} (i : Nat) (xs : List Int) (h1 : i ≤ n) (h2 : a = .int .i64 i) (h3 : xs.length ≤ i) (h4 : Own W .i32 21 wr l xs) (h5 : raw bs = xs ++ raw (bs.drop i)) : RelRaw W n bs l a wr :=
  ⟨i, xs, h1, h2, h3, h4, h5⟩
theorem raw_go {bs : List Int} {i : Nat} {xs : List Int} (h : raw bs = xs ++ raw (bs.drop i)) (hi : i < bs.length) : raw bs = (xs ++ [(stp (bs.drop i)).1]) ++ raw (bs.drop (i + (stp (bs.drop i)).2.1)) := by
  have hne : bs.drop i ≠ [] := by intro e; have := congrArg List.length e; simp at this; omega
  rw [h, raw_cut hne, List.drop_drop]; simp
theorem raw_end {bs : List Int} {i : Nat} {xs : List Int} (h : raw bs = xs ++ raw (bs.drop i)) (hi : bs.length ≤ i) : raw bs = xs := by
  rw [h, List.drop_of_length_le hi, raw_nil, List.append_nil]
theorem news1 (w : World) (u : Value) (t : TypeId) : ∀ j x, [u][j]? = some x → (w.alloc (.cells #[u] t)).cell? ((⟨w.heap.size, 0, none⟩ : Addr).add j) = some x := fun j x hx => by
  match j, hx with
  | 0, hx => simp at hx; subst hx; simp [Addr.add]
theorem ret_val {u u' : Value} (h : u = u') : Ending.returned u = .returned u' := by rw [h]
end Go.Proofs.YtlkocepoohhglaaDoor
set_option linter.unusedVariables false
set_option linter.unusedSimpArgs false
namespace Go.Proofs.YtlkocepoohhglaaDoor
open Go.RowKit

set_option maxRecDepth 100000 in
set_option maxHeartbeats 1000000 in
theorem rawR_any (bs : List Int) (v : Value) (w : World) (hb : By bs) (hv : Nums .u8 w v bs) (hl9 : bs.length ≤ 1099511627776) :
    Calls Tryd.prog 57 #[v] w fun e w' => ∃ u, e = .returned u ∧ Nums .i32 w' u (raw bs) ∧ Below w.heap.size w w' := by
  obtain ⟨i0, hi, hz0, hz1, hz2⟩ := info_parts info32
  rcases hv with ⟨a, c, rfl, rfl⟩ | ⟨b, o, n, c, rfl, hn, h0, hbw, hl, hn9, hc9, hc⟩
  · go_enter Tryd.func57, Tryd.ntmps57
    go_wp2
    refine wp_loop_rounds 1 ?_
    rw [rounds_succ]
    go_wp2
    go_ret
    exact ⟨_, rfl, by rw [raw_nil]; exact .inl ⟨_, _, rfl, rfl⟩, Below.refl _ _⟩
  · have HN : Hid (n = bs.length) := hn
    have HC := hide hc
    have hnb : n ≤ 1099511627776 := by omega
    clear hc hn hl9
    go_enter Tryd.func57, Tryd.ntmps57
    go_wp2
    go_loopw [3, 4] (fun l a wr => RelRaw w n bs l a wr) (fun _ a _ => n - (intOf a).toNat)
    case atStart => exact .mk 0 [] (by omega) rfl (by simp) (Own.nil _ _ _) rfl
    case round =>
      obtain ⟨i, xs, hin, rfl, hxs, HO, R⟩ := hrel
      replace HO := hide HO
      by_cases hlt : i < n
      · obtain ⟨s1, s2, s3⟩ := stp_drop (bs := bs) (i := i) (by rw [← HN.out]; exact hlt)
        rw [← HN.out] at s3
        have R' : Hid _ := raw_go R.out (by rw [← HN.out]; exact hlt)
        have FH := hide (one_any bs n b o c i wr HN.out hb hl hn9 hc9 hlt (fun j hj => (HO.out.2.cell (p := ⟨b, o + j, none⟩) hbw).trans (HC.out j hj)))
        generalize hr : stp (bs.drop i) = r at *
        obtain ⟨x, g, t⟩ := r
        replace FH := FH.out; dsimp only at s1 s2 s3 R'
        clear hr
        go_wp2_with (first
          | (go_at_call 72; refine FH.mono ?_; rintro e w' ⟨rfl, rfl⟩; clear FH)
          | (at_builtin; refine wpList_append_own _ rfl _ _ 81 rfl w.heap.size 21 i0 (.int .i32 0) 1 4 Tryd.underlying81 hi hz0 hz1 hz2 rfl (by decide) _ _ _ rfl (HO.out.1.alloc _) ⟨_, 0, none⟩ 1 1 [.int .i32 x] rfl rfl (news1 _ _ _) (by intro u hu; simp at hu; subst hu; rfl) (by unfold maxLen; omega) (by omega) (by have := HO.out.2.size; simp; omega) ?_; intro v' w1 hown' hgrow _; replace HO := hide (HO.out.grow (ys := [x]) hown' hgrow); clear hown' hgrow))
        go_roundw
        case rel => exact .mk (i + g) (xs ++ [x]) (by omega) (by go_num) (by simp; omega) HO.out R'.out
        case measure => simp [intOf]; omega
      · have R' : Hid _ := raw_end R.out (by rw [← HN.out]; omega)
        have N := hide (HO.out.nums (by omega))
        go_wp2
        go_ret
        exact ⟨_, rfl, by rw [R'.out]; exact N.out, HO.out.2⟩
theorem raw_four : raw [65, 195, 164, 195] = [65, 228, 65533] := by
  rw [raw_cut (by simp)]
  show (65 : Int) :: raw [195, 164, 195] = _
  rw [raw_cut (by simp)]
  show (65 : Int) :: 228 :: raw [195] = _
  rw [raw_cut (by simp)]
  show (65 : Int) :: 228 :: 65533 :: raw [] = _
  rw [raw_nil]
theorem By.four : By [65, 195, 164, 195] := by intro x hx; simp at hx; omega
theorem eqB_refl (a : List Int) : eqB a a = true := by simp [eqB]
end Go.Proofs.YtlkocepoohhglaaDoor
