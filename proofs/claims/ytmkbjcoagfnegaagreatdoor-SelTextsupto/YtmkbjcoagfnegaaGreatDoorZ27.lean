/-
  Characters by places, by the reference; where a name, a number, an escape begins.
  The program's reader: what comes next, what is taken.
  What is left of some component values: the reader's small functions, by the program.
  A struct in a block of its own: written whole, told whole.
-/
import Derived.Test.YtmkbjcoagfnegaaGreatDoorZ26
import Derived.Deep.RegionHeld3
import Derived.Test.YtmkbjcoagfnegaaGreatDoorZ11
import Derived.Test.YtmkbjcoagfnegaaGreatDoorZ12
import Derived.Deep.MidRow
set_option linter.unusedVariables false
set_option linter.unusedSimpArgs false
namespace Go.Proofs.YtmkbjcoagfnegaaGreatDoor
open Go.RowKit

/-- A reader in memory: a list, and how many of it are taken. -/
structure Rd (T : TypeId) (W w : World) (b : Nat) (v : Value) (l : List Int) (p : Nat) : Prop where
  bel : Below W.heap.size W w
  ge : W.heap.size ≤ b
  blk : w.heap[b]? = some (.cells #[v, .int .i64 p] T (0, 0))
  nums : Nums .i32 W v l
  len : l.length ≤ 140737488355328
  le : p ≤ l.length + 4
theorem Rd.lt {T : TypeId} {W w : World} {b : Nat} {v : Value} {l : List Int} {p : Nat} (h : Rd T W w b v l p) : b < w.heap.size := (Array.getElem?_eq_some_iff.1 h.blk).1
theorem Rd.below {T : TypeId} {W w w' : World} {b : Nat} {v : Value} {l : List Int} {p : Nat} (h : Rd T W w b v l p) (hw : Below w.heap.size w w') : Rd T W w' b v l p :=
  ⟨bto h.bel hw, h.ge, (hw.block b h.lt).trans h.blk, h.nums, h.len, h.le⟩
theorem cell_blk {w : World} {b : Nat} {cs : Array Value} {T : TypeId} {q : Nat × Nat} (h : w.heap[b]? = some (.cells cs T q)) (i : Nat) : w.cell? ⟨b, i, none⟩ = cs[i]? := by
  simp [World.cell?, h]
theorem Rd.c0 {T : TypeId} {W w : World} {b : Nat} {v : Value} {l : List Int} {p : Nat} (h : Rd T W w b v l p) : w.cell? ⟨b, 0, none⟩ = some v := by rw [cell_blk h.blk]; rfl
theorem Rd.c1 {T : TypeId} {W w : World} {b : Nat} {v : Value} {l : List Int} {p : Nat} (h : Rd T W w b v l p) : w.cell? ⟨b, 1, none⟩ = some (.int .i64 p) := by rw [cell_blk h.blk]; rfl
theorem Rd.ns {T : TypeId} {W w : World} {b : Nat} {v : Value} {l : List Int} {p : Nat} (h : Rd T W w b v l p) : Nums .i32 w v l := h.nums.below h.bel
theorem isRef_any (x : Int) (w : World) : Calls Tryz.prog 71 #[.int .i32 x] w fun e w' => e = .returned (.bool (isC x)) ∧ w' = w := by
  rcases isC5 x with ⟨h, e⟩ | ⟨h, e⟩ | ⟨h, g, e⟩ | ⟨h, g, e⟩ | ⟨h, g, e⟩
  all_goals
    have E := hide e
    clear e
    go_enter Tryz.func71, Tryz.ntmps71
    go_wp2
    go_ret
    exact ⟨ret_bool (by first | (rw [E.out]; done) | (rw [E.out]; simp; omega)), rfl⟩
set_option maxHeartbeats 1000000 in
theorem at_any (T : TypeId) (W w : World) (b : Nat) (v : Value) (l : List Int) (p : Nat) (k : Int) (h : Rd T W w b v l p) (k0 : 0 ≤ k) (k1 : k ≤ 9) :
    Calls Tryz.prog 53 #[.pointer (some ⟨b, 0, none⟩), .int .i64 k] w fun e w' => e = .returned (.int .i32 (nx ((chs l).drop p) k.toNat)) ∧ Below w.heap.size w w' := by
  obtain ⟨j, rfl⟩ := Int.eq_ofNat_of_zero_le k0
  have c0 := h.c0
  have c1 := h.c1
  have hl := h.len
  have hp := h.le
  have hv := h.ns
  clear h
  rcases hv with ⟨a, c, rfl, rfl⟩ | ⟨b', o, n, c, rfl, hn, h0, hbw, hc, hn9, hc9, hcell⟩
  · have E := hide (nx_out (l := []) (p := p) (k := j) (by simp))
    have q0 : (0 : Int) ≤ (p : Int) + j := by omega
    go_enter Tryz.func53, Tryz.ntmps53
    go_wp2
    go_quiet (fail)
    go_wp2
    go_ret
    exact ⟨ret_int (by simpa using E.out.symm), below_drewN (Below.refl _ _) _⟩
  · have HN := hide hn
    have hnl : n ≤ 140737488355328 := by omega
    have hpn : p ≤ n + 4 := by omega
    clear hl hp hn
    by_cases hlt : p + j < n
    · have E := hide (nx_in (l := l) (p := p) (k := j) (by rw [← HN.out]; exact hlt))
      have cx := hcell (p + j) hlt
      have q0 : ¬ ((n : Int) ≤ (p : Int) + j) := by omega
      clear hcell
      generalize gt l (p + j) = x at *
      by_cases hx : isC x = true
      · have X := hide hx
        have E' := hide (E.out.trans (chrT hx))
        clear hx E
        go_enter Tryz.func53, Tryz.ntmps53
        go_wp2
        go_quiet (fail)
        go_wp2
        go_quiet (fail)
        go_wp2_with (go_at_call 71; refine (isRef_any _ _).mono ?_; rintro e w' ⟨rfl, rfl⟩; rw [X.out])
        go_ret
        exact ⟨ret_int (by simpa using E'.out.symm), below_drewN (Below.refl _ _) _⟩
      · have hx' : isC x = false := by simpa using hx
        have X := hide hx'
        have E' := hide (E.out.trans (chrF hx'))
        clear hx hx' E
        go_enter Tryz.func53, Tryz.ntmps53
        go_wp2
        go_quiet (fail)
        go_wp2
        go_quiet (fail)
        go_wp2_with (go_at_call 71; refine (isRef_any _ _).mono ?_; rintro e w' ⟨rfl, rfl⟩; rw [X.out])
        go_ret
        exact ⟨ret_int (by simpa using E'.out.symm), below_drewN (Below.refl _ _) _⟩
    · have E := hide (nx_out (l := l) (p := p) (k := j) (by rw [← HN.out]; omega))
      have q0 : (n : Int) ≤ (p : Int) + j := by omega
      clear hcell
      go_enter Tryz.func53, Tryz.ntmps53
      go_wp2
      go_quiet (fail)
      go_wp2
      go_ret
      exact ⟨ret_int (by simpa using E.out.symm), below_drewN (Below.refl _ _) _⟩
theorem isDigR_any (c : Int) (w : World) : Calls Tryz.prog 105 #[.int .i32 c] w fun e w' => e = .returned (.bool (isDig c)) ∧ w' = w := by
  rcases (show c < 48 ∨ (48 ≤ c ∧ c ≤ 57) ∨ 57 < c by omega) with h | ⟨h, g⟩ | h
  all_goals
    go_enter Tryz.func105, Tryz.ntmps105
    go_wp2
    go_ret
    exact ⟨ret_bool (by simp [isDig]; omega), rfl⟩
set_option maxHeartbeats 1000000 in
theorem isFstR_any (c : Int) (w : World) : Calls Tryz.prog 104 #[.int .i32 c] w fun e w' => e = .returned (.bool (isFst c)) ∧ w' = w := by
  rcases fst_cases c with ⟨h, e⟩ | ⟨h, g, e⟩ | ⟨h, g, e⟩ | ⟨rfl, e⟩ | ⟨rfl, e⟩ | ⟨h, g, e⟩ | ⟨h, g, e⟩ | ⟨h, e⟩
  all_goals
    have E := hide e
    clear e
    go_enter Tryz.func104, Tryz.ntmps104
    go_wp2
    go_ret
    exact ⟨ret_bool (by rw [E.out]; first | done | rfl | (simp; omega)), rfl⟩
theorem escR_any (a b : Int) (w : World) : Calls Tryz.prog 76 #[.int .i32 a, .int .i32 b] w fun e w' => e = .returned (.bool (es2 a b)) ∧ w' = w := by
  by_cases ha : a = 92
  · subst ha
    by_cases hb : b = 10
    · subst hb
      go_enter Tryz.func76, Tryz.ntmps76
      go_wp2
      go_ret
      exact ⟨rfl, rfl⟩
    · have hb' : (b == 10) = false := by simpa using hb
      go_enter Tryz.func76, Tryz.ntmps76
      go_wp2
      go_ret
      exact ⟨ret_bool (by simp [es2, bne, hb']), rfl⟩
  · have ha' : (a == 92) = false := by simpa using ha
    go_enter Tryz.func76, Tryz.ntmps76
    go_wp2
    go_ret
    exact ⟨ret_bool (by simp [es2, ha']), rfl⟩
set_option maxHeartbeats 1000000 in
theorem begR_any (a b c : Int) (w : World) : Calls Tryz.prog 77 #[.int .i32 a, .int .i32 b, .int .i32 c] w fun e w' => e = .returned (.bool (nmB a b c)) ∧ w' = w := by
  by_cases ha : a = 45
  · subst ha
    have HE := hide (show nmB 45 b c = (isFst b || (b == 45) || es2 b c) by unfold nmB; rw [if_pos rfl])
    rw [HE.out]
    clear HE
    by_cases hb : b = 45
    · subst hb
      go_enter Tryz.func77, Tryz.ntmps77
      go_wp2_with (go_at_call 104; refine (isFstR_any _ _).mono ?_; rintro e w' ⟨rfl, rfl⟩; rw [show isFst 45 = false from rfl])
      go_ret
      exact ⟨rfl, rfl⟩
    · have hb' : (b == 45) = false := by simpa using hb
      cases hf : isFst b
      · have F := hide hf
        cases he : es2 b c
        all_goals
          have ES := hide he
          clear he hf
          go_enter Tryz.func77, Tryz.ntmps77
          go_wp2_with (first
            | (go_at_call 104; refine (isFstR_any _ _).mono ?_; rintro e w' ⟨rfl, rfl⟩; rw [F.out])
            | (go_at_call 76; refine (escR_any _ _ _).mono ?_; rintro e w' ⟨rfl, rfl⟩; rw [ES.out]))
          go_ret
          exact ⟨ret_bool (by rw [hb']; rfl), rfl⟩
      · have F := hide hf
        clear hf
        go_enter Tryz.func77, Tryz.ntmps77
        go_wp2_with (go_at_call 104; refine (isFstR_any _ _).mono ?_; rintro e w' ⟨rfl, rfl⟩; rw [F.out])
        go_ret
        exact ⟨ret_bool (by rfl), rfl⟩
  · have ha' : (a == 45) = false := by simpa using ha
    have HE := hide (show nmB a b c = (isFst a || es2 a b) by unfold nmB; rw [if_neg ha])
    rw [HE.out]
    clear HE
    cases hf : isFst a
    · have F := hide hf
      cases he : es2 a b
      all_goals
        have ES := hide he
        clear he hf
        go_enter Tryz.func77, Tryz.ntmps77
        go_wp2_with (first
          | (go_at_call 104; refine (isFstR_any _ _).mono ?_; rintro e w' ⟨rfl, rfl⟩; rw [F.out])
          | (go_at_call 76; refine (escR_any _ _ _).mono ?_; rintro e w' ⟨rfl, rfl⟩; rw [ES.out]))
        go_ret
        exact ⟨ret_bool (by rfl), rfl⟩
    · have F := hide hf
      clear hf
      go_enter Tryz.func77, Tryz.ntmps77
      go_wp2_with (go_at_call 104; refine (isFstR_any _ _).mono ?_; rintro e w' ⟨rfl, rfl⟩; rw [F.out])
      go_ret
      exact ⟨ret_bool (by rfl), rfl⟩
/-- A number begins at these two (a sign is gone). -/
def nu2 (a b : Int) : Bool := isDig a || ((a == 46) && isDig b)
set_option maxHeartbeats 2000000 in
theorem numR_any (a b c : Int) (w : World) : Calls Tryz.prog 79 #[.int .i32 a, .int .i32 b, .int .i32 c] w fun e w' => e = .returned (.bool (nuB a b c)) ∧ w' = w := by
  have fin : ∀ (x y : Int), (isDig x = true ∨ (isDig x = false ∧ x = 46 ∧ isDig y = true) ∨ (isDig x = false ∧ x = 46 ∧ isDig y = false) ∨ (isDig x = false ∧ (x == 46) = false)) := by
    intro x y
    cases isDig x
    · cases isDig y
      · by_cases h : x = 46 <;> simp [h]
      · by_cases h : x = 46 <;> simp [h]
    · simp
  rcases (show a = 43 ∨ a = 45 ∨ (a ≠ 43 ∧ a ≠ 45) by omega) with rfl | rfl | ⟨h, g⟩
  · have HE := hide (show nuB 43 b c = nu2 b c from rfl)
    rw [HE.out]; clear HE
    rcases fin b c with h | ⟨h, rfl, k⟩ | ⟨h, rfl, k⟩ | ⟨h, k⟩
    all_goals
      have D0 := hide h
      first | (have D1 := hide k) | (have D1 := D0)
      clear h
      go_enter Tryz.func79, Tryz.ntmps79
      go_wp2_with (go_at_call 105; refine (isDigR_any _ _).mono ?_; rintro e w' ⟨rfl, rfl⟩; (first | rw [D0.out] | rw [D1.out]))
      go_ret
      exact ⟨ret_bool (by unfold nu2; simp [D0.out, D1.out]), rfl⟩
  · have HE := hide (show nuB 45 b c = nu2 b c from rfl)
    rw [HE.out]; clear HE
    rcases fin b c with h | ⟨h, rfl, k⟩ | ⟨h, rfl, k⟩ | ⟨h, k⟩
    all_goals
      have D0 := hide h
      first | (have D1 := hide k) | (have D1 := D0)
      clear h
      go_enter Tryz.func79, Tryz.ntmps79
      go_wp2_with (go_at_call 105; refine (isDigR_any _ _).mono ?_; rintro e w' ⟨rfl, rfl⟩; (first | rw [D0.out] | rw [D1.out]))
      go_ret
      exact ⟨ret_bool (by unfold nu2; simp [D0.out, D1.out]), rfl⟩
  · have a1 : (a == 43) = false := by simpa using h
    have a2 : (a == 45) = false := by simpa using g
    have HE := hide (show nuB a b c = nu2 a b by unfold nuB nu2; rw [if_neg (by simp [isSg, h, g])])
    rw [HE.out]; clear HE h g
    rcases fin a b with h | ⟨h, rfl, k⟩ | ⟨h, rfl, k⟩ | ⟨h, k⟩
    all_goals
      have D0 := hide h
      first | (have D1 := hide k) | (have D1 := D0)
      clear h
      go_enter Tryz.func79, Tryz.ntmps79
      go_wp2_with (go_at_call 105; refine (isDigR_any _ _).mono ?_; rintro e w' ⟨rfl, rfl⟩; (first | rw [D0.out] | rw [D1.out]))
      go_ret
      exact ⟨ret_bool (by unfold nu2; simp [D0.out, D1.out]), rfl⟩
end Go.Proofs.YtmkbjcoagfnegaaGreatDoor
set_option linter.unusedVariables false
set_option linter.unusedSimpArgs false
namespace Go.Proofs.YtmkbjcoagfnegaaGreatDoor
open Go.RowKit

/-- All but block b is as it was. -/
theorem Mod.of {w w' : World} (b : Nat) (h : Below w.heap.size w w') : w.grownBy w' (some b) := ⟨h.os, h.tape, h.output, h.size, fun k hk _ => h.block k hk⟩
theorem Mod.trans {w w1 w2 : World} {b : Nat} (h : w.grownBy w1 (some b)) (k : w1.grownBy w2 (some b)) : w.grownBy w2 (some b) :=
  ⟨k.os.trans h.os, k.tape.trans h.tape, k.output.trans h.output, Nat.le_trans h.size k.size, fun i hi hb => (k.block i (Nat.lt_of_lt_of_le hi h.size) hb).trans (h.block i hi hb)⟩
theorem Mod.below {W w w' : World} {b : Nat} (h : w.grownBy w' (some b)) (hb : W.heap.size ≤ b) (hw : Below W.heap.size W w) : Below W.heap.size W w' :=
  hw.trans ⟨h.os, h.tape, h.output, h.size, fun k hk => h.block k (Nat.lt_of_lt_of_le hk hw.size) (by intro e; cases e; omega)⟩
theorem Mod.refl (w : World) (b : Nat) : w.grownBy w (some b) := Mod.of b (Below.refl _ _)
theorem heap_set {w : World} {b : Nat} {cs : Array Value} {T : TypeId} {q : Nat × Nat} (h : w.heap[b]? = some (.cells cs T q)) (i : Nat) (u : Value) : (w.setCell ⟨b, i, none⟩ u).heap[b]? = some (.cells (cs.setIfInBounds i u) T q) := by
  simp [World.setCell, Array.getElem?_modify, h]
theorem Rd.set {T : TypeId} {W w : World} {b : Nat} {v : Value} {l : List Int} {p : Nat} (h : Rd T W w b v l p) (q : Nat) (hq : q ≤ l.length + 4) : Rd T W (w.setCell ⟨b, 1, none⟩ (.int .i64 q)) b v l q ∧ w.grownBy (w.setCell ⟨b, 1, none⟩ (.int .i64 q)) (some b) :=
  ⟨⟨h.bel.setCell (p := ⟨b, 1, none⟩) h.ge _, h.ge, (heap_set h.blk 1 _).trans rfl, h.nums, h.len, hq⟩,
   rfl, rfl, rfl, by simp, fun k _ hk => Below.heap_setCell _ _ _ _ (by intro e; exact hk (by rw [e]))⟩
theorem Rd.drew {T : TypeId} {W w w' : World} {b : Nat} {v : Value} {l : List Int} {p : Nat} (h : Rd T W w' b v l p ∧ w.grownBy w' (some b)) : Rd T W w'.drew b v l p ∧ w.grownBy w'.drew (some b) :=
  ⟨⟨h.1.bel.drew, h.1.ge, h.1.blk, h.1.nums, h.1.len, h.1.le⟩, h.2.os, h.2.tape, h.2.output, h.2.size, h.2.block⟩
/-- Where the reader stands. -/
structure At (T : TypeId) (W w : World) (b : Nat) (v : Value) (l : List Int) (s : List Int) : Prop where
  ex : ∃ p, Rd T W w b v l p ∧ p ≤ l.length ∧ s = (chs l).drop p
theorem At.below {T : TypeId} {W w w' : World} {b : Nat} {v : Value} {l s : List Int} (h : At T W w b v l s) (hw : Below w.heap.size w w') : At T W w' b v l s := by
  obtain ⟨p, h1, h2, h3⟩ := h.ex
  exact ⟨p, h1.below hw, h2, h3⟩
theorem At.lt {T : TypeId} {W w : World} {b : Nat} {v : Value} {l s : List Int} (h : At T W w b v l s) : b < w.heap.size := by
  obtain ⟨p, h1, _⟩ := h.ex; exact h1.lt
theorem At.len {T : TypeId} {W w : World} {b : Nat} {v : Value} {l s : List Int} (h : At T W w b v l s) : s.length ≤ l.length ∧ l.length ≤ 140737488355328 := by
  obtain ⟨p, h1, _, rfl⟩ := h.ex
  exact ⟨by rw [List.length_drop, chs_len]; omega, h1.len⟩
theorem At.chr {T : TypeId} {W w : World} {b : Nat} {v : Value} {l s : List Int} (h : At T W w b v l s) : ∀ x ∈ s, isC x = true := by
  obtain ⟨p, _, _, rfl⟩ := h.ex
  intro x hx
  obtain ⟨y, _, rfl⟩ := List.mem_map.1 (List.mem_of_mem_drop hx)
  exact isC_chr y
end Go.Proofs.YtmkbjcoagfnegaaGreatDoor
set_option linter.unusedVariables false
set_option linter.unusedSimpArgs false
namespace Go.Proofs.YtmkbjcoagfnegaaGreatDoor
open Go.RowKit

/-- The cursor in block g stands at these values, which lie in the world W. -/
def Cu (W wr : World) (g : Nat) (l : List VT) : Prop := ∃ v, wr.heap[g]? = some (.cells #[v] 60) ∧ VM W v l ∧ W.heap.size ≤ g ∧ Below W.heap.size W wr
theorem Cu.low {W wr w1 : World} {g : Nat} {l : List VT} (h : Cu W wr g l) (hb : Below wr.heap.size wr w1) : Cu W w1 g l := by
  obtain ⟨v, h1, h2, h3, h4⟩ := h
  exact ⟨v, (hb.block g (Array.getElem?_eq_some_iff.1 h1).1).trans h1, h2, h3, h4.trans (hb.mono h4.size)⟩
theorem Cu.lt {W wr : World} {g : Nat} {l : List VT} (h : Cu W wr g l) : g < wr.heap.size := by
  obtain ⟨v, h1, _⟩ := h; exact (Array.getElem?_eq_some_iff.1 h1).1
theorem Cu.put {W wr : World} {g : Nat} {l l' : List VT} {v' : Value} (h : Cu W wr g l) (hv : VM W v' l') : Cu W (wr.setCell ⟨g, 0, none⟩ v') g l' := by
  obtain ⟨v, h1, h2, h3, h4⟩ := h
  exact ⟨v', by rw [setCell_blk h1]; rfl, hv, h3, h4.setCell h3 _⟩
def zV : Value := .agg #[.int .i64 0, .string ⟨#[]⟩, .int .i64 0, .int .i64 0, .bool false, .bool false, .slice none 0 0]
/-- The value at the front. -/
def Fro (W : World) (l : List VT) (v : Value) : Prop := (l = [] ∧ v = vtV (zT 0) (.slice none 0 0)) ∨ ∃ x r a n c, l = x :: r ∧ v = vtV x.t (.slice a n c) ∧ VM W (.slice a n c) x.ks
theorem done9_any (W wr : World) (g : Nat) (l : List VT) (h : Cu W wr g l) : Calls Tryz.prog 47 #[.pointer (some ⟨g, 0, none⟩)] wr fun e w' => e = .returned (.bool l.isEmpty) ∧ w' = wr := by
  obtain ⟨v, h1, h2, h3, h4⟩ := h
  obtain ⟨a, c, rfl, h9⟩ := h2.shape
  have c0 : wr.cell? ⟨g, 0, none⟩ = some (.slice a l.length c) := by rw [row_blk h1]; rfl
  have E := hide (show l.isEmpty = ((l.length : Int) == 0) by cases l with | nil => rfl | cons x r => rw [show (((x :: r).length : Int) == 0) = false by rw [beq_eq_false_iff_ne]; simp only [List.length_cons]; omega]; rfl)
  clear h1 h2
  generalize l.length = n at c0 E h9
  go_enter Tryz.func47, Tryz.ntmps47
  go_wp2
  go_ret
  exact ⟨ret_bool E.out.symm, rfl⟩
set_option maxRecDepth 100000 in
set_option maxHeartbeats 2000000 in
theorem next9_any (W wr : World) (g : Nat) (l : List VT) (h : Cu W wr g l) : Calls Tryz.prog 63 #[.pointer (some ⟨g, 0, none⟩)] wr fun e w' => ∃ v, e = .returned v ∧ Fro W l v ∧ Below wr.heap.size wr w' := by
  have C := hide (fun (W' : World) (hb : Below wr.heap.size wr W') => done9_any W W' g l (h.low hb))
  have hg := h.lt
  obtain ⟨v, h1, h2, h3, h4⟩ := h
  have c0 : wr.cell? ⟨g, 0, none⟩ = some v := by rw [row_blk h1]; rfl
  have ng : g ≠ wr.heap.size := by omega
  have B0 := hide (fun (o : Obj) => bplus (Below.refl wr.heap.size wr) o)
  cases l with
  | nil =>
    go_enter Tryz.func63, Tryz.ntmps63
    go_wp2_with (go_at_call 47; refine (C.out _ (B0.out _)).mono ?_; rintro e w1 ⟨rfl, rfl⟩)
    refine bodyPost_ret (v := vtV (zT 0) (.slice none 0 0)) (by simp [results, Tryz.results63, go_sem, vtV, zT]) rfl ?_
    exact ⟨_, rfl, .inl ⟨rfl, rfl⟩, by repeat (first | exact Below.refl _ _ | (with_reducible refine Below.setCell ?_ (by simp) _) | (with_reducible refine bplus ?_ _))⟩
  | cons x r =>
    obtain ⟨b, o, c, u, hv, hb, hc, hc9, hr9, ⟨t0, t1, t2, t3, t4, t5⟩, hu, hku, -⟩ := h2.head
    subst hv
    obtain ⟨ua, uc, hus, -⟩ := hku.shape
    have KU := hide hku
    have cW : ∀ j, wr.cell? ⟨b, j, none⟩ = W.cell? ⟨b, j, none⟩ := fun j => h4.cell (p := ⟨b, j, none⟩) hb
    have e0 := (cW _).trans t0
    have e1 := (cW _).trans t1
    have e2 := (cW _).trans t2
    have e3 := (cW _).trans t3
    have e4 := (cW _).trans t4
    have e5 := (cW _).trans t5
    have e6 := (cW _).trans hu
    have hbw : b < wr.heap.size := by have := h4.size; omega
    have nb : b ≠ wr.heap.size := by omega
    subst hus
    have hr1 : (0 : Int) < (r.length : Int) + 1 := by omega
    clear t0 t1 t2 t3 t4 t5 hu cW hku h1 h2
    go_enter Tryz.func63, Tryz.ntmps63
    go_wp2_with (go_at_call 47; refine (C.out _ (B0.out _)).mono ?_; rintro e w1 ⟨rfl, rfl⟩)
    refine bodyPost_ret (v := vtV x.t (.slice ua x.ks.length uc)) (by simp [results, Tryz.results63, go_sem, vtV]) rfl ?_
    exact ⟨_, rfl, .inr ⟨x, r, _, _, _, rfl, rfl, KU.out⟩, by repeat (first | exact Below.refl _ _ | (with_reducible refine Below.setCell ?_ (by simp) _) | (with_reducible refine bplus ?_ _))⟩
end Go.Proofs.YtmkbjcoagfnegaaGreatDoor
set_option linter.unusedVariables false
set_option linter.unusedSimpArgs false
namespace Go.Proofs.YtmkbjcoagfnegaaGreatDoor
open Go.RowKit

theorem setCells_grown (b : Nat) : ∀ (vs : List Value) (o : Nat) (w : World), w.grownBy (w.setCells b o vs) (some b) := by
  intro vs
  induction vs with
  | nil => intro o w; exact ⟨rfl, rfl, rfl, Nat.le_refl _, fun _ _ _ => rfl⟩
  | cons x r ih =>
    intro o w
    have h := ih (o + 1) (w.setCell ⟨b, o, none⟩ x)
    refine ⟨h.os, h.tape, h.output, ?_, fun k hk hne => ?_⟩
    · exact Nat.le_trans (by simp [World.setCell]) h.size
    · exact (h.block k (by simpa [World.setCell] using hk) hne).trans (Below.heap_setCell _ _ _ _ (fun e => hne (by rw [e])))
theorem range_blk {w : World} {b : Nat} {cs : List Value} {T : TypeId} {q : Nat × Nat} (h : w.heap[b]? = some (.cells cs.toArray T q)) : w.rangeAt b 0 cs := fun j v hv => by
  rw [Nat.zero_add, row_blk h]; simpa using hv
theorem there_blk {w : World} {b : Nat} {cs : Array Value} {T : TypeId} {n : Nat} (h : w.heap[b]? = some (.cells cs T)) (hn : cs.size = n) : w.there b 0 n := fun j hj => by
  rw [Nat.zero_add]
  refine ⟨?_, by simp [World.frozen?, h]⟩
  rw [row_blk h, Array.getElem?_eq_getElem (by omega)]; rfl
/-- Behind a call that tells a struct, which lies in a block of its own. -/
theorem ret_cell {P : Program} {fn : Func} {R : Ending → World → Prop} {a : Act} {w : World} {t : Tmp} {ty : TypeId} {b : Nat} {cs : List Value} {d : TypeDesc} (hf : fn.results = #[.cell t ty]) (ht : a.tmps.getD t undef = .pointer (some ⟨b, 0, none⟩)) (hc : w.rangeAt b 0 cs)
    (hu : P.underlying ty = some d) (hr : d.isRow = true) (hi : (P.info? ty).map (·.size) = some cs.length) (hd : a.defers = []) (h : R (.returned (.agg cs.toArray)) w) : bodyPost P fn R .ret a w := by
  refine bodyPost_ret (v := .agg cs.toArray) ?_ hd h
  have hl := run_loadVar_mid (P := P) w b 0 ty cs d hc hu hr hi
  rw [Array.getD_eq_getD_getElem?] at ht
  simp [results, hf, ht, asAddr, hl]
theorem ret_cell2 {P : Program} {fn : Func} {R : Ending → World → Prop} {a : Act} {w : World} {t u : Tmp} {ty : TypeId} {b : Nat} {cs : List Value} {d : TypeDesc} {v : Value} (hf : fn.results = #[.cell t ty, .tmp u]) (ht : a.tmps.getD t undef = .pointer (some ⟨b, 0, none⟩)) (hv : a.tmps.getD u undef = v) (hc : w.rangeAt b 0 cs)
    (hu : P.underlying ty = some d) (hr : d.isRow = true) (hi : (P.info? ty).map (·.size) = some cs.length) (hd : a.defers = []) (h : R (.returned (.tuple #[.agg cs.toArray, v])) w) : bodyPost P fn R .ret a w := by
  refine bodyPost_ret (v := .tuple #[.agg cs.toArray, v]) ?_ hd h
  have hl := run_loadVar_mid (P := P) w b 0 ty cs d hc hu hr hi
  rw [Array.getD_eq_getD_getElem?] at ht hv
  simp [results, hf, ht, hv, asAddr, hl]
end Go.Proofs.YtmkbjcoagfnegaaGreatDoor

