/-
  Characters by places, by the reference; where a name, a number, an escape begins.
-/
import Derived.Test.YtckefmhleklciaaGreatDoorTokB
set_option linter.unusedVariables false
set_option linter.unusedSimpArgs false
namespace Go.Proofs.YtckefmhleklciaaGreatDoor
open Go.RowKit

/-- A reader in memory: a list, and how many of it are taken. -/
structure Rd (T : TypeId) (W w : World) (b : Nat) (v : Value) (l : List Int) (p : Nat) : Prop where
  bel : Below W.heap.size W w
  ge : W.heap.size ≤ b
  blk : w.heap[b]? = some (.cells #[v, .int .i64 p] T (0, 0))
  nums : Nums .i32 W v l
  len : l.length ≤ 140737488355328
  le : p ≤ l.length + 4
theorem Rd.lt {T : TypeId} {W w : World} {b : Nat} {v : Value} {l : List Int} {p : Nat} (h : Rd T W w b v l p) : b < w.heap.size := (Array.getElem?_eq_some_iff.1 h.blk).1
theorem Rd.below {T : TypeId} {W w w' : World} {b : Nat} {v : Value} {l : List Int} {p : Nat} (h : Rd T W w b v l p) (hw : Below w.heap.size w w') : Rd T W w' b v l p :=
  ⟨bto h.bel hw, h.ge, (hw.block b h.lt).trans h.blk, h.nums, h.len, h.le⟩
theorem cell_blk {w : World} {b : Nat} {cs : Array Value} {T : TypeId} {q : Nat × Nat} (h : w.heap[b]? = some (.cells cs T q)) (i : Nat) : w.cell? ⟨b, i, none⟩ = cs[i]? := by
  simp [World.cell?, h]
theorem Rd.c0 {T : TypeId} {W w : World} {b : Nat} {v : Value} {l : List Int} {p : Nat} (h : Rd T W w b v l p) : w.cell? ⟨b, 0, none⟩ = some v := by rw [cell_blk h.blk]; rfl
theorem Rd.c1 {T : TypeId} {W w : World} {b : Nat} {v : Value} {l : List Int} {p : Nat} (h : Rd T W w b v l p) : w.cell? ⟨b, 1, none⟩ = some (.int .i64 p) := by rw [cell_blk h.blk]; rfl
theorem Rd.ns {T : TypeId} {W w : World} {b : Nat} {v : Value} {l : List Int} {p : Nat} (h : Rd T W w b v l p) : Nums .i32 w v l := h.nums.below h.bel
theorem isRef_any (x : Int) (w : World) : Calls Tryz.prog 34 #[.int .i32 x] w fun e w' => e = .returned (.bool (isC x)) ∧ w' = w := by
  rcases isC5 x with ⟨h, e⟩ | ⟨h, e⟩ | ⟨h, g, e⟩ | ⟨h, g, e⟩ | ⟨h, g, e⟩
  all_goals
    have E := hide e
    clear e
    go_enter Tryz.func34, Tryz.ntmps34
    go_wp2
    go_ret
    exact ⟨ret_bool (by first | (rw [E.out]; done) | (rw [E.out]; simp; omega)), rfl⟩
set_option maxHeartbeats 1000000 in
theorem at_any (T : TypeId) (W w : World) (b : Nat) (v : Value) (l : List Int) (p : Nat) (k : Int) (h : Rd T W w b v l p) (k0 : 0 ≤ k) (k1 : k ≤ 9) :
    Calls Tryz.prog 18 #[.pointer (some ⟨b, 0, none⟩), .int .i64 k] w fun e w' => e = .returned (.int .i32 (nx ((chs l).drop p) k.toNat)) ∧ Below w.heap.size w w' := by
  obtain ⟨j, rfl⟩ := Int.eq_ofNat_of_zero_le k0
  have c0 := h.c0
  have c1 := h.c1
  have hl := h.len
  have hp := h.le
  have hv := h.ns
  clear h
  rcases hv with ⟨a, c, rfl, rfl⟩ | ⟨b', o, n, c, rfl, hn, h0, hbw, hc, hn9, hc9, hcell⟩
  · have E := hide (nx_out (l := []) (p := p) (k := j) (by simp))
    have q0 : (0 : Int) ≤ (p : Int) + j := by omega
    go_enter Tryz.func18, Tryz.ntmps18
    go_wp2
    go_quiet (fail)
    go_wp2
    go_ret
    exact ⟨ret_int (by simpa using E.out.symm), below_drewN (Below.refl _ _) _⟩
  · have HN := hide hn
    have hnl : n ≤ 140737488355328 := by omega
    have hpn : p ≤ n + 4 := by omega
    clear hl hp hn
    by_cases hlt : p + j < n
    · have E := hide (nx_in (l := l) (p := p) (k := j) (by rw [← HN.out]; exact hlt))
      have cx := hcell (p + j) hlt
      have q0 : ¬ ((n : Int) ≤ (p : Int) + j) := by omega
      clear hcell
      generalize gt l (p + j) = x at *
      by_cases hx : isC x = true
      · have X := hide hx
        have E' := hide (E.out.trans (chrT hx))
        clear hx E
        go_enter Tryz.func18, Tryz.ntmps18
        go_wp2
        go_quiet (fail)
        go_wp2
        go_quiet (fail)
        go_wp2_with (go_at_call 34; refine (isRef_any _ _).mono ?_; rintro e w' ⟨rfl, rfl⟩; rw [X.out])
        go_ret
        exact ⟨ret_int (by simpa using E'.out.symm), below_drewN (Below.refl _ _) _⟩
      · have hx' : isC x = false := by simpa using hx
        have X := hide hx'
        have E' := hide (E.out.trans (chrF hx'))
        clear hx hx' E
        go_enter Tryz.func18, Tryz.ntmps18
        go_wp2
        go_quiet (fail)
        go_wp2
        go_quiet (fail)
        go_wp2_with (go_at_call 34; refine (isRef_any _ _).mono ?_; rintro e w' ⟨rfl, rfl⟩; rw [X.out])
        go_ret
        exact ⟨ret_int (by simpa using E'.out.symm), below_drewN (Below.refl _ _) _⟩
    · have E := hide (nx_out (l := l) (p := p) (k := j) (by rw [← HN.out]; omega))
      have q0 : (n : Int) ≤ (p : Int) + j := by omega
      clear hcell
      go_enter Tryz.func18, Tryz.ntmps18
      go_wp2
      go_quiet (fail)
      go_wp2
      go_ret
      exact ⟨ret_int (by simpa using E.out.symm), below_drewN (Below.refl _ _) _⟩
theorem isDigR_any (c : Int) (w : World) : Calls Tryz.prog 70 #[.int .i32 c] w fun e w' => e = .returned (.bool (isDig c)) ∧ w' = w := by
  rcases (show c < 48 ∨ (48 ≤ c ∧ c ≤ 57) ∨ 57 < c by omega) with h | ⟨h, g⟩ | h
  all_goals
    go_enter Tryz.func70, Tryz.ntmps70
    go_wp2
    go_ret
    exact ⟨ret_bool (by simp [isDig]; omega), rfl⟩
set_option maxHeartbeats 1000000 in
theorem isFstR_any (c : Int) (w : World) : Calls Tryz.prog 69 #[.int .i32 c] w fun e w' => e = .returned (.bool (isFst c)) ∧ w' = w := by
  rcases fst_cases c with ⟨h, e⟩ | ⟨h, g, e⟩ | ⟨h, g, e⟩ | ⟨rfl, e⟩ | ⟨rfl, e⟩ | ⟨h, g, e⟩ | ⟨h, g, e⟩ | ⟨h, e⟩
  all_goals
    have E := hide e
    clear e
    go_enter Tryz.func69, Tryz.ntmps69
    go_wp2
    go_ret
    exact ⟨ret_bool (by rw [E.out]; first | done | rfl | (simp; omega)), rfl⟩
theorem escR_any (a b : Int) (w : World) : Calls Tryz.prog 39 #[.int .i32 a, .int .i32 b] w fun e w' => e = .returned (.bool (es2 a b)) ∧ w' = w := by
  by_cases ha : a = 92
  · subst ha
    by_cases hb : b = 10
    · subst hb
      go_enter Tryz.func39, Tryz.ntmps39
      go_wp2
      go_ret
      exact ⟨rfl, rfl⟩
    · have hb' : (b == 10) = false := by simpa using hb
      go_enter Tryz.func39, Tryz.ntmps39
      go_wp2
      go_ret
      exact ⟨ret_bool (by simp [es2, bne, hb']), rfl⟩
  · have ha' : (a == 92) = false := by simpa using ha
    go_enter Tryz.func39, Tryz.ntmps39
    go_wp2
    go_ret
    exact ⟨ret_bool (by simp [es2, ha']), rfl⟩
set_option maxHeartbeats 1000000 in
theorem begR_any (a b c : Int) (w : World) : Calls Tryz.prog 40 #[.int .i32 a, .int .i32 b, .int .i32 c] w fun e w' => e = .returned (.bool (nmB a b c)) ∧ w' = w := by
  by_cases ha : a = 45
  · subst ha
    have HE := hide (show nmB 45 b c = (isFst b || (b == 45) || es2 b c) by unfold nmB; rw [if_pos rfl])
    rw [HE.out]
    clear HE
    by_cases hb : b = 45
    · subst hb
      go_enter Tryz.func40, Tryz.ntmps40
      go_wp2_with (go_at_call 69; refine (isFstR_any _ _).mono ?_; rintro e w' ⟨rfl, rfl⟩; rw [show isFst 45 = false from rfl])
      go_ret
      exact ⟨rfl, rfl⟩
    · have hb' : (b == 45) = false := by simpa using hb
      cases hf : isFst b
      · have F := hide hf
        cases he : es2 b c
        all_goals
          have ES := hide he
          clear he hf
          go_enter Tryz.func40, Tryz.ntmps40
          go_wp2_with (first
            | (go_at_call 69; refine (isFstR_any _ _).mono ?_; rintro e w' ⟨rfl, rfl⟩; rw [F.out])
            | (go_at_call 39; refine (escR_any _ _ _).mono ?_; rintro e w' ⟨rfl, rfl⟩; rw [ES.out]))
          go_ret
          exact ⟨ret_bool (by rw [hb']; rfl), rfl⟩
      · have F := hide hf
        clear hf
        go_enter Tryz.func40, Tryz.ntmps40
        go_wp2_with (go_at_call 69; refine (isFstR_any _ _).mono ?_; rintro e w' ⟨rfl, rfl⟩; rw [F.out])
        go_ret
        exact ⟨ret_bool (by rfl), rfl⟩
  · have ha' : (a == 45) = false := by simpa using ha
    have HE := hide (show nmB a b c = (isFst a || es2 a b) by unfold nmB; rw [if_neg ha])
    rw [HE.out]
    clear HE
    cases hf : isFst a
    · have F := hide hf
      cases he : es2 a b
      all_goals
        have ES := hide he
        clear he hf
        go_enter Tryz.func40, Tryz.ntmps40
        go_wp2_with (first
          | (go_at_call 69; refine (isFstR_any _ _).mono ?_; rintro e w' ⟨rfl, rfl⟩; rw [F.out])
          | (go_at_call 39; refine (escR_any _ _ _).mono ?_; rintro e w' ⟨rfl, rfl⟩; rw [ES.out]))
        go_ret
        exact ⟨ret_bool (by rfl), rfl⟩
    · have F := hide hf
      clear hf
      go_enter Tryz.func40, Tryz.ntmps40
      go_wp2_with (go_at_call 69; refine (isFstR_any _ _).mono ?_; rintro e w' ⟨rfl, rfl⟩; rw [F.out])
      go_ret
      exact ⟨ret_bool (by rfl), rfl⟩
/-- A number begins at these two (a sign is gone). -/
def nu2 (a b : Int) : Bool := isDig a || ((a == 46) && isDig b)
set_option maxHeartbeats 2000000 in
theorem numR_any (a b c : Int) (w : World) : Calls Tryz.prog 42 #[.int .i32 a, .int .i32 b, .int .i32 c] w fun e w' => e = .returned (.bool (nuB a b c)) ∧ w' = w := by
  have fin : ∀ (x y : Int), (isDig x = true ∨ (isDig x = false ∧ x = 46 ∧ isDig y = true) ∨ (isDig x = false ∧ x = 46 ∧ isDig y = false) ∨ (isDig x = false ∧ (x == 46) = false)) := by
    intro x y
    cases isDig x
    · cases isDig y
      · by_cases h : x = 46 <;> simp [h]
      · by_cases h : x = 46 <;> simp [h]
    · simp
  rcases (show a = 43 ∨ a = 45 ∨ (a ≠ 43 ∧ a ≠ 45) by omega) with rfl | rfl | ⟨h, g⟩
  · have HE := hide (show nuB 43 b c = nu2 b c from rfl)
    rw [HE.out]; clear HE
    rcases fin b c with h | ⟨h, rfl, k⟩ | ⟨h, rfl, k⟩ | ⟨h, k⟩
    all_goals
      have D0 := hide h
      first | (have D1 := hide k) | (have D1 := D0)
      clear h
      go_enter Tryz.func42, Tryz.ntmps42
      go_wp2_with (go_at_call 70; refine (isDigR_any _ _).mono ?_; rintro e w' ⟨rfl, rfl⟩; (first | rw [D0.out] | rw [D1.out]))
      go_ret
      exact ⟨ret_bool (by unfold nu2; simp [D0.out, D1.out]), rfl⟩
  · have HE := hide (show nuB 45 b c = nu2 b c from rfl)
    rw [HE.out]; clear HE
    rcases fin b c with h | ⟨h, rfl, k⟩ | ⟨h, rfl, k⟩ | ⟨h, k⟩
    all_goals
      have D0 := hide h
      first | (have D1 := hide k) | (have D1 := D0)
      clear h
      go_enter Tryz.func42, Tryz.ntmps42
      go_wp2_with (go_at_call 70; refine (isDigR_any _ _).mono ?_; rintro e w' ⟨rfl, rfl⟩; (first | rw [D0.out] | rw [D1.out]))
      go_ret
      exact ⟨ret_bool (by unfold nu2; simp [D0.out, D1.out]), rfl⟩
  · have a1 : (a == 43) = false := by simpa using h
    have a2 : (a == 45) = false := by simpa using g
    have HE := hide (show nuB a b c = nu2 a b by unfold nuB nu2; rw [if_neg (by simp [isSg, h, g])])
    rw [HE.out]; clear HE h g
    rcases fin a b with h | ⟨h, rfl, k⟩ | ⟨h, rfl, k⟩ | ⟨h, k⟩
    all_goals
      have D0 := hide h
      first | (have D1 := hide k) | (have D1 := D0)
      clear h
      go_enter Tryz.func42, Tryz.ntmps42
      go_wp2_with (go_at_call 70; refine (isDigR_any _ _).mono ?_; rintro e w' ⟨rfl, rfl⟩; (first | rw [D0.out] | rw [D1.out]))
      go_ret
      exact ⟨ret_bool (by unfold nu2; simp [D0.out, D1.out]), rfl⟩
end Go.Proofs.YtckefmhleklciaaGreatDoor
