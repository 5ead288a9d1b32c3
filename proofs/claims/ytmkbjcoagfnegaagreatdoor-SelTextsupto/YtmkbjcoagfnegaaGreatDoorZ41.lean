/-
  Line ends, and the characters of a stylesheet, by the program.
  Tokens of bytes, by the program; tokens that every program must know.
  The same tokens are the same.
  The reference's small tests, its texts, its reader.
-/
import Derived.Test.YtmkbjcoagfnegaaGreatDoorZ40
import Derived.Test.YtmkbjcoagfnegaaGreatDoorZ39
import Derived.Lib.SlBytesConst
import Derived.Outline
import Derived.Test.YtmkbjcoagfnegaaGreatDoorZ12
set_option linter.unusedVariables false
set_option linter.unusedSimpArgs false
namespace Go.Proofs.YtmkbjcoagfnegaaGreatDoor
open Go.RowKit

/-- A slice without its first three. -/
theorem Nums.three {k : IntKind} {w : World} {b o n c : Nat} {bs : List Int} (h : Nums k w (.slice (some ⟨b, o, none⟩) n c) bs) (h3 : 3 ≤ n) (hc : ¬ c = 3) : Nums k w (.slice (some ⟨b, o + 3, none⟩) (n - 3) (c - 3)) (bs.drop 3) := by
  rcases h with ⟨a, c', e, rfl⟩ | ⟨b', o', n', c', e, hn, h0, hbw, hl, hn9, hc9, hcc⟩
  · simp at e; omega
  · simp at e
    obtain ⟨⟨rfl, rfl⟩, rfl, rfl⟩ := e
    by_cases h : n = 3
    · exact .inl ⟨_, _, by rw [h], List.drop_of_length_le (by omega)⟩
    · exact .inr ⟨b, o + 3, n - 3, c - 3, rfl, by rw [List.length_drop]; omega, by omega, hbw, by omega, by omega, by omega, fun i hi => by rw [gt_drop, Nat.add_assoc]; exact hcc (3 + i) (by omega)⟩
theorem Nums.none3 {k : IntKind} {w : World} {a : Option Addr} {n c : Nat} {bs : List Int} (h : Nums k w (.slice a n c) bs) (h3 : 3 ≤ n) (hc : c = 3) : n = 3 ∧ bs.drop 3 = [] := by
  rcases h with ⟨a, c', e, rfl⟩ | ⟨b', o', n', c', e, hn, h0, hbw, hl, hn9, hc9, hcc⟩
  · simp at e; omega
  · simp at e
    obtain ⟨rfl, rfl, rfl⟩ := e
    exact ⟨by omega, List.drop_of_length_le (by omega)⟩
end Go.Proofs.YtmkbjcoagfnegaaGreatDoor
set_option linter.unusedVariables false
set_option linter.unusedSimpArgs false
namespace Go.Proofs.YtmkbjcoagfnegaaGreatDoor
open Go.RowKit

theorem lin_len : ∀ (a : List Int) (l : Int), (lin l a).length ≤ a.length := by
  intro a
  induction a with
  | nil => intro l; simp [lin]
  | cons x r ih =>
    intro l
    have := ih x
    simp only [lin, List.length_append, List.length_cons]
    split <;> simp <;> omega
theorem dcd_len (bs : List Int) : (dcd bs).length ≤ bs.length := by
  unfold dcd
  have h1 := lin_len (raw (cut bs)) 0
  have h2 := (raw_le (cut bs)).1
  have h3 := cutm_len bs
  omega
theorem By.a : By [97, 58, 49] := by intro x hx; simp at hx; omega
end Go.Proofs.YtmkbjcoagfnegaaGreatDoor
set_option linter.unusedVariables false
set_option linter.unusedSimpArgs false
namespace Go.Proofs.YtmkbjcoagfnegaaGreatDoor
open Go.RowKit

def RelSm (n : Nat) (i : Value) : Prop := ∃ k : Nat, k ≤ n ∧ i = .int .i64 k
theorem RelSm.mk {n : Nat} (k : Nat) {i : Value} (h1 : k ≤ n) (h2 : i = .int .i64 k) : RelSm n i := ⟨k, h1, h2⟩
structure Six (w : World) (b o : Nat) (k : Int) (t : ByteArray) (n d : Int) (wh i : Bool) : Prop where
  c0 : w.cell? ⟨b, o, none⟩ = some (.int .i64 k)
  c1 : w.cell? ⟨b, o + 1, none⟩ = some (.string t)
  c2 : w.cell? ⟨b, o + 2, none⟩ = some (.int .i64 n)
  c3 : w.cell? ⟨b, o + 3, none⟩ = some (.int .i64 d)
  c4 : w.cell? ⟨b, o + 4, none⟩ = some (.bool wh)
  c5 : w.cell? ⟨b, o + 5, none⟩ = some (.bool i)
theorem Six.of {w : World} {b o : Nat} {τ : Tk} (h : ∀ j, j < 6 → w.cell? ⟨b, o + j, none⟩ = (tkC τ)[j]?) : Six w b o τ.kind (tb τ.text) τ.num τ.den τ.whole τ.id :=
  ⟨h 0 (by decide), h 1 (by decide), h 2 (by decide), h 3 (by decide), h 4 (by decide), h 5 (by decide)⟩
end Go.Proofs.YtmkbjcoagfnegaaGreatDoor
set_option linter.unusedVariables false
set_option linter.unusedSimpArgs false
namespace Go.Proofs.YtmkbjcoagfnegaaGreatDoor
open Go.RowKit

theorem isBlR_any (c : Int) (w : World) : Calls Tryz.prog 72 #[.int .i32 c] w fun e w' => e = .returned (.bool (isBl c)) ∧ w' = w := by
  rcases (show c = 10 ∨ c = 9 ∨ c = 32 ∨ (c ≠ 10 ∧ c ≠ 9 ∧ c ≠ 32) by omega) with rfl | rfl | rfl | ⟨h1, h2, h3⟩
  · go_enter Tryz.func72, Tryz.ntmps72
    go_wp2
    go_ret
    exact ⟨rfl, rfl⟩
  · go_enter Tryz.func72, Tryz.ntmps72
    go_wp2
    go_ret
    exact ⟨rfl, rfl⟩
  · go_enter Tryz.func72, Tryz.ntmps72
    go_wp2
    go_ret
    exact ⟨rfl, rfl⟩
  · have e1 : (c == 10) = false := by simpa using h1
    have e2 : (c == 9) = false := by simpa using h2
    have e3 : (c == 32) = false := by simpa using h3
    go_enter Tryz.func72, Tryz.ntmps72
    go_wp2
    go_ret
    exact ⟨ret_bool (by simp [isBl, h1, h2, h3]), rfl⟩
theorem isLetR_any (c : Int) (w : World) : Calls Tryz.prog 75 #[.int .i32 c] w fun e w' => e = .returned (.bool (isLet c)) ∧ w' = w := by
  cases hf : isFst c
  · cases hd : isDig c
    · by_cases h : c = 45
      · subst h
        have F := hide hf
        have D := hide hd
        clear hf hd
        go_enter Tryz.func75, Tryz.ntmps75
        go_wp2_with (first
          | (go_at_call 104; refine (isFstR_any _ _).mono ?_; rintro e w' ⟨rfl, rfl⟩; rw [F.out])
          | (go_at_call 105; refine (isDigR_any _ _).mono ?_; rintro e w' ⟨rfl, rfl⟩; rw [D.out]))
        go_ret
        exact ⟨rfl, rfl⟩
      · have e1 : (c == 45) = false := by simpa using h
        have F := hide hf
        have D := hide hd
        clear hf hd
        go_enter Tryz.func75, Tryz.ntmps75
        go_wp2_with (first
          | (go_at_call 104; refine (isFstR_any _ _).mono ?_; rintro e w' ⟨rfl, rfl⟩; rw [F.out])
          | (go_at_call 105; refine (isDigR_any _ _).mono ?_; rintro e w' ⟨rfl, rfl⟩; rw [D.out]))
        go_ret
        exact ⟨ret_bool (by unfold isLet; rw [F.out, D.out, e1]; rfl), rfl⟩
    · have F := hide hf
      have D := hide hd
      clear hf hd
      go_enter Tryz.func75, Tryz.ntmps75
      go_wp2_with (first
        | (go_at_call 104; refine (isFstR_any _ _).mono ?_; rintro e w' ⟨rfl, rfl⟩; rw [F.out])
        | (go_at_call 105; refine (isDigR_any _ _).mono ?_; rintro e w' ⟨rfl, rfl⟩; rw [D.out]))
      go_ret
      exact ⟨ret_bool (by unfold isLet; rw [F.out, D.out]; rfl), rfl⟩
  · have F := hide hf
    clear hf
    go_enter Tryz.func75, Tryz.ntmps75
    go_wp2_with (go_at_call 104; refine (isFstR_any _ _).mono ?_; rintro e w' ⟨rfl, rfl⟩; rw [F.out])
    go_ret
    exact ⟨ret_bool (by unfold isLet; rw [F.out]; rfl), rfl⟩
set_option maxHeartbeats 1000000 in
theorem isUnR_any (c : Int) (w : World) : Calls Tryz.prog 141 #[.int .i32 c] w fun e w' => e = .returned (.bool (isUn c)) ∧ w' = w := by
  rcases un_cases c with ⟨h, e⟩ | ⟨h, g, e⟩ | ⟨h, g, e⟩ | ⟨rfl, e⟩ | ⟨h, g, e⟩ | ⟨h, g, e⟩ | ⟨h, g, e⟩ | ⟨rfl, e⟩ | ⟨h, e⟩
  all_goals
    have E := hide e
    clear e
    try (have n1 : (c == 11) = false := by simp; omega)
    try (have n2 : (c == 127) = false := by simp; omega)
    go_enter Tryz.func141, Tryz.ntmps141
    go_wp2
    go_ret
    exact ⟨ret_bool (by rw [E.out]; first | done | rfl | (simp; omega)), rfl⟩
set_option maxHeartbeats 1000000 in
theorem hexR_any (c : Int) (w : World) : Calls Tryz.prog 136 #[.int .i32 c] w fun e w' => e = .returned (.tuple #[.int .i32 (hxN c), .bool (hxB c)]) ∧ w' = w := by
  rcases hexv_cases c with ⟨h, d, e⟩ | ⟨h, g, d, e⟩ | ⟨h, g, d, e⟩ | ⟨h, g, d, e⟩ | ⟨h, g, d, e⟩ | ⟨h, g, d, e⟩ | ⟨h, d, e⟩
  · have D := hide d
    have X := hide (hx_no (c := c) (by omega))
    clear d e
    go_enter Tryz.func136, Tryz.ntmps136
    go_wp2_with (go_at_call 105; refine (isDigR_any _ _).mono ?_; rintro e w' ⟨rfl, rfl⟩; rw [D.out])
    go_ret2
    exact ⟨by rw [X.out.1, X.out.2]; rfl, rfl⟩
  · have D := hide d
    have X := hide (hx_yes (c := c) (by omega))
    rw [e] at X
    clear d e
    go_enter Tryz.func136, Tryz.ntmps136
    go_wp2_with (go_at_call 105; refine (isDigR_any _ _).mono ?_; rintro e w' ⟨rfl, rfl⟩; rw [D.out])
    go_ret2
    exact ⟨by rw [X.out.1, X.out.2]; first | rfl | (exact tup2 (by omega) rfl), rfl⟩
  · have D := hide d
    have X := hide (hx_no (c := c) (by omega))
    clear d e
    go_enter Tryz.func136, Tryz.ntmps136
    go_wp2_with (go_at_call 105; refine (isDigR_any _ _).mono ?_; rintro e w' ⟨rfl, rfl⟩; rw [D.out])
    go_ret2
    exact ⟨by rw [X.out.1, X.out.2]; rfl, rfl⟩
  · have D := hide d
    have X := hide (hx_yes (c := c) (by omega))
    rw [e] at X
    clear d e
    go_enter Tryz.func136, Tryz.ntmps136
    go_wp2_with (go_at_call 105; refine (isDigR_any _ _).mono ?_; rintro e w' ⟨rfl, rfl⟩; rw [D.out])
    go_ret2
    exact ⟨by rw [X.out.1, X.out.2]; first | rfl | (exact tup2 (by omega) rfl), rfl⟩
  · have D := hide d
    have X := hide (hx_no (c := c) (by omega))
    clear d e
    go_enter Tryz.func136, Tryz.ntmps136
    go_wp2_with (go_at_call 105; refine (isDigR_any _ _).mono ?_; rintro e w' ⟨rfl, rfl⟩; rw [D.out])
    go_ret2
    exact ⟨by rw [X.out.1, X.out.2]; rfl, rfl⟩
  · have D := hide d
    have X := hide (hx_yes (c := c) (by omega))
    rw [e] at X
    clear d e
    go_enter Tryz.func136, Tryz.ntmps136
    go_wp2_with (go_at_call 105; refine (isDigR_any _ _).mono ?_; rintro e w' ⟨rfl, rfl⟩; rw [D.out])
    go_ret2
    exact ⟨by rw [X.out.1, X.out.2]; first | rfl | (exact tup2 (by omega) rfl), rfl⟩
  · have D := hide d
    have X := hide (hx_no (c := c) (by omega))
    clear d e
    go_enter Tryz.func136, Tryz.ntmps136
    go_wp2_with (go_at_call 105; refine (isDigR_any _ _).mono ?_; rintro e w' ⟨rfl, rfl⟩; rw [D.out])
    go_ret2
    exact ⟨by rw [X.out.1, X.out.2]; rfl, rfl⟩
theorem textR_any (ls : List Int) (v : Value) (w : World) (hv : Nums .i32 w v ls) (hl : ls.length ≤ 35184372088832) :
    Calls Tryz.prog 82 #[v] w fun e w' => ∃ t, e = .returned (.string t) ∧ bl t = enc ls ∧ Below w.heap.size w w' := by
  have C := hide (encR_any ls v w hv hl)
  have R := hide (enc_rng ls)
  clear hv
  go_enter Tryz.func82, Tryz.ntmps82
  go_wp2_with (go_at_call 110; refine C.out.mono ?_; rintro e w1 ⟨u, rfl, N, B⟩; replace B := hide B; obtain ⟨t, ht, hcv⟩ := conv_anyT w1 u _ N R.out; replace ht := hide ht; clear N)
  go_ret
  exact ⟨_, rfl, ht.out, B.out⟩
/-- Where the reference's reader stands: behind the end, too. -/
structure AtR (T : TypeId) (W w : World) (b : Nat) (v : Value) (l : List Int) (s : List Int) : Prop where
  ex : ∃ p, Rd T W w b v l p ∧ p ≤ l.length + 2 ∧ s = (chs l).drop p
theorem At.r {T : TypeId} {W w : World} {b : Nat} {v : Value} {l s : List Int} (h : At T W w b v l s) : AtR T W w b v l s := by
  obtain ⟨p, h1, h2, h3⟩ := h.ex
  exact ⟨p, h1, by omega, h3⟩
theorem AtR.in {T : TypeId} {W w : World} {b : Nat} {v : Value} {l s : List Int} (h : AtR T W w b v l s) (hs : nx s 0 ≠ -1) : At T W w b v l s := by
  obtain ⟨p, h1, h2, rfl⟩ := h.ex
  have := nx_pos hs
  rw [List.length_drop, chs_len] at this
  exact ⟨p, h1, by omega, rfl⟩
theorem AtR.below {T : TypeId} {W w w' : World} {b : Nat} {v : Value} {l s : List Int} (h : AtR T W w b v l s) (hw : Below w.heap.size w w') : AtR T W w' b v l s := by
  obtain ⟨p, h1, h2, h3⟩ := h.ex
  exact ⟨p, h1.below hw, h2, h3⟩
theorem AtR.lt {T : TypeId} {W w : World} {b : Nat} {v : Value} {l s : List Int} (h : AtR T W w b v l s) : b < w.heap.size := by
  obtain ⟨p, h1, _⟩ := h.ex; exact h1.lt
theorem AtR.put {T : TypeId} {W w : World} {b r : Nat} {v : Value} {l s : List Int} (h : AtR T W w b v l s) (hr : b < r) (i : Nat) (x : Value) : AtR T W (w.setCell ⟨r, i, none⟩ x) b v l s := by
  obtain ⟨p, h1, h2, h3⟩ := h.ex
  have := h1.ge
  exact ⟨p, ⟨h1.bel.setCell (p := ⟨r, i, none⟩) (by simp; omega) _, h1.ge, (Below.heap_setCell _ _ _ _ (by simp; omega)).trans h1.blk, h1.nums, h1.len, h1.le⟩, h2, h3⟩
theorem atR_any (T : TypeId) (W w : World) (b : Nat) (v : Value) (l s : List Int) (k : Int) (h : AtR T W w b v l s) (k0 : 0 ≤ k) (k1 : k ≤ 9) :
    Calls Tryz.prog 53 #[.pointer (some ⟨b, 0, none⟩), .int .i64 k] w fun e w' => e = .returned (.int .i32 (nx s k.toNat)) ∧ Below w.heap.size w w' := by
  obtain ⟨p, h1, _, rfl⟩ := h.ex
  exact at_any T W w b v l p k h1 k0 k1
/-- What is known of a reader at a place, for the walk. -/
structure Stand (T : TypeId) (W w : World) (b : Nat) (v : Value) (l s : List Int) (p : Nat) : Prop where
  rd : Rd T W w b v l p
  eq : s = (chs l).drop p
theorem Stand.below {T : TypeId} {W w w' : World} {b : Nat} {v : Value} {l s : List Int} {p : Nat} (h : Stand T W w b v l s p) (hw : Below w.heap.size w w') : Stand T W w' b v l s p := ⟨h.rd.below hw, h.eq⟩
theorem Stand.c1 {T : TypeId} {W w : World} {b : Nat} {v : Value} {l s : List Int} {p : Nat} (h : Stand T W w b v l s p) : w.cell? ⟨b, 1, none⟩ = some (.int .i64 p) := h.rd.c1
theorem Stand.f1 {T : TypeId} {W w : World} {b : Nat} {v : Value} {l s : List Int} {p : Nat} (h : Stand T W w b v l s p) : w.frozen? ⟨b, 1, none⟩ = false := by simp [World.frozen?, h.rd.blk]
theorem Stand.len {T : TypeId} {W w : World} {b : Nat} {v : Value} {l s : List Int} {p : Nat} (h : Stand T W w b v l s p) (hp : p ≤ l.length) : p + s.length = l.length ∧ l.length ≤ 140737488355328 := by
  have e := h.eq
  have := h.rd.len
  rw [e, List.length_drop, chs_len]; omega
theorem Stand.at {T : TypeId} {W w : World} {b : Nat} {v : Value} {l s : List Int} {p : Nat} (h : Stand T W w b v l s p) (hp : p ≤ l.length) : At T W w b v l s := ⟨p, h.rd, hp, h.eq⟩
theorem Stand.atR {T : TypeId} {W w : World} {b : Nat} {v : Value} {l s : List Int} {p : Nat} (h : Stand T W w b v l s p) (hp : p ≤ l.length + 2) : AtR T W w b v l s := ⟨p, h.rd, hp, h.eq⟩
theorem At.stand {T : TypeId} {W w : World} {b : Nat} {v : Value} {l s : List Int} (h : At T W w b v l s) : ∃ p, Stand T W w b v l s p ∧ p + s.length = l.length ∧ l.length ≤ 140737488355328 := by
  obtain ⟨p, h1, h2, h3⟩ := h.ex
  exact ⟨p, ⟨h1, h3⟩, Stand.len ⟨h1, h3⟩ h2⟩
/-- So many places on. -/
theorem Stand.inc {T : TypeId} {W w : World} {b : Nat} {v : Value} {l s : List Int} {p : Nat} (h : Stand T W w b v l s p) (k : Nat) (q : Int) (hq : q = (p : Int) + k) (hp : p + k ≤ l.length + 4) : Stand T W (w.setCell ⟨b, 1, none⟩ (.int .i64 q)) b v l (s.drop k) (p + k) := by
  have := (h.rd.set (p + k) hp).1
  rw [show ((p + k : Nat) : Int) = q by omega] at this
  exact ⟨this, by rw [h.eq, List.drop_drop]⟩
theorem Stand.mod {T : TypeId} {W w : World} {b : Nat} {v : Value} {l s : List Int} {p : Nat} (h : Stand T W w b v l s p) (q : Int) : w.grownBy (w.setCell ⟨b, 1, none⟩ (.int .i64 q)) (some b) :=
  ⟨rfl, rfl, rfl, by simp, fun k _ hk => Below.heap_setCell _ _ _ _ (by intro e; exact hk (by rw [e]))⟩
theorem standAt_any (T : TypeId) (W w : World) (b : Nat) (v : Value) (l s : List Int) (p : Nat) (k : Int) (h : Stand T W w b v l s p) (k0 : 0 ≤ k) (k1 : k ≤ 9) :
    Calls Tryz.prog 53 #[.pointer (some ⟨b, 0, none⟩), .int .i64 k] w fun e w' => e = .returned (.int .i32 (nx s k.toNat)) ∧ Below w.heap.size w w' := by
  rw [h.eq]
  exact at_any T W w b v l p k h.rd k0 k1
end Go.Proofs.YtmkbjcoagfnegaaGreatDoor

