/-
  Tokens of one character, by the program.
-/
import Derived.Test.YtckefmhleklciaaGreatDoorTokL
import Derived.Outline
set_option linter.unusedVariables false
set_option linter.unusedSimpArgs false
namespace Go.Proofs.YtckefmhleklciaaGreatDoor
open Go.RowKit

theorem brk_cases (c : Int) : (c = 40 ∧ brk c = 21) ∨ (c = 41 ∧ brk c = 22) ∨ (c = 91 ∧ brk c = 19) ∨ (c = 93 ∧ brk c = 20) ∨ (c = 123 ∧ brk c = 23) ∨ (c = 125 ∧ brk c = 24) ∨ (c = 44 ∧ brk c = 18) ∨ (c = 58 ∧ brk c = 16) ∨ (c = 59 ∧ brk c = 17)
    ∨ (((c == 40) = false ∧ (c == 41) = false ∧ (c == 91) = false ∧ (c == 93) = false ∧ (c == 123) = false ∧ (c == 125) = false ∧ (c == 44) = false ∧ (c == 58) = false ∧ (c == 59) = false) ∧ brk c = 9) := by
  simp only [beq_eq_false_iff_ne]
  unfold brk
  omega
theorem ret_i64 {a c : Int} (h : a = c) : Ending.returned (.int .i64 a) = .returned (.int .i64 c) := by rw [h]
theorem bracketKind_any (c : Int) (w : World) : Calls Tryz.prog 92 #[.int .i32 c] w fun e w' => e = .returned (.int .i64 (brk c)) ∧ w' = w := by
  rcases brk_cases c with ⟨rfl, h⟩ | ⟨rfl, h⟩ | ⟨rfl, h⟩ | ⟨rfl, h⟩ | ⟨rfl, h⟩ | ⟨rfl, h⟩ | ⟨rfl, h⟩ | ⟨rfl, h⟩ | ⟨rfl, h⟩ | ⟨⟨h1, h2, h3, h4, h5, h6, h7, h8, h9⟩, h⟩
  all_goals
    have E := hide h
    clear h
    go_enter Tryz.func92, Tryz.ntmps92
    go_wp2
    go_ret
    exact ⟨ret_i64 E.out.symm, rfl⟩
/-! ### A token, made -/
theorem keep {w w1 : World} {b r : Nat} {o : Obj} (h : w.heap[r]? = some o) (hr : r ≠ b) (m : w.grownBy w1 (some b)) : w1.heap[r]? = some o :=
  (m.block r (Array.getElem?_eq_some_iff.1 h).1 (by intro e; cases e; exact hr rfl)).trans h
def tok0 : Obj := .cells #[.int .i64 0, .string ⟨#[]⟩, .int .i64 0, .int .i64 0, .bool false, .bool false] 34
theorem tok0_alloc (w : World) : (w.alloc tok0).heap[w.heap.size]? = some tok0 := by unfold World.alloc; exact Array.getElem?_push_size
structure Free6 (w : World) (r : Nat) : Prop where
  f0 : w.frozen? ⟨r, 0, none⟩ = false
  f1 : w.frozen? ⟨r, 1, none⟩ = false
  f2 : w.frozen? ⟨r, 2, none⟩ = false
  f3 : w.frozen? ⟨r, 3, none⟩ = false
  f4 : w.frozen? ⟨r, 4, none⟩ = false
  f5 : w.frozen? ⟨r, 5, none⟩ = false
  c0 : w.cell? ⟨r, 0, none⟩ = some (.int .i64 0)
  c1 : w.cell? ⟨r, 1, none⟩ = some (.string ⟨#[]⟩)
  c2 : w.cell? ⟨r, 2, none⟩ = some (.int .i64 0)
  c3 : w.cell? ⟨r, 3, none⟩ = some (.int .i64 0)
  c4 : w.cell? ⟨r, 4, none⟩ = some (.bool false)
  c5 : w.cell? ⟨r, 5, none⟩ = some (.bool false)
theorem tok0_free {w : World} {r : Nat} (h : w.heap[r]? = some tok0) : Free6 w r := by
  constructor <;> simp [World.frozen?, World.cell?, h, tok0]
theorem At.put {T : TypeId} {W w : World} {b r : Nat} {v : Value} {l s : List Int} (h : At T W w b v l s) (hr : b < r) (i : Nat) (x : Value) : At T W (w.setCell ⟨r, i, none⟩ x) b v l s := by
  obtain ⟨p, h1, h2, h3⟩ := h.ex
  have := h1.ge
  exact ⟨p, ⟨h1.bel.setCell (p := ⟨r, i, none⟩) (by simp; omega) _, h1.ge, (Below.heap_setCell _ _ _ _ (by simp; omega)).trans h1.blk, h1.nums, h1.len, h1.le⟩, h2, h3⟩
theorem Mod.put {w w' : World} {b r : Nat} (h : w.grownBy w' (some b)) (hr : w.heap.size ≤ r) (i : Nat) (x : Value) : w.grownBy (w'.setCell ⟨r, i, none⟩ x) (some b) :=
  ⟨h.os, h.tape, h.output, by simpa using h.size, fun k hk hb => (Below.heap_setCell _ _ _ _ (by simp; omega)).trans (h.block k hk hb)⟩
def tkV (k : Int) (t : ByteArray) (n d : Int) (w i : Bool) : Value := .agg #[.int .i64 k, .string t, .int .i64 n, .int .i64 d, .bool w, .bool i]
/-- A token comes back. -/
def Tells (e : Ending) (τ : Tk) : Prop := ∃ t, e = .returned (tkV τ.kind t τ.num τ.den τ.whole τ.id) ∧ bl t = τ.text
theorem Tells.tk {k : Int} {τ : Tk} (h : τ = tk k) : Tells (.returned (tkV k ⟨#[]⟩ 0 0 false false)) τ := by subst h; exact ⟨_, rfl, rfl⟩
theorem Tells.tkt {k : Int} {l : List Int} {t : ByteArray} {τ : Tk} (h : τ = tkt k l) (ht : bl t = enc l) : Tells (.returned (tkV k t 0 0 false false)) τ := by subst h; exact ⟨_, rfl, ht⟩
set_option maxRecDepth 100000 in
set_option maxHeartbeats 1000000 in
theorem oneToken_any (T : TypeId) (W w : World) (b : Nat) (v : Value) (l s : List Int) (h : At T W w b v l s) :
    Calls Tryz.prog 67 #[.pointer (some ⟨b, 0, none⟩)] w fun e w' => Tells e (one s).1 ∧ At T W w' b v l (one s).2 ∧ w.grownBy w' (some b) := by
  have hb := h.lt
  have A1 := hide (h.below (bplus (Below.refl _ _) tok0))
  have M := hide (Mod.of b (bplus (Below.refl w.heap.size w) tok0))
  have Z := hide (tok0_alloc w)
  clear h
  unfold one
  obtain ⟨u, hu⟩ : ∃ u, s.drop 1 = u := ⟨_, rfl⟩
  have U := hide hu
  obtain ⟨x, hx⟩ : ∃ x, nx s 0 = x := ⟨_, rfl⟩
  have X := hide hx
  obtain ⟨k, hk⟩ : ∃ k, brk x = k := ⟨_, rfl⟩
  have K := hide hk
  rw [hu, hx, hk]
  clear hx hk hu
  by_cases h9 : k = 9
  · subst h9
    rw [if_pos rfl]
    go_enter Tryz.func67, Tryz.ntmps67
    go_wp2_with (first
      | (go_at_call 51; refine (takeA T W _ b v l s A1.out).mono ?_; rintro e w2 ⟨he, A2, M2⟩; rw [X.out] at he; rw [U.out] at A2; subst he; replace Z := hide (keep Z.out (Nat.ne_of_gt hb) M2); replace A1 := hide A2; replace M := hide (Mod.trans M.out M2); clear A2 M2)
      | (go_at_call 92; refine (bracketKind_any _ _).mono ?_; rintro e w3 ⟨rfl, rfl⟩; rw [K.out])
      | (go_at_call 52; refine (written_any [x] _ _ (Nums.lit _ 21 [x] 1 rfl (by omega) (by omega)) (by simp)).mono ?_; rintro e w3 ⟨t, rfl, ht, B3⟩; replace ht := hide ht; have B1 := bto (bplus (Below.refl _ _) _) B3; replace A1 := hide (A1.out.below B1); replace M := hide (Mod.trans M.out (Mod.of b B1)); replace Z := hide (keep Z.out (Nat.ne_of_gt hb) (Mod.of b B1)); obtain ⟨f0, f1, f2, f3, f4, f5, c0, c1, c2, c3, c4, c5⟩ := tok0_free Z.out; clear B1 B3))
    refine bodyPost_ret (v := tkV 9 t 0 0 false false) (by simp [results, Tryz.results67, go_sem, tkV, c0, c1, c2, c3, c4, c5]) rfl ?_
    exact ⟨.tkt rfl ht.out, by repeat (first | (with_reducible exact A1.out) | (with_reducible refine At.put ?_ hb _ _)), by repeat (first | (with_reducible exact M.out) | (with_reducible refine Mod.put ?_ (Nat.le_refl _) _ _))⟩
  · have h9' : (k != 9) = true := by simpa using h9
    rw [if_neg h9]
    go_enter Tryz.func67, Tryz.ntmps67
    go_wp2_with (first
      | (go_at_call 51; refine (takeA T W _ b v l s A1.out).mono ?_; rintro e w2 ⟨he, A2, M2⟩; rw [X.out] at he; rw [U.out] at A2; subst he; replace Z := hide (keep Z.out (Nat.ne_of_gt hb) M2); replace A1 := hide A2; replace M := hide (Mod.trans M.out M2); obtain ⟨f0, f1, f2, f3, f4, f5, c0, c1, c2, c3, c4, c5⟩ := tok0_free Z.out; clear A2 M2)
      | (go_at_call 92; refine (bracketKind_any _ _).mono ?_; rintro e w3 ⟨rfl, rfl⟩; rw [K.out]))
    refine bodyPost_ret (v := tkV k ⟨#[]⟩ 0 0 false false) (by simp [results, Tryz.results67, go_sem, tkV, c0, c1, c2, c3, c4, c5]) rfl ?_
    exact ⟨.tk rfl, by repeat (first | (with_reducible exact A1.out) | (with_reducible refine At.put ?_ hb _ _)), by repeat (first | (with_reducible exact M.out) | (with_reducible refine Mod.put ?_ (Nat.le_refl _) _ _))⟩
end Go.Proofs.YtckefmhleklciaaGreatDoor
