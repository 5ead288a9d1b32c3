/-
  A name taken, by the program.
  Tokens of one character, by the program.
  A hash; a string's escape, by the program.
  A string, by the program.
  What ends a url; a bad url; whether a quote comes, by the program.
-/
import Derived.Test.YtcclhdiphcfdfaaGreatDoorKh
import Derived.Outline
set_option linter.unusedVariables false
set_option linter.unusedSimpArgs false
namespace Go.Proofs.YtcclhdiphcfdfaaGreatDoor
open Go.RowKit

/-- An own slice beside a reader in block b. -/
def OwnM (b : Nat) (w : World) (k : IntKind) (e : TypeId) (wr : World) (v : Value) (xs : List Int) : Prop :=
  wr.ownsRow w.heap.size e 1 v xs.length (xs.map (Value.int k)) ∧ w.grownBy wr (some b)
theorem OwnM.nil (b : Nat) (w : World) (k : IntKind) (e : TypeId) : OwnM b w k e w (.slice none 0 0) [] := ⟨World.ownsRow_nil _ _ _ _, Mod.refl _ _⟩
theorem OwnM.mod {b : Nat} {w wr w1 : World} {k : IntKind} {e : TypeId} {v : Value} {xs : List Int} (h : OwnM b w k e wr v xs) (hb : b < w.heap.size) (hg : wr.grownBy w1 (some b)) : OwnM b w k e w1 v xs := by
  refine ⟨⟨h.1.1, ?_⟩, Mod.trans h.2 hg⟩
  rcases h.1.2 with h1 | ⟨g, cap, cur, hv, hbg, hh, rest⟩
  · exact .inl h1
  · exact .inr ⟨g, cap, cur, hv, hbg, (hg.block g (Array.getElem?_eq_some_iff.1 hh).1 (by intro e; cases e; omega)).trans hh, rest⟩
theorem OwnM.grow {b : Nat} {w wr w1 : World} {k : IntKind} {e : TypeId} {v v' : Value} {xs ys : List Int} {o : Obj} (h : OwnM b w k e wr v xs)
    (h1 : w1.ownsRow w.heap.size e 1 v' (xs.length + ys.length) (xs.map (Value.int k) ++ ys.map (Value.int k))) (hg : (wr.alloc o).grownBy w1 v.ownBlock) : OwnM b w k e w1 v' (xs ++ ys) := by
  refine ⟨by rw [List.length_append, List.map_append]; exact h1, ?_⟩
  have A := Mod.trans h.2 (Mod.of b (bplus (Below.refl wr.heap.size wr) o))
  exact ⟨hg.os.trans A.os, hg.tape.trans A.tape, hg.output.trans A.output, Nat.le_trans A.size hg.size, fun i hi hb' => (hg.block i (Nat.lt_of_lt_of_le hi A.size) (fun e => by have := (h.1.lt i e.symm).1; omega)).trans (A.block i hi hb')⟩
theorem OwnM.nums {b : Nat} {w wr : World} {k : IntKind} {e : TypeId} {v : Value} {xs : List Int} (h : OwnM b w k e wr v xs) (hl : xs.length ≤ 4611686018427387904) : Nums k wr v xs :=
  Own.nums (W := { wr with heap := #[] }) (e := e) ⟨⟨h.1.1, h.1.2.imp id fun ⟨g, cap, cur, a, _, c⟩ => ⟨g, cap, cur, a, Nat.zero_le _, c⟩⟩, rfl, rfl, rfl, Nat.zero_le _, fun k hk => absurd hk (by simp)⟩ hl
theorem At.grow {T : TypeId} {W w wr w1 : World} {b : Nat} {u v : Value} {l s : List Int} {o : Obj} {k : IntKind} {e : TypeId} {xs : List Int} (h : At T W wr b u l s) (hb : b < w.heap.size) (ho : OwnM b w k e wr v xs) (hg : (wr.alloc o).grownBy w1 v.ownBlock) : At T W w1 b u l s := by
  obtain ⟨p, h1, h2, h3⟩ := h.ex
  have B := bplus (Below.refl wr.heap.size wr) o
  have hbe := h1.ge
  refine ⟨p, ⟨(bto h1.bel B).grown hg (Nat.le_trans h1.bel.size B.size) (fun k hk => by have := (ho.1.lt k hk).1; omega), h1.ge, ?_, h1.nums, h1.len, h1.le⟩, h2, h3⟩
  exact (hg.block b (Nat.lt_of_lt_of_le h1.lt B.size) (fun e => by have := (ho.1.lt b e.symm).1; omega)).trans ((B.block b h1.lt).trans h1.blk)
/-- The state of the loop that takes a name. -/
def RelNm (T : TypeId) (W w : World) (b : Nat) (v : Value) (l s : List Int) (g : Nat) (nv : Value) (wr : World) : Prop :=
  ∃ xs t, At T W wr b v l t ∧ t.length ≤ g ∧ xs.length + t.length ≤ s.length ∧ OwnM b w .i32 21 wr nv xs ∧ Hid (nam [] s = nam xs t)
theorem RelNm.mk {T : TypeId} {W w : World} {b : Nat} {v : Value} {l s : List Int} {g : Nat} {nv : Value} {wr : World} (xs t : List Int) (h1 : At T W wr b v l t) (h2 : t.length ≤ g) (h3 : xs.length + t.length ≤ s.length) (h4 : OwnM b w .i32 21 wr nv xs) (h5 : nam [] s = nam xs t) : RelNm T W w b v l s g nv wr := ⟨xs, t, h1, h2, h3, h4, h5⟩
set_option maxRecDepth 100000 in
set_option maxHeartbeats 1000000 in
theorem takeName_any (T : TypeId) (W w : World) (b : Nat) (v : Value) (l s : List Int) (hL : l.length ≤ 35184372088832) (h : At T W w b v l s) :
    Calls Tryz.prog 125 #[.pointer (some ⟨b, 0, none⟩)] w fun e w' => ∃ t, e = .returned (.string t) ∧ bl t = enc (nam [] s).1 ∧ At T W w' b v l (nam [] s).2 ∧ w.grownBy w' (some b) := by
  obtain ⟨i0, hi, hz0, hz1, hz2⟩ := info_parts info32
  have hbw := h.lt
  have hsl := h.len.1
  have H := hide h
  clear h
  go_enter Tryz.func125, Tryz.ntmps125
  go_wp2
  go_loopg [3] s.length (fun g nv wr => RelNm T W w b v l s g nv wr)
  case atStart => exact .mk [] s H.out (Nat.le_refl _) (by simp) (OwnM.nil _ _ _ _) rfl
  case round =>
    clear H
    obtain ⟨xs, t, A1, hg, hx, OW, R⟩ := hrel
    replace A1 := hide A1
    replace OW := hide OW
    have H0 := hide (show nx t (Int.toNat 0) = nx t 0 from rfl)
    obtain ⟨u, hu⟩ : ∃ u, t.drop 1 = u := ⟨_, rfl⟩
    cases hb : isLet (nx t 0)
    · cases he : es2 (nx t 0) (nx t 1)
      · have HB := hide hb
        have HE := hide he
        have E := hide (R.out.trans (nam_end hb he))
        clear hb he
        go_wp2_with (first
          | (go_at_call 86; refine (aheadA T W _ b _ l _ A1.out).mono ?_; rintro e w1 ⟨y, rfl, HL, B1⟩; have HK := hide HL; obtain ⟨g, lb, rfl, eg, hg'⟩ := HL; replace hg' := hide hg'; have BL := hide (Below.refl w1.heap.size w1); replace A1 := hide (A1.out.below B1); replace OW := hide (OW.out.mod hbw (Mod.of b B1)); clear B1)
          | (go_at_fn g; refine (hg'.out _ _ (by decide) (by decide) BL.out).mono ?_; rintro e w1 ⟨he, B1⟩; rw [H0.out] at he; subst he; replace BL := hide (bto BL.out B1); replace A1 := hide (A1.out.below B1); replace OW := hide (OW.out.mod hbw (Mod.of b B1)); clear B1)
          | (go_at_call 129; refine (isLetP_any _ _).mono ?_; rintro e w2 ⟨rfl, rfl⟩; rw [HB.out])
          | (go_at_call 130; refine (isEscape_any _ t _ ((HK.out.below BL.out).le (by decide))).mono ?_; rintro e w1 ⟨he, B1⟩; rw [HE.out] at he; subst he; replace A1 := hide (A1.out.below B1); replace OW := hide (OW.out.mod hbw (Mod.of b B1)); clear B1)
          | (go_at_call 120; refine (written_any xs _ _ (OW.out.nums (by omega)) (by omega)).mono ?_; rintro e w3 ⟨z, rfl, hz, B1⟩; replace hz := hide hz; replace A1 := hide (A1.out.below B1); replace OW := hide (OW.out.mod hbw (Mod.of b B1)); clear B1))
        go_ret
        exact ⟨_, rfl, by have e1 := hz.out; have e2 := E.out; rw [e1, e2], by rw [E.out]; exact A1.out, OW.out.2⟩
      · have HB := hide hb
        have HE := hide he
        have L := es2_ne he
        have LT := tesc_len u
        have LU : u.length = t.length - 1 := by rw [← hu, List.length_drop]
        have E := R.out.trans (nam_esc hb he)
        rw [hu] at E
        replace E := hide E
        clear hb he
        obtain ⟨⟨x, r⟩, hxr⟩ : ∃ z, tesc u = z := ⟨_, rfl⟩
        rw [hxr] at E LT
        have XR := hide hxr
        have HU := hide hu
        clear hxr hu
        go_wp2_with (first
          | (go_at_call 86; refine (aheadA T W _ b _ l _ A1.out).mono ?_; rintro e w1 ⟨y, rfl, HL, B1⟩; have HK := hide HL; obtain ⟨g, lb, rfl, eg, hg'⟩ := HL; replace hg' := hide hg'; have BL := hide (Below.refl w1.heap.size w1); replace A1 := hide (A1.out.below B1); replace OW := hide (OW.out.mod hbw (Mod.of b B1)); clear B1)
          | (go_at_fn g; refine (hg'.out _ _ (by decide) (by decide) BL.out).mono ?_; rintro e w1 ⟨he, B1⟩; rw [H0.out] at he; subst he; replace BL := hide (bto BL.out B1); replace A1 := hide (A1.out.below B1); replace OW := hide (OW.out.mod hbw (Mod.of b B1)); clear B1)
          | (go_at_call 129; refine (isLetP_any _ _).mono ?_; rintro e w2 ⟨rfl, rfl⟩; rw [HB.out])
          | (go_at_call 130; refine (isEscape_any _ t _ ((HK.out.below BL.out).le (by decide))).mono ?_; rintro e w1 ⟨he, B1⟩; rw [HE.out] at he; subst he; replace A1 := hide (A1.out.below B1); replace OW := hide (OW.out.mod hbw (Mod.of b B1)); clear B1)
          | (go_at_call 162; refine (takeEscape_any T W _ b _ l t u HU.out A1.out).mono ?_; rintro e w2 ⟨he, A2, M2⟩; rw [XR.out] at he A2; subst he; replace A1 := hide A2; replace OW := hide (OW.out.mod hbw M2); clear A2 M2)
          | (at_builtin; refine wpList_append_own _ rfl _ _ 43 rfl w.heap.size 21 i0 (.int .i32 0) 1 4 Tryz.underlying43 hi hz0 hz1 hz2 rfl (by decide) _ _ _ rfl (OW.out.1.alloc _) ⟨_, 0, none⟩ 1 1 [.int .i32 x] rfl rfl (news1 _ _ _) (by intro u hu; simp at hu; subst hu; rfl) (by unfold maxLen; omega) (by omega) (by have := OW.out.2.size; simp; omega) ?_; intro v' w1 hown' hgrow _; replace A1 := hide (A1.out.grow hbw OW.out hgrow); replace OW := hide (OW.out.grow (ys := [x]) hown' hgrow); clear hown' hgrow))
        go_roundg (gk - 1)
        case measure => omega
        case rel => exact .mk (xs ++ [x]) r A1.out (by have LT' : r.length ≤ u.length := LT; omega) (by have LT' : r.length ≤ u.length := LT; simp; omega) OW.out E.out
    · have HB := hide hb
      have L := isLet_ne hb
      have LU : u.length = t.length - 1 := by rw [← hu, List.length_drop]
      have E := R.out.trans (nam_let hb)
      rw [hu] at E
      replace E := hide E
      have HU := hide hu
      clear hb hu
      generalize nx t 0 = x at H0 HB E
      have H1 := hide (show nx t 0 = x from H0.out)
      go_wp2_with (first
          | (go_at_call 86; refine (aheadA T W _ b _ l _ A1.out).mono ?_; rintro e w1 ⟨y, rfl, HL, B1⟩; have HK := hide HL; obtain ⟨g, lb, rfl, eg, hg'⟩ := HL; replace hg' := hide hg'; have BL := hide (Below.refl w1.heap.size w1); replace A1 := hide (A1.out.below B1); replace OW := hide (OW.out.mod hbw (Mod.of b B1)); clear B1)
          | (go_at_fn g; refine (hg'.out _ _ (by decide) (by decide) BL.out).mono ?_; rintro e w1 ⟨he, B1⟩; rw [H0.out] at he; subst he; replace BL := hide (bto BL.out B1); replace A1 := hide (A1.out.below B1); replace OW := hide (OW.out.mod hbw (Mod.of b B1)); clear B1)
          | (go_at_call 129; refine (isLetP_any _ _).mono ?_; rintro e w2 ⟨rfl, rfl⟩; rw [HB.out])
          | (go_at_call 119; refine (takeA T W _ b _ l t A1.out).mono ?_; rintro e w2 ⟨he, A2, M2⟩; rw [H1.out] at he; rw [HU.out] at A2; subst he; replace A1 := hide A2; replace OW := hide (OW.out.mod hbw M2); clear A2 M2)
          | (at_builtin; refine wpList_append_own _ rfl _ _ 43 rfl w.heap.size 21 i0 (.int .i32 0) 1 4 Tryz.underlying43 hi hz0 hz1 hz2 rfl (by decide) _ _ _ rfl (OW.out.1.alloc _) ⟨_, 0, none⟩ 1 1 [.int .i32 x] rfl rfl (news1 _ _ _) (by intro u hu; simp at hu; subst hu; rfl) (by unfold maxLen; omega) (by omega) (by have := OW.out.2.size; simp; omega) ?_; intro v' w1 hown' hgrow _; replace A1 := hide (A1.out.grow hbw OW.out hgrow); replace OW := hide (OW.out.grow (ys := [x]) hown' hgrow); clear hown' hgrow))
      go_roundg (gk - 1)
      case measure => omega
      case rel => exact .mk (xs ++ [x]) u A1.out (by omega) (by simp; omega) OW.out E.out
end Go.Proofs.YtcclhdiphcfdfaaGreatDoor
set_option linter.unusedVariables false
set_option linter.unusedSimpArgs false
namespace Go.Proofs.YtcclhdiphcfdfaaGreatDoor
open Go.RowKit

theorem brk_cases (c : Int) : (c = 40 ∧ brk c = 21) ∨ (c = 41 ∧ brk c = 22) ∨ (c = 91 ∧ brk c = 19) ∨ (c = 93 ∧ brk c = 20) ∨ (c = 123 ∧ brk c = 23) ∨ (c = 125 ∧ brk c = 24) ∨ (c = 44 ∧ brk c = 18) ∨ (c = 58 ∧ brk c = 16) ∨ (c = 59 ∧ brk c = 17)
    ∨ (((c == 40) = false ∧ (c == 41) = false ∧ (c == 91) = false ∧ (c == 93) = false ∧ (c == 123) = false ∧ (c == 125) = false ∧ (c == 44) = false ∧ (c == 58) = false ∧ (c == 59) = false) ∧ brk c = 9) := by
  simp only [beq_eq_false_iff_ne]
  unfold brk
  omega
theorem ret_i64 {a c : Int} (h : a = c) : Ending.returned (.int .i64 a) = .returned (.int .i64 c) := by rw [h]
theorem bracketKind_any (c : Int) (w : World) : Calls Tryz.prog 173 #[.int .i32 c] w fun e w' => e = .returned (.int .i64 (brk c)) ∧ w' = w := by
  rcases brk_cases c with ⟨rfl, h⟩ | ⟨rfl, h⟩ | ⟨rfl, h⟩ | ⟨rfl, h⟩ | ⟨rfl, h⟩ | ⟨rfl, h⟩ | ⟨rfl, h⟩ | ⟨rfl, h⟩ | ⟨rfl, h⟩ | ⟨⟨h1, h2, h3, h4, h5, h6, h7, h8, h9⟩, h⟩
  all_goals
    have E := hide h
    clear h
    go_enter Tryz.func173, Tryz.ntmps173
    go_wp2
    go_ret
    exact ⟨ret_i64 E.out.symm, rfl⟩
/-! ### A token, made -/
theorem keep {w w1 : World} {b r : Nat} {o : Obj} (h : w.heap[r]? = some o) (hr : r ≠ b) (m : w.grownBy w1 (some b)) : w1.heap[r]? = some o :=
  (m.block r (Array.getElem?_eq_some_iff.1 h).1 (by intro e; cases e; exact hr rfl)).trans h
def tok0 : Obj := .cells #[.int .i64 0, .string ⟨#[]⟩, .int .i64 0, .int .i64 0, .bool false, .bool false] 25
theorem tok0_alloc (w : World) : (w.alloc tok0).heap[w.heap.size]? = some tok0 := by unfold World.alloc; exact Array.getElem?_push_size
structure Free6 (w : World) (r : Nat) : Prop where
  f0 : w.frozen? ⟨r, 0, none⟩ = false
  f1 : w.frozen? ⟨r, 1, none⟩ = false
  f2 : w.frozen? ⟨r, 2, none⟩ = false
  f3 : w.frozen? ⟨r, 3, none⟩ = false
  f4 : w.frozen? ⟨r, 4, none⟩ = false
  f5 : w.frozen? ⟨r, 5, none⟩ = false
  c0 : w.cell? ⟨r, 0, none⟩ = some (.int .i64 0)
  c1 : w.cell? ⟨r, 1, none⟩ = some (.string ⟨#[]⟩)
  c2 : w.cell? ⟨r, 2, none⟩ = some (.int .i64 0)
  c3 : w.cell? ⟨r, 3, none⟩ = some (.int .i64 0)
  c4 : w.cell? ⟨r, 4, none⟩ = some (.bool false)
  c5 : w.cell? ⟨r, 5, none⟩ = some (.bool false)
theorem tok0_free {w : World} {r : Nat} (h : w.heap[r]? = some tok0) : Free6 w r := by
  constructor <;> simp [World.frozen?, World.cell?, h, tok0]
theorem At.put {T : TypeId} {W w : World} {b r : Nat} {v : Value} {l s : List Int} (h : At T W w b v l s) (hr : b < r) (i : Nat) (x : Value) : At T W (w.setCell ⟨r, i, none⟩ x) b v l s := by
  obtain ⟨p, h1, h2, h3⟩ := h.ex
  have := h1.ge
  exact ⟨p, ⟨h1.bel.setCell (p := ⟨r, i, none⟩) (by simp; omega) _, h1.ge, (Below.heap_setCell _ _ _ _ (by simp; omega)).trans h1.blk, h1.nums, h1.len, h1.le⟩, h2, h3⟩
theorem Mod.put {w w' : World} {b r : Nat} (h : w.grownBy w' (some b)) (hr : w.heap.size ≤ r) (i : Nat) (x : Value) : w.grownBy (w'.setCell ⟨r, i, none⟩ x) (some b) :=
  ⟨h.os, h.tape, h.output, by simpa using h.size, fun k hk hb => (Below.heap_setCell _ _ _ _ (by simp; omega)).trans (h.block k hk hb)⟩
def tkV (k : Int) (t : ByteArray) (n d : Int) (w i : Bool) : Value := .agg #[.int .i64 k, .string t, .int .i64 n, .int .i64 d, .bool w, .bool i]
/-- A token comes back. -/
def Tells (e : Ending) (τ : Tk) : Prop := ∃ t, e = .returned (tkV τ.kind t τ.num τ.den τ.whole τ.id) ∧ bl t = τ.text
theorem Tells.tk {k : Int} {τ : Tk} (h : τ = tk k) : Tells (.returned (tkV k ⟨#[]⟩ 0 0 false false)) τ := by subst h; exact ⟨_, rfl, rfl⟩
theorem Tells.tkt {k : Int} {l : List Int} {t : ByteArray} {τ : Tk} (h : τ = tkt k l) (ht : bl t = enc l) : Tells (.returned (tkV k t 0 0 false false)) τ := by subst h; exact ⟨_, rfl, ht⟩
set_option maxRecDepth 100000 in
set_option maxHeartbeats 1000000 in
theorem oneToken_any (T : TypeId) (W w : World) (b : Nat) (v : Value) (l s : List Int) (h : At T W w b v l s) :
    Calls Tryz.prog 135 #[.pointer (some ⟨b, 0, none⟩)] w fun e w' => Tells e (one s).1 ∧ At T W w' b v l (one s).2 ∧ w.grownBy w' (some b) := by
  have hb := h.lt
  have A1 := hide (h.below (bplus (Below.refl _ _) tok0))
  have M := hide (Mod.of b (bplus (Below.refl w.heap.size w) tok0))
  have Z := hide (tok0_alloc w)
  clear h
  unfold one
  obtain ⟨u, hu⟩ : ∃ u, s.drop 1 = u := ⟨_, rfl⟩
  have U := hide hu
  obtain ⟨x, hx⟩ : ∃ x, nx s 0 = x := ⟨_, rfl⟩
  have X := hide hx
  obtain ⟨k, hk⟩ : ∃ k, brk x = k := ⟨_, rfl⟩
  have K := hide hk
  rw [hu, hx, hk]
  clear hx hk hu
  by_cases h9 : k = 9
  · subst h9
    rw [if_pos rfl]
    go_enter Tryz.func135, Tryz.ntmps135
    go_wp2_with (first
      | (go_at_call 119; refine (takeA T W _ b v l s A1.out).mono ?_; rintro e w2 ⟨he, A2, M2⟩; rw [X.out] at he; rw [U.out] at A2; subst he; replace Z := hide (keep Z.out (Nat.ne_of_gt hb) M2); replace A1 := hide A2; replace M := hide (Mod.trans M.out M2); clear A2 M2)
      | (go_at_call 173; refine (bracketKind_any _ _).mono ?_; rintro e w3 ⟨rfl, rfl⟩; rw [K.out])
      | (go_at_call 120; refine (written_any [x] _ _ (Nums.lit _ 21 [x] 1 rfl (by omega) (by omega)) (by simp)).mono ?_; rintro e w3 ⟨t, rfl, ht, B3⟩; replace ht := hide ht; have B1 := bto (bplus (Below.refl _ _) _) B3; replace A1 := hide (A1.out.below B1); replace M := hide (Mod.trans M.out (Mod.of b B1)); replace Z := hide (keep Z.out (Nat.ne_of_gt hb) (Mod.of b B1)); obtain ⟨f0, f1, f2, f3, f4, f5, c0, c1, c2, c3, c4, c5⟩ := tok0_free Z.out; clear B1 B3))
    refine bodyPost_ret (v := tkV 9 t 0 0 false false) (by simp [results, Tryz.results135, go_sem, tkV, c0, c1, c2, c3, c4, c5]) rfl ?_
    exact ⟨.tkt rfl ht.out, by repeat (first | (with_reducible exact A1.out) | (with_reducible refine At.put ?_ hb _ _)), by repeat (first | (with_reducible exact M.out) | (with_reducible refine Mod.put ?_ (Nat.le_refl _) _ _))⟩
  · have h9' : (k != 9) = true := by simpa using h9
    rw [if_neg h9]
    go_enter Tryz.func135, Tryz.ntmps135
    go_wp2_with (first
      | (go_at_call 119; refine (takeA T W _ b v l s A1.out).mono ?_; rintro e w2 ⟨he, A2, M2⟩; rw [X.out] at he; rw [U.out] at A2; subst he; replace Z := hide (keep Z.out (Nat.ne_of_gt hb) M2); replace A1 := hide A2; replace M := hide (Mod.trans M.out M2); obtain ⟨f0, f1, f2, f3, f4, f5, c0, c1, c2, c3, c4, c5⟩ := tok0_free Z.out; clear A2 M2)
      | (go_at_call 173; refine (bracketKind_any _ _).mono ?_; rintro e w3 ⟨rfl, rfl⟩; rw [K.out]))
    refine bodyPost_ret (v := tkV k ⟨#[]⟩ 0 0 false false) (by simp [results, Tryz.results135, go_sem, tkV, c0, c1, c2, c3, c4, c5]) rfl ?_
    exact ⟨.tk rfl, by repeat (first | (with_reducible exact A1.out) | (with_reducible refine At.put ?_ hb _ _)), by repeat (first | (with_reducible exact M.out) | (with_reducible refine Mod.put ?_ (Nat.le_refl _) _ _))⟩
end Go.Proofs.YtcclhdiphcfdfaaGreatDoor
set_option linter.unusedVariables false
set_option linter.unusedSimpArgs false
namespace Go.Proofs.YtcclhdiphcfdfaaGreatDoor
open Go.RowKit

set_option maxRecDepth 100000 in
set_option maxHeartbeats 1000000 in
theorem hashToken_any (T : TypeId) (W w : World) (b : Nat) (v : Value) (l s : List Int) (hL : l.length ≤ 35184372088832) (h : At T W w b v l s) :
    Calls Tryz.prog 132 #[.pointer (some ⟨b, 0, none⟩)] w fun e w' => Tells e (hash s).1 ∧ At T W w' b v l (hash s).2 ∧ w.grownBy w' (some b) := by
  have hb := h.lt
  have A1 := hide (h.below (bplus (Below.refl _ _) tok0))
  have M := hide (Mod.of b (bplus (Below.refl w.heap.size w) tok0))
  have Z := hide (tok0_alloc w)
  clear h
  have EN : nmB (nx s 1) (nx s 2) (nx s 3) = nmB (nx (s.drop 1) 0) (nx (s.drop 1) 1) (nx (s.drop 1) 2) := by rw [nx_drop, nx_drop, nx_drop]
  unfold hash
  rw [EN]
  clear EN
  obtain ⟨u, hu⟩ : ∃ u, s.drop 1 = u := ⟨_, rfl⟩
  have U := hide (show s.drop (Int.toNat 1) = u from hu)
  obtain ⟨⟨n, r⟩, hn⟩ : ∃ x, nam [] u = x := ⟨_, rfl⟩
  have N := hide hn
  obtain ⟨y, hy⟩ : ∃ y, nmB (nx u 0) (nx u 1) (nx u 2) = y := ⟨_, rfl⟩
  have Y := hide hy
  rw [hu, hn, hy]
  clear hu hn hy
  go_enter Tryz.func132, Tryz.ntmps132
  go_wp2_with (first
    | (go_at_call 87; refine (skipA T W _ b v l s 1 A1.out (by decide) (by decide)).mono ?_; rintro e w2 ⟨rfl, A2, M2⟩; rw [U.out] at A2; replace Z := hide (keep Z.out (Nat.ne_of_gt hb) M2); replace A1 := hide A2; replace M := hide (Mod.trans M.out M2); clear A2 M2)
    | (go_at_call 86; refine (aheadA T W _ b _ l _ A1.out).mono ?_; rintro e w1 ⟨f, rfl, HL, B1⟩; replace HL := hide HL; replace A1 := hide (A1.out.below B1); replace M := hide (Mod.trans M.out (Mod.of b B1)); replace Z := hide (keep Z.out (Nat.ne_of_gt hb) (Mod.of b B1)); clear B1)
    | (go_at_call 124; refine (nameB_any _ u _ (HL.out.le (by decide))).mono ?_; rintro e w1 ⟨he, B1⟩; rw [Y.out] at he; subst he; replace A1 := hide (A1.out.below B1); replace M := hide (Mod.trans M.out (Mod.of b B1)); replace Z := hide (keep Z.out (Nat.ne_of_gt hb) (Mod.of b B1)); clear B1)
    | (go_at_call 125; refine (takeName_any T W _ b v l u hL A1.out).mono ?_; rintro e w2 ⟨t, rfl, ht, A2, M2⟩; rw [N.out] at ht A2; replace ht := hide ht; replace Z := hide (keep Z.out (Nat.ne_of_gt hb) M2); replace A1 := hide A2; replace M := hide (Mod.trans M.out M2); obtain ⟨f0, f1, f2, f3, f4, f5, c0, c1, c2, c3, c4, c5⟩ := tok0_free Z.out; clear A2 M2))
  refine bodyPost_ret (v := tkV 4 t 0 0 false y) (by simp [results, Tryz.results132, go_sem, tkV, c0, c1, c2, c3, c4, c5]) rfl ?_
  exact ⟨⟨t, rfl, ht.out⟩, by repeat (first | (with_reducible exact A1.out) | (with_reducible refine At.put ?_ hb _ _)), by repeat (first | (with_reducible exact M.out) | (with_reducible refine Mod.put ?_ (Nat.le_refl _) _ _))⟩
/-- A string's escape: what it stands for, and what stands behind it. -/
def esX (s : List Int) : List Int × List Int :=
  if nx s 1 = -1 then ([], s.drop 1) else if nx s 1 = 10 then ([], s.drop 2) else ([(tesc (s.drop 1)).1], (tesc (s.drop 1)).2)
theorem esX_two (s : List Int) (h : 0 < s.length) : (esX s).2.length < s.length ∧ (esX s).1.length + (esX s).2.length ≤ s.length := by
  have k := tesc_len (s.drop 1)
  have e1 : (s.drop 1).length = s.length - 1 := List.length_drop
  have e2 : (s.drop 2).length = s.length - 2 := List.length_drop
  rw [e1] at k
  unfold esX
  generalize s.drop 1 = u at *
  generalize s.drop 2 = q at *
  generalize tesc u = z at *
  split
  · exact ⟨by show u.length < _; omega, by show 0 + u.length ≤ _; omega⟩
  · split
    · exact ⟨by show q.length < _; omega, by show 0 + q.length ≤ _; omega⟩
    · exact ⟨by show z.2.length < _; omega, by show 1 + z.2.length ≤ _; omega⟩
set_option maxRecDepth 100000 in
set_option maxHeartbeats 1000000 in
theorem appEsc_any (T : TypeId) (W w0 w : World) (b : Nat) (v nv : Value) (l s xs : List Int) (hb : b < w0.heap.size) (hx : xs.length + 1 ≤ 35184372088832) (h : At T W w b v l s) (ho : OwnM b w0 .i32 21 w nv xs) :
    Calls Tryz.prog 121 #[.pointer (some ⟨b, 0, none⟩), nv] w fun e w' => ∃ nv', e = .returned nv' ∧ At T W w' b v l (esX s).2 ∧ OwnM b w0 .i32 21 w' nv' (xs ++ (esX s).1) := by
  obtain ⟨i0, hi, hz0, hz1, hz2⟩ := info_parts info32
  obtain ⟨na, nn, nc, rfl⟩ : ∃ a n c, nv = .slice a n c := (ho.nums (by omega)).shape
  have A1 := hide h
  have OW := hide ho
  clear h ho
  have H1 := hide (show nx s (Int.toNat 1) = nx s 1 from rfl)
  obtain ⟨c, hc⟩ : ∃ c, nx s 1 = c := ⟨_, rfl⟩
  rw [hc] at H1
  obtain ⟨u, hu⟩ : ∃ u, s.drop 1 = u := ⟨_, rfl⟩
  obtain ⟨q, hq⟩ : ∃ u, s.drop 2 = u := ⟨_, rfl⟩
  obtain ⟨⟨x, r⟩, hxr⟩ : ∃ z, tesc u = z := ⟨_, rfl⟩
  have U1 := hide (show s.drop (Int.toNat 1) = u from hu)
  have U2 := hide (show s.drop (Int.toNat 2) = q from hq)
  have HU := hide hu
  have XR := hide hxr
  unfold esX
  rw [hc, hu, hq, hxr]
  clear hu hq hxr hc
  by_cases c1 : c = -1
  · subst c1
    rw [if_pos rfl]
    go_enter Tryz.func121, Tryz.ntmps121
    go_wp2_with (first
      | (go_at_call 86; refine (aheadA T W _ b _ l _ A1.out).mono ?_; rintro e w1 ⟨y, rfl, HL, B1⟩; obtain ⟨g, lb, rfl, eg, hg⟩ := HL; replace hg := hide hg; have BL := hide (Below.refl w1.heap.size w1); replace A1 := hide (A1.out.below B1); replace OW := hide (OW.out.mod hb (Mod.of b B1)); clear B1)
      | (go_at_fn g; refine (hg.out _ _ (by decide) (by decide) BL.out).mono ?_; rintro e w1 ⟨he, B1⟩; rw [H1.out] at he; subst he; replace A1 := hide (A1.out.below B1); replace OW := hide (OW.out.mod hb (Mod.of b B1)); clear B1)
      | (go_at_call 87; refine (skipA T W _ b v l s 1 A1.out (by decide) (by decide)).mono ?_; rintro e w2 ⟨rfl, A2, M2⟩; rw [U1.out] at A2; replace A1 := hide A2; replace OW := hide (OW.out.mod hb M2); clear A2 M2))
    go_ret
    exact ⟨_, rfl, A1.out, by rw [List.append_nil]; exact OW.out⟩
  · have c1' : (c == -1) = false := by simpa using c1
    rw [if_neg c1]
    by_cases c2 : c = 10
    · subst c2
      rw [if_pos rfl]
      go_enter Tryz.func121, Tryz.ntmps121
      go_wp2_with (first
        | (go_at_call 86; refine (aheadA T W _ b _ l _ A1.out).mono ?_; rintro e w1 ⟨y, rfl, HL, B1⟩; obtain ⟨g, lb, rfl, eg, hg⟩ := HL; replace hg := hide hg; have BL := hide (Below.refl w1.heap.size w1); replace A1 := hide (A1.out.below B1); replace OW := hide (OW.out.mod hb (Mod.of b B1)); clear B1)
        | (go_at_fn g; refine (hg.out _ _ (by decide) (by decide) BL.out).mono ?_; rintro e w1 ⟨he, B1⟩; rw [H1.out] at he; subst he; replace A1 := hide (A1.out.below B1); replace OW := hide (OW.out.mod hb (Mod.of b B1)); clear B1)
        | (go_at_call 87; refine (skipA T W _ b v l s 2 A1.out (by decide) (by decide)).mono ?_; rintro e w2 ⟨rfl, A2, M2⟩; rw [U2.out] at A2; replace A1 := hide A2; replace OW := hide (OW.out.mod hb M2); clear A2 M2))
      go_ret
      exact ⟨_, rfl, A1.out, by rw [List.append_nil]; exact OW.out⟩
    · have c2' : (c == 10) = false := by simpa using c2
      rw [if_neg c2]
      go_enter Tryz.func121, Tryz.ntmps121
      go_wp2_with (first
        | (go_at_call 86; refine (aheadA T W _ b _ l _ A1.out).mono ?_; rintro e w1 ⟨y, rfl, HL, B1⟩; obtain ⟨g, lb, rfl, eg, hg⟩ := HL; replace hg := hide hg; have BL := hide (Below.refl w1.heap.size w1); replace A1 := hide (A1.out.below B1); replace OW := hide (OW.out.mod hb (Mod.of b B1)); clear B1)
        | (go_at_fn g; refine (hg.out _ _ (by decide) (by decide) BL.out).mono ?_; rintro e w1 ⟨he, B1⟩; rw [H1.out] at he; subst he; replace A1 := hide (A1.out.below B1); replace OW := hide (OW.out.mod hb (Mod.of b B1)); clear B1)
        | (go_at_call 162; refine (takeEscape_any T W _ b _ l s u HU.out A1.out).mono ?_; rintro e w2 ⟨he, A2, M2⟩; rw [XR.out] at he A2; subst he; replace A1 := hide A2; replace OW := hide (OW.out.mod hb M2); clear A2 M2)
        | (at_builtin; refine wpList_append_own _ rfl _ _ 43 rfl w0.heap.size 21 i0 (.int .i32 0) 1 4 Tryz.underlying43 hi hz0 hz1 hz2 rfl (by decide) _ _ _ rfl (OW.out.1.alloc _) ⟨_, 0, none⟩ 1 1 [.int .i32 x] rfl rfl (news1 _ _ _) (by intro u hu; simp at hu; subst hu; rfl) (by unfold maxLen; omega) (by omega) (by have := OW.out.2.size; simp; omega) ?_; intro v' w1 hown' hgrow _; replace A1 := hide (A1.out.grow hb OW.out hgrow); replace OW := hide (OW.out.grow (ys := [x]) hown' hgrow); clear hown' hgrow))
      go_ret
      exact ⟨_, rfl, A1.out, OW.out⟩
end Go.Proofs.YtcclhdiphcfdfaaGreatDoor
set_option linter.unusedVariables false
set_option linter.unusedSimpArgs false
namespace Go.Proofs.YtcclhdiphcfdfaaGreatDoor
open Go.RowKit

theorem str_end {q : Int} {acc s : List Int} (h : nx s 0 = -1 ∨ nx s 0 = q) : str q acc s = (tkt 5 acc, s.drop 1) := by rw [str, dif_pos h]
theorem str_bad {q : Int} {acc s : List Int} (h : ¬ (nx s 0 = -1 ∨ nx s 0 = q)) (h1 : nx s 0 = 10) : str q acc s = (tk 6, s) := by rw [str, dif_neg h, dif_pos h1]
theorem str_esc {q : Int} {acc s : List Int} (h : ¬ (nx s 0 = -1 ∨ nx s 0 = q)) (h1 : nx s 0 = 92) : str q acc s = str q (acc ++ (esX s).1) (esX s).2 := by
  rw [str, dif_neg h, dif_neg (by omega), dif_pos h1]
  unfold esX
  split
  · simp
  · split
    · simp
    · rfl
theorem str_go {q : Int} {acc s : List Int} (h : ¬ (nx s 0 = -1 ∨ nx s 0 = q)) (h1 : nx s 0 ≠ 10) (h2 : nx s 0 ≠ 92) : str q acc s = str q (acc ++ [nx s 0]) (s.drop 1) := by
  rw [str, dif_neg h, dif_neg h1, dif_neg h2]
/-- The state of the loop that takes a string, a url. -/
def RelTx (f : List Int → List Int → Tk × List Int) (T : TypeId) (W w0 : World) (b : Nat) (v : Value) (l s : List Int) (N g : Nat) (nv : Value) (wr : World) : Prop :=
  ∃ xs t, At T W wr b v l t ∧ t.length ≤ g ∧ xs.length + t.length ≤ N ∧ OwnM b w0 .i32 21 wr nv xs ∧ Hid (f [] s = f xs t)
theorem RelTx.mk {f : List Int → List Int → Tk × List Int} {T : TypeId} {W w0 : World} {b : Nat} {v : Value} {l s : List Int} {N g : Nat} {nv : Value} {wr : World} (xs t : List Int) (h1 : At T W wr b v l t) (h2 : t.length ≤ g) (h3 : xs.length + t.length ≤ N) (h4 : OwnM b w0 .i32 21 wr nv xs) (h5 : f [] s = f xs t) : RelTx f T W w0 b v l s N g nv wr := ⟨xs, t, h1, h2, h3, h4, h5⟩
set_option maxRecDepth 100000 in
set_option maxHeartbeats 1000000 in
theorem stringToken_any (T : TypeId) (W w : World) (b : Nat) (v : Value) (l s u : List Int) (q : Int) (hq : q = 34 ∨ q = 39) (hL : l.length ≤ 35184372088832) (hs : nx s 0 = q) (hu : s.drop 1 = u) (h : At T W w b v l s) :
    Calls Tryz.prog 91 #[.pointer (some ⟨b, 0, none⟩)] w fun e w' => Tells e (str q [] u).1 ∧ At T W w' b v l (str q [] u).2 ∧ w.grownBy w' (some b) := by
  obtain ⟨i0, hi, hz0, hz1, hz2⟩ := info_parts info32
  have hb0 := h.lt
  have hul : u.length ≤ l.length := by have := h.len.1; rw [← hu, List.length_drop]; omega
  have hbw : b < (w.alloc tok0).heap.size := by simp; omega
  have A1 := hide (h.below (bplus (Below.refl _ _) tok0))
  have M := hide (Mod.of b (bplus (Below.refl w.heap.size w) tok0))
  have Z := hide (tok0_alloc w)
  have OW := hide (OwnM.nil b (w.alloc tok0) .i32 21)
  have X := hide hs
  have U := hide hu
  clear h hs hu
  obtain ⟨w0, hw0⟩ : ∃ w0, w.alloc tok0 = w0 := ⟨_, rfl⟩
  rw [hw0] at hbw A1 M Z OW
  have hw0' : w.alloc (.cells #[.int .i64 0, .string ⟨#[]⟩, .int .i64 0, .int .i64 0, .bool false, .bool false] 25) = w0 := hw0
  have HZ := hide hw0'
  clear hw0 hw0'
  rcases hq with rfl | rfl
  · go_enter Tryz.func91, Tryz.ntmps91
    go_wp2_with (first
      | (go_at_call 119; rw [HZ.out]; refine (takeA T W _ b v l s A1.out).mono ?_; rintro e w2 ⟨he, A2, M2⟩; rw [X.out] at he; rw [U.out] at A2; subst he; replace A1 := hide A2; replace OW := hide (OW.out.mod hbw M2); clear A2 M2))
    go_loopg [4] u.length (fun g nv wr => RelTx (str 34) T W w0 b v l u u.length g nv wr)
    case atStart => exact .mk [] u A1.out (Nat.le_refl _) (by simp) OW.out rfl
    case round =>
      clear A1 OW X U
      obtain ⟨xs, t, A1, hg, hx, OW, R⟩ := hrel
      replace A1 := hide A1
      replace OW := hide OW
      obtain ⟨na, nn, nc, rfl⟩ := (OW.out.nums (by omega)).shape
      obtain ⟨r, hr⟩ : ∃ r, t.drop 1 = r := ⟨_, rfl⟩
      have HV := hide (show t.drop (Int.toNat 1) = r from hr)
      have HV1 := hide hr
      obtain ⟨x, hx0⟩ : ∃ x, nx t 0 = x := ⟨_, rfl⟩
      have H0 := hide hx0
      by_cases d1 : x = -1 ∨ x = 34
      · have E := R.out.trans (str_end (by rw [hx0]; exact d1))
        rw [hr] at E
        replace E := hide E
        clear hr hx0
        rcases d1 with rfl | rfl
        all_goals
          go_wp2_with (first
          | (go_at_call 59; refine (nextA T W _ b v l t A1.out).mono ?_; rintro e w1 ⟨he, B1⟩; rw [H0.out] at he; subst he; replace A1 := hide (A1.out.below B1); replace OW := hide (OW.out.mod hbw (Mod.of b B1)); obtain ⟨f0, f1, f2, f3, f4, f5, c0, c1, c2, c3, c4, c5⟩ := tok0_free (keep Z.out (Nat.ne_of_gt hb0) OW.out.2); clear B1)
          | (go_at_call 87; refine (skipA T W _ b v l t 1 A1.out (by decide) (by decide)).mono ?_; rintro e w2 ⟨rfl, A2, M2⟩; rw [HV.out] at A2; replace A1 := hide A2; replace OW := hide (OW.out.mod hbw M2); clear A2 M2 f0 f1 f2 f3 f4 f5 c0 c1 c2 c3 c4 c5)
          | (go_at_call 120; refine (written_any xs _ _ (OW.out.nums (by omega)) (by omega)).mono ?_; rintro e w3 ⟨z, rfl, hz, B1⟩; replace hz := hide hz; replace A1 := hide (A1.out.below B1); replace OW := hide (OW.out.mod hbw (Mod.of b B1)); obtain ⟨f0, f1, f2, f3, f4, f5, c0, c1, c2, c3, c4, c5⟩ := tok0_free (keep Z.out (Nat.ne_of_gt hb0) OW.out.2); clear B1))
          have MM := Mod.trans M.out OW.out.2
          refine bodyPost_ret (v := tkV 5 z 0 0 false false) (by simp [results, Tryz.results91, go_sem, tkV, c0, c1, c2, c3, c4, c5]) rfl ?_
          exact ⟨.tkt (congrArg Prod.fst E.out) hz.out, by rw [E.out]; repeat (first | (with_reducible exact A1.out) | (with_reducible refine At.put ?_ hb0 _ _)), by repeat (first | (with_reducible exact MM) | (with_reducible refine Mod.put ?_ (Nat.le_refl _) _ _))⟩
      · by_cases d2 : x = 10
        · have E := hide (R.out.trans (str_bad (by rw [hx0]; exact d1) (hx0.trans d2)))
          subst d2
          clear hr hx0
          go_wp2_with (first
          | (go_at_call 59; refine (nextA T W _ b v l t A1.out).mono ?_; rintro e w1 ⟨he, B1⟩; rw [H0.out] at he; subst he; replace A1 := hide (A1.out.below B1); replace OW := hide (OW.out.mod hbw (Mod.of b B1)); obtain ⟨f0, f1, f2, f3, f4, f5, c0, c1, c2, c3, c4, c5⟩ := tok0_free (keep Z.out (Nat.ne_of_gt hb0) OW.out.2); clear B1))
          have MM := Mod.trans M.out OW.out.2
          refine bodyPost_ret (v := tkV 6 ⟨#[]⟩ 0 0 false false) (by simp [results, Tryz.results91, go_sem, tkV, c0, c1, c2, c3, c4, c5]) rfl ?_
          exact ⟨.tk (congrArg Prod.fst E.out), by rw [E.out]; repeat (first | (with_reducible exact A1.out) | (with_reducible refine At.put ?_ hb0 _ _)), by repeat (first | (with_reducible exact MM) | (with_reducible refine Mod.put ?_ (Nat.le_refl _) _ _))⟩
        · have hp : 0 < t.length := nx_pos (by rw [hx0]; exact fun e => d1 (.inl e))
          have e1 : (x == -1) = false := by simp; exact fun e => d1 (.inl e)
          have e2 : (x == 34) = false := by simp; exact fun e => d1 (.inr e)
          have e3 : (x == 10) = false := by simpa using d2
          by_cases d3 : x = 92
          · have E := hide (R.out.trans (str_esc (by rw [hx0]; exact d1) (hx0.trans d3)))
            have L2 := esX_two t hp
            subst d3
            clear hr hx0
            go_wp2_with (first
          | (go_at_call 59; refine (nextA T W _ b v l t A1.out).mono ?_; rintro e w1 ⟨he, B1⟩; rw [H0.out] at he; subst he; replace A1 := hide (A1.out.below B1); replace OW := hide (OW.out.mod hbw (Mod.of b B1)); obtain ⟨f0, f1, f2, f3, f4, f5, c0, c1, c2, c3, c4, c5⟩ := tok0_free (keep Z.out (Nat.ne_of_gt hb0) OW.out.2); clear B1)
          | (go_at_call 121; refine (appEsc_any T W w0 _ b v _ l t xs hbw (by omega) A1.out OW.out).mono ?_; rintro e w2 ⟨nv', rfl, A2, O2⟩; replace A1 := hide A2; replace OW := hide O2; clear A2 O2 f0 f1 f2 f3 f4 f5 c0 c1 c2 c3 c4 c5))
            go_roundg (gk - 1)
            case measure => omega
            case rel => exact .mk _ _ A1.out (by omega) (by rw [List.length_append]; omega) OW.out E.out
          · have e4 : (x == 92) = false := by simpa using d3
            have E := R.out.trans (str_go (by rw [hx0]; exact d1) (by rw [hx0]; exact d2) (by rw [hx0]; exact d3))
            rw [hx0, hr] at E
            replace E := hide E
            have LU : r.length = t.length - 1 := by rw [← hr, List.length_drop]
            clear hr hx0
            go_wp2_with (first
          | (go_at_call 59; refine (nextA T W _ b v l t A1.out).mono ?_; rintro e w1 ⟨he, B1⟩; rw [H0.out] at he; subst he; replace A1 := hide (A1.out.below B1); replace OW := hide (OW.out.mod hbw (Mod.of b B1)); obtain ⟨f0, f1, f2, f3, f4, f5, c0, c1, c2, c3, c4, c5⟩ := tok0_free (keep Z.out (Nat.ne_of_gt hb0) OW.out.2); clear B1)
          | (go_at_call 119; refine (takeA T W _ b _ l t A1.out).mono ?_; rintro e w2 ⟨he, A2, M2⟩; rw [H0.out] at he; rw [HV1.out] at A2; subst he; replace A1 := hide A2; replace OW := hide (OW.out.mod hbw M2); clear A2 M2 f0 f1 f2 f3 f4 f5 c0 c1 c2 c3 c4 c5)
          | (at_builtin; refine wpList_append_own _ rfl _ _ 43 rfl w0.heap.size 21 i0 (.int .i32 0) 1 4 Tryz.underlying43 hi hz0 hz1 hz2 rfl (by decide) _ _ _ rfl (OW.out.1.alloc _) ⟨_, 0, none⟩ 1 1 [.int .i32 x] rfl rfl (news1 _ _ _) (by intro u hu; simp at hu; subst hu; rfl) (by unfold maxLen; omega) (by omega) (by have := OW.out.2.size; simp; omega) ?_; intro v' w1 hown' hgrow _; replace A1 := hide (A1.out.grow hbw OW.out hgrow); replace OW := hide (OW.out.grow (ys := [x]) hown' hgrow); clear hown' hgrow))
            go_roundg (gk - 1)
            case measure => omega
            case rel => exact .mk (xs ++ [x]) r A1.out (by omega) (by rw [List.length_append, List.length_singleton]; omega) OW.out E.out
  · go_enter Tryz.func91, Tryz.ntmps91
    go_wp2_with (first
      | (go_at_call 119; rw [HZ.out]; refine (takeA T W _ b v l s A1.out).mono ?_; rintro e w2 ⟨he, A2, M2⟩; rw [X.out] at he; rw [U.out] at A2; subst he; replace A1 := hide A2; replace OW := hide (OW.out.mod hbw M2); clear A2 M2))
    go_loopg [4] u.length (fun g nv wr => RelTx (str 39) T W w0 b v l u u.length g nv wr)
    case atStart => exact .mk [] u A1.out (Nat.le_refl _) (by simp) OW.out rfl
    case round =>
      clear A1 OW X U
      obtain ⟨xs, t, A1, hg, hx, OW, R⟩ := hrel
      replace A1 := hide A1
      replace OW := hide OW
      obtain ⟨na, nn, nc, rfl⟩ := (OW.out.nums (by omega)).shape
      obtain ⟨r, hr⟩ : ∃ r, t.drop 1 = r := ⟨_, rfl⟩
      have HV := hide (show t.drop (Int.toNat 1) = r from hr)
      have HV1 := hide hr
      obtain ⟨x, hx0⟩ : ∃ x, nx t 0 = x := ⟨_, rfl⟩
      have H0 := hide hx0
      by_cases d1 : x = -1 ∨ x = 39
      · have E := R.out.trans (str_end (by rw [hx0]; exact d1))
        rw [hr] at E
        replace E := hide E
        clear hr hx0
        rcases d1 with rfl | rfl
        all_goals
          go_wp2_with (first
          | (go_at_call 59; refine (nextA T W _ b v l t A1.out).mono ?_; rintro e w1 ⟨he, B1⟩; rw [H0.out] at he; subst he; replace A1 := hide (A1.out.below B1); replace OW := hide (OW.out.mod hbw (Mod.of b B1)); obtain ⟨f0, f1, f2, f3, f4, f5, c0, c1, c2, c3, c4, c5⟩ := tok0_free (keep Z.out (Nat.ne_of_gt hb0) OW.out.2); clear B1)
          | (go_at_call 87; refine (skipA T W _ b v l t 1 A1.out (by decide) (by decide)).mono ?_; rintro e w2 ⟨rfl, A2, M2⟩; rw [HV.out] at A2; replace A1 := hide A2; replace OW := hide (OW.out.mod hbw M2); clear A2 M2 f0 f1 f2 f3 f4 f5 c0 c1 c2 c3 c4 c5)
          | (go_at_call 120; refine (written_any xs _ _ (OW.out.nums (by omega)) (by omega)).mono ?_; rintro e w3 ⟨z, rfl, hz, B1⟩; replace hz := hide hz; replace A1 := hide (A1.out.below B1); replace OW := hide (OW.out.mod hbw (Mod.of b B1)); obtain ⟨f0, f1, f2, f3, f4, f5, c0, c1, c2, c3, c4, c5⟩ := tok0_free (keep Z.out (Nat.ne_of_gt hb0) OW.out.2); clear B1))
          have MM := Mod.trans M.out OW.out.2
          refine bodyPost_ret (v := tkV 5 z 0 0 false false) (by simp [results, Tryz.results91, go_sem, tkV, c0, c1, c2, c3, c4, c5]) rfl ?_
          exact ⟨.tkt (congrArg Prod.fst E.out) hz.out, by rw [E.out]; repeat (first | (with_reducible exact A1.out) | (with_reducible refine At.put ?_ hb0 _ _)), by repeat (first | (with_reducible exact MM) | (with_reducible refine Mod.put ?_ (Nat.le_refl _) _ _))⟩
      · by_cases d2 : x = 10
        · have E := hide (R.out.trans (str_bad (by rw [hx0]; exact d1) (hx0.trans d2)))
          subst d2
          clear hr hx0
          go_wp2_with (first
          | (go_at_call 59; refine (nextA T W _ b v l t A1.out).mono ?_; rintro e w1 ⟨he, B1⟩; rw [H0.out] at he; subst he; replace A1 := hide (A1.out.below B1); replace OW := hide (OW.out.mod hbw (Mod.of b B1)); obtain ⟨f0, f1, f2, f3, f4, f5, c0, c1, c2, c3, c4, c5⟩ := tok0_free (keep Z.out (Nat.ne_of_gt hb0) OW.out.2); clear B1))
          have MM := Mod.trans M.out OW.out.2
          refine bodyPost_ret (v := tkV 6 ⟨#[]⟩ 0 0 false false) (by simp [results, Tryz.results91, go_sem, tkV, c0, c1, c2, c3, c4, c5]) rfl ?_
          exact ⟨.tk (congrArg Prod.fst E.out), by rw [E.out]; repeat (first | (with_reducible exact A1.out) | (with_reducible refine At.put ?_ hb0 _ _)), by repeat (first | (with_reducible exact MM) | (with_reducible refine Mod.put ?_ (Nat.le_refl _) _ _))⟩
        · have hp : 0 < t.length := nx_pos (by rw [hx0]; exact fun e => d1 (.inl e))
          have e1 : (x == -1) = false := by simp; exact fun e => d1 (.inl e)
          have e2 : (x == 39) = false := by simp; exact fun e => d1 (.inr e)
          have e3 : (x == 10) = false := by simpa using d2
          by_cases d3 : x = 92
          · have E := hide (R.out.trans (str_esc (by rw [hx0]; exact d1) (hx0.trans d3)))
            have L2 := esX_two t hp
            subst d3
            clear hr hx0
            go_wp2_with (first
          | (go_at_call 59; refine (nextA T W _ b v l t A1.out).mono ?_; rintro e w1 ⟨he, B1⟩; rw [H0.out] at he; subst he; replace A1 := hide (A1.out.below B1); replace OW := hide (OW.out.mod hbw (Mod.of b B1)); obtain ⟨f0, f1, f2, f3, f4, f5, c0, c1, c2, c3, c4, c5⟩ := tok0_free (keep Z.out (Nat.ne_of_gt hb0) OW.out.2); clear B1)
          | (go_at_call 121; refine (appEsc_any T W w0 _ b v _ l t xs hbw (by omega) A1.out OW.out).mono ?_; rintro e w2 ⟨nv', rfl, A2, O2⟩; replace A1 := hide A2; replace OW := hide O2; clear A2 O2 f0 f1 f2 f3 f4 f5 c0 c1 c2 c3 c4 c5))
            go_roundg (gk - 1)
            case measure => omega
            case rel => exact .mk _ _ A1.out (by omega) (by rw [List.length_append]; omega) OW.out E.out
          · have e4 : (x == 92) = false := by simpa using d3
            have E := R.out.trans (str_go (by rw [hx0]; exact d1) (by rw [hx0]; exact d2) (by rw [hx0]; exact d3))
            rw [hx0, hr] at E
            replace E := hide E
            have LU : r.length = t.length - 1 := by rw [← hr, List.length_drop]
            clear hr hx0
            go_wp2_with (first
          | (go_at_call 59; refine (nextA T W _ b v l t A1.out).mono ?_; rintro e w1 ⟨he, B1⟩; rw [H0.out] at he; subst he; replace A1 := hide (A1.out.below B1); replace OW := hide (OW.out.mod hbw (Mod.of b B1)); obtain ⟨f0, f1, f2, f3, f4, f5, c0, c1, c2, c3, c4, c5⟩ := tok0_free (keep Z.out (Nat.ne_of_gt hb0) OW.out.2); clear B1)
          | (go_at_call 119; refine (takeA T W _ b _ l t A1.out).mono ?_; rintro e w2 ⟨he, A2, M2⟩; rw [H0.out] at he; rw [HV1.out] at A2; subst he; replace A1 := hide A2; replace OW := hide (OW.out.mod hbw M2); clear A2 M2 f0 f1 f2 f3 f4 f5 c0 c1 c2 c3 c4 c5)
          | (at_builtin; refine wpList_append_own _ rfl _ _ 43 rfl w0.heap.size 21 i0 (.int .i32 0) 1 4 Tryz.underlying43 hi hz0 hz1 hz2 rfl (by decide) _ _ _ rfl (OW.out.1.alloc _) ⟨_, 0, none⟩ 1 1 [.int .i32 x] rfl rfl (news1 _ _ _) (by intro u hu; simp at hu; subst hu; rfl) (by unfold maxLen; omega) (by omega) (by have := OW.out.2.size; simp; omega) ?_; intro v' w1 hown' hgrow _; replace A1 := hide (A1.out.grow hbw OW.out hgrow); replace OW := hide (OW.out.grow (ys := [x]) hown' hgrow); clear hown' hgrow))
            go_roundg (gk - 1)
            case measure => omega
            case rel => exact .mk (xs ++ [x]) r A1.out (by omega) (by rw [List.length_append, List.length_singleton]; omega) OW.out E.out
end Go.Proofs.YtcclhdiphcfdfaaGreatDoor
set_option linter.unusedVariables false
set_option linter.unusedSimpArgs false
namespace Go.Proofs.YtcclhdiphcfdfaaGreatDoor
open Go.RowKit

def enB (c : Int) : Bool := (c == 41) || (c == -1)
theorem endsUrl_any (c : Int) (w : World) : Calls Tryz.prog 168 #[.int .i32 c] w fun e w' => e = .returned (.bool (enB c)) ∧ w' = w := by
  by_cases h : c = 41
  · subst h
    go_enter Tryz.func168, Tryz.ntmps168
    go_wp2
    go_ret
    exact ⟨rfl, rfl⟩
  · have h' : (c == 41) = false := by simpa using h
    have E := hide (show enB c = (c == -1) by unfold enB; rw [h']; rfl)
    go_enter Tryz.func168, Tryz.ntmps168
    go_wp2
    go_ret
    exact ⟨ret_bool E.out.symm, rfl⟩
theorem barred_any (c : Int) (w : World) : Calls Tryz.prog 170 #[.int .i32 c] w fun e w' => e = .returned (.bool (isBar c)) ∧ w' = w := by
  cases hq : isQ c
  · have HQ := hide hq
    by_cases h : c = 40
    · have E := hide (show isBar c = true by unfold isBar; rw [h]; rfl)
      have h' : (c == 40) = true := by simpa using h
      clear hq h
      go_enter Tryz.func170, Tryz.ntmps170
      go_wp2_with (go_at_call 90; refine (isQP_any _ _).mono ?_; rintro e w2 ⟨rfl, rfl⟩; rw [HQ.out])
      go_ret
      exact ⟨ret_bool E.out.symm, rfl⟩
    · have h' : (c == 40) = false := by simpa using h
      by_cases g : c = 92
      · have E := hide (show isBar c = true by unfold isBar; rw [g]; rfl)
        have g' : (c == 92) = true := by simpa using g
        clear hq h g
        go_enter Tryz.func170, Tryz.ntmps170
        go_wp2_with (go_at_call 90; refine (isQP_any _ _).mono ?_; rintro e w2 ⟨rfl, rfl⟩; rw [HQ.out])
        go_ret
        exact ⟨ret_bool E.out.symm, rfl⟩
      · have g' : (c == 92) = false := by simpa using g
        have E := hide (show isBar c = isUn c by unfold isBar; rw [hq, h', g']; rfl)
        clear hq h g
        go_enter Tryz.func170, Tryz.ntmps170
        go_wp2_with (first
          | (go_at_call 90; refine (isQP_any _ _).mono ?_; rintro e w2 ⟨rfl, rfl⟩; rw [HQ.out])
          | (go_at_call 196; refine (isUnP_any _ _).mono ?_; rintro e w2 ⟨rfl, rfl⟩))
        go_ret
        exact ⟨ret_bool E.out.symm, rfl⟩
  · have HQ := hide hq
    have E := hide (show isBar c = true by unfold isBar; rw [hq]; rfl)
    clear hq
    go_enter Tryz.func170, Tryz.ntmps170
    go_wp2_with (go_at_call 90; refine (isQP_any _ _).mono ?_; rintro e w2 ⟨rfl, rfl⟩; rw [HQ.out])
    go_ret
    exact ⟨ret_bool E.out.symm, rfl⟩
theorem enB_or {c : Int} (h : enB c = true) : c = -1 ∨ c = 41 := by unfold enB at h; simp at h; omega
theorem enB_no {c : Int} (h : enB c = false) : ¬ (c = -1 ∨ c = 41) := by unfold enB at h; simp at h; omega
theorem bad_end {s : List Int} (h : nx s 0 = -1 ∨ nx s 0 = 41) : bad s = s.drop 1 := by rw [bad, dif_pos h]
theorem bad_esc {s : List Int} (h : ¬ (nx s 0 = -1 ∨ nx s 0 = 41)) (g : es2 (nx s 0) (nx s 1) = true) : bad s = bad (tesc (s.drop 1)).2 := by rw [bad, dif_neg h, if_pos g]
theorem bad_go {s : List Int} (h : ¬ (nx s 0 = -1 ∨ nx s 0 = 41)) (g : es2 (nx s 0) (nx s 1) = false) : bad s = bad (s.drop 1) := by rw [bad, dif_neg h, if_neg (by simp [g])]
set_option maxRecDepth 100000 in
set_option maxHeartbeats 1000000 in
theorem badUrl_any (T : TypeId) (W w : World) (b : Nat) (v : Value) (l s : List Int) (h : At T W w b v l s) :
    Calls Tryz.prog 169 #[.pointer (some ⟨b, 0, none⟩)] w fun e w' => Tells e (tk 8) ∧ At T W w' b v l (bad s) ∧ w.grownBy w' (some b) := by
  have hb0 := h.lt
  have A1 := hide (h.below (bplus (Below.refl _ _) tok0))
  have M := hide (Mod.of b (bplus (Below.refl w.heap.size w) tok0))
  have Z := hide (tok0_alloc w)
  clear h
  obtain ⟨w0, hw0⟩ : ∃ w0, w.alloc tok0 = w0 := ⟨_, rfl⟩
  rw [hw0] at A1 M Z
  have hw0' : w.alloc (.cells #[.int .i64 0, .string ⟨#[]⟩, .int .i64 0, .int .i64 0, .bool false, .bool false] 25) = w0 := hw0
  clear hw0
  go_enter Tryz.func169, Tryz.ntmps169
  go_wp2
  try rw [hw0']
  clear hw0'
  go_loopg [] s.length (fun g wr => RelSk bad T W w0 b v l s g wr)
  case atStart => exact .mk s A1.out (Nat.le_refl _) rfl (Mod.refl _ _)
  case round =>
    clear A1
    obtain ⟨t, A1, hg, R, M1⟩ := hrel
    replace A1 := hide A1
    replace M1 := hide M1
    have H0 := hide (show nx t (Int.toNat 0) = nx t 0 from rfl)
    obtain ⟨r, hr⟩ : ∃ r, t.drop 1 = r := ⟨_, rfl⟩
    have HV := hide (show t.drop (Int.toNat 1) = r from hr)
    have HV1 := hide hr
    cases hen : enB (nx t 0)
    · have hp : 0 < t.length := nx_pos fun e => enB_no hen (.inl e)
      have LU : r.length = t.length - 1 := by rw [← hr, List.length_drop]
      cases he : es2 (nx t 0) (nx t 1)
      · have E := R.out.trans (bad_go (enB_no hen) he)
        rw [hr] at E
        replace E := hide E
        have HN := hide hen
        have HE := hide he
        clear hen he hr
        go_wp2_with (first
          | (go_at_call 86; refine (aheadA T W _ b _ l t A1.out).mono ?_; rintro e w1 ⟨y, rfl, HL, B1⟩; have HK := hide HL; obtain ⟨g, lb, rfl, eg, hg'⟩ := HL; replace hg' := hide hg'; have BL := hide (Below.refl w1.heap.size w1); replace A1 := hide (A1.out.below B1); replace M1 := hide (Mod.trans M1.out (Mod.of b B1)); clear B1)
          | (go_at_fn g; refine (hg'.out _ _ (by decide) (by decide) BL.out).mono ?_; rintro e w1 ⟨he, B1⟩; rw [H0.out] at he; subst he; replace BL := hide (bto BL.out B1); replace A1 := hide (A1.out.below B1); replace M1 := hide (Mod.trans M1.out (Mod.of b B1)); clear B1)
          | (go_at_call 168; refine (endsUrl_any _ _).mono ?_; rintro e w2 ⟨rfl, rfl⟩; rw [HN.out])
          | (go_at_call 130; refine (isEscape_any _ t _ ((HK.out.below BL.out).le (by decide))).mono ?_; rintro e w1 ⟨he, B1⟩; rw [HE.out] at he; subst he; replace A1 := hide (A1.out.below B1); replace M1 := hide (Mod.trans M1.out (Mod.of b B1)); clear B1)
          | (go_at_call 87; refine (skipA T W _ b v l t 1 A1.out (by decide) (by decide)).mono ?_; rintro e w2 ⟨rfl, A2, M2⟩; rw [HV.out] at A2; replace A1 := hide A2; replace M1 := hide (Mod.trans M1.out M2); clear A2 M2))
        go_roundg (gk - 1)
        case measure => omega
        case rel => exact .mk r A1.out (by omega) E.out M1.out
      · have E := R.out.trans (bad_esc (enB_no hen) he)
        rw [hr] at E
        have LT := tesc_len r
        obtain ⟨⟨x, z⟩, hxr⟩ : ∃ z, tesc r = z := ⟨_, rfl⟩
        rw [hxr] at E LT
        have XR := hide hxr
        replace E := hide E
        have HN := hide hen
        have HE := hide he
        have LZ : z.length ≤ r.length := LT
        clear hen he hr hxr LT
        go_wp2_with (first
          | (go_at_call 86; refine (aheadA T W _ b _ l t A1.out).mono ?_; rintro e w1 ⟨y, rfl, HL, B1⟩; have HK := hide HL; obtain ⟨g, lb, rfl, eg, hg'⟩ := HL; replace hg' := hide hg'; have BL := hide (Below.refl w1.heap.size w1); replace A1 := hide (A1.out.below B1); replace M1 := hide (Mod.trans M1.out (Mod.of b B1)); clear B1)
          | (go_at_fn g; refine (hg'.out _ _ (by decide) (by decide) BL.out).mono ?_; rintro e w1 ⟨he, B1⟩; rw [H0.out] at he; subst he; replace BL := hide (bto BL.out B1); replace A1 := hide (A1.out.below B1); replace M1 := hide (Mod.trans M1.out (Mod.of b B1)); clear B1)
          | (go_at_call 168; refine (endsUrl_any _ _).mono ?_; rintro e w2 ⟨rfl, rfl⟩; rw [HN.out])
          | (go_at_call 130; refine (isEscape_any _ t _ ((HK.out.below BL.out).le (by decide))).mono ?_; rintro e w1 ⟨he, B1⟩; rw [HE.out] at he; subst he; replace A1 := hide (A1.out.below B1); replace M1 := hide (Mod.trans M1.out (Mod.of b B1)); clear B1)
          | (go_at_call 162; refine (takeEscape_any T W _ b _ l t r HV1.out A1.out).mono ?_; rintro e w2 ⟨he, A2, M2⟩; rw [XR.out] at he A2; subst he; replace A1 := hide A2; replace M1 := hide (Mod.trans M1.out M2); clear A2 M2))
        go_roundg (gk - 1)
        case measure => omega
        case rel => exact .mk z A1.out (by omega) E.out M1.out
    · have E := R.out.trans (bad_end (enB_or hen))
      rw [hr] at E
      replace E := hide E
      have HN := hide hen
      clear hen hr
      go_wp2_with (first
          | (go_at_call 86; refine (aheadA T W _ b _ l t A1.out).mono ?_; rintro e w1 ⟨y, rfl, HL, B1⟩; have HK := hide HL; obtain ⟨g, lb, rfl, eg, hg'⟩ := HL; replace hg' := hide hg'; have BL := hide (Below.refl w1.heap.size w1); replace A1 := hide (A1.out.below B1); replace M1 := hide (Mod.trans M1.out (Mod.of b B1)); clear B1)
          | (go_at_fn g; refine (hg'.out _ _ (by decide) (by decide) BL.out).mono ?_; rintro e w1 ⟨he, B1⟩; rw [H0.out] at he; subst he; replace BL := hide (bto BL.out B1); replace A1 := hide (A1.out.below B1); replace M1 := hide (Mod.trans M1.out (Mod.of b B1)); clear B1)
          | (go_at_call 168; refine (endsUrl_any _ _).mono ?_; rintro e w2 ⟨rfl, rfl⟩; rw [HN.out])
          | (go_at_call 87; refine (skipA T W _ b v l t 1 A1.out (by decide) (by decide)).mono ?_; rintro e w2 ⟨rfl, A2, M2⟩; rw [HV.out] at A2; replace A1 := hide A2; replace M1 := hide (Mod.trans M1.out M2); obtain ⟨f0, f1, f2, f3, f4, f5, c0, c1, c2, c3, c4, c5⟩ := tok0_free (keep Z.out (Nat.ne_of_gt hb0) M1.out); clear A2 M2))
      have MM := Mod.trans M.out M1.out
      refine bodyPost_ret (v := tkV 8 ⟨#[]⟩ 0 0 false false) (by simp [results, Tryz.results169, go_sem, tkV, c0, c1, c2, c3, c4, c5]) rfl ?_
      exact ⟨.tk rfl, by rw [E.out]; repeat (first | (with_reducible exact A1.out) | (with_reducible refine At.put ?_ hb0 _ _)), by repeat (first | (with_reducible exact MM) | (with_reducible refine Mod.put ?_ (Nat.le_refl _) _ _))⟩
end Go.Proofs.YtcclhdiphcfdfaaGreatDoor
