/-
  A compound: a tag alone, a class alone: by the program.
  A selector of two compounds, read: by the program.
  A list of one selector, read: by the program.
  The maps that a reader is made with.
-/
import Derived.Test.YtmkbjcoagfnegaaGreatDoorZ28
import Derived.Deep.AppendLies
import Derived.Maps.Own
import Derived.StringKeys
set_option linter.unusedVariables false
set_option linter.unusedSimpArgs false
namespace Go.Proofs.YtmkbjcoagfnegaaGreatDoor
open Go.RowKit

theorem kt_mod {W w0 : World} {g : Nat} {l : List VT} (hK : KT W) (hT : Tabs W) (h : Cu W w0 g l) : ∀ w', w0.grownBy w' (some g) → KT w' ∧ Tabs w' := fun w' m => by
  obtain ⟨v, _, _, h3, h4⟩ := h
  have B := Mod.below m h3 h4
  exact ⟨hK.below B, hT.below B⟩
theorem infoS9 : (Tryz.prog.info? 69).map (fun i => (i.zero, i.size, i.bytes)) = some (some (.agg #[.int .i64 0, .string ⟨#[]⟩, .int .i64 0, .string ⟨#[]⟩, .bool false, .slice none 0 0, .int .i64 0, .int .i64 0]), 8, 96) := by kernel_rfl
theorem new8 (w : World) (g : Nat) (u0 u1 u2 u3 u4 u5 u6 u7 : Value) (t : TypeId) (hg : g = w.heap.size) : ∀ j x, [u0, u1, u2, u3, u4, u5, u6, u7][j]? = some x → (w.alloc (.cells #[u0, u1, u2, u3, u4, u5, u6, u7] t)).cell? ((⟨g, 0, none⟩ : Addr).add j) = some x := fun j x hx => by
  subst hg
  match j, hx with
  | 0, hx => simp at hx; subst hx; simp [Addr.add]
  | 1, hx => simp at hx; subst hx; simp [Addr.add]
  | 2, hx => simp at hx; subst hx; simp [Addr.add]
  | 3, hx => simp at hx; subst hx; simp [Addr.add]
  | 4, hx => simp at hx; subst hx; simp [Addr.add]
  | 5, hx => simp at hx; subst hx; simp [Addr.add]
  | 6, hx => simp at hx; subst hx; simp [Addr.add]
  | 7, hx => simp at hx; subst hx; simp [Addr.add]
theorem bxk_2' {w : World} {b : Nat} {u0 u1 : Value} {T : TypeId} (h : w.heap[b]? = some (.cells #[u0, u1] T)) : w.cell? ⟨b, 0, none⟩ = some u0 ∧ w.cell? ⟨b, 1, none⟩ = some u1 :=
  ⟨by rw [row_blk h]; rfl, by rw [row_blk h]; rfl⟩
theorem gr_none {w w' : World} (h : w.grownBy w' none) : Below w.heap.size w w' := ⟨h.os, h.tape, h.output, h.size, fun k hk => h.block k hk (by simp)⟩
set_option maxRecDepth 100000 in
set_option maxHeartbeats 8000000 in
theorem compound9_tag (W w0 : World) (g : Nat) (s : ByteArray) (n1 d1 : Int) (i1 e1 : Bool) (k1 : List VT) (s2 : ByteArray) (n2 d2 : Int) (i2 e2 : Bool) (k2 r : List VT) (ma mb : Value) (hm1 : ma.oneCell' = true) (hm2 : mb.oneCell' = true)
    (h : Cu W w0 g (.mk ⟨1, s, n1, d1, i1, e1⟩ k1 :: .mk ⟨13, s2, n2, d2, i2, e2⟩ k2 :: r)) (hs : s.size ≤ 1048576) (hn : nmS9 s = true) (hK : KT W) (hT : Tabs W) :
    Calls Tryz.prog 64 #[.agg #[ma, mb], .pointer (some ⟨g, 0, none⟩)] w0 fun e w' => ∃ b cp, e = .returned (.tuple #[.slice (some ⟨b, 0, none⟩) 1 cp, .bool true]) ∧ Cu W w' g (.mk ⟨13, s2, n2, d2, i2, e2⟩ k2 :: r) ∧ w0.grownBy w' (some g) := by
  obtain ⟨i0, hi, hz0, hz1, hz2⟩ := info_parts infoS9
  have hg := h.lt
  have q1 := fun (u0 u1 u2 u3 u4 u5 u6 : Value) (w : World) => fldV u0 u1 u2 u3 u4 u5 u6 w
  have q2 := fun (u0 u1 u2 u3 u4 u5 : Value) (w : World) => fldT u0 u1 u2 u3 u4 u5 w
  have KM := hide (kt_mod hK hT h)
  have Ba := bplus (Below.refl w0.heap.size w0) (.cells #[ma, mb] 55)
  have HC := hide (h.low Ba)
  have HM := hide (Mod.of g Ba)
  have C1 := hide (fun (w1 : World) (h : Cu W w1 g (.mk ⟨1, s, n1, d1, i1, e1⟩ k1 :: .mk ⟨13, s2, n2, d2, i2, e2⟩ k2 :: r)) => next9_cons W w1 g _ k1 _ h)
  have C2 := hide (fun (w1 : World) (h : Cu W w1 g (.mk ⟨1, s, n1, d1, i1, e1⟩ k1 :: .mk ⟨13, s2, n2, d2, i2, e2⟩ k2 :: r)) => take9_cons W w1 g _ k1 _ h)
  have C3 := hide (fun (w1 : World) (h : w0.grownBy w1 (some g)) => named9_any 2 1 s n1 d1 i1 e1 w1 (by omega) (KM.out w1 h).1 (KM.out w1 h).2)
  have C4 := hide (fun (w1 : World) (h : Cu W w1 g (.mk ⟨13, s2, n2, d2, i2, e2⟩ k2 :: r)) => next9_cons W w1 g _ k2 _ h)
  rw [hn] at C3
  simp only at C1 C2 C4
  clear hK hT hn h Ba
  go_enter Tryz.func64, Tryz.ntmps64
  go_wp2_with (first
    | (go_at_call 63; refine (C1.out _ HC.out).mono ?_; rintro e w1 ⟨ka, kn, kc, rfl, -, B1⟩; replace HC := hide (HC.out.low B1); replace HM := hide (Mod.trans HM.out (Mod.of g B1)); clear B1 C1)
    | (go_at_call 48; refine (C2.out _ HC.out).mono ?_; rintro e w2 ⟨kb, kl, kd, rfl, -, D2, M2⟩; replace HC := hide D2; replace HM := hide (Mod.trans HM.out M2); clear D2 M2 C2)
    | (go_at_call 94; refine (C3.out _ HM.out).mono ?_; rintro e w3 ⟨rfl, B3⟩; replace HC := hide (HC.out.low B3); replace HM := hide (Mod.trans HM.out (Mod.of g B3)); clear B3 C3)
    | (at_builtin; refine wpList_append_lies _ rfl _ _ 65 rfl 0 69 i0 _ 8 96 Tryz.underlying65 hi hz0 hz1 hz2 rfl (by decide) (.slice none 0 0) 0 [] rfl (World.ownsRow_nil _ _ _ _) ⟨_, 0, none⟩ 1 1 [.int .i64 2, .string s, .int .i64 0, .string ⟨#[]⟩, .bool false, .slice none 0 0, .int .i64 0, .int .i64 0] rfl rfl (new8 _ _ _ _ _ _ _ _ _ _ _ (by simp)) (by intro u hu; simp at hu; rcases hu with rfl | rfl | rfl | rfl | rfl | rfl | rfl | rfl <;> rfl) (by decide) (by decide) (by decide) (Nat.zero_le _) _ rfl ?_; intro gb cp w5 _ hg5 _ _; have B5 := bto (bplus (bplus (Below.refl w3.heap.size w3) _) _) (gr_none hg5); replace HC := hide (HC.out.low B5); replace HM := hide (Mod.trans HM.out (Mod.of g B5)); clear B5 hg5))
  refine wp_loop_rounds 1 ?_
  rw [rounds_succ]
  go_wp2_with (first
    | (go_at_call 63; refine (C4.out _ HC.out).mono ?_; rintro e w6 ⟨kx, ky, kz, rfl, -, B6⟩; replace HC := hide (HC.out.low B6); replace HM := hide (Mod.trans HM.out (Mod.of g B6)); clear B6)
    | (go_at_call 96; refine (begins9_no _ _ _ _ _ _ _ (.inr rfl)).mono ?_; rintro e w7 ⟨rfl, B7⟩; replace HC := hide (HC.out.low B7); replace HM := hide (Mod.trans HM.out (Mod.of g B7)); clear B7))
  go_ret2
  exact ⟨gb, cp, rfl, HC.out, HM.out⟩
set_option maxRecDepth 100000 in
set_option maxHeartbeats 8000000 in
theorem compound9_class (W w0 : World) (g : Nat) (n1 d1 : Int) (i1 e1 : Bool) (k1 : List VT) (s : ByteArray) (n2 d2 : Int) (i2 e2 : Bool) (k2 : List VT) (ma mb : Value) (hm1 : ma.oneCell' = true) (hm2 : mb.oneCell' = true)
    (h : Cu W w0 g [.mk ⟨9, ⟨#[46]⟩, n1, d1, i1, e1⟩ k1, .mk ⟨1, s, n2, d2, i2, e2⟩ k2]) (hs : s.size ≤ 1048576) (hn : nmS9 s = true) (hK : KT W) (hT : Tabs W) :
    Calls Tryz.prog 64 #[.agg #[ma, mb], .pointer (some ⟨g, 0, none⟩)] w0 fun e w' => ∃ b cp, e = .returned (.tuple #[.slice (some ⟨b, 0, none⟩) 1 cp, .bool true]) ∧ Cu W w' g [] ∧ w0.grownBy w' (some g) := by
  obtain ⟨i0, hi, hz0, hz1, hz2⟩ := info_parts infoS9
  have hg := h.lt
  have q1 := fun (u0 u1 u2 u3 u4 u5 u6 : Value) (w : World) => fldV u0 u1 u2 u3 u4 u5 u6 w
  have q2 := fun (u0 u1 u2 u3 u4 u5 : Value) (w : World) => fldT u0 u1 u2 u3 u4 u5 w
  have Ba := bplus (Below.refl w0.heap.size w0) (.cells #[ma, mb] 55)
  have PR := hide (heap_alloc_new w0 (.cells #[ma, mb] 55))
  have HC := hide (h.low Ba)
  have HM := hide (Mod.of g Ba)
  have nRg : w0.heap.size ≠ g := by omega
  have C1 := hide (fun (w1 : World) (h : Cu W w1 g [.mk ⟨9, ⟨#[46]⟩, n1, d1, i1, e1⟩ k1, .mk ⟨1, s, n2, d2, i2, e2⟩ k2]) => next9_cons W w1 g _ k1 _ h)
  have C2 := hide (fun (w1 : World) (h : Cu W w1 g [.mk ⟨9, ⟨#[46]⟩, n1, d1, i1, e1⟩ k1, .mk ⟨1, s, n2, d2, i2, e2⟩ k2]) => delim9_star W w1 g n1 d1 i1 e1 k1 _ h)
  have C3 := hide (fun (w1 : World) (h : Cu W w1 g [.mk ⟨9, ⟨#[46]⟩, n1, d1, i1, e1⟩ k1, .mk ⟨1, s, n2, d2, i2, e2⟩ k2]) => simple9_class W w1 g n1 d1 i1 e1 k1 s n2 d2 i2 e2 k2 [] ma mb hm1 hm2 h hs hn (kt_mod hK hT h w1 (Mod.refl _ _)).1 (kt_mod hK hT h w1 (Mod.refl _ _)).2 (kt_mod hK hT h))
  have C4 := hide (fun (w1 : World) (h : Cu W w1 g []) => next9_nil W w1 g h)
  simp only at C1
  clear hK hT hn h Ba
  go_enter Tryz.func64, Tryz.ntmps64
  go_wp2_with (first
    | (go_at_call 63; refine (C1.out _ HC.out).mono ?_; rintro e w1 ⟨ka, kn, kc, rfl, -, B1⟩; replace HC := hide (HC.out.low B1); replace HM := hide (Mod.trans HM.out (Mod.of g B1)); replace PR := hide ((B1.block _ (Array.getElem?_eq_some_iff.1 PR.out).1).trans PR.out); clear B1)
    | (go_at_call 95; refine (C2.out _ HC.out).mono ?_; rintro e w2 ⟨rfl, B1⟩; replace HC := hide (HC.out.low B1); replace HM := hide (Mod.trans HM.out (Mod.of g B1)); replace PR := hide ((B1.block _ (Array.getElem?_eq_some_iff.1 PR.out).1).trans PR.out); clear B1 C2))
  refine wp_loop_rounds 2 ?_
  rw [rounds_succ]
  go_wp2_with (first
    | (go_at_call 63; refine (C1.out _ HC.out).mono ?_; rintro e w3 ⟨kx, ky, kz, rfl, -, B6⟩; replace HC := hide (HC.out.low B6); replace HM := hide (Mod.trans HM.out (Mod.of g B6)); replace PR := hide ((B6.block _ (Array.getElem?_eq_some_iff.1 PR.out).1).trans PR.out); clear B6 C1)
    | (go_at_call 96; refine (begins9_dot _ _ _ _ _).mono ?_; rintro e w4 ⟨rfl, B7⟩; replace HC := hide (HC.out.low B7); replace HM := hide (Mod.trans HM.out (Mod.of g B7)); replace PR := hide ((B7.block _ (Array.getElem?_eq_some_iff.1 PR.out).1).trans PR.out); obtain ⟨r0, r1⟩ := bxk_2' PR.out; clear B7)
    | (go_at_call 97; refine (C3.out _ HC.out).mono ?_; rintro e w5 ⟨rfl, D5, M5⟩; replace HC := hide D5; replace HM := hide (Mod.trans HM.out M5); replace PR := hide (keepM PR.out nRg M5); clear D5 M5 C3 r0 r1)
    | (at_builtin; refine wpList_append_lies _ rfl _ _ 65 rfl 0 69 i0 _ 8 96 Tryz.underlying65 hi hz0 hz1 hz2 rfl (by decide) (.slice none 0 0) 0 [] rfl (World.ownsRow_nil _ _ _ _) ⟨_, 0, none⟩ 1 1 [.int .i64 3, .string s, .int .i64 0, .string ⟨#[]⟩, .bool false, .slice none 0 0, .int .i64 0, .int .i64 0] rfl rfl (new8 _ _ _ _ _ _ _ _ _ _ _ (by simp)) (by intro u hu; simp at hu; rcases hu with rfl | rfl | rfl | rfl | rfl | rfl | rfl | rfl <;> rfl) (by decide) (by decide) (by decide) (Nat.zero_le _) _ rfl ?_; intro gb cp w6 _ hg5 _ _; have B5 := bto (bplus (bplus (Below.refl w5.heap.size w5) _) _) (gr_none hg5); replace HC := hide (HC.out.low B5); replace HM := hide (Mod.trans HM.out (Mod.of g B5)); clear B5 hg5))
  rw [rounds_succ]
  go_wp2_with (first
    | (go_at_call 63; refine (C4.out _ HC.out).mono ?_; rintro e w7 ⟨rfl, B6⟩; replace HC := hide (HC.out.low B6); replace HM := hide (Mod.trans HM.out (Mod.of g B6)); clear B6)
    | (go_at_call 96; refine (begins9_no _ _ _ _ _ _ _ (.inl rfl)).mono ?_; rintro e w8 ⟨rfl, B7⟩; replace HC := hide (HC.out.low B7); replace HM := hide (Mod.trans HM.out (Mod.of g B7)); clear B7))
  go_ret2
  exact ⟨gb, cp, rfl, HC.out, HM.out⟩
end Go.Proofs.YtmkbjcoagfnegaaGreatDoor
set_option linter.unusedVariables false
set_option linter.unusedSimpArgs false
namespace Go.Proofs.YtmkbjcoagfnegaaGreatDoor
open Go.RowKit

theorem nm_a : nmS9 ⟨#[97]⟩ = true := by
  unfold nmS9 chB
  rw [show bl ⟨#[97]⟩ = [97] from rfl, whole_cut (by simp), show stp [97] = (97, 1, true) by rfl]
  simp [whole_nil]
theorem nm_b : nmS9 ⟨#[98]⟩ = true := by
  unfold nmS9 chB
  rw [show bl ⟨#[98]⟩ = [98] from rfl, whole_cut (by simp), show stp [98] = (98, 1, true) by rfl]
  simp [whole_nil]
def tA : VT := .mk ⟨1, ⟨#[97]⟩, 0, 0, false, false⟩ []
def tS : VT := .mk ⟨13, ⟨#[]⟩, 0, 0, false, false⟩ []
def tG : VT := .mk ⟨9, ⟨#[62]⟩, 0, 0, false, false⟩ []
def tP : VT := .mk ⟨9, ⟨#[46]⟩, 0, 0, false, false⟩ []
def tB : VT := .mk ⟨1, ⟨#[98]⟩, 0, 0, false, false⟩ []
set_option maxRecDepth 100000 in
set_option maxHeartbeats 4000000 in
theorem combinator9_child (W w0 : World) (g : Nat) (h : Cu W w0 g [tG, tS, tP, tB]) : Calls Tryz.prog 65 #[.pointer (some ⟨g, 0, none⟩), .bool true] w0 fun e w' => e = .returned (.int .i64 2) ∧ Cu W w' g [tP, tB] ∧ w0.grownBy w' (some g) := by
  have C1 := hide (delim9_yes W w0 g ⟨#[62]⟩ 0 0 false false [] [tS, tP, tB] h)
  have C2 := hide (fun (w1 : World) (h : Cu W w1 g [tS, tP, tB]) => spaces9_any W w1 g [tS, tP, tB] h)
  have E := hide (show spL [tS, tP, tB] = [tP, tB] by unfold tS tP; rw [spL_yes rfl, spL_no (by decide)])
  clear h
  go_enter Tryz.func65, Tryz.ntmps65
  go_wp2_with (first
    | (go_at_call 95; refine C1.out.mono ?_; rintro e w1 ⟨rfl, D1, M1⟩; replace D1 := hide D1; replace M1 := hide M1; clear C1)
    | (go_at_call 45; refine (C2.out _ D1.out).mono ?_; rintro e w2 ⟨rfl, D2, M2⟩; rw [E.out] at D2; replace D1 := hide D2; replace M1 := hide (Mod.trans M1.out M2); clear D2 M2))
  go_ret
  exact ⟨rfl, D1.out, M1.out⟩
theorem infoC9 : (Tryz.prog.info? 67).map (fun i => (i.zero, i.size, i.bytes)) = some (some (.agg #[.int .i64 0, .slice none 0 0]), 2, 32) := by kernel_rfl
theorem new2 (w : World) (g : Nat) (u0 u1 : Value) (t : TypeId) (hg : g = w.heap.size) : ∀ j x, [u0, u1][j]? = some x → (w.alloc (.cells #[u0, u1] t)).cell? ((⟨g, 0, none⟩ : Addr).add j) = some x := fun j x hx => by
  subst hg
  match j, hx with
  | 0, hx => simp at hx; subst hx; simp [Addr.add]
  | 1, hx => simp at hx; subst hx; simp [Addr.add]
theorem ne_blk9 {w : World} {base : Nat} {e T : TypeId} {sz b : Nat} {v : Value} {n : Nat} {xs : List Value} {cs : Array Value} {q : Nat × Nat} (h : w.ownsRow base e sz v n xs) (hb : w.heap[b]? = some (.cells cs T q)) (hT : T ≠ e) : some b ≠ v.ownBlock := by
  rcases h.2 with ⟨rfl, _⟩ | ⟨g, cap, cur, rfl, _, hg, _⟩
  · intro e; cases e
  · intro e
    have : b = g := by simpa [Value.ownBlock] using e
    subst this
    rw [hb] at hg
    cases hg
    exact hT rfl
/-- An own row of compounds stays while the cursor goes on. -/
theorem own_mod {W w w1 : World} {base g : Nat} {l : List VT} {v : Value} {n : Nat} {xs : List Value} (h : w.ownsRow base 67 2 v n xs) (hc : Cu W w g l) (m : w.grownBy w1 (some g)) : w1.ownsRow base 67 2 v n xs := by
  obtain ⟨u, h1, _⟩ := hc
  exact h.kept m (.inr (Ne.symm (ne_blk9 h h1 (by decide))))
theorem own_low {w w1 : World} {base : Nat} {v : Value} {n : Nat} {xs : List Value} (h : w.ownsRow base 67 2 v n xs) (b : Below w.heap.size w w1) : w1.ownsRow base 67 2 v n xs :=
  h.kept (Mod.of w.heap.size b) (by cases hv : v.ownBlock with | none => exact .inl rfl | some k => exact .inr (fun e => by have := (h.lt k hv).2; cases e; omega))
theorem bxk_1' {w : World} {b : Nat} {u0 : Value} {T : TypeId} (h : w.heap[b]? = some (.cells #[u0] T)) : w.cell? ⟨b, 0, none⟩ = some u0 := by rw [row_blk h]; rfl
/-- Behind an append to the row of compounds. -/
theorem app_far {W w0 w w8 : World} {g R : Nat} {l : List VT} {v : Value} {n : Nat} {xs : List Value} {o : Obj} {cs : Array Value} (h : w.ownsRow w0.heap.size 67 2 v n xs) (PR : w.heap[R]? = some (.cells cs 40)) (HC : Cu W w g l) (HM : w0.grownBy w (some g)) (hg : (w.alloc o).grownBy w8 v.ownBlock) (gw : W.heap.size ≤ w0.heap.size) :
    w8.heap[R]? = some (.cells cs 40) ∧ Cu W w8 g l ∧ w0.grownBy w8 (some g) := by
  have lR := (Array.getElem?_eq_some_iff.1 PR).1
  obtain ⟨u, c1, c2, c3, c4⟩ := HC
  have lg := (Array.getElem?_eq_some_iff.1 c1).1
  have A : ∀ k, k < w.heap.size → some k ≠ v.ownBlock → w8.heap[k]? = w.heap[k]? := fun k hk hne => (hg.block k (by simp; omega) hne).trans (Below.heap_alloc w o k hk)
  have N : ∀ k, k < w0.heap.size → some k ≠ v.ownBlock := fun k hk e => by have := (h.lt k e.symm).1; omega
  have sW : w.heap.size ≤ w8.heap.size := by have := hg.size; simp at this; omega
  refine ⟨(A R lR (ne_blk9 h PR (by decide))).trans PR, ⟨u, (A g lg (ne_blk9 h c1 (by decide))).trans c1, c2, c3, ⟨hg.os.trans c4.os, hg.tape.trans c4.tape, hg.output.trans c4.output, Nat.le_trans c4.size sW, fun k hk => ?_⟩⟩, ⟨hg.os.trans HM.os, hg.tape.trans HM.tape, hg.output.trans HM.output, Nat.le_trans HM.size sW, fun k hk hne => (A k (Nat.lt_of_lt_of_le hk HM.size) (N k hk)).trans (HM.block k hk hne)⟩⟩
  exact (A k (Nat.lt_of_lt_of_le hk c4.size) (N k (by omega))).trans (c4.block k hk)
set_option maxRecDepth 100000 in
set_option maxHeartbeats 8000000 in
theorem complex9_two (W w0 : World) (g : Nat) (ma mb : Value) (hm1 : ma.oneCell' = true) (hm2 : mb.oneCell' = true) (h : Cu W w0 g [tA, tS, tG, tS, tP, tB]) (hK : KT W) (hT : Tabs W) :
    Calls Tryz.prog 46 #[.agg #[ma, mb], .pointer (some ⟨g, 0, none⟩)] w0 fun e w' => ∃ b cp, e = .returned (.tuple #[.agg #[.slice (some ⟨b, 0, none⟩) 2 cp], .bool true]) ∧ w'.cell? ⟨b, 2, none⟩ = some (.int .i64 2) ∧ b < w'.heap.size ∧ Cu W w' g [] ∧ w0.grownBy w' (some g) := by
  obtain ⟨i0, hi, hz0, hz1, hz2⟩ := info_parts infoC9
  have hg := h.lt
  have gw : W.heap.size ≤ w0.heap.size := by obtain ⟨_, _, _, _, B⟩ := h; exact B.size
  have q1 := fun (u0 u1 u2 u3 u4 u5 u6 : Value) (w : World) => fldV u0 u1 u2 u3 u4 u5 u6 w
  have q2 := fun (u0 u1 u2 u3 u4 u5 : Value) (w : World) => fldT u0 u1 u2 u3 u4 u5 w
  obtain ⟨Wa, hWa⟩ : ∃ Wa, (w0.alloc (.cells #[ma, mb] 55)).alloc (.cells #[.slice none 0 0] 40) = Wa := ⟨_, rfl⟩
  have HWa := hide hWa
  have Ba := (show Below w0.heap.size w0 Wa by rw [← hWa]; exact bplus (bplus (Below.refl _ _) _) _)
  have sz : Wa.heap.size = w0.heap.size + 2 := by rw [← hWa]; simp
  have PQ := hide (show Wa.heap[w0.heap.size]? = some (.cells #[ma, mb] 55) by rw [← hWa]; exact (Below.heap_alloc _ _ _ (by simp)).trans (heap_alloc_new w0 _))
  have PR := hide (show Wa.heap[w0.heap.size + 1]? = some (.cells #[.slice none 0 0] 40) by rw [← hWa]; have := heap_alloc_new (w0.alloc (.cells #[ma, mb] 55)) (.cells #[.slice none 0 0] 40); simpa using this)
  clear hWa
  have HC := hide (h.low Ba)
  have HM := hide (Mod.of g Ba)
  have nQ : w0.heap.size ≠ g := by omega
  have nR : w0.heap.size + 1 ≠ g := by omega
  have C1 := hide (fun (w1 : World) (h : Cu W w1 g [tA, tS, tG, tS, tP, tB]) => compound9_tag W w1 g ⟨#[97]⟩ 0 0 false false [] ⟨#[]⟩ 0 0 false false [] [tG, tS, tP, tB] ma mb hm1 hm2 h (by decide) nm_a hK hT)
  have C2 := hide (fun (w1 : World) (h : Cu W w1 g [tS, tG, tS, tP, tB]) => spaces9_any W w1 g _ h)
  have C3 := hide (fun (w1 : World) (h : Cu W w1 g [tG, tS, tP, tB]) => done9_any W w1 g _ h)
  have C4 := hide (fun (w1 : World) (h : Cu W w1 g [tG, tS, tP, tB]) => next9_cons W w1 g _ _ _ h)
  have C5 := hide (fun (w1 : World) (h : Cu W w1 g [tG, tS, tP, tB]) => combinator9_child W w1 g h)
  have C6 := hide (fun (w1 : World) (h : Cu W w1 g [tP, tB]) => compound9_class W w1 g 0 0 false false [] ⟨#[98]⟩ 0 0 false false [] ma mb hm1 hm2 h (by decide) nm_b hK hT)
  have C7 := hide (fun (w1 : World) (h : Cu W w1 g []) => spaces9_any W w1 g _ h)
  have C8 := hide (fun (w1 : World) (h : Cu W w1 g []) => done9_any W w1 g _ h)
  have E1 := hide (show spL [tS, tG, tS, tP, tB] = [tG, tS, tP, tB] by unfold tS tG; rw [spL_yes rfl, spL_no (by decide)])
  simp only at C4
  clear h Ba hK hT
  have r0 := (bxk_2' PQ.out).1
  have r1 := (bxk_2' PQ.out).2
  go_enter Tryz.func46, Tryz.ntmps46
  go_wp2_with fail
  rw [HWa.out]
  clear HWa
  refine wp_loop_rounds 2 ?_
  rw [rounds_succ]
  go_wp2_with (first
    | (go_at_call 64; refine (C1.out _ HC.out).mono ?_; rintro e w1 ⟨b1, cp1, rfl, D1, M1⟩; replace PQ := hide (keepM PQ.out nQ M1); replace PR := hide (keepM PR.out nR M1); replace HC := hide D1; replace HM := hide (Mod.trans HM.out M1); clear D1 M1 C1 r0 r1)
    | (at_builtin; refine wpList_append_lies _ rfl _ _ 38 rfl w0.heap.size 67 i0 _ 2 32 Tryz.underlying38 hi hz0 hz1 hz2 rfl (by decide) (.slice none 0 0) 0 [] rfl (World.ownsRow_nil _ _ _ _) ⟨_, 0, none⟩ 1 1 [.int .i64 0, .slice (some ⟨b1, 0, none⟩) 1 cp1] rfl rfl (new2 _ _ _ _ _ (by simp)) (by intro u hu; simp at hu; rcases hu with rfl | rfl <;> rfl) (by decide) (by decide) (by decide) (by have := HM.out.size; simp; omega) _ rfl ?_; intro gp cpp w2 hown hg2 _ hlt2; have B2 := bto (bplus (Below.refl w1.heap.size w1) _) (gr_none hg2); replace PQ := hide ((B2.block _ (Array.getElem?_eq_some_iff.1 PQ.out).1).trans PQ.out); replace PR := hide ((B2.block _ (Array.getElem?_eq_some_iff.1 PR.out).1).trans PR.out); replace HC := hide (HC.out.low B2); replace HM := hide (Mod.trans HM.out (Mod.of g B2)); have OW := hide hown; clear B2 hg2 hown)
    | (go_at_call 45; refine (C2.out _ HC.out).mono ?_; rintro e w3 ⟨rfl, D3, M3⟩; rw [E1.out] at D3; replace PQ := hide (keepM PQ.out nQ M3); replace PR := hide (keepM PR.out nR M3); replace OW := hide (own_mod OW.out HC.out M3); replace HC := hide D3; replace HM := hide (Mod.trans HM.out M3); clear D3 M3 C2)
    | (go_at_call 47; refine (C3.out _ HC.out).mono ?_; rintro e w4 ⟨rfl, rfl⟩; clear C3)
    | (go_at_call 63; refine (C4.out _ HC.out).mono ?_; rintro e w5 ⟨ka, kn, kc, rfl, -, B5⟩; replace PQ := hide ((B5.block _ (Array.getElem?_eq_some_iff.1 PQ.out).1).trans PQ.out); replace PR := hide ((B5.block _ (Array.getElem?_eq_some_iff.1 PR.out).1).trans PR.out); replace OW := hide (own_low OW.out B5); replace HC := hide (HC.out.low B5); replace HM := hide (Mod.trans HM.out (Mod.of g B5)); clear B5 C4)
    | (go_at_call 65; refine (C5.out _ HC.out).mono ?_; rintro e w6 ⟨rfl, D6, M6⟩; replace PQ := hide (keepM PQ.out nQ M6); replace PR := hide (keepM PR.out nR M6); replace OW := hide (own_mod OW.out HC.out M6); replace HC := hide D6; replace HM := hide (Mod.trans HM.out M6); clear D6 M6 C5))
  rw [rounds_succ]
  have s0 := (bxk_2' PQ.out).1
  have s1 := (bxk_2' PQ.out).2
  go_wp2_with (first
    | (go_at_call 64; refine (C6.out _ HC.out).mono ?_; rintro e w7 ⟨b2, cp2, rfl, D1, M1⟩; replace PQ := hide (keepM PQ.out nQ M1); replace PR := hide (keepM PR.out nR M1); replace OW := hide (own_mod OW.out HC.out M1); replace HC := hide D1; replace HM := hide (Mod.trans HM.out M1); clear D1 M1 C6 s0 s1)
    | (at_builtin; refine wpList_append_lies _ rfl _ _ 38 rfl w0.heap.size 67 i0 _ 2 32 Tryz.underlying38 hi hz0 hz1 hz2 rfl (by decide) (.slice (some ⟨gp, 0, none⟩) 1 cpp) 1 [.int .i64 0, .slice (some ⟨b1, 0, none⟩) 1 cp1] rfl (OW.out.alloc _) ⟨_, 0, none⟩ 1 1 [.int .i64 2, .slice (some ⟨b2, 0, none⟩) 1 cp2] rfl rfl (new2 _ _ _ _ _ (by simp)) (by intro u hu; simp at hu; rcases hu with rfl | rfl <;> rfl) (by decide) (by decide) (by decide) (by have := HM.out.size; simp; omega) _ rfl ?_; intro gp2 cpp2 w8 hown8 hg8 _ hlt8; obtain ⟨PR8, HC8, HM8⟩ := app_far OW.out PR.out HC.out HM.out hg8 gw; replace PR := hide PR8; replace HC := hide HC8; replace HM := hide HM8; replace OW := hide hown8; clear hg8 PR8 HC8 HM8 hown8)
    | (go_at_call 45; refine (C7.out _ HC.out).mono ?_; rintro e w9 ⟨rfl, D3, M3⟩; replace PR := hide (keepM PR.out nR M3); replace OW := hide (own_mod OW.out HC.out M3); replace HC := hide D3; replace HM := hide (Mod.trans HM.out M3); clear D3 M3 C7)
    | (go_at_call 47; refine (C8.out _ HC.out).mono ?_; rintro e w10 ⟨rfl, rfl⟩; have y0 := bxk_1' PR.out; have y1 := fz_of PR.out 0; clear C8))
  have OC := OW.out.cells (g := gp2) rfl 2 (.int .i64 2) rfl
  rw [Addr.add_lit, Nat.zero_add] at OC
  have OL := (OW.out.lt gp2 rfl).2
  have NE : w0.heap.size + 1 ≠ gp2 := fun e => by
    have := ne_blk9 OW.out PR.out (by decide)
    exact this (by rw [e]; rfl)
  refine ret_cell2 (b := w0.heap.size + 1) (cs := [.slice (some ⟨gp2, 0, none⟩) 2 cpp2]) (v := .bool true) Tryz.results46 rfl rfl (fun j v hv => ?_) Tryz.underlying40 rfl (by kernel_rfl) rfl ?_
  · match j, hv with
    | 0, hv => simp at hv; subst hv; exact World.cell?_setCell_same' _ _ _ (by show (World.cell? _ _).isSome = true; rw [y0]; rfl)
  · exact ⟨gp2, cpp2, rfl, (set_far9 (Ne.symm NE)).trans OC, by simpa [World.setCell] using OL, HC.out.far nR (by omega) 0 _, mod_far HM.out (by omega) 0 _⟩
end Go.Proofs.YtmkbjcoagfnegaaGreatDoor
set_option linter.unusedVariables false
set_option linter.unusedSimpArgs false
namespace Go.Proofs.YtmkbjcoagfnegaaGreatDoor
open Go.RowKit

theorem infoX9 : (Tryz.prog.info? 40).map (fun i => (i.zero, i.size, i.bytes)) = some (some (.agg #[.slice none 0 0]), 1, 24) := by kernel_rfl
theorem new1 (w : World) (g : Nat) (u0 : Value) (t : TypeId) (hg : g = w.heap.size) : ∀ j x, [u0][j]? = some x → (w.alloc (.cells #[u0] t)).cell? ((⟨g, 0, none⟩ : Addr).add j) = some x := fun j x hx => by
  subst hg
  match j, hx with
  | 0, hx => simp at hx; subst hx; simp [Addr.add]
set_option maxRecDepth 100000 in
set_option maxHeartbeats 8000000 in
theorem list9_two (W w0 : World) (g : Nat) (ma mb : Value) (hm1 : ma.oneCell' = true) (hm2 : mb.oneCell' = true) (h : Cu W w0 g [tA, tS, tG, tS, tP, tB]) (hK : KT W) (hT : Tabs W) :
    Calls Tryz.prog 27 #[.agg #[ma, mb], .pointer (some ⟨g, 0, none⟩)] w0 fun e w' => ∃ b cp gp cpp, e = .returned (.tuple #[.slice (some ⟨b, 0, none⟩) 1 cp, .bool true]) ∧ w'.cell? ⟨b, 0, none⟩ = some (.slice (some ⟨gp, 0, none⟩) 2 cpp) ∧ w'.cell? ⟨gp, 2, none⟩ = some (.int .i64 2) ∧ w0.grownBy w' (some g) := by
  obtain ⟨i0, hi, hz0, hz1, hz2⟩ := info_parts infoX9
  have hg := h.lt
  have gw : W.heap.size ≤ w0.heap.size := by obtain ⟨_, _, _, _, B⟩ := h; exact B.size
  obtain ⟨Wa, hWa⟩ : ∃ Wa, w0.alloc (.cells #[ma, mb] 55) = Wa := ⟨_, rfl⟩
  have HWa := hide hWa
  have Ba := (show Below w0.heap.size w0 Wa by rw [← hWa]; exact bplus (Below.refl _ _) _)
  have sz : Wa.heap.size = w0.heap.size + 1 := by rw [← hWa]; simp
  have PQ := hide (show Wa.heap[w0.heap.size]? = some (.cells #[ma, mb] 55) by rw [← hWa]; exact heap_alloc_new w0 _)
  clear hWa
  have HC := hide (h.low Ba)
  have HM := hide (Mod.of g Ba)
  have nQ : w0.heap.size ≠ g := by omega
  have C1 := hide (fun (w1 : World) (h : Cu W w1 g [tA, tS, tG, tS, tP, tB]) => spaces9_any W w1 g _ h)
  have E1 := hide (show spL [tA, tS, tG, tS, tP, tB] = [tA, tS, tG, tS, tP, tB] by unfold tA; rw [spL_no (by decide)])
  have C2 := hide (fun (w1 : World) (h : Cu W w1 g [tA, tS, tG, tS, tP, tB]) => complex9_two W w1 g ma mb hm1 hm2 h hK hT)
  have C3 := hide (fun (w1 : World) (h : Cu W w1 g []) => done9_any W w1 g _ h)
  clear h Ba hK hT
  go_enter Tryz.func27, Tryz.ntmps27
  go_wp2_with fail
  rw [HWa.out]
  clear HWa
  refine wp_loop_rounds 1 ?_
  rw [rounds_succ]
  go_wp2_with (first
    | (go_at_call 45; refine (C1.out _ HC.out).mono ?_; rintro e w1 ⟨rfl, D1, M1⟩; rw [E1.out] at D1; replace PQ := hide (keepM PQ.out nQ M1); replace HC := hide D1; replace HM := hide (Mod.trans HM.out M1); have r0 := (bxk_2' PQ.out).1; have r1 := (bxk_2' PQ.out).2; clear D1 M1 C1)
    | (go_at_call 46; refine (C2.out _ HC.out).mono ?_; rintro e w2 ⟨gp, cpp, rfl, hc2, hl2, D2, M2⟩; replace HC := hide D2; replace HM := hide (Mod.trans HM.out M2); clear D2 M2 C2 r0 r1 PQ)
    | (at_builtin; (refine wpList_append_lies _ rfl _ _ 23 rfl w0.heap.size 40 i0 _ 1 24 Tryz.underlying23 hi hz0 hz1 hz2 rfl (by decide) (.slice none 0 0) 0 [] rfl (World.ownsRow_nil _ _ _ _) ⟨_, 0, none⟩ 1 1 [.slice (some ⟨gp, 0, none⟩) 2 cpp] rfl rfl (new1 _ _ _ _ (by simp)) (by intro u hu; simp at hu; rcases hu with rfl | rfl <;> rfl) (by decide) (by decide) (by decide) (by have := HM.out.size; simp; omega) _ rfl ?_; intro b cp w3 hown hg2 _ hlt2; have B2 := bto (bplus (bplus (Below.refl w2.heap.size w2) _) _) (gr_none hg2); replace HC := hide (HC.out.low B2); replace HM := hide (Mod.trans HM.out (Mod.of g B2)); have OW := hide hown; have hc3 := hide ((Go.RowKit.Below.cell B2 (p := ⟨gp, 2, none⟩) hl2).trans hc2); clear B2 hg2 hown hl2 hc2))
    | (go_at_call 47; go_loud (refine (C3.out _ HC.out).mono ?_; rintro e w4 ⟨rfl, rfl⟩; clear C3)))
  go_ret2
  have OC := OW.out.cells (g := b) rfl 0 _ rfl
  rw [Addr.add_lit, Nat.zero_add] at OC
  exact ⟨b, cp, gp, cpp, rfl, OC, hc3.out, HM.out⟩
end Go.Proofs.YtmkbjcoagfnegaaGreatDoor
set_option linter.unusedVariables false
set_option linter.unusedSimpArgs false
namespace Go.Proofs.YtmkbjcoagfnegaaGreatDoor
open Go.RowKit Go.Maps

/-- An entry of a map that is written out. -/
theorem wpList_insert_own {H : Type} {P : Program} (w : World) {ops : Array Oper} {rest : List Oper} {o : Oper} {a : Act} {Q : Exit → Act → World → Prop}
    (hg : o.guard = none) (m x v : Operand) (t : TypeId) (hop : o.op = Op.insert t m x v)
    (k e : TypeId) (K : Keyed P k) (ht : P.underlying t = some (.map k e)) (R : Value → Option (DataW H × List MemPlace)) (b n : Nat)
    (hm : a.eval m = .map (some b)) (hown : ∃ D, w.ownsMap P k R b n D) (hn : n < maxLen) (key val : Value) (kl : Lit) (hx : a.eval x = key) (hv : a.eval v = val) (hkey : keyOf P k key = some kl)
    (d : DataW H) (ps : List MemPlace) (hval : R val = some (d, ps))
    (hK : ∀ w', (∃ D, w'.ownsMap P k R b (n + 1) D) → w.grownBy w' (some b) → wpList P ops Q rest (a.put o.dst undef) w') :
    wpList P ops Q (o :: rest) a w := by
  refine wpList_plain hg fun K' hK' => ?_
  obtain ⟨D, hown⟩ := hown
  obtain ⟨w', hrun, r1, r2⟩ := hown.update K ht hn hkey hval
  unfold Oper.wp
  simp [execOp, hop, hm, hx, hv, hrun, Result.andThen]
  exact hK' _ _ (hK w' ⟨_, r1⟩ r2)
theorem low_mod {w w1 w2 : World} (h : Below w.heap.size w w1) (m : w1.grownBy w2 (some w.heap.size)) : Below w.heap.size w w2 :=
  ⟨m.os.trans h.os, m.tape.trans h.tape, m.output.trans h.output, Nat.le_trans h.size m.size, fun k hk => (m.block k (Nat.lt_of_lt_of_le hk h.size) (by intro e; cases e; omega)).trans (h.block k hk)⟩
theorem lawS9 : Keyed Tryz.prog 9 := string_keyed Tryz.underlying9
set_option maxRecDepth 100000 in
set_option maxHeartbeats 4000000 in
theorem wordKinds9_any (w0 : World) : Calls Tryz.prog 43 #[] w0 fun e w' => e = .returned (.map (some w0.heap.size)) ∧ Below w0.heap.size w0 w' := by
  have hmm := @run_makeMap Tryz.prog
  obtain ⟨Wa, hWa⟩ : ∃ Wa, w0.alloc (.map #[] 0) = Wa := ⟨_, rfl⟩
  have HO := hide (show ∃ D, Wa.ownsMap Tryz.prog 9 (plainElem (H := Unit) Tryz.prog 3) w0.heap.size 0 D from ⟨_, hWa ▸ World.ownsMap_made _ _ _ _⟩)
  have HB := hide (show Below w0.heap.size w0 Wa by rw [← hWa]; exact bplus (Below.refl _ _) _)
  go_enter Tryz.func43, Tryz.ntmps43
  go_wp2_with (refine wpList_insert_own _ rfl _ _ _ _ rfl 9 3 lawS9 Tryz.underlying53 _ w0.heap.size _ rfl HO.out (by decide) _ _ _ rfl rfl (Go.WideMaps.keyOf_string_mk Tryz.underlying9 (by decide)) _ [] (plainElem_int Tryz.underlying3 (by decide)) ?_; intro w1 ho hg; replace HO := hide ho; replace HB := hide (low_mod HB.out hg); clear ho hg)
  go_ret
  exact ⟨rfl, HB.out⟩
set_option maxRecDepth 100000 in
set_option maxHeartbeats 4000000 in
theorem functionKinds9_any (w0 : World) : Calls Tryz.prog 44 #[] w0 fun e w' => e = .returned (.map (some w0.heap.size)) ∧ Below w0.heap.size w0 w' := by
  have hmm := @run_makeMap Tryz.prog
  obtain ⟨Wa, hWa⟩ : ∃ Wa, w0.alloc (.map #[] 0) = Wa := ⟨_, rfl⟩
  have HO := hide (show ∃ D, Wa.ownsMap Tryz.prog 9 (plainElem (H := Unit) Tryz.prog 3) w0.heap.size 0 D from ⟨_, hWa ▸ World.ownsMap_made _ _ _ _⟩)
  have HB := hide (show Below w0.heap.size w0 Wa by rw [← hWa]; exact bplus (Below.refl _ _) _)
  go_enter Tryz.func44, Tryz.ntmps44
  go_wp2_with (refine wpList_insert_own _ rfl _ _ _ _ rfl 9 3 lawS9 Tryz.underlying53 _ w0.heap.size _ rfl HO.out (by decide) _ _ _ rfl rfl (Go.WideMaps.keyOf_string_mk Tryz.underlying9 (by decide)) _ [] (plainElem_int Tryz.underlying3 (by decide)) ?_; intro w1 ho hg; replace HO := hide ho; replace HB := hide (low_mod HB.out hg); clear ho hg)
  go_ret
  exact ⟨rfl, HB.out⟩
end Go.Proofs.YtmkbjcoagfnegaaGreatDoor

