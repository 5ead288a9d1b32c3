/-
  A list of one selector, read: by the program.
  The maps that a reader is made with.
  May these component values be: by the program.
  The program reads a list of one selector.
-/
import Derived.Test.YtmkbjcoagfnegabGreatDoorV14
import Derived.Maps.Own
import Derived.StringKeys
import Derived.Test.YtmkbjcoagfnegabGreatDoorV04
import Derived.Outline
set_option linter.unusedVariables false
set_option linter.unusedSimpArgs false
namespace Go.Proofs.YtmkbjcoagfnegabGreatDoor
open Go.RowKit

theorem infoX9 : (Tryz.prog.info? 24).map (fun i => (i.zero, i.size, i.bytes)) = some (some (.agg #[.slice none 0 0]), 1, 24) := by kernel_rfl
theorem new1 (w : World) (g : Nat) (u0 : Value) (t : TypeId) (hg : g = w.heap.size) : ∀ j x, [u0][j]? = some x → (w.alloc (.cells #[u0] t)).cell? ((⟨g, 0, none⟩ : Addr).add j) = some x := fun j x hx => by
  subst hg
  match j, hx with
  | 0, hx => simp at hx; subst hx; simp [Addr.add]
set_option maxRecDepth 100000 in
set_option maxHeartbeats 8000000 in
theorem list9_two (W w0 : World) (g : Nat) (ma mb : Value) (hm1 : ma.oneCell' = true) (hm2 : mb.oneCell' = true) (h : Cu W w0 g [tA, tS, tG, tS, tP, tB]) (hK : KT W) (hT : Tabs W) :
    Calls Tryz.prog 17 #[.agg #[ma, mb], .pointer (some ⟨g, 0, none⟩)] w0 fun e w' => ∃ b cp gp cpp, e = .returned (.tuple #[.slice (some ⟨b, 0, none⟩) 1 cp, .bool true]) ∧ w'.cell? ⟨b, 0, none⟩ = some (.slice (some ⟨gp, 0, none⟩) 2 cpp) ∧ w'.cell? ⟨gp, 2, none⟩ = some (.int .i64 2) ∧ w0.grownBy w' (some g) := by
  obtain ⟨i0, hi, hz0, hz1, hz2⟩ := info_parts infoX9
  have hg := h.lt
  have gw : W.heap.size ≤ w0.heap.size := by obtain ⟨_, _, _, _, B⟩ := h; exact B.size
  obtain ⟨Wa, hWa⟩ : ∃ Wa, w0.alloc (.cells #[ma, mb] 53) = Wa := ⟨_, rfl⟩
  have HWa := hide hWa
  have Ba := (show Below w0.heap.size w0 Wa by rw [← hWa]; exact bplus (Below.refl _ _) _)
  have sz : Wa.heap.size = w0.heap.size + 1 := by rw [← hWa]; simp
  have PQ := hide (show Wa.heap[w0.heap.size]? = some (.cells #[ma, mb] 53) by rw [← hWa]; exact heap_alloc_new w0 _)
  clear hWa
  have HC := hide (h.low Ba)
  have HM := hide (Mod.of g Ba)
  have nQ : w0.heap.size ≠ g := by omega
  have C1 := hide (fun (w1 : World) (h : Cu W w1 g [tA, tS, tG, tS, tP, tB]) => spaces9_any W w1 g _ h)
  have E1 := hide (show spL [tA, tS, tG, tS, tP, tB] = [tA, tS, tG, tS, tP, tB] by unfold tA; rw [spL_no (by decide)])
  have C2 := hide (fun (w1 : World) (h : Cu W w1 g [tA, tS, tG, tS, tP, tB]) => complex9_two W w1 g ma mb hm1 hm2 h hK hT)
  have C3 := hide (fun (w1 : World) (h : Cu W w1 g []) => done9_any W w1 g _ h)
  clear h Ba hK hT
  go_enter Tryz.func17, Tryz.ntmps17
  go_wp2_with fail
  rw [HWa.out]
  clear HWa
  refine wp_loop_rounds 1 ?_
  rw [rounds_succ]
  go_wp2_with (first
    | (go_at_call 30; refine (C1.out _ HC.out).mono ?_; rintro e w1 ⟨rfl, D1, M1⟩; rw [E1.out] at D1; replace PQ := hide (keepM PQ.out nQ M1); replace HC := hide D1; replace HM := hide (Mod.trans HM.out M1); have r0 := (bxk_2' PQ.out).1; have r1 := (bxk_2' PQ.out).2; clear D1 M1 C1)
    | (go_at_call 31; refine (C2.out _ HC.out).mono ?_; rintro e w2 ⟨gp, cpp, rfl, hc2, hl2, D2, M2⟩; replace HC := hide D2; replace HM := hide (Mod.trans HM.out M2); clear D2 M2 C2 r0 r1 PQ)
    | (at_builtin; (refine wpList_append_lies _ rfl _ _ 35 rfl w0.heap.size 24 i0 _ 1 24 Tryz.underlying35 hi hz0 hz1 hz2 rfl (by decide) (.slice none 0 0) 0 [] rfl (World.ownsRow_nil _ _ _ _) ⟨_, 0, none⟩ 1 1 [.slice (some ⟨gp, 0, none⟩) 2 cpp] rfl rfl (new1 _ _ _ _ (by simp)) (by intro u hu; simp at hu; rcases hu with rfl | rfl <;> rfl) (by decide) (by decide) (by decide) (by have := HM.out.size; simp; omega) _ rfl ?_; intro b cp w3 hown hg2 _ hlt2; have B2 := bto (bplus (bplus (Below.refl w2.heap.size w2) _) _) (gr_none hg2); replace HC := hide (HC.out.low B2); replace HM := hide (Mod.trans HM.out (Mod.of g B2)); have OW := hide hown; have hc3 := hide ((Go.RowKit.Below.cell B2 (p := ⟨gp, 2, none⟩) hl2).trans hc2); clear B2 hg2 hown hl2 hc2))
    | (go_at_call 32; go_loud (refine (C3.out _ HC.out).mono ?_; rintro e w4 ⟨rfl, rfl⟩; clear C3)))
  go_ret2
  have OC := OW.out.cells (g := b) rfl 0 _ rfl
  rw [Addr.add_lit, Nat.zero_add] at OC
  exact ⟨b, cp, gp, cpp, rfl, OC, hc3.out, HM.out⟩
end Go.Proofs.YtmkbjcoagfnegabGreatDoor
set_option linter.unusedVariables false
set_option linter.unusedSimpArgs false
namespace Go.Proofs.YtmkbjcoagfnegabGreatDoor
open Go.RowKit Go.Maps

/-- An entry of a map that is written out. -/
theorem wpList_insert_own {H : Type} {P : Program} (w : World) {ops : Array Oper} {rest : List Oper} {o : Oper} {a : Act} {Q : Exit → Act → World → Prop}
    (hg : o.guard = none) (m x v : Operand) (t : TypeId) (hop : o.op = Op.insert t m x v)
    (k e : TypeId) (K : Keyed P k) (ht : P.underlying t = some (.map k e)) (R : Value → Option (DataW H × List MemPlace)) (b n : Nat)
    (hm : a.eval m = .map (some b)) (hown : ∃ D, w.ownsMap P k R b n D) (hn : n < maxLen) (key val : Value) (kl : Lit) (hx : a.eval x = key) (hv : a.eval v = val) (hkey : keyOf P k key = some kl)
    (d : DataW H) (ps : List MemPlace) (hval : R val = some (d, ps))
    (hK : ∀ w', (∃ D, w'.ownsMap P k R b (n + 1) D) → w.grownBy w' (some b) → wpList P ops Q rest (a.put o.dst undef) w') :
    wpList P ops Q (o :: rest) a w := by
  refine wpList_plain hg fun K' hK' => ?_
  obtain ⟨D, hown⟩ := hown
  obtain ⟨w', hrun, r1, r2⟩ := hown.update K ht hn hkey hval
  unfold Oper.wp
  simp [execOp, hop, hm, hx, hv, hrun, Result.andThen]
  exact hK' _ _ (hK w' ⟨_, r1⟩ r2)
theorem low_mod {w w1 w2 : World} (h : Below w.heap.size w w1) (m : w1.grownBy w2 (some w.heap.size)) : Below w.heap.size w w2 :=
  ⟨m.os.trans h.os, m.tape.trans h.tape, m.output.trans h.output, Nat.le_trans h.size m.size, fun k hk => (m.block k (Nat.lt_of_lt_of_le hk h.size) (by intro e; cases e; omega)).trans (h.block k hk)⟩
theorem lawS9 : Keyed Tryz.prog 9 := string_keyed Tryz.underlying9
set_option maxRecDepth 100000 in
set_option maxHeartbeats 4000000 in
theorem wordKinds9_any (w0 : World) : Calls Tryz.prog 28 #[] w0 fun e w' => e = .returned (.map (some w0.heap.size)) ∧ Below w0.heap.size w0 w' := by
  have hmm := @run_makeMap Tryz.prog
  obtain ⟨Wa, hWa⟩ : ∃ Wa, w0.alloc (.map #[] 0) = Wa := ⟨_, rfl⟩
  have HO := hide (show ∃ D, Wa.ownsMap Tryz.prog 9 (plainElem (H := Unit) Tryz.prog 3) w0.heap.size 0 D from ⟨_, hWa ▸ World.ownsMap_made _ _ _ _⟩)
  have HB := hide (show Below w0.heap.size w0 Wa by rw [← hWa]; exact bplus (Below.refl _ _) _)
  go_enter Tryz.func28, Tryz.ntmps28
  go_wp2_with (refine wpList_insert_own _ rfl _ _ _ _ rfl 9 3 lawS9 Tryz.underlying51 _ w0.heap.size _ rfl HO.out (by decide) _ _ _ rfl rfl (Go.WideMaps.keyOf_string_mk Tryz.underlying9 (by decide)) _ [] (plainElem_int Tryz.underlying3 (by decide)) ?_; intro w1 ho hg; replace HO := hide ho; replace HB := hide (low_mod HB.out hg); clear ho hg)
  go_ret
  exact ⟨rfl, HB.out⟩
set_option maxRecDepth 100000 in
set_option maxHeartbeats 4000000 in
theorem functionKinds9_any (w0 : World) : Calls Tryz.prog 29 #[] w0 fun e w' => e = .returned (.map (some w0.heap.size)) ∧ Below w0.heap.size w0 w' := by
  have hmm := @run_makeMap Tryz.prog
  obtain ⟨Wa, hWa⟩ : ∃ Wa, w0.alloc (.map #[] 0) = Wa := ⟨_, rfl⟩
  have HO := hide (show ∃ D, Wa.ownsMap Tryz.prog 9 (plainElem (H := Unit) Tryz.prog 3) w0.heap.size 0 D from ⟨_, hWa ▸ World.ownsMap_made _ _ _ _⟩)
  have HB := hide (show Below w0.heap.size w0 Wa by rw [← hWa]; exact bplus (Below.refl _ _) _)
  go_enter Tryz.func29, Tryz.ntmps29
  go_wp2_with (refine wpList_insert_own _ rfl _ _ _ _ rfl 9 3 lawS9 Tryz.underlying51 _ w0.heap.size _ rfl HO.out (by decide) _ _ _ rfl rfl (Go.WideMaps.keyOf_string_mk Tryz.underlying9 (by decide)) _ [] (plainElem_int Tryz.underlying3 (by decide)) ?_; intro w1 ho hg; replace HO := hide ho; replace HB := hide (low_mod HB.out hg); clear ho hg)
  go_ret
  exact ⟨rfl, HB.out⟩
end Go.Proofs.YtmkbjcoagfnegabGreatDoor
set_option linter.unusedVariables false
set_option linter.unusedSimpArgs false
namespace Go.Proofs.YtmkbjcoagfnegabGreatDoor
open Go.RowKit

/-- A level of the path: the slice, what it holds, what is to stand behind it. -/
structure Lv where
  u : Value
  r : List VT
  c : Int
def lvC (x : Lv) : List Value := [x.u, .int .i64 x.c]
def lvs (ps : List Lv) : List Value := ps.flatMap lvC
theorem lvs_len (ps : List Lv) : (lvs ps).length = ps.length * 2 := by
  induction ps with
  | nil => rfl
  | cons x r ih => unfold lvs at *; rw [List.flatMap_cons, List.length_append, ih]; simp [lvC]; omega
theorem lvs_snoc (ps : List Lv) (x : Lv) : lvs (ps ++ [x]) = lvs ps ++ lvC x := by simp [lvs]
theorem lvs_at0 (ps : List Lv) (x : Lv) : (lvs (ps ++ [x]))[ps.length * 2]? = some x.u := by
  rw [lvs_snoc, List.getElem?_append_right (by rw [lvs_len]; omega), lvs_len]; simp [lvC]
theorem lvs_at1 (ps : List Lv) (x : Lv) : (lvs (ps ++ [x]))[ps.length * 2 + 1]? = some (.int .i64 x.c) := by
  rw [lvs_snoc, List.getElem?_append_right (by rw [lvs_len]; omega), lvs_len]; simp [lvC]
theorem lvs_set (ps : List Lv) (x : Lv) (u : Value) (r : List VT) : (lvs (ps ++ [x])).set (ps.length * 2) u = lvs (ps ++ [⟨u, r, x.c⟩]) := by
  rw [lvs_snoc, lvs_snoc, List.set_append_right _ _ (by rw [lvs_len]; omega), lvs_len]; simp [lvC]
/-- A path in memory. -/
structure PathM (w wr : World) (v : Value) (ps : List Lv) : Prop where
  own : wr.ownsRow w.heap.size 75 2 v ps.length (lvs ps)
  vm : ∀ x ∈ ps, VM w x.u x.r
  bel : Below w.heap.size w wr
theorem PathM.top {w wr : World} {v : Value} {qs : List Lv} {x : Lv} (h : PathM w wr v (qs ++ [x])) : ∃ g cap, v = .slice (some ⟨g, 0, none⟩) (qs.length + 1) cap ∧ w.heap.size ≤ g ∧ g < wr.heap.size ∧ qs.length + 1 ≤ cap ∧ cap ≤ 9223372036854775807 ∧ wr.cell? ⟨g, qs.length * 2, none⟩ = some x.u ∧ wr.cell? ⟨g, qs.length * 2 + 1, none⟩ = some (.int .i64 x.c) ∧ wr.frozen? ⟨g, qs.length * 2, none⟩ = false := by
  have h1 := h.own
  rw [List.length_append, List.length_singleton] at h1
  obtain ⟨g, cap, cur, hv, hb, hg, hn, hm, hs, ht⟩ := ownsRow_blk h1 (by omega)
  have a0 := lvs_at0 qs x
  have a1 := lvs_at1 qs x
  rw [← ht] at a0 a1
  rw [List.getElem?_take_of_lt (by omega)] at a0 a1
  unfold maxLen at hm
  refine ⟨g, cap, hv, hb, (Array.getElem?_eq_some_iff.1 hg).1, hn, hm, ?_, ?_, ?_⟩
  · rw [row_blk hg, ← a0, Array.getElem?_toList]
  · rw [row_blk hg, ← a1, Array.getElem?_toList]
  · simp [World.frozen?, hg]
theorem PathM.pop {w wr : World} {g cap : Nat} {qs : List Lv} {x : Lv} (h : PathM w wr (.slice (some ⟨g, 0, none⟩) (qs.length + 1) cap) (qs ++ [x])) : PathM w wr (.slice (some ⟨g, 0, none⟩) qs.length cap) qs := by
  have h1 := h.own
  rw [List.length_append, List.length_singleton, lvs_snoc] at h1
  exact ⟨ownsRow_cut h1 (lvs_len qs), fun y hy => h.vm y (List.mem_append_left _ hy), h.bel⟩
theorem PathM.take {w wr : World} {g cap : Nat} {qs : List Lv} {x : Lv} (h : PathM w wr (.slice (some ⟨g, 0, none⟩) (qs.length + 1) cap) (qs ++ [x])) (hg : w.heap.size ≤ g) (u : Value) (r : List VT) (hu : VM w u r) (o1 o2 : Obj) :
    PathM w (((wr.setCell ⟨g, qs.length * 2, none⟩ u).alloc o1).alloc o2) (.slice (some ⟨g, 0, none⟩) (qs.length + 1) cap) (qs ++ [⟨u, r, x.c⟩]) := by
  have h1 := h.own
  rw [List.length_append, List.length_singleton] at h1
  have h2 := ownsRow_set h1 (qs.length * 2) u
  rw [lvs_set qs x u r] at h2
  refine ⟨by rw [List.length_append, List.length_singleton]; exact (h2.alloc o1).alloc o2, fun y hy => ?_, bplus (bplus (h.bel.setCell hg u) o1) o2⟩
  rw [List.mem_append, List.mem_singleton] at hy
  rcases hy with hy | rfl
  · exact h.vm y (List.mem_append_left _ hy)
  · exact hu
theorem PathM.alloc {w wr : World} {v : Value} {ps : List Lv} (h : PathM w wr v ps) (o : Obj) : PathM w (wr.alloc o) v ps := ⟨h.own.alloc o, h.vm, bplus h.bel o⟩
theorem PathM.push {w wr w1 : World} {v v' : Value} {ps : List Lv} {x : Lv} {o : Obj} (h : PathM w wr v ps) (hx : VM w x.u x.r)
    (h1 : w1.ownsRow w.heap.size 75 2 v' (ps.length + 1) (lvs ps ++ lvC x)) (hg : (wr.alloc o).grownBy w1 v.ownBlock) : PathM w w1 v' (ps ++ [x]) := by
  refine ⟨by rw [List.length_append, List.length_singleton, lvs_snoc]; exact h1, fun y hy => ?_, ?_⟩
  · rw [List.mem_append, List.mem_singleton] at hy
    rcases hy with hy | rfl
    · exact h.vm y hy
    · exact hx
  · exact (h.bel.alloc h.bel.size o).grown hg (by have := h.bel.size; simp; omega) (fun k hk => (h.own.lt k hk).1)
/-- How much is left. -/
def meP : List Lv → Nat
  | [] => 0
  | x :: r => 2 * szL x.r + 1 + meP r
theorem meP_snoc (ps : List Lv) (x : Lv) : meP (ps ++ [x]) = meP ps + (2 * szL x.r + 1) := by
  induction ps with
  | nil => simp [meP]
  | cons y r ih => rw [List.cons_append, meP, meP, ih]; omega
/-- May all that is left be? -/
def myP : List Lv → Nat → Bool
  | [], _ => true
  | x :: r, n => myL x.r (64 - n) && myP r (n + 1)
theorem myP_snoc (ps : List Lv) (x : Lv) (n : Nat) : myP (ps ++ [x]) n = (myP ps n && myL x.r (64 - (n + ps.length))) := by
  induction ps generalizing n with
  | nil => simp [myP]
  | cons y r ih => rw [List.cons_append, myP, myP, ih, List.length_cons, Bool.and_assoc]; congr 3; omega
def RelMy (w : World) (l : List VT) (g : Nat) (v : Value) (wr : World) : Prop := ∃ ps, PathM w wr v ps ∧ meP ps ≤ g ∧ ps.length ≤ 65 ∧ Hid (myL l 64 = myP ps 0)
theorem RelMy.mk {w : World} {l : List VT} {g : Nat} {v : Value} {wr : World} (ps : List Lv) (h1 : PathM w wr v ps) (h2 : meP ps ≤ g) (h3 : ps.length ≤ 65) (h4 : myL l 64 = myP ps 0) : RelMy w l g v wr := ⟨ps, h1, h2, h3, h4⟩
theorem infoL : (Tryz.prog.info? 75).map (fun i => (i.zero, i.size, i.bytes)) = some (some (.agg #[.slice none 0 0, .int .i64 0]), 2, 32) := by kernel_rfl
theorem PathM.one (w : World) (u : Value) (l : List VT) (h : VM w u l) : PathM w (w.alloc (.cells #[u, .int .i64 0] 75)) (.slice (some ⟨w.heap.size, 0, none⟩) 1 1) [⟨u, l, 0⟩] :=
  ⟨⟨by simp [lvs, lvC], .inr ⟨w.heap.size, 1, #[u, .int .i64 0], rfl, Nat.le_refl _, heap_alloc_new w _, Nat.le_refl _, by decide, by simp, by simp [lvs, lvC]⟩⟩, fun y hy => by rw [List.mem_singleton] at hy; subst hy; exact h, bplus (Below.refl _ _) _⟩
theorem news2 (w : World) (g : Nat) (u0 u1 : Value) (t : TypeId) (hg : g = w.heap.size) : ∀ j x, [u0, u1][j]? = some x → (w.alloc (.cells #[u0, u1] t)).cell? ((⟨g, 0, none⟩ : Addr).add j) = some x := fun j x hx => by
  subst hg
  match j, hx with
  | 0, hx => simp at hx; subst hx; simp [Addr.add]
  | 1, hx => simp at hx; subst hx; simp [Addr.add]
theorem PathM.taken {w wr w1 : World} {g cap b o c : Nat} {qs : List Lv} {x : Lv} {y : VT} {r : List VT} {u : Value} {e : Ending} (h : PathM w wr (.slice (some ⟨g, 0, none⟩) (qs.length + 1) cap) (qs ++ [x])) (hg : w.heap.size ≤ g)
    (ht : VM w (.slice (some ⟨b, o + 7, none⟩) r.length (c - 1)) r) (T : PostTk g (qs.length * 2) b o c r.length y.t u wr e w1) : e = .returned (vtV y.t u) ∧ ∃ z, PathM w w1 (.slice (some ⟨g, 0, none⟩) (qs.length + 1) cap) (qs ++ [⟨z, r, x.c⟩]) := by
  obtain ⟨he, a, o1, o2, ha, rfl⟩ := T
  refine ⟨he, _, h.take hg _ r ?_ o1 o2⟩
  by_cases hr : r = []
  · subst hr; exact .nil _ _
  · rw [ha (List.length_pos_iff.2 hr)]; exact ht
theorem last_cases {α : Type} (l : List α) : l = [] ∨ ∃ qs x, l = qs ++ [x] := by
  cases l with
  | nil => exact .inl rfl
  | cons a r => exact .inr ⟨(a :: r).dropLast, (a :: r).getLast (by simp), (List.dropLast_concat_getLast (by simp)).symm⟩
theorem my_bad {b : Bool} {x y : Bool} (h : b = (x && y)) (g : y = false) : b = false := by rw [h, g]; simp
set_option maxRecDepth 100000 in
set_option maxHeartbeats 1000000 in
theorem may5_any (l : List VT) (v : Value) (w : World) (hv : VM w v l) :
    Calls Tryz.prog 15 #[v] w fun e w' => e = .returned (.bool (myL l 64)) ∧ Below w.heap.size w w' := by
  obtain ⟨i0, hi, hz0, hz1, hz2⟩ := info_parts infoL
  obtain ⟨a, c, rfl, hl9⟩ := hv.shape
  have P0 := hide (PathM.one w _ l hv)
  clear hv
  go_enter Tryz.func15, Tryz.ntmps15
  go_wp2
  go_loopg [3] (2 * szL l + 1) (fun g tv wr => RelMy w l g tv wr)
  case atStart => exact .mk _ P0.out (by simp [meP]) (by simp) (by simp [myP])
  case round =>
    clear P0
    obtain ⟨ps, PM, hm, h65, R⟩ := hrel
    rcases last_cases ps with rfl | ⟨qs, x, rfl⟩
    · have E := hide (show myL l 64 = true from R.out)
      have B := hide PM.bel
      obtain ⟨ga, gn, gc, hv⟩ : ∃ a n c, u3 = .slice a n c := by
        rcases PM.own.2 with ⟨h, _⟩ | ⟨g, cap, cur, h, _⟩
        · exact ⟨_, _, _, h⟩
        · exact ⟨_, _, _, h⟩
      have hn0 : gn = 0 := by
        rcases PM.own.2 with ⟨h, _⟩ | ⟨g, cap, cur, h, _⟩
        · rw [h] at hv; cases hv; rfl
        · rw [h] at hv; cases hv; rfl
      subst hv hn0
      clear PM
      go_wp2
      go_ret
      exact ⟨ret_bool E.out.symm, B.out⟩
    obtain ⟨g, cap, hv, hg1, hg2, hcap, hcap9, k0, k1, kf⟩ := PM.top
    subst hv
    rw [List.length_append, List.length_singleton] at h65
    have P := hide PM
    have HX := hide (PM.vm x (List.mem_append_right _ (List.mem_singleton.2 rfl)))
    have BE := hide PM.bel
    have R2 := hide (R.out.trans (myP_snoc qs x 0))
    rw [meP_snoc] at hm
    obtain ⟨xu, xr, xc⟩ := x
    simp only at k0 k1 HX hm R2
    clear PM R
    have q9 : qs.length ≤ 64 := by omega
    cases xr with
    | nil =>
      obtain ⟨a1, c1, hu, _⟩ := HX.out.shape
      subst hu
      have E := hide (show myL l 64 = myP qs 0 by rw [R2.out, myL_nil]; simp)
      have PP := hide P.out.pop
      have HL := hide (show qs.length ≤ 65 by omega)
      clear P R2 HX
      generalize qs.length = m at k0 k1 kf h65 hcap q9 PP ⊢
      go_wp2
      go_roundg (gk - 1)
      case measure => omega
      case rel => exact .mk qs PP.out (by omega) HL.out E.out
    | cons y r =>
      obtain ⟨b, o, cc, u, hu, hb, hcc, hcc9, hr9, t6, hk, hku, htl⟩ := HX.out.head
      subst hu
      obtain ⟨ua, uc, hus, hks9⟩ := hku.shape
      have T6 := hide (t6.below BE.out hb)
      have U6 := hide ((BE.out.cell (p := ⟨b, o + 6, none⟩) hb).trans hk)
      have TL := hide htl
      have KU := hide hku
      have US := hide hus
      rw [szL_cons] at hm
      rw [myL_cons, Nat.zero_add] at R2
      clear hk hku htl t6 HX
      have hgb : g ≠ b := by omega
      have hbw : b < wr.heap.size := by have := BE.out.size; omega
      have TK := hide (take_any g (qs.length * 2) b o cc r.length y.t u wr k0 kf hgb hg2 hbw hcc hcc9 T6.out U6.out ⟨_, _, _, US.out⟩)
      have TP := hide (fun (e : Ending) (w1 : World) (h : PostTk g (qs.length * 2) b o cc r.length y.t u wr e w1) => P.out.taken (y := y) hg1 TL.out h)
      have HL := hide (show qs.length ≤ 64 by omega)
      clear P T6 U6
      obtain ⟨⟨k, ts, tn, td, ti, th⟩, yk⟩ := y
      simp only [VT.t, VT.ks] at *
      unfold vtV at TP
      subst hus
      obtain ⟨m, hml⟩ : ∃ m, qs.length = m := ⟨_, rfl⟩
      have ML := hide hml
      rw [hml] at k0 k1 kf h65 hcap q9 TK TP R2 ⊢
      clear hml
      replace R2 := hide (show myL l 64 = (myP qs 0 && (((decide (1 ≤ k) && decide (k ≤ 24)) && if cKn k = 0 then yk.isEmpty else (decide (0 < 64 - m) && myL yk (64 - m - 1))) && myL r (64 - m))) from R2.out)
      by_cases hk12 : 1 ≤ k ∧ k ≤ 24
      case neg =>
        have K1 := hide (show (decide (1 ≤ k) && decide (k ≤ 24)) = false by rw [Bool.eq_false_iff]; intro h; simp at h; exact hk12 h)
        have F := hide (my_bad R2.out (by rw [K1.out]; simp))
        clear hk12
        go_wp2_with (first
          | (go_at_call 25; refine TK.out.mono ?_; rintro e w1 h1; obtain ⟨he, z, PZ⟩ := TP.out e w1 h1; subst he; replace PZ := hide PZ; clear h1)
          | (go_at_call 26; refine (isKind_any _ _).mono ?_; rintro e w2 ⟨rfl, rfl⟩; rw [K1.out]))
        go_ret
        exact ⟨ret_bool F.out.symm, by first | exact PZ.out.bel | exact bplus PZ.out.bel _ | exact bplus (bplus PZ.out.bel _) _⟩
      have K1 := hide (show (decide (1 ≤ k) && decide (k ≤ 24)) = true by simp [hk12])
      clear hk12
      rw [K1.out, Bool.true_and] at R2
      by_cases hc0 : cKn k = 0
      · have K2 := hide hc0
        rw [if_pos hc0] at R2
        clear hc0
        by_cases hy : yk = []
        · subst hy
          have E := hide (show myL l 64 = (myP qs 0 && myL r (64 - m)) by rw [R2.out]; simp)
          clear R2
          go_wp2_with (first
            | (go_at_call 25; refine TK.out.mono ?_; rintro e w1 h1; obtain ⟨he, z, PZ⟩ := TP.out e w1 h1; subst he; replace PZ := hide PZ; clear h1)
            | (go_at_call 26; refine (isKind_any _ _).mono ?_; rintro e w2 ⟨rfl, rfl⟩; rw [K1.out])
            | (go_at_call 27; refine (closerOf_any _ _).mono ?_; rintro e w3 ⟨rfl, rfl⟩; (try rw [K2.out])))
          go_roundg (gk - 1)
          case measure => omega
          case rel => exact .mk _ (by first | exact PZ.out | exact PZ.out.alloc _ | exact (PZ.out.alloc _).alloc _) (by rw [meP_snoc]; simp only; omega) (by rw [List.length_append, List.length_singleton]; have := HL.out; omega) (by rw [E.out, myP_snoc, Nat.zero_add, ML.out])
        · have hy0 : 0 < yk.length := List.length_pos_iff.2 hy
          have F := hide (my_bad R2.out (by cases yk with | nil => exact absurd rfl hy | cons _ _ => simp))
          have hy1 : (0 : Int) < yk.length := by omega
          clear hy
          go_wp2_with (first
            | (go_at_call 25; refine TK.out.mono ?_; rintro e w1 h1; obtain ⟨he, z, PZ⟩ := TP.out e w1 h1; subst he; replace PZ := hide PZ; clear h1)
            | (go_at_call 26; refine (isKind_any _ _).mono ?_; rintro e w2 ⟨rfl, rfl⟩; rw [K1.out])
            | (go_at_call 27; refine (closerOf_any _ _).mono ?_; rintro e w3 ⟨rfl, rfl⟩; (try rw [K2.out])))
          go_ret
          exact ⟨ret_bool F.out.symm, by first | exact PZ.out.bel | exact bplus PZ.out.bel _ | exact bplus (bplus PZ.out.bel _) _⟩
      · have hc1 : ¬ cKn k = 0 := hc0
        have hc2 : (cKn k == 0) = false := by simpa using hc0
        rw [if_neg hc0] at R2
        clear hc0
        have K2 := hide (show True from trivial)
        by_cases h64 : m < 64
        · have hd : decide (0 < 64 - m) = true := by simp; omega
          have E := hide (show myL l 64 = (myP qs 0 && (myL yk (64 - m - 1) && myL r (64 - m))) by rw [R2.out, hd]; simp)
          clear R2 hd
          have hm1 : (m : Int) + 1 ≤ 64 := by omega
          go_wp2_with (first
            | (go_at_call 25; refine TK.out.mono ?_; rintro e w1 h1; obtain ⟨he, z, PZ⟩ := TP.out e w1 h1; subst he; replace PZ := hide PZ; clear h1)
            | (go_at_call 26; refine (isKind_any _ _).mono ?_; rintro e w2 ⟨rfl, rfl⟩; rw [K1.out])
            | (go_at_call 27; refine (closerOf_any _ _).mono ?_; rintro e w3 ⟨rfl, rfl⟩; (try rw [K2.out]))
            | (at_builtin; refine wpList_append_own _ rfl _ _ 76 rfl w.heap.size 75 i0 _ 2 32 Tryz.underlying76 hi hz0 hz1 hz2 rfl (by decide) _ _ _ rfl ((PZ.out.alloc _).own.alloc _) ⟨_, 0, none⟩ 1 1 (lvC ⟨.slice ua yk.length uc, yk, 0⟩) rfl rfl (news2 _ _ _ _ _ (by simp)) (by intro u hu; simp [lvC] at hu; rcases hu with rfl | rfl <;> rfl) (by rw [List.length_append, List.length_singleton, ML.out]; unfold maxLen; omega) (by rw [List.length_append, List.length_singleton, ML.out]; omega) (by have := PZ.out.bel.size; simp; omega) ?_; intro v' w5 hown' hgrow _; replace PZ := hide ((PZ.out.alloc _).push (x := ⟨.slice ua yk.length uc, yk, 0⟩) KU.out hown' hgrow); clear hown' hgrow))
          go_roundg (gk - 1)
          case measure => omega
          case rel => exact .mk _ PZ.out (by rw [meP_snoc, meP_snoc]; simp only; omega) (by rw [List.length_append, List.length_append, List.length_singleton, List.length_singleton, ML.out]; omega) (by rw [E.out, myP_snoc, myP_snoc, List.length_append, List.length_singleton, ML.out]; simp only [Nat.zero_add]; rw [show 64 - m - 1 = 64 - (m + 1) by omega, Bool.and_assoc, Bool.and_comm (myL yk _)])
        · have F := hide (my_bad R2.out (by rw [show decide (0 < 64 - m) = false by simp; omega]; simp))
          have hm1 : (64 : Int) < (m : Int) + 1 := by omega
          go_wp2_with (first
            | (go_at_call 25; refine TK.out.mono ?_; rintro e w1 h1; obtain ⟨he, z, PZ⟩ := TP.out e w1 h1; subst he; replace PZ := hide PZ; clear h1)
            | (go_at_call 26; refine (isKind_any _ _).mono ?_; rintro e w2 ⟨rfl, rfl⟩; rw [K1.out])
            | (go_at_call 27; refine (closerOf_any _ _).mono ?_; rintro e w3 ⟨rfl, rfl⟩; (try rw [K2.out])))
          go_ret
          exact ⟨ret_bool F.out.symm, by first | exact PZ.out.bel | exact bplus PZ.out.bel _ | exact bplus (bplus PZ.out.bel _) _⟩
end Go.Proofs.YtmkbjcoagfnegabGreatDoor
set_option linter.unusedVariables false
set_option linter.unusedSimpArgs false
namespace Go.Proofs.YtmkbjcoagfnegabGreatDoor
open Go.RowKit

theorem lowC9 {w w1 w2 : World} {o : Obj} (h : Below w.heap.size w w1) (m : (w1.alloc o).grownBy w2 (some w1.heap.size)) : Below w.heap.size w w2 := by
  have s1 := h.size
  have s2 := m.size
  refine ⟨m.os.trans h.os, m.tape.trans h.tape, m.output.trans h.output, by simp at s2; omega, fun k hk => ?_⟩
  exact (m.block k (by simp; omega) (by intro e; cases e; omega)).trans ((Below.heap_alloc w1 o k (by omega)).trans (h.block k hk))
set_option maxRecDepth 100000 in
set_option maxHeartbeats 4000000 in
theorem newReader9_any (w0 : World) : Calls Tryz.prog 16 #[] w0 fun e w' => ∃ b c, e = .returned (.agg #[.map (some b), .map (some c)]) ∧ Below w0.heap.size w0 w' := by
  have C1 := hide (fun (w : World) => wordKinds9_any w)
  have C2 := hide (fun (w : World) => functionKinds9_any w)
  obtain ⟨Wa, hWa⟩ : ∃ Wa, w0.alloc (.cells #[.map none, .map none] 53) = Wa := ⟨_, rfl⟩
  have PQ := hide (show Wa.heap[w0.heap.size]? = some (.cells #[.map none, .map none] 53) by rw [← hWa]; exact heap_alloc_new w0 _)
  have HB := hide (show Below w0.heap.size w0 Wa by rw [← hWa]; exact bplus (Below.refl _ _) _)
  go_enter Tryz.func16, Tryz.ntmps16
  go_wp2_with (first
    | (go_at_call 28; refine ((C1).out _).mono ?_; rintro e w1 ⟨rfl, B1⟩; try clear hWa; replace PQ := hide ((B1.block _ (Array.getElem?_eq_some_iff.1 PQ.out).1).trans PQ.out); replace HB := hide (bto HB.out B1); clear B1)
    | (go_at_call 29; refine (C2.out _).mono ?_; rintro e w2 ⟨rfl, B2⟩; replace PQ := hide ((B2.block _ (Array.getElem?_eq_some_iff.1 PQ.out).1).trans PQ.out); replace HB := hide (bto HB.out B2); have r0 := (bxk_2' PQ.out).1; have r1 := (bxk_2' PQ.out).2; have y := fz_of PQ.out; clear B2))
  generalize Wa.heap.size = b1 at *
  generalize w1.heap.size = b2 at *
  refine ret_cell (b := w0.heap.size) (cs := [.map (some b1), .map (some b2)]) Tryz.results16 rfl (fun j v hv => ?_) Tryz.underlying53 rfl (by kernel_rfl) rfl ?_
  · match j, hv with
    | 0, hv => simp at hv; subst hv; exact (World.cell?_setCell_other _ ⟨w0.heap.size, 1, none⟩ ⟨w0.heap.size, 0, none⟩ _ (by simp)).trans (World.cell?_setCell_same' _ _ _ (by rw [r0]; rfl))
    | 1, hv => simp at hv; subst hv; exact World.cell?_setCell_same' _ _ _ (by rw [World.cell?_setCell_other _ ⟨w0.heap.size, 0, none⟩ ⟨w0.heap.size, 1, none⟩ _ (by simp), r1]; rfl)
  · exact ⟨b1, b2, rfl, low_mod (low_mod HB.out (grownBy_setC _ _ _ _)) (grownBy_setC _ _ _ _)⟩
set_option maxRecDepth 100000 in
set_option maxHeartbeats 4000000 in
theorem parse9_two (w0 : World) (v : Value) (h : VM w0 v [tA, tS, tG, tS, tP, tB]) (hK : KT w0) (hT : Tabs w0) :
    Calls Tryz.prog 8 #[v] w0 fun e w' => ∃ b cp gp cpp, e = .returned (.tuple #[.slice (some ⟨b, 0, none⟩) 1 cp, .int .i64 0]) ∧ w'.cell? ⟨b, 0, none⟩ = some (.slice (some ⟨gp, 0, none⟩) 2 cpp) ∧ w'.cell? ⟨gp, 2, none⟩ = some (.int .i64 2) ∧ Below w0.heap.size w0 w' := by
  have C1 := hide (may5_any _ v w0 h)
  rw [show myL [tA, tS, tG, tS, tP, tB] 64 = true by decide] at C1
  have C2 := hide (fun (w : World) => newReader9_any w)
  have C3 := hide (fun (W w0 : World) (g b c : Nat) (h : Cu W w0 g [tA, tS, tG, tS, tP, tB]) (hK : KT W) (hT : Tabs W) => list9_two W w0 g (.map (some b)) (.map (some c)) rfl rfl h hK hT)
  obtain ⟨a, cc, rfl, hl9⟩ := h.shape
  have HV := hide h
  have HK := hide hK
  have HT := hide hT
  clear h hK hT
  go_enter Tryz.func8, Tryz.ntmps8
  go_wp2_with (first
    | (go_at_call 15; refine (C1).out.mono ?_; rintro e w1 ⟨rfl, B1⟩; have HB := hide B1; clear B1 C1)
    | (go_at_call 16; refine (C2.out _).mono ?_; rintro e w2 ⟨b, c, rfl, B2⟩; replace HB := hide (bto HB.out B2); clear B2 C2)
    | (go_at_call 17; refine (C3.out w0 _ _ b c ⟨_, heap_alloc_new _ _, HV.out, HB.out.size, HB.out.trans ((bplus (Below.refl _ _) _).mono HB.out.size)⟩ HK.out HT.out).mono ?_; rintro e w3 ⟨b1, cp, gp, cpp, rfl, c1, c2, M3⟩; replace HB := hide (lowC9 HB.out M3); clear M3 C3))
  go_ret2
  exact ⟨b1, cp, gp, cpp, rfl, c1, c2, HB.out⟩
end Go.Proofs.YtmkbjcoagfnegabGreatDoor
