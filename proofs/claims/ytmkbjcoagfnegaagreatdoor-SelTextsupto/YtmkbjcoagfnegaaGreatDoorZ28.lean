/-
  What is left of some component values: taking, passing over white space, a character: by the program.
  The reader: white space, a character, what begins a simple selector: by the program.
  A selector of a token's text: by the program.
  A class: by the program.
-/
import Derived.Test.YtmkbjcoagfnegaaGreatDoorZ27
import Derived.Deep.DeepCutAuto
import Derived.Test.YtmkbjcoagfnegaaGreatDoorZ16
import Derived.StillTailTactics
set_option linter.unusedVariables false
set_option linter.unusedSimpArgs false
namespace Go.Proofs.YtmkbjcoagfnegaaGreatDoor
open Go.RowKit

theorem VM.tail {w : World} {v : Value} {x : VT} {l : List VT} (h : VM w v (x :: l)) : ∃ b o c, v = .slice (some ⟨b, o, none⟩) (l.length + 1) c ∧ l.length + 1 ≤ c ∧ c ≤ 9223372036854775807 ∧ l.length + 1 ≤ 1000000000 ∧ VM w (.slice (some ⟨b, o + 7, none⟩) l.length (c - 1)) l := by
  obtain ⟨b, o, c, u, hv, hb, hc, hc9, hr9, _, _, _, ht⟩ := h.head
  exact ⟨b, o, c, hv, hc, hc9, hr9, ht⟩
theorem next9_nil (W wr : World) (g : Nat) (h : Cu W wr g []) : Calls Tryz.prog 63 #[.pointer (some ⟨g, 0, none⟩)] wr fun e w' => e = .returned (.agg #[.int .i64 0, .string ⟨#[]⟩, .int .i64 0, .int .i64 0, .bool false, .bool false, .slice none 0 0]) ∧ Below wr.heap.size wr w' := by
  refine (next9_any W wr g [] h).mono ?_
  rintro e w' ⟨v, rfl, F, B⟩
  rcases F with ⟨-, rfl⟩ | ⟨x, r, a, n, c, h, -⟩
  · exact ⟨rfl, B⟩
  · cases h
theorem next9_cons (W wr : World) (g : Nat) (t : TS) (ks r : List VT) (h : Cu W wr g (.mk t ks :: r)) : Calls Tryz.prog 63 #[.pointer (some ⟨g, 0, none⟩)] wr fun e w' => ∃ a n c, e = .returned (.agg #[.int .i64 t.k, .string t.s, .int .i64 t.n, .int .i64 t.d, .bool t.i, .bool t.h, .slice a n c]) ∧ VM W (.slice a n c) ks ∧ Below wr.heap.size wr w' := by
  refine (next9_any W wr g _ h).mono ?_
  rintro e w' ⟨v, rfl, F, B⟩
  rcases F with ⟨h, -⟩ | ⟨x, r, a, n, c, h, rfl, V⟩
  · cases h
  · cases h; exact ⟨a, n, c, rfl, V, B⟩
theorem fz_of {w : World} {b : Nat} {cs : Array Value} {T : TypeId} (h : w.heap[b]? = some (.cells cs T)) : ∀ j, w.frozen? ⟨b, j, none⟩ = false := fun j => by simp [World.frozen?, h]
theorem Cu.cell {W wr : World} {g : Nat} {l : List VT} (h : Cu W wr g l) : ∃ v, wr.cell? ⟨g, 0, none⟩ = some v ∧ wr.frozen? ⟨g, 0, none⟩ = false ∧ VM W v l := by
  obtain ⟨v, h1, h2, _⟩ := h
  exact ⟨v, by rw [row_blk h1]; rfl, by simp [World.frozen?, h1], h2⟩
theorem Cu.far {W wr : World} {g : Nat} {l : List VT} (h : Cu W wr g l) {r : Nat} (hr : r ≠ g) (hW : W.heap.size ≤ r) (j : Nat) (x : Value) : Cu W (wr.setCell ⟨r, j, none⟩ x) g l := by
  obtain ⟨v, h1, h2, h3, h4⟩ := h
  exact ⟨v, (Below.heap_setCell _ _ _ _ (Ne.symm hr)).trans h1, h2, h3, h4.setCell hW _⟩
theorem mod_far {w w' : World} {b r : Nat} (h : w.grownBy w' (some b)) (hr : w.heap.size ≤ r) (i : Nat) (x : Value) : w.grownBy (w'.setCell ⟨r, i, none⟩ x) (some b) :=
  ⟨h.os, h.tape, h.output, by simpa using h.size, fun k hk hb => (Below.heap_setCell _ _ _ _ (by simp; omega)).trans (h.block k hk hb)⟩
theorem grownBy_setC (w : World) (g j : Nat) (u : Value) : w.grownBy (w.setCell ⟨g, j, none⟩ u) (some g) := by
  refine ⟨rfl, rfl, rfl, by simp [World.setCell], fun k hk hne => ?_⟩
  have : g ≠ k := fun h => hne (by rw [h])
  simp [World.setCell, Array.getElem?_modify, this]
def V0 : Obj := .cells #[.int .i64 0, .string ⟨#[]⟩, .int .i64 0, .int .i64 0, .bool false, .bool false, .slice none 0 0] 80
theorem two_blks {wr w1 w2 : World} {cs : Array Value} {T : TypeId} (hw2 : w2 = w1.alloc (.cells cs T)) (P0 : w1.heap[wr.heap.size]? = some V0) (B0 : Below wr.heap.size wr w1) : w2.heap[wr.heap.size]? = some V0 ∧ w2.heap[w1.heap.size]? = some (.cells cs T) ∧ Below wr.heap.size wr w2 ∧ wr.heap.size < w1.heap.size := by
  subst hw2
  have hlt := (Array.getElem?_eq_some_iff.1 P0).1
  exact ⟨(Below.heap_alloc w1 _ _ hlt).trans P0, heap_alloc_new w1 _, bplus B0 _, hlt⟩
set_option maxRecDepth 100000 in
set_option maxHeartbeats 2000000 in
theorem take9_cons (W wr : World) (g : Nat) (t : TS) (ks r : List VT) (h : Cu W wr g (.mk t ks :: r)) : Calls Tryz.prog 48 #[.pointer (some ⟨g, 0, none⟩)] wr fun e w' => ∃ a n c, e = .returned (.agg #[.int .i64 t.k, .string t.s, .int .i64 t.n, .int .i64 t.d, .bool t.i, .bool t.h, .slice a n c]) ∧ VM W (.slice a n c) ks ∧ Cu W w' g r ∧ wr.grownBy w' (some g) := by
  have hg := h.lt
  have CN := hide (fun (W' : World) (hb : Below wr.heap.size wr W') => next9_cons W W' g t ks r (h.low hb))
  have CD := hide (fun (W' : World) (hb : Below wr.heap.size wr W') => done9_any W W' g _ (h.low hb))
  have B0 := hide (bplus (Below.refl wr.heap.size wr) V0)
  have P0 := hide (show (wr.alloc V0).heap[wr.heap.size]? = some V0 from heap_alloc_new wr _)
  have HC := hide h
  obtain ⟨v, hv1, _, h2⟩ := h.cell
  obtain ⟨b, o, c, hv, hc, hc9, hr9, ht⟩ := h2.tail
  rw [hv] at hv1
  have HG := hide (fun (w2 : World) (hb : Below wr.heap.size wr w2) => show w2.cell? ⟨g, 0, none⟩ = some (.slice (some ⟨b, o, none⟩) (r.length + 1) c) ∧ w2.frozen? ⟨g, 0, none⟩ = false by
    obtain ⟨v', k1, k2, _⟩ := (HC.out.low hb).cell
    exact ⟨(hb.cell (p := ⟨g, 0, none⟩) hg).trans hv1, k2⟩)
  have FIN := hide (fun (w2 : World) (hb : Below wr.heap.size wr w2) (a : Option Addr) (ha : 0 < r.length → a = some ⟨b, o + 7, none⟩) (vs : List Value) =>
    show Cu W ((w2.setCell ⟨g, 0, none⟩ (.slice a r.length (c - 1))).setCells wr.heap.size 0 vs) g r ∧ wr.grownBy ((w2.setCell ⟨g, 0, none⟩ (.slice a r.length (c - 1))).setCells wr.heap.size 0 vs) (some g) by
      have V : VM W (.slice a r.length (c - 1)) r := by
        by_cases hr : r = []
        · subst hr; exact .nil _ _
        · rw [ha (List.length_pos_iff.2 hr)]; exact ht
      have C2 := (HC.out.low hb).put V
      have G := setCells_grown wr.heap.size vs 0 (w2.setCell ⟨g, 0, none⟩ (.slice a r.length (c - 1)))
      have hne : some g ≠ some wr.heap.size := by intro e; cases e; omega
      obtain ⟨v3, q1, q2, q3, q4⟩ := C2
      refine ⟨⟨v3, (G.block g (Array.getElem?_eq_some_iff.1 q1).1 hne).trans q1, q2, q3, q4.grown G q4.size (fun k hk => by cases hk; obtain ⟨_, _, _, _, B⟩ := HC.out; exact B.size)⟩, ?_⟩
      have G1 := grownBy_setC w2 g 0 (.slice a r.length (c - 1))
      refine ⟨G.os.trans (G1.os.trans hb.os), G.tape.trans (G1.tape.trans hb.tape), G.output.trans (G1.output.trans hb.output), Nat.le_trans hb.size (Nat.le_trans G1.size G.size), fun k hk hne2 => ?_⟩
      have k2 : k < w2.heap.size := Nat.lt_of_lt_of_le hk hb.size
      exact (G.block k (Nat.lt_of_lt_of_le k2 G1.size) (by intro e; cases e; omega)).trans ((G1.block k k2 hne2).trans (hb.block k hk)))
  have hr1 : (1 : Int) ≤ (r.length : Int) + 1 := by omega
  generalize r.length = m at HG FIN hr1 hc hr9
  clear h h2 ht hv hv1
  go_enter Tryz.func48, Tryz.ntmps48
  go_upto_region 4 with (first
    | (go_at_call 63; refine (CN.out _ B0.out).mono ?_; rintro e w1 ⟨ka, kn, kc, rfl, VK, B1⟩; replace VK := hide VK; replace P0 := hide ((B1.block _ (Array.getElem?_eq_some_iff.1 P0.out).1).trans P0.out); replace B0 := hide (bto B0.out B1); clear B1)
    | (go_at_call 47; refine (CD.out _ (bplus B0.out _)).mono ?_; rintro e w2 ⟨rfl, hw2⟩; obtain ⟨R0, R1, B2, hlt⟩ := two_blks hw2 P0.out B0.out; obtain ⟨k1, k2⟩ := HG.out w2 B2; replace B2 := hide B2; clear hw2 P0 B0 HG))
  have hAD : 0 < m → (if c = 1 then some (⟨b, o, none⟩ : Addr) else some ⟨b, o + 7, none⟩) = some ⟨b, o + 7, none⟩ := fun hm => by rw [if_neg (by omega)]
  generalize (if c = 1 then some (⟨b, o, none⟩ : Addr) else some ⟨b, o + 7, none⟩) = ad at hAD ⊢
  have FF := hide (FIN.out w2 B2.out ad hAD [.int .i64 t.k, .string t.s, .int .i64 t.n, .int .i64 t.d, .bool t.i, .bool t.h, .slice ka kn kc])
  have Q0 := (Below.heap_setCell w2 ⟨g, 0, none⟩ (.slice ad m (c - 1)) wr.heap.size (by show wr.heap.size ≠ g; omega)).trans R0
  have Q1 := (Below.heap_setCell w2 ⟨g, 0, none⟩ (.slice ad m (c - 1)) w1.heap.size (by show w1.heap.size ≠ g; omega)).trans R1
  clear FIN R0 R1 B2 k1 k2 CN CD HC
  generalize w2.setCell ⟨g, 0, none⟩ (.slice ad m (c - 1)) = wx at FF Q0 Q1 ⊢
  refine wp_region_list ?_
  refine wpList_load_mid rfl 80 (.tmp 3) rfl w1.heap.size 0 rfl [.int .i64 t.k, .string t.s, .int .i64 t.n, .int .i64 t.d, .bool t.i, .bool t.h, .slice ka kn kc] _ (range_blk Q1) Tryz.underlying80 rfl (by kernel_rfl) ?_
  refine wpList_store_mid rfl 80 (.tmp 2) (.tmp 17) rfl wr.heap.size 0 #[.int .i64 t.k, .string t.s, .int .i64 t.n, .int .i64 t.d, .bool t.i, .bool t.h, .slice ka kn kc] rfl rfl (there_blk Q0 rfl) (by kernel_rfl) (by simp [Value.oneCell']) ?_
  go_wp2_with fail
  refine ret_cell (b := wr.heap.size) (cs := [.int .i64 t.k, .string t.s, .int .i64 t.n, .int .i64 t.d, .bool t.i, .bool t.h, .slice ka kn kc]) Tryz.results48 rfl (World.rangeAt_setCells_same _ _ _ _ (there_blk Q0 rfl)) Tryz.underlying80 rfl (by kernel_rfl) rfl ?_
  exact ⟨ka, kn, kc, rfl, VK.out, FF.out.1, FF.out.2⟩
end Go.Proofs.YtmkbjcoagfnegaaGreatDoor
set_option linter.unusedVariables false
set_option linter.unusedSimpArgs false
namespace Go.Proofs.YtmkbjcoagfnegaaGreatDoor
open Go.RowKit

theorem fldV (u0 u1 u2 u3 u4 u5 u6 : Value) (w : World) : (Instr.field 80 (.agg #[u0, u1, u2, u3, u4, u5, u6]) 0).run Tryz.prog w = .ok (.agg #[u0, u1, u2, u3, u4, u5]) w := by kernel_rfl
theorem fldT (u0 u1 u2 u3 u4 u5 : Value) (w : World) : (Instr.field 73 (.agg #[u0, u1, u2, u3, u4, u5]) 0).run Tryz.prog w = .ok u0 w := by kernel_rfl
def sp9 (v : VT) : Bool := v.t.k == 13
def spL (l : List VT) : List VT := l.dropWhile sp9
theorem spL_yes {t : TS} {ks r : List VT} (h : t.k = 13) : spL (.mk t ks :: r) = spL r := List.dropWhile_cons_of_pos (by show (t.k == 13) = true; simpa using h)
theorem spL_no {t : TS} {ks r : List VT} (h : ¬ t.k = 13) : spL (.mk t ks :: r) = .mk t ks :: r := List.dropWhile_cons_of_neg (by show ¬ (t.k == 13) = true; simpa using h)
theorem Cu.mod {W wr w1 : World} {g : Nat} {l : List VT} (h : Cu W wr g l) (hb : Below wr.heap.size wr w1) : Cu W w1 g l ∧ wr.grownBy w1 (some g) := ⟨h.low hb, Mod.of g hb⟩
def RelSp9 (W w0 : World) (g : Nat) (l : List VT) (m : Nat) (b : Value) (wr : World) : Prop := ∃ q, Cu W wr g q ∧ w0.grownBy wr (some g) ∧ q.length ≤ m ∧ q.length ≤ l.length ∧ Hid (spL l = spL q) ∧ b = .bool (decide (q.length < l.length))
theorem RelSp9.mk {W w0 : World} {g : Nat} {l : List VT} {m : Nat} {b : Value} {wr : World} (q : List VT) (h1 : Cu W wr g q) (h2 : w0.grownBy wr (some g)) (h3 : q.length ≤ m) (h4 : q.length ≤ l.length) (h5 : spL l = spL q) (h6 : b = .bool (decide (q.length < l.length))) : RelSp9 W w0 g l m b wr := ⟨q, h1, h2, h3, h4, h5, h6⟩
set_option maxRecDepth 100000 in
set_option maxHeartbeats 2000000 in
theorem spaces9_any (W w0 : World) (g : Nat) (l : List VT) (h : Cu W w0 g l) : Calls Tryz.prog 45 #[.pointer (some ⟨g, 0, none⟩)] w0 fun e w' => e = .returned (.bool (decide ((spL l).length < l.length))) ∧ Cu W w' g (spL l) ∧ w0.grownBy w' (some g) := by
  have HC := hide h
  have q1 := fun (u0 u1 u2 u3 u4 u5 u6 : Value) (w : World) => fldV u0 u1 u2 u3 u4 u5 u6 w
  have q2 := fun (u0 u1 u2 u3 u4 u5 : Value) (w : World) => fldT u0 u1 u2 u3 u4 u5 w
  clear h
  go_enter Tryz.func45, Tryz.ntmps45
  go_wp2
  go_loopg [3] l.length (fun m b wr => RelSp9 W w0 g l m b wr)
  case atStart => exact .mk l HC.out (Mod.refl _ _) (Nat.le_refl _) (Nat.le_refl _) rfl (by simp)
  case round =>
    clear HC
    obtain ⟨q, CU, MO, hm, hl, R, hb⟩ := hrel
    subst hb
    cases q with
    | nil =>
      have E := hide (show spL l = [] by rw [R.out]; rfl)
      have CN := hide (next9_nil W wr g CU)
      have HC := hide CU
      have HM := hide MO
      clear R CU MO
      go_wp2_with (go_at_call 63; refine CN.out.mono ?_; rintro e w1 ⟨rfl, B1⟩; replace HC := hide (HC.out.low B1); replace HM := hide (Mod.trans HM.out (Mod.of g B1)); clear B1)
      go_ret
      exact ⟨ret_bool (by rw [E.out]; first | rfl | (simp; done)), by rw [E.out]; exact HC.out, HM.out⟩
    | cons x r =>
      obtain ⟨t, ks⟩ := x
      have CN := hide (next9_cons W wr g t ks r CU)
      have HC := hide CU
      have HM := hide MO
      clear CU MO
      by_cases hk : t.k = 13
      · have E := hide (show spL l = spL r by rw [R.out, spL_yes hk])
        simp only [List.length_cons] at hm hl
        have CT := hide (fun (w1 : World) (h : Cu W w1 g (.mk t ks :: r)) => take9_cons W w1 g t ks r h)
        rw [hk] at CN
        clear R hk
        go_wp2_with (first
          | (go_at_call 63; refine CN.out.mono ?_; rintro e w1 ⟨ka, kn, kc, rfl, -, B1⟩; replace HC := hide (HC.out.low B1); replace HM := hide (Mod.trans HM.out (Mod.of g B1)); clear B1)
          | (go_at_call 48; refine (CT.out _ HC.out).mono ?_; rintro e w2 ⟨ka2, kn2, kc2, rfl, -, C2, M2⟩; replace HC := hide C2; replace HM := hide (Mod.trans HM.out M2); clear C2 M2))
        go_roundg (gk - 1)
        case measure => omega
        case rel => exact .mk r HC.out HM.out (by omega) (by omega) E.out (by rw [show decide (r.length < l.length) = true by simp; omega])
      · have E := hide (show spL l = .mk t ks :: r by rw [R.out, spL_no hk])
        have h1 : (t.k == 13) = false := by simpa using hk
        clear R
        go_wp2_with (go_at_call 63; refine CN.out.mono ?_; rintro e w1 ⟨ka, kn, kc, rfl, -, B1⟩; replace HC := hide (HC.out.low B1); replace HM := hide (Mod.trans HM.out (Mod.of g B1)); clear B1)
        go_ret
        exact ⟨ret_bool (by rw [E.out]; first | rfl | (simp; done)), by rw [E.out]; exact HC.out, HM.out⟩
/-- The character that is asked for stands there. -/
theorem delim9_yes (W w0 : World) (g : Nat) (s : ByteArray) (n d : Int) (i h' : Bool) (ks r : List VT) (h : Cu W w0 g (.mk ⟨9, s, n, d, i, h'⟩ ks :: r)) : Calls Tryz.prog 95 #[.pointer (some ⟨g, 0, none⟩), .string s] w0 fun e w' => e = .returned (.bool true) ∧ Cu W w' g r ∧ w0.grownBy w' (some g) := by
  have HC := hide h
  have q1 := fun (u0 u1 u2 u3 u4 u5 u6 : Value) (w : World) => fldV u0 u1 u2 u3 u4 u5 u6 w
  have CN := hide (next9_cons W w0 g _ ks r h)
  have CT := hide (fun (w1 : World) (h : Cu W w1 g (.mk ⟨9, s, n, d, i, h'⟩ ks :: r)) => take9_cons W w1 g _ ks r h)
  have HM := hide (Mod.refl w0 g)
  clear h
  simp only at CN CT
  go_enter Tryz.func95, Tryz.ntmps95
  go_wp2_with (first
    | (go_at_call 63; refine CN.out.mono ?_; rintro e w1 ⟨ka, kn, kc, rfl, -, B1⟩; replace HC := hide (HC.out.low (bplus B1 (.cells #[.int .i64 9, .string s, .int .i64 n, .int .i64 d, .bool i, .bool h'] 73))); replace HM := hide (Mod.trans HM.out (Mod.of g (bplus B1 (.cells #[.int .i64 9, .string s, .int .i64 n, .int .i64 d, .bool i, .bool h'] 73)))); clear B1)
    | (go_at_call 48; refine (CT.out _ HC.out).mono ?_; rintro e w2 ⟨ka2, kn2, kc2, rfl, -, C2, M2⟩; replace HC := hide C2; replace HM := hide (Mod.trans HM.out M2); clear C2 M2))
  go_ret
  exact ⟨rfl, HC.out, HM.out⟩
/-- A point is no star. -/
theorem delim9_star (W w0 : World) (g : Nat) (n d : Int) (i h' : Bool) (ks r : List VT) (h : Cu W w0 g (.mk ⟨9, ⟨#[46]⟩, n, d, i, h'⟩ ks :: r)) : Calls Tryz.prog 95 #[.pointer (some ⟨g, 0, none⟩), .string ⟨#[42]⟩] w0 fun e w' => e = .returned (.bool false) ∧ Below w0.heap.size w0 w' := by
  have q1 := fun (u0 u1 u2 u3 u4 u5 u6 : Value) (w : World) => fldV u0 u1 u2 u3 u4 u5 u6 w
  have CN := hide (next9_cons W w0 g _ ks r h)
  clear h
  simp only at CN
  go_enter Tryz.func95, Tryz.ntmps95
  go_wp2_with (go_at_call 63; refine CN.out.mono ?_; rintro e w1 ⟨ka, kn, kc, rfl, -, B1⟩; replace B1 := hide B1)
  go_ret
  exact ⟨rfl, bplus B1.out _⟩
theorem begins9_dot (n d : Int) (i h' : Bool) (w : World) : Calls Tryz.prog 96 #[.agg #[.int .i64 9, .string ⟨#[46]⟩, .int .i64 n, .int .i64 d, .bool i, .bool h']] w fun e w' => e = .returned (.bool true) ∧ Below w.heap.size w w' := by
  go_enter Tryz.func96, Tryz.ntmps96
  go_wp2
  go_ret
  exact ⟨rfl, bplus (Below.refl _ _) _⟩
theorem begins9_no (k : Int) (s : ByteArray) (n d : Int) (i h' : Bool) (w : World) (hk : k = 0 ∨ k = 13) : Calls Tryz.prog 96 #[.agg #[.int .i64 k, .string s, .int .i64 n, .int .i64 d, .bool i, .bool h']] w fun e w' => e = .returned (.bool false) ∧ Below w.heap.size w w' := by
  rcases hk with rfl | rfl
  all_goals
    go_enter Tryz.func96, Tryz.ntmps96
    go_wp2
    go_ret
    exact ⟨rfl, bplus (Below.refl _ _) _⟩
def S0 : Obj := .cells #[.int .i64 0, .string ⟨#[]⟩, .int .i64 0, .string ⟨#[]⟩, .bool false, .slice none 0 0, .int .i64 0, .int .i64 0] 69
end Go.Proofs.YtmkbjcoagfnegaaGreatDoor
set_option linter.unusedVariables false
set_option linter.unusedSimpArgs false
namespace Go.Proofs.YtmkbjcoagfnegaaGreatDoor
open Go.RowKit

theorem set_far9 {w : World} {a b i j : Nat} {v : Value} (h : b ≠ a) : (w.setCell ⟨a, i, none⟩ v).cell? ⟨b, j, none⟩ = w.cell? ⟨b, j, none⟩ := World.cell?_of_block (w := w) (Below.heap_setCell w ⟨a, i, none⟩ v b h)
theorem bxk_8' {w : World} {b : Nat} {u0 u1 u2 u3 u4 u5 u6 u7 : Value} {T : TypeId} (h : w.heap[b]? = some (.cells #[u0, u1, u2, u3, u4, u5, u6, u7] T)) : w.cell? ⟨b, 0, none⟩ = some u0 ∧ w.cell? ⟨b, 1, none⟩ = some u1 ∧ w.cell? ⟨b, 2, none⟩ = some u2 ∧ w.cell? ⟨b, 3, none⟩ = some u3 ∧ w.cell? ⟨b, 4, none⟩ = some u4 ∧ w.cell? ⟨b, 5, none⟩ = some u5 ∧ w.cell? ⟨b, 6, none⟩ = some u6 ∧ w.cell? ⟨b, 7, none⟩ = some u7 :=
  ⟨by rw [row_blk h]; rfl, by rw [row_blk h]; rfl, by rw [row_blk h]; rfl, by rw [row_blk h]; rfl, by rw [row_blk h]; rfl, by rw [row_blk h]; rfl, by rw [row_blk h]; rfl, by rw [row_blk h]; rfl⟩
set_option maxRecDepth 100000 in
set_option maxHeartbeats 20000000 in
theorem named9_any (kd k : Int) (s : ByteArray) (n d : Int) (i h' : Bool) (w : World) (hs : s.size ≤ 140737488355328) (hK : KT w) (hT : Tabs w) : Calls Tryz.prog 94 #[.int .i64 kd, .agg #[.int .i64 k, .string s, .int .i64 n, .int .i64 d, .bool i, .bool h']] w fun e w' => e = .returned (.tuple #[.agg #[.int .i64 kd, .string s, .int .i64 0, .string ⟨#[]⟩, .bool false, .slice none 0 0, .int .i64 0, .int .i64 0], .bool (nmS9 s)]) ∧ Below w.heap.size w w' := by
  have C := hide (fun (W : World) (h : Below w.heap.size w W) => isName9_any s W hs (hK.below h) (hT.below h))
  clear hK hT
  obtain ⟨W1, hW1⟩ : ∃ W1, (w.alloc (.cells #[.int .i64 k, .string s, .int .i64 n, .int .i64 d, .bool i, .bool h'] 73)).alloc S0 = W1 := ⟨_, rfl⟩
  have HW1 := hide hW1
  have B0 := hide (show Below w.heap.size w W1 by rw [← hW1]; exact bplus (bplus (Below.refl _ _) _) _)
  have sz : W1.heap.size = w.heap.size + 2 := by rw [← hW1]; simp
  have P0 := hide (show W1.heap[w.heap.size]? = some (.cells #[.int .i64 k, .string s, .int .i64 n, .int .i64 d, .bool i, .bool h'] 73) by rw [← hW1]; exact (Below.heap_alloc _ _ _ (by simp)).trans (heap_alloc_new w _))
  have P1 := hide (show W1.heap[w.heap.size + 1]? = some S0 by rw [← hW1]; have := heap_alloc_new (w.alloc (.cells #[.int .i64 k, .string s, .int .i64 n, .int .i64 d, .bool i, .bool h'] 73)) S0; simpa using this)
  clear hW1
  unfold S0 at HW1
  have KP := hide (fun (W : World) (h : Below W1.heap.size W1 W) => show W.cell? ⟨w.heap.size, 1, none⟩ = some (.string s) by rw [row_blk ((h.block _ (by omega)).trans P0.out)]; rfl)
  have KS := hide (fun (W : World) (hc : W.cell? ⟨w.heap.size, 1, none⟩ = some (.string s)) (v0 v1 v2 v3 v4 v5 v6 v7 : Value) => show ((((((((W.setCell ⟨w.heap.size + 1, 0, none⟩ v0).setCell ⟨w.heap.size + 1, 1, none⟩ v1).setCell ⟨w.heap.size + 1, 2, none⟩ v2).setCell ⟨w.heap.size + 1, 3, none⟩ v3).setCell ⟨w.heap.size + 1, 4, none⟩ v4).setCell ⟨w.heap.size + 1, 5, none⟩ v5).setCell ⟨w.heap.size + 1, 6, none⟩ v6).setCell ⟨w.heap.size + 1, 7, none⟩ v7).cell? ⟨w.heap.size, 1, none⟩ = some (.string s) by rw [set_far9 (by omega), set_far9 (by omega), set_far9 (by omega), set_far9 (by omega), set_far9 (by omega), set_far9 (by omega), set_far9 (by omega), set_far9 (by omega)]; exact hc)
  have RG := hide (fun (W : World) (h : Below W1.heap.size W1 W) (vs : List Value) (hl : vs.length = 8) => show (W.setCells (w.heap.size + 1) 0 vs).rangeAt (w.heap.size + 1) 0 vs ∧ Below w.heap.size w (W.setCells (w.heap.size + 1) 0 vs) from
    ⟨World.rangeAt_setCells_same _ _ _ _ (by rw [hl]; exact there_blk ((h.block _ (by omega)).trans P1.out) rfl), (B0.out.trans (h.mono (by omega))).grown (setCells_grown _ _ _ _) (by have := h.size; omega) (fun k hk => by cases hk; omega)⟩)
  have RG8 := hide (fun (W : World) (h : Below W1.heap.size W1 W) => show ((((((((W.setCell ⟨w.heap.size + 1, 0, none⟩ (.int .i64 kd)).setCell ⟨w.heap.size + 1, 1, none⟩ (.string s)).setCell ⟨w.heap.size + 1, 2, none⟩ (.int .i64 0)).setCell ⟨w.heap.size + 1, 3, none⟩ (.string ⟨#[]⟩)).setCell ⟨w.heap.size + 1, 4, none⟩ (.bool false)).setCell ⟨w.heap.size + 1, 5, none⟩ (.slice none 0 0)).setCell ⟨w.heap.size + 1, 6, none⟩ (.int .i64 0)).setCell ⟨w.heap.size + 1, 7, none⟩ (.int .i64 0)).rangeAt (w.heap.size + 1) 0 [.int .i64 kd, .string s, .int .i64 0, .string ⟨#[]⟩, .bool false, .slice none 0 0, .int .i64 0, .int .i64 0] ∧ Below w.heap.size w ((((((((W.setCell ⟨w.heap.size + 1, 0, none⟩ (.int .i64 kd)).setCell ⟨w.heap.size + 1, 1, none⟩ (.string s)).setCell ⟨w.heap.size + 1, 2, none⟩ (.int .i64 0)).setCell ⟨w.heap.size + 1, 3, none⟩ (.string ⟨#[]⟩)).setCell ⟨w.heap.size + 1, 4, none⟩ (.bool false)).setCell ⟨w.heap.size + 1, 5, none⟩ (.slice none 0 0)).setCell ⟨w.heap.size + 1, 6, none⟩ (.int .i64 0)).setCell ⟨w.heap.size + 1, 7, none⟩ (.int .i64 0)) from RG.out W h [.int .i64 kd, .string s, .int .i64 0, .string ⟨#[]⟩, .bool false, .slice none 0 0, .int .i64 0, .int .i64 0] rfl)
  clear RG
  go_enter Tryz.func94, Tryz.ntmps94
  go_upto_region 1 with fail
  rw [HW1.out]
  clear HW1
  have k0 : W1.drew.cell? ⟨w.heap.size, 1, none⟩ = some (.string s) := KP.out W1 (Below.refl _ _)
  go_region_held3 (fun w' => w'.cell? ⟨w.heap.size, 1, none⟩ = some (.string s))
    (first | (with_reducible refine KS.out _ ?_ _ _ _ _ _ _ _ _; with_reducible exact KK) | (with_reducible exact KK) | (exact k0))
    (first | (go_at_call 128; refine (C.out W1.drew B0.out.drew).mono ?_; rintro e w1 ⟨rfl, B1⟩; have BB : Below W1.heap.size W1 w1 := (Below.refl W1.heap.size W1).drew.trans B1; have KK := KP.out w1 BB; have P2 := (BB.block _ (by omega)).trans P1.out; unfold S0 at P2; obtain ⟨a0, a1, a2, a3, a4, a5, a6, a7⟩ := bxk_8' P2; have z0 := fz_of P2 0; have z1 := fz_of P2 1; have z2 := fz_of P2 2; have z3 := fz_of P2 3; have z4 := fz_of P2 4; have z5 := fz_of P2 5; have z6 := fz_of P2 6; have z7 := fz_of P2 7; have RR := hide (RG8.out w1 BB); clear B1 BB P2))
  all_goals
    go_wp2_with fail
    refine ret_cell2 (b := w.heap.size + 1) (cs := [.int .i64 kd, .string s, .int .i64 0, .string ⟨#[]⟩, .bool false, .slice none 0 0, .int .i64 0, .int .i64 0]) (v := .bool (nmS9 s)) Tryz.results94 rfl rfl RR.out.1 Tryz.underlying69 rfl (by kernel_rfl) rfl ?_
    exact ⟨rfl, RR.out.2⟩
end Go.Proofs.YtmkbjcoagfnegaaGreatDoor
set_option linter.unusedVariables false
set_option linter.unusedSimpArgs false
namespace Go.Proofs.YtmkbjcoagfnegaaGreatDoor
open Go.RowKit

theorem cell_drew9 (w : World) (a : Addr) : w.drew.cell? a = w.cell? a := rfl
theorem range_drew9 {w : World} {b o : Nat} {cs : List Value} (h : w.rangeAt b o cs) : w.drew.rangeAt b o cs := fun j v hv => h j v hv
theorem gb_drew9 {w0 w : World} {r : Option Nat} (h : w0.grownBy w r) : w0.grownBy w.drew r := ⟨h.os, h.tape, h.output, h.size, h.block⟩
theorem keepM {w w1 : World} {b r : Nat} {o : Obj} (h : w.heap[r]? = some o) (hr : r ≠ b) (m : w.grownBy w1 (some b)) : w1.heap[r]? = some o :=
  (m.block r (Array.getElem?_eq_some_iff.1 h).1 (by intro e; cases e; exact hr rfl)).trans h
set_option maxRecDepth 100000 in
set_option maxHeartbeats 8000000 in
theorem simple9_class (W w0 : World) (g : Nat) (n1 d1 : Int) (i1 e1 : Bool) (k1 : List VT) (s : ByteArray) (n2 d2 : Int) (i2 e2 : Bool) (k2 r : List VT) (ma mb : Value) (hm1 : ma.oneCell' = true) (hm2 : mb.oneCell' = true)
    (h : Cu W w0 g (.mk ⟨9, ⟨#[46]⟩, n1, d1, i1, e1⟩ k1 :: .mk ⟨1, s, n2, d2, i2, e2⟩ k2 :: r)) (hs : s.size ≤ 1048576) (hn : nmS9 s = true) (hK : KT w0) (hT : Tabs w0)
    (hKT : ∀ w', w0.grownBy w' (some g) → KT w' ∧ Tabs w') :
    Calls Tryz.prog 97 #[.agg #[ma, mb], .pointer (some ⟨g, 0, none⟩)] w0 fun e w' => e = .returned (.tuple #[.agg #[.int .i64 3, .string s, .int .i64 0, .string ⟨#[]⟩, .bool false, .slice none 0 0, .int .i64 0, .int .i64 0], .bool true]) ∧ Cu W w' g r ∧ w0.grownBy w' (some g) := by
  have hg := h.lt
  have gw : W.heap.size ≤ w0.heap.size := by obtain ⟨_, _, _, _, B⟩ := h; exact B.size
  have q1 := fun (u0 u1 u2 u3 u4 u5 u6 : Value) (w : World) => fldV u0 u1 u2 u3 u4 u5 u6 w
  obtain ⟨Wa, hWa⟩ : ∃ Wa, (w0.alloc (.cells #[ma, mb] 55)).alloc S0 = Wa := ⟨_, rfl⟩
  have HWa := hide hWa
  have Ba := (show Below w0.heap.size w0 Wa by rw [← hWa]; exact bplus (bplus (Below.refl _ _) _) _)
  have sz : Wa.heap.size = w0.heap.size + 2 := by rw [← hWa]; simp
  have PR := hide (show Wa.heap[w0.heap.size + 1]? = some S0 by rw [← hWa]; have := heap_alloc_new (w0.alloc (.cells #[ma, mb] 55)) S0; simpa using this)
  clear hWa
  unfold S0 at HWa
  have HC := hide (h.low Ba)
  have HM := hide (Mod.of g Ba)
  clear h Ba
  have C1 := hide (fun (w1 : World) (h : Cu W w1 g (.mk ⟨9, ⟨#[46]⟩, n1, d1, i1, e1⟩ k1 :: .mk ⟨1, s, n2, d2, i2, e2⟩ k2 :: r)) => take9_cons W w1 g _ k1 _ h)
  have C2 := hide (fun (w1 : World) (h : Cu W w1 g (.mk ⟨1, s, n2, d2, i2, e2⟩ k2 :: r)) => take9_cons W w1 g _ k2 r h)
  have C3 := hide (fun (w1 : World) (h : w0.grownBy w1 (some g)) => named9_any 3 1 s n2 d2 i2 e2 w1 (by omega) (hKT w1 h).1 (hKT w1 h).2)
  rw [hn] at C3
  simp only at C1 C2
  clear hK hT hKT hn
  go_enter Tryz.func97, Tryz.ntmps97
  go_upto_region 1 with fail
  rw [HWa.out]
  clear HWa
  have nRg : w0.heap.size + 1 ≠ g := by omega
  go_upto_region 12 with (first
    | (go_at_call 48; refine (C1.out _ HC.out).mono ?_; rintro e w1 ⟨ka, kn, kc, rfl, -, D1, M1⟩; replace PR := hide (keepM PR.out nRg M1); replace HC := hide (D1.low (bplus (Below.refl _ _) (.cells #[.int .i64 9, .string ⟨#[46]⟩, .int .i64 n1, .int .i64 d1, .bool i1, .bool e1, .slice ka kn kc] 80))); replace HM := hide (Mod.trans (Mod.trans HM.out M1) (Mod.of g (bplus (Below.refl _ _) (.cells #[.int .i64 9, .string ⟨#[46]⟩, .int .i64 n1, .int .i64 d1, .bool i1, .bool e1, .slice ka kn kc] 80)))); replace PR := hide ((Below.heap_alloc w1 (.cells #[.int .i64 9, .string ⟨#[46]⟩, .int .i64 n1, .int .i64 d1, .bool i1, .bool e1, .slice ka kn kc] 80) _ (Array.getElem?_eq_some_iff.1 PR.out).1).trans PR.out); clear D1 M1 C1)
    | (go_at_call 48; refine (C2.out _ HC.out).mono ?_; rintro e w2 ⟨kb, kl, kd, rfl, -, D2, M2⟩; replace PR := hide (keepM PR.out nRg M2); have P9 := hide (heap_alloc_new w2 (.cells #[.int .i64 1, .string s, .int .i64 n2, .int .i64 d2, .bool i2, .bool e2] 73)); replace HC := hide (D2.low (bplus (Below.refl _ _) (.cells #[.int .i64 1, .string s, .int .i64 n2, .int .i64 d2, .bool i2, .bool e2] 73))); replace HM := hide (Mod.trans (Mod.trans HM.out M2) (Mod.of g (bplus (Below.refl _ _) (.cells #[.int .i64 1, .string s, .int .i64 n2, .int .i64 d2, .bool i2, .bool e2] 73)))); replace PR := hide ((Below.heap_alloc w2 (.cells #[.int .i64 1, .string s, .int .i64 n2, .int .i64 d2, .bool i2, .bool e2] 73) _ (Array.getElem?_eq_some_iff.1 PR.out).1).trans PR.out); clear D2 M2 C2)
    | (go_at_call 94; refine (C3.out _ HM.out).mono ?_; rintro e w3 ⟨rfl, B3⟩; replace PR := hide ((B3.block _ (Array.getElem?_eq_some_iff.1 PR.out).1).trans PR.out); replace P9 := hide ((B3.block _ (Array.getElem?_eq_some_iff.1 P9.out).1).trans P9.out); replace HC := hide (HC.out.low B3); replace HM := hide (Mod.trans HM.out (Mod.of g B3)); clear B3 C3))
  have PB := hide (heap_alloc_new w3 (.cells #[.int .i64 3, .string s, .int .i64 0, .string ⟨#[]⟩, .bool false, .slice none 0 0, .int .i64 0, .int .i64 0] 69))
  replace PR := hide ((Below.heap_alloc w3 (.cells #[.int .i64 3, .string s, .int .i64 0, .string ⟨#[]⟩, .bool false, .slice none 0 0, .int .i64 0, .int .i64 0] 69) _ (Array.getElem?_eq_some_iff.1 PR.out).1).trans PR.out)
  have l9 := (Array.getElem?_eq_some_iff.1 P9.out).1
  replace P9 := hide ((Below.heap_alloc w3 (.cells #[.int .i64 3, .string s, .int .i64 0, .string ⟨#[]⟩, .bool false, .slice none 0 0, .int .i64 0, .int .i64 0] 69) _ l9).trans P9.out)
  replace HC := hide (HC.out.low (bplus (Below.refl _ _) (.cells #[.int .i64 3, .string s, .int .i64 0, .string ⟨#[]⟩, .bool false, .slice none 0 0, .int .i64 0, .int .i64 0] 69)))
  replace HM := hide (Mod.trans HM.out (Mod.of g (bplus (Below.refl _ _) (.cells #[.int .i64 3, .string s, .int .i64 0, .string ⟨#[]⟩, .bool false, .slice none 0 0, .int .i64 0, .int .i64 0] 69))))
  have lR := (Array.getElem?_eq_some_iff.1 PR.out).1
  have n2' : w2.heap.size ≠ w0.heap.size + 1 := fun e => by
    have h1 := P9.out
    rw [e] at h1
    have h2 := h1.symm.trans PR.out
    unfold S0 at h2
    simp at h2
  have n3' : w3.heap.size ≠ w0.heap.size + 1 := fun e => by
    have h1 := PB.out
    rw [e] at h1
    have h2 := h1.symm.trans PR.out
    unfold S0 at h2
    simp at h2
  generalize w3.alloc (.cells #[.int .i64 3, .string s, .int .i64 0, .string ⟨#[]⟩, .bool false, .slice none 0 0, .int .i64 0, .int .i64 0] 69) = Wb at PB PR P9 HC HM lR ⊢
  generalize w3.heap.size = bb at PB n3' ⊢
  have P2 := PR.out
  unfold S0 at P2
  obtain ⟨a0, a1, a2, a3, a4, a5, a6, a7⟩ := bxk_8' P2
  have z0 := fz_of P2 0
  have z1 := fz_of P2 1
  have z2 := fz_of P2 2
  have z3 := fz_of P2 3
  have z4 := fz_of P2 4
  have z5 := fz_of P2 5
  have z6 := fz_of P2 6
  have z7 := fz_of P2 7
  have KK : Wb.cell? ⟨w2.heap.size, 0, none⟩ = some (.int .i64 1) ∧ Wb.cell? ⟨bb, 0, none⟩ = some (.int .i64 3) ∧ Wb.cell? ⟨bb, 1, none⟩ = some (.string s) ∧ Wb.cell? ⟨bb, 2, none⟩ = some (.int .i64 0) ∧ Wb.cell? ⟨bb, 3, none⟩ = some (.string ⟨#[]⟩) ∧ Wb.cell? ⟨bb, 4, none⟩ = some (.bool false) ∧ Wb.cell? ⟨bb, 5, none⟩ = some (.slice none 0 0) ∧ Wb.cell? ⟨bb, 6, none⟩ = some (.int .i64 0) ∧ Wb.cell? ⟨bb, 7, none⟩ = some (.int .i64 0) := by
    obtain ⟨b0, b1, b2, b3, b4, b5, b6, b7⟩ := bxk_8' PB.out
    exact ⟨by rw [row_blk P9.out]; rfl, b0, b1, b2, b3, b4, b5, b6, b7⟩
  have KD : Wb.drew.cell? ⟨w2.heap.size, 0, none⟩ = some (.int .i64 1) ∧ Wb.drew.cell? ⟨bb, 0, none⟩ = some (.int .i64 3) ∧ Wb.drew.cell? ⟨bb, 1, none⟩ = some (.string s) ∧ Wb.drew.cell? ⟨bb, 2, none⟩ = some (.int .i64 0) ∧ Wb.drew.cell? ⟨bb, 3, none⟩ = some (.string ⟨#[]⟩) ∧ Wb.drew.cell? ⟨bb, 4, none⟩ = some (.bool false) ∧ Wb.drew.cell? ⟨bb, 5, none⟩ = some (.slice none 0 0) ∧ Wb.drew.cell? ⟨bb, 6, none⟩ = some (.int .i64 0) ∧ Wb.drew.cell? ⟨bb, 7, none⟩ = some (.int .i64 0) := KK
  have KS := hide (fun (W : World) (h : W.cell? ⟨w2.heap.size, 0, none⟩ = some (.int .i64 1) ∧ W.cell? ⟨bb, 0, none⟩ = some (.int .i64 3) ∧ W.cell? ⟨bb, 1, none⟩ = some (.string s) ∧ W.cell? ⟨bb, 2, none⟩ = some (.int .i64 0) ∧ W.cell? ⟨bb, 3, none⟩ = some (.string ⟨#[]⟩) ∧ W.cell? ⟨bb, 4, none⟩ = some (.bool false) ∧ W.cell? ⟨bb, 5, none⟩ = some (.slice none 0 0) ∧ W.cell? ⟨bb, 6, none⟩ = some (.int .i64 0) ∧ W.cell? ⟨bb, 7, none⟩ = some (.int .i64 0)) (v0 v1 v2 v3 v4 v5 v6 v7 : Value) => show ((((((((W.setCell ⟨w0.heap.size + 1, 0, none⟩ v0).setCell ⟨w0.heap.size + 1, 1, none⟩ v1).setCell ⟨w0.heap.size + 1, 2, none⟩ v2).setCell ⟨w0.heap.size + 1, 3, none⟩ v3).setCell ⟨w0.heap.size + 1, 4, none⟩ v4).setCell ⟨w0.heap.size + 1, 5, none⟩ v5).setCell ⟨w0.heap.size + 1, 6, none⟩ v6).setCell ⟨w0.heap.size + 1, 7, none⟩ v7).drew.cell? ⟨w2.heap.size, 0, none⟩ = some (.int .i64 1) ∧ ((((((((W.setCell ⟨w0.heap.size + 1, 0, none⟩ v0).setCell ⟨w0.heap.size + 1, 1, none⟩ v1).setCell ⟨w0.heap.size + 1, 2, none⟩ v2).setCell ⟨w0.heap.size + 1, 3, none⟩ v3).setCell ⟨w0.heap.size + 1, 4, none⟩ v4).setCell ⟨w0.heap.size + 1, 5, none⟩ v5).setCell ⟨w0.heap.size + 1, 6, none⟩ v6).setCell ⟨w0.heap.size + 1, 7, none⟩ v7).drew.cell? ⟨bb, 0, none⟩ = some (.int .i64 3) ∧ ((((((((W.setCell ⟨w0.heap.size + 1, 0, none⟩ v0).setCell ⟨w0.heap.size + 1, 1, none⟩ v1).setCell ⟨w0.heap.size + 1, 2, none⟩ v2).setCell ⟨w0.heap.size + 1, 3, none⟩ v3).setCell ⟨w0.heap.size + 1, 4, none⟩ v4).setCell ⟨w0.heap.size + 1, 5, none⟩ v5).setCell ⟨w0.heap.size + 1, 6, none⟩ v6).setCell ⟨w0.heap.size + 1, 7, none⟩ v7).drew.cell? ⟨bb, 1, none⟩ = some (.string s) ∧ ((((((((W.setCell ⟨w0.heap.size + 1, 0, none⟩ v0).setCell ⟨w0.heap.size + 1, 1, none⟩ v1).setCell ⟨w0.heap.size + 1, 2, none⟩ v2).setCell ⟨w0.heap.size + 1, 3, none⟩ v3).setCell ⟨w0.heap.size + 1, 4, none⟩ v4).setCell ⟨w0.heap.size + 1, 5, none⟩ v5).setCell ⟨w0.heap.size + 1, 6, none⟩ v6).setCell ⟨w0.heap.size + 1, 7, none⟩ v7).drew.cell? ⟨bb, 2, none⟩ = some (.int .i64 0) ∧ ((((((((W.setCell ⟨w0.heap.size + 1, 0, none⟩ v0).setCell ⟨w0.heap.size + 1, 1, none⟩ v1).setCell ⟨w0.heap.size + 1, 2, none⟩ v2).setCell ⟨w0.heap.size + 1, 3, none⟩ v3).setCell ⟨w0.heap.size + 1, 4, none⟩ v4).setCell ⟨w0.heap.size + 1, 5, none⟩ v5).setCell ⟨w0.heap.size + 1, 6, none⟩ v6).setCell ⟨w0.heap.size + 1, 7, none⟩ v7).drew.cell? ⟨bb, 3, none⟩ = some (.string ⟨#[]⟩) ∧ ((((((((W.setCell ⟨w0.heap.size + 1, 0, none⟩ v0).setCell ⟨w0.heap.size + 1, 1, none⟩ v1).setCell ⟨w0.heap.size + 1, 2, none⟩ v2).setCell ⟨w0.heap.size + 1, 3, none⟩ v3).setCell ⟨w0.heap.size + 1, 4, none⟩ v4).setCell ⟨w0.heap.size + 1, 5, none⟩ v5).setCell ⟨w0.heap.size + 1, 6, none⟩ v6).setCell ⟨w0.heap.size + 1, 7, none⟩ v7).drew.cell? ⟨bb, 4, none⟩ = some (.bool false) ∧ ((((((((W.setCell ⟨w0.heap.size + 1, 0, none⟩ v0).setCell ⟨w0.heap.size + 1, 1, none⟩ v1).setCell ⟨w0.heap.size + 1, 2, none⟩ v2).setCell ⟨w0.heap.size + 1, 3, none⟩ v3).setCell ⟨w0.heap.size + 1, 4, none⟩ v4).setCell ⟨w0.heap.size + 1, 5, none⟩ v5).setCell ⟨w0.heap.size + 1, 6, none⟩ v6).setCell ⟨w0.heap.size + 1, 7, none⟩ v7).drew.cell? ⟨bb, 5, none⟩ = some (.slice none 0 0) ∧ ((((((((W.setCell ⟨w0.heap.size + 1, 0, none⟩ v0).setCell ⟨w0.heap.size + 1, 1, none⟩ v1).setCell ⟨w0.heap.size + 1, 2, none⟩ v2).setCell ⟨w0.heap.size + 1, 3, none⟩ v3).setCell ⟨w0.heap.size + 1, 4, none⟩ v4).setCell ⟨w0.heap.size + 1, 5, none⟩ v5).setCell ⟨w0.heap.size + 1, 6, none⟩ v6).setCell ⟨w0.heap.size + 1, 7, none⟩ v7).drew.cell? ⟨bb, 6, none⟩ = some (.int .i64 0) ∧ ((((((((W.setCell ⟨w0.heap.size + 1, 0, none⟩ v0).setCell ⟨w0.heap.size + 1, 1, none⟩ v1).setCell ⟨w0.heap.size + 1, 2, none⟩ v2).setCell ⟨w0.heap.size + 1, 3, none⟩ v3).setCell ⟨w0.heap.size + 1, 4, none⟩ v4).setCell ⟨w0.heap.size + 1, 5, none⟩ v5).setCell ⟨w0.heap.size + 1, 6, none⟩ v6).setCell ⟨w0.heap.size + 1, 7, none⟩ v7).drew.cell? ⟨bb, 7, none⟩ = some (.int .i64 0) by
    obtain ⟨h0, h1, h2, h3, h4, h5, h6, h7, h8⟩ := h
    refine ⟨?_, ?_, ?_, ?_, ?_, ?_, ?_, ?_, ?_⟩
    all_goals
      rw [cell_drew9, set_far9 (by first | exact n2' | exact n3'), set_far9 (by first | exact n2' | exact n3'), set_far9 (by first | exact n2' | exact n3'), set_far9 (by first | exact n2' | exact n3'), set_far9 (by first | exact n2' | exact n3'), set_far9 (by first | exact n2' | exact n3'), set_far9 (by first | exact n2' | exact n3'), set_far9 (by first | exact n2' | exact n3')]
      with_reducible assumption)
  have RG := hide (show (Wb.setCells (w0.heap.size + 1) 0 [.int .i64 3, .string s, .int .i64 0, .string ⟨#[]⟩, .bool false, .slice none 0 0, .int .i64 0, .int .i64 0]).rangeAt (w0.heap.size + 1) 0 [.int .i64 3, .string s, .int .i64 0, .string ⟨#[]⟩, .bool false, .slice none 0 0, .int .i64 0, .int .i64 0] ∧ Cu W (Wb.setCells (w0.heap.size + 1) 0 [.int .i64 3, .string s, .int .i64 0, .string ⟨#[]⟩, .bool false, .slice none 0 0, .int .i64 0, .int .i64 0]) g r ∧ w0.grownBy (Wb.setCells (w0.heap.size + 1) 0 [.int .i64 3, .string s, .int .i64 0, .string ⟨#[]⟩, .bool false, .slice none 0 0, .int .i64 0, .int .i64 0]) (some g) by
    have G := setCells_grown (w0.heap.size + 1) [.int .i64 3, .string s, .int .i64 0, .string ⟨#[]⟩, .bool false, .slice none 0 0, .int .i64 0, .int .i64 0] 0 Wb
    refine ⟨World.rangeAt_setCells_same Wb (w0.heap.size + 1) 0 _ (there_blk PR.out rfl), ?_, ?_⟩
    · obtain ⟨v, c1, c2, c3, c4⟩ := HC.out
      exact ⟨v, (G.block g (Array.getElem?_eq_some_iff.1 c1).1 (by intro e; cases e; exact nRg rfl)).trans c1, c2, c3, c4.grown G c4.size (fun k hk => by cases hk; omega)⟩
    · have m := HM.out
      exact ⟨G.os.trans m.os, G.tape.trans m.tape, G.output.trans m.output, Nat.le_trans m.size G.size, fun k hk hne => (G.block k (Nat.lt_of_lt_of_le hk m.size) (by intro e; cases e; omega)).trans (m.block k hk hne)⟩)
  have R8 := hide (show ((((((((Wb.setCell ⟨w0.heap.size + 1, 0, none⟩ (.int .i64 3)).setCell ⟨w0.heap.size + 1, 1, none⟩ (.string s)).setCell ⟨w0.heap.size + 1, 2, none⟩ (.int .i64 0)).setCell ⟨w0.heap.size + 1, 3, none⟩ (.string ⟨#[]⟩)).setCell ⟨w0.heap.size + 1, 4, none⟩ (.bool false)).setCell ⟨w0.heap.size + 1, 5, none⟩ (.slice none 0 0)).setCell ⟨w0.heap.size + 1, 6, none⟩ (.int .i64 0)).setCell ⟨w0.heap.size + 1, 7, none⟩ (.int .i64 0)).rangeAt (w0.heap.size + 1) 0 [.int .i64 3, .string s, .int .i64 0, .string ⟨#[]⟩, .bool false, .slice none 0 0, .int .i64 0, .int .i64 0] ∧ Cu W ((((((((Wb.setCell ⟨w0.heap.size + 1, 0, none⟩ (.int .i64 3)).setCell ⟨w0.heap.size + 1, 1, none⟩ (.string s)).setCell ⟨w0.heap.size + 1, 2, none⟩ (.int .i64 0)).setCell ⟨w0.heap.size + 1, 3, none⟩ (.string ⟨#[]⟩)).setCell ⟨w0.heap.size + 1, 4, none⟩ (.bool false)).setCell ⟨w0.heap.size + 1, 5, none⟩ (.slice none 0 0)).setCell ⟨w0.heap.size + 1, 6, none⟩ (.int .i64 0)).setCell ⟨w0.heap.size + 1, 7, none⟩ (.int .i64 0)) g r ∧ w0.grownBy ((((((((Wb.setCell ⟨w0.heap.size + 1, 0, none⟩ (.int .i64 3)).setCell ⟨w0.heap.size + 1, 1, none⟩ (.string s)).setCell ⟨w0.heap.size + 1, 2, none⟩ (.int .i64 0)).setCell ⟨w0.heap.size + 1, 3, none⟩ (.string ⟨#[]⟩)).setCell ⟨w0.heap.size + 1, 4, none⟩ (.bool false)).setCell ⟨w0.heap.size + 1, 5, none⟩ (.slice none 0 0)).setCell ⟨w0.heap.size + 1, 6, none⟩ (.int .i64 0)).setCell ⟨w0.heap.size + 1, 7, none⟩ (.int .i64 0)) (some g) from RG.out)
  clear RG
  clear HC HM P2 PR P9 PB l9 lR q1
  go_region_held3 (fun w' => w'.cell? ⟨w2.heap.size, 0, none⟩ = some (.int .i64 1) ∧ w'.cell? ⟨bb, 0, none⟩ = some (.int .i64 3) ∧ w'.cell? ⟨bb, 1, none⟩ = some (.string s) ∧ w'.cell? ⟨bb, 2, none⟩ = some (.int .i64 0) ∧ w'.cell? ⟨bb, 3, none⟩ = some (.string ⟨#[]⟩) ∧ w'.cell? ⟨bb, 4, none⟩ = some (.bool false) ∧ w'.cell? ⟨bb, 5, none⟩ = some (.slice none 0 0) ∧ w'.cell? ⟨bb, 6, none⟩ = some (.int .i64 0) ∧ w'.cell? ⟨bb, 7, none⟩ = some (.int .i64 0))
    (first | (with_reducible refine KS.out _ ?_ _ _ _ _ _ _ _ _; with_reducible exact KK) | (with_reducible exact KD))
    (fail)
  go_wp2_with fail
  refine ret_cell2 (b := w0.heap.size + 1) (cs := [.int .i64 3, .string s, .int .i64 0, .string ⟨#[]⟩, .bool false, .slice none 0 0, .int .i64 0, .int .i64 0]) (v := .bool true) Tryz.results97 rfl rfl (range_drew9 R8.out.1) Tryz.underlying69 rfl (by kernel_rfl) rfl ?_
  exact ⟨rfl, R8.out.2.1.low (Below.refl _ _).drew, gb_drew9 R8.out.2.2⟩
end Go.Proofs.YtmkbjcoagfnegaaGreatDoor

