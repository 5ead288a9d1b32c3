/-
  What is left of some component values: the reader's small functions, by the program.
-/
import Derived.Test.YtlkocepoohhglaaDoorA04
import Derived.Test.YtlkocepoohhglaaDoorA10
import Derived.Deep.DeepCutAuto
set_option linter.unusedVariables false
set_option linter.unusedSimpArgs false
namespace Go.Proofs.YtlkocepoohhglaaDoor.cc
open Go.RowKit

/-- The cursor in block g stands at these values, which lie in the world W. -/
def Cu (W wr : World) (g : Nat) (l : List VT) : Prop := ∃ v, wr.heap[g]? = some (.cells #[v] 74) ∧ VM W v l ∧ W.heap.size ≤ g ∧ Below W.heap.size W wr
theorem Cu.low {W wr w1 : World} {g : Nat} {l : List VT} (h : Cu W wr g l) (hb : Below wr.heap.size wr w1) : Cu W w1 g l := by
  obtain ⟨v, h1, h2, h3, h4⟩ := h
  exact ⟨v, (hb.block g (Array.getElem?_eq_some_iff.1 h1).1).trans h1, h2, h3, h4.trans (hb.mono h4.size)⟩
theorem Cu.lt {W wr : World} {g : Nat} {l : List VT} (h : Cu W wr g l) : g < wr.heap.size := by
  obtain ⟨v, h1, _⟩ := h; exact (Array.getElem?_eq_some_iff.1 h1).1
theorem Cu.put {W wr : World} {g : Nat} {l l' : List VT} {v' : Value} (h : Cu W wr g l) (hv : VM W v' l') : Cu W (wr.setCell ⟨g, 0, none⟩ v') g l' := by
  obtain ⟨v, h1, h2, h3, h4⟩ := h
  exact ⟨v', by rw [setCell_blk h1]; rfl, hv, h3, h4.setCell h3 _⟩
def zV : Value := .agg #[.int .i64 0, .string ⟨#[]⟩, .int .i64 0, .int .i64 0, .bool false, .bool false, .slice none 0 0]
/-- The value at the front. -/
def Fro (W : World) (l : List VT) (v : Value) : Prop := (l = [] ∧ v = vtV (zT 0) (.slice none 0 0)) ∨ ∃ x r a n c, l = x :: r ∧ v = vtV x.t (.slice a n c) ∧ VM W (.slice a n c) x.ks
theorem doneC_any (W wr : World) (g : Nat) (l : List VT) (h : Cu W wr g l) : Calls Tryd.prog 45 #[.pointer (some ⟨g, 0, none⟩)] wr fun e w' => e = .returned (.bool l.isEmpty) ∧ w' = wr := by
  obtain ⟨v, h1, h2, h3, h4⟩ := h
  obtain ⟨a, c, rfl, h9⟩ := h2.shape
  have c0 : wr.cell? ⟨g, 0, none⟩ = some (.slice a l.length c) := by rw [row_blk h1]; rfl
  have E := hide (show l.isEmpty = ((l.length : Int) == 0) by cases l with | nil => rfl | cons x r => rw [show (((x :: r).length : Int) == 0) = false by rw [beq_eq_false_iff_ne]; simp only [List.length_cons]; omega]; rfl)
  clear h1 h2
  generalize l.length = n at c0 E h9
  go_enter Tryd.func45, Tryd.ntmps45
  go_wp2
  go_ret
  exact ⟨ret_bool E.out.symm, rfl⟩
set_option maxRecDepth 100000 in
set_option maxHeartbeats 2000000 in
theorem nextC_any (W wr : World) (g : Nat) (l : List VT) (h : Cu W wr g l) : Calls Tryd.prog 51 #[.pointer (some ⟨g, 0, none⟩)] wr fun e w' => ∃ v, e = .returned v ∧ Fro W l v ∧ Below wr.heap.size wr w' := by
  have C := hide (fun (W' : World) (hb : Below wr.heap.size wr W') => doneC_any W W' g l (h.low hb))
  have hg := h.lt
  obtain ⟨v, h1, h2, h3, h4⟩ := h
  have c0 : wr.cell? ⟨g, 0, none⟩ = some v := by rw [row_blk h1]; rfl
  have ng : g ≠ wr.heap.size := by omega
  have B0 := hide (fun (o : Obj) => bplus (Below.refl wr.heap.size wr) o)
  cases l with
  | nil =>
    go_enter Tryd.func51, Tryd.ntmps51
    go_wp2_with (go_at_call 45; refine (C.out _ (B0.out _)).mono ?_; rintro e w1 ⟨rfl, rfl⟩)
    refine bodyPost_ret (v := vtV (zT 0) (.slice none 0 0)) (by simp [results, Tryd.results51, go_sem, vtV, zT]) rfl ?_
    exact ⟨_, rfl, .inl ⟨rfl, rfl⟩, by repeat (first | exact Below.refl _ _ | (with_reducible refine Below.setCell ?_ (by simp) _) | (with_reducible refine bplus ?_ _))⟩
  | cons x r =>
    obtain ⟨b, o, c, u, hv, hb, hc, hc9, hr9, ⟨t0, t1, t2, t3, t4, t5⟩, hu, hku, -⟩ := h2.head
    subst hv
    obtain ⟨ua, uc, hus, -⟩ := hku.shape
    have KU := hide hku
    have cW : ∀ j, wr.cell? ⟨b, j, none⟩ = W.cell? ⟨b, j, none⟩ := fun j => h4.cell (p := ⟨b, j, none⟩) hb
    have e0 := (cW _).trans t0
    have e1 := (cW _).trans t1
    have e2 := (cW _).trans t2
    have e3 := (cW _).trans t3
    have e4 := (cW _).trans t4
    have e5 := (cW _).trans t5
    have e6 := (cW _).trans hu
    have hbw : b < wr.heap.size := by have := h4.size; omega
    have nb : b ≠ wr.heap.size := by omega
    subst hus
    have hr1 : (0 : Int) < (r.length : Int) + 1 := by omega
    clear t0 t1 t2 t3 t4 t5 hu cW hku h1 h2
    go_enter Tryd.func51, Tryd.ntmps51
    go_wp2_with (go_at_call 45; refine (C.out _ (B0.out _)).mono ?_; rintro e w1 ⟨rfl, rfl⟩)
    refine bodyPost_ret (v := vtV x.t (.slice ua x.ks.length uc)) (by simp [results, Tryd.results51, go_sem, vtV]) rfl ?_
    exact ⟨_, rfl, .inr ⟨x, r, _, _, _, rfl, rfl, KU.out⟩, by repeat (first | exact Below.refl _ _ | (with_reducible refine Below.setCell ?_ (by simp) _) | (with_reducible refine bplus ?_ _))⟩

theorem vm_tail {w : World} {v : Value} {x : VT} {l : List VT} (h : VM w v (x :: l)) : ∃ b o c, v = .slice (some ⟨b, o, none⟩) (l.length + 1) c ∧ l.length + 1 ≤ c ∧ c ≤ 9223372036854775807 ∧ l.length + 1 ≤ 1000000000 ∧ VM w (.slice (some ⟨b, o + 7, none⟩) l.length (c - 1)) l := by
  obtain ⟨b, o, c, u, hv, hb, hc, hc9, hr9, _, _, _, ht⟩ := h.head
  exact ⟨b, o, c, hv, hc, hc9, hr9, ht⟩
theorem vtV_t (k : Int) (s : ByteArray) (n d : Int) (i h : Bool) (u : Value) : vtV ⟨k, s, n, d, i, h⟩ u = .agg #[.int .i64 k, .string s, .int .i64 n, .int .i64 d, .bool i, .bool h, u] := rfl
theorem nextC_nil (W wr : World) (g : Nat) (h : Cu W wr g []) : Calls Tryd.prog 51 #[.pointer (some ⟨g, 0, none⟩)] wr fun e w' => e = .returned (.agg #[.int .i64 0, .string ⟨#[]⟩, .int .i64 0, .int .i64 0, .bool false, .bool false, .slice none 0 0]) ∧ Below wr.heap.size wr w' := by
  refine (nextC_any W wr g [] h).mono ?_
  rintro e w' ⟨v, rfl, F, B⟩
  rcases F with ⟨-, rfl⟩ | ⟨x, r, a, n, c, h, -⟩
  · exact ⟨rfl, B⟩
  · cases h
theorem nextC_cons (W wr : World) (g : Nat) (t : TS) (ks r : List VT) (h : Cu W wr g (.mk t ks :: r)) : Calls Tryd.prog 51 #[.pointer (some ⟨g, 0, none⟩)] wr fun e w' => ∃ a n c, e = .returned (.agg #[.int .i64 t.k, .string t.s, .int .i64 t.n, .int .i64 t.d, .bool t.i, .bool t.h, .slice a n c]) ∧ VM W (.slice a n c) ks ∧ Below wr.heap.size wr w' := by
  refine (nextC_any W wr g _ h).mono ?_
  rintro e w' ⟨v, rfl, F, B⟩
  rcases F with ⟨h, -⟩ | ⟨x, r, a, n, c, h, rfl, V⟩
  · cases h
  · cases h; exact ⟨a, n, c, rfl, V, B⟩
theorem bxk_7 {w : World} {b : Nat} {u0 u1 u2 u3 u4 u5 u6 : Value} {T : TypeId} (h : w.heap[b]? = some (.cells #[u0, u1, u2, u3, u4, u5, u6] T)) : w.cell? ⟨b, 0, none⟩ = some u0 ∧ w.cell? ⟨b, 1, none⟩ = some u1 ∧ w.cell? ⟨b, 2, none⟩ = some u2 ∧ w.cell? ⟨b, 3, none⟩ = some u3 ∧ w.cell? ⟨b, 4, none⟩ = some u4 ∧ w.cell? ⟨b, 5, none⟩ = some u5 ∧ w.cell? ⟨b, 6, none⟩ = some u6 :=
  ⟨by rw [row_blk h]; rfl, by rw [row_blk h]; rfl, by rw [row_blk h]; rfl, by rw [row_blk h]; rfl, by rw [row_blk h]; rfl, by rw [row_blk h]; rfl, by rw [row_blk h]; rfl⟩
theorem fz_of {w : World} {b : Nat} {cs : Array Value} {T : TypeId} (h : w.heap[b]? = some (.cells cs T)) : ∀ j, w.frozen? ⟨b, j, none⟩ = false := fun j => by simp [World.frozen?, h]
theorem Cu.cell {W wr : World} {g : Nat} {l : List VT} (h : Cu W wr g l) : ∃ v, wr.cell? ⟨g, 0, none⟩ = some v ∧ wr.frozen? ⟨g, 0, none⟩ = false ∧ VM W v l := by
  obtain ⟨v, h1, h2, _⟩ := h
  exact ⟨v, by rw [row_blk h1]; rfl, by simp [World.frozen?, h1], h2⟩
theorem Cu.far {W wr : World} {g : Nat} {l : List VT} (h : Cu W wr g l) {r : Nat} (hr : r ≠ g) (hW : W.heap.size ≤ r) (j : Nat) (x : Value) : Cu W (wr.setCell ⟨r, j, none⟩ x) g l := by
  obtain ⟨v, h1, h2, h3, h4⟩ := h
  exact ⟨v, (Below.heap_setCell _ _ _ _ (Ne.symm hr)).trans h1, h2, h3, h4.setCell hW _⟩
theorem mod_far {w w' : World} {b r : Nat} (h : w.grownBy w' (some b)) (hr : w.heap.size ≤ r) (i : Nat) (x : Value) : w.grownBy (w'.setCell ⟨r, i, none⟩ x) (some b) :=
  ⟨h.os, h.tape, h.output, by simpa using h.size, fun k hk hb => (Below.heap_setCell _ _ _ _ (by simp; omega)).trans (h.block k hk hb)⟩
theorem grownBy_setC (w : World) (g j : Nat) (u : Value) : w.grownBy (w.setCell ⟨g, j, none⟩ u) (some g) := by
  refine ⟨rfl, rfl, rfl, by simp [World.setCell], fun k hk hne => ?_⟩
  have : g ≠ k := fun h => hne (by rw [h])
  simp [World.setCell, Array.getElem?_modify, this]
def V0 : Obj := .cells #[.int .i64 0, .string ⟨#[]⟩, .int .i64 0, .int .i64 0, .bool false, .bool false, .slice none 0 0] 68
theorem two_blks {wr w1 w2 : World} {cs : Array Value} {T : TypeId} (hw2 : w2 = w1.alloc (.cells cs T)) (P0 : w1.heap[wr.heap.size]? = some V0) (B0 : Below wr.heap.size wr w1) : w2.heap[wr.heap.size]? = some V0 ∧ w2.heap[w1.heap.size]? = some (.cells cs T) ∧ Below wr.heap.size wr w2 ∧ wr.heap.size < w1.heap.size := by
  subst hw2
  have hlt := (Array.getElem?_eq_some_iff.1 P0).1
  exact ⟨(Below.heap_alloc w1 _ _ hlt).trans P0, heap_alloc_new w1 _, bplus B0 _, hlt⟩
set_option maxRecDepth 100000 in
set_option maxHeartbeats 2000000 in
theorem takeC_nil (W wr : World) (g : Nat) (h : Cu W wr g []) : Calls Tryd.prog 44 #[.pointer (some ⟨g, 0, none⟩)] wr fun e w' => e = .returned (.agg #[.int .i64 0, .string ⟨#[]⟩, .int .i64 0, .int .i64 0, .bool false, .bool false, .slice none 0 0]) ∧ Below wr.heap.size wr w' := by
  have hg := h.lt
  have CN := hide (fun (W' : World) (hb : Below wr.heap.size wr W') => nextC_nil W W' g (h.low hb))
  have CD := hide (fun (W' : World) (hb : Below wr.heap.size wr W') => doneC_any W W' g [] (h.low hb))
  have B0 := hide (bplus (Below.refl wr.heap.size wr) V0)
  have P0 := hide (show (wr.alloc V0).heap[wr.heap.size]? = some V0 from heap_alloc_new wr _)
  clear h
  go_enter Tryd.func44, Tryd.ntmps44
  go_upto_region 4 with (first
    | (go_at_call 51; refine (CN.out _ B0.out).mono ?_; rintro e w1 ⟨rfl, B1⟩; replace P0 := hide ((B1.block _ (Array.getElem?_eq_some_iff.1 P0.out).1).trans P0.out); replace B0 := hide (bto B0.out B1); clear B1)
    | (go_at_call 45; refine (CD.out _ (bplus B0.out _)).mono ?_; rintro e w2 ⟨rfl, hw2⟩; obtain ⟨Q0, Q1, B2, hlt⟩ := two_blks hw2 P0.out B0.out; replace B2 := hide B2; clear hw2 P0 B0))
  refine wp_region_list ?_
  refine wpList_load_mid rfl 68 (.tmp 3) rfl w1.heap.size 0 rfl [.int .i64 0, .string ⟨#[]⟩, .int .i64 0, .int .i64 0, .bool false, .bool false, .slice none 0 0] _ (range_blk Q1) Tryd.underlying68 rfl (by kernel_rfl) ?_
  refine wpList_store_mid rfl 68 (.tmp 2) (.tmp 17) rfl wr.heap.size 0 #[.int .i64 0, .string ⟨#[]⟩, .int .i64 0, .int .i64 0, .bool false, .bool false, .slice none 0 0] rfl rfl (there_blk Q0 rfl) (by kernel_rfl) (by simp [Value.oneCell']) ?_
  go_wp2_with fail
  refine ret_cell (b := wr.heap.size) (cs := [.int .i64 0, .string ⟨#[]⟩, .int .i64 0, .int .i64 0, .bool false, .bool false, .slice none 0 0]) Tryd.results44 rfl (World.rangeAt_setCells_same _ _ _ _ (there_blk Q0 rfl)) Tryd.underlying68 rfl (by kernel_rfl) rfl ?_
  exact ⟨rfl, B2.out.grown (setCells_grown _ _ _ _) B2.out.size (fun k hk => by cases hk; exact Nat.le_refl _)⟩
set_option maxRecDepth 100000 in
set_option maxHeartbeats 2000000 in
theorem takeC_cons (W wr : World) (g : Nat) (t : TS) (ks r : List VT) (h : Cu W wr g (.mk t ks :: r)) : Calls Tryd.prog 44 #[.pointer (some ⟨g, 0, none⟩)] wr fun e w' => ∃ a n c, e = .returned (.agg #[.int .i64 t.k, .string t.s, .int .i64 t.n, .int .i64 t.d, .bool t.i, .bool t.h, .slice a n c]) ∧ VM W (.slice a n c) ks ∧ Cu W w' g r ∧ wr.grownBy w' (some g) := by
  have hg := h.lt
  have CN := hide (fun (W' : World) (hb : Below wr.heap.size wr W') => nextC_cons W W' g t ks r (h.low hb))
  have CD := hide (fun (W' : World) (hb : Below wr.heap.size wr W') => doneC_any W W' g _ (h.low hb))
  have B0 := hide (bplus (Below.refl wr.heap.size wr) V0)
  have P0 := hide (show (wr.alloc V0).heap[wr.heap.size]? = some V0 from heap_alloc_new wr _)
  have HC := hide h
  obtain ⟨v, hv1, _, h2⟩ := h.cell
  obtain ⟨b, o, c, hv, hc, hc9, hr9, ht⟩ := vm_tail h2
  rw [hv] at hv1
  have HG := hide (fun (w2 : World) (hb : Below wr.heap.size wr w2) => show w2.cell? ⟨g, 0, none⟩ = some (.slice (some ⟨b, o, none⟩) (r.length + 1) c) ∧ w2.frozen? ⟨g, 0, none⟩ = false by
    obtain ⟨v', k1, k2, _⟩ := (HC.out.low hb).cell
    exact ⟨(hb.cell (p := ⟨g, 0, none⟩) hg).trans hv1, k2⟩)
  have FIN := hide (fun (w2 : World) (hb : Below wr.heap.size wr w2) (a : Option Addr) (ha : 0 < r.length → a = some ⟨b, o + 7, none⟩) (vs : List Value) =>
    show Cu W ((w2.setCell ⟨g, 0, none⟩ (.slice a r.length (c - 1))).setCells wr.heap.size 0 vs) g r ∧ wr.grownBy ((w2.setCell ⟨g, 0, none⟩ (.slice a r.length (c - 1))).setCells wr.heap.size 0 vs) (some g) by
      have V : VM W (.slice a r.length (c - 1)) r := by
        by_cases hr : r = []
        · subst hr; exact .nil _ _
        · rw [ha (List.length_pos_iff.2 hr)]; exact ht
      have C2 := (HC.out.low hb).put V
      have G := setCells_grown wr.heap.size vs 0 (w2.setCell ⟨g, 0, none⟩ (.slice a r.length (c - 1)))
      have hne : some g ≠ some wr.heap.size := by intro e; cases e; omega
      obtain ⟨v3, q1, q2, q3, q4⟩ := C2
      refine ⟨⟨v3, (G.block g (Array.getElem?_eq_some_iff.1 q1).1 hne).trans q1, q2, q3, q4.grown G q4.size (fun k hk => by cases hk; obtain ⟨_, _, _, _, B⟩ := HC.out; exact B.size)⟩, ?_⟩
      have G1 := grownBy_setC w2 g 0 (.slice a r.length (c - 1))
      refine ⟨G.os.trans (G1.os.trans hb.os), G.tape.trans (G1.tape.trans hb.tape), G.output.trans (G1.output.trans hb.output), Nat.le_trans hb.size (Nat.le_trans G1.size G.size), fun k hk hne2 => ?_⟩
      have k2 : k < w2.heap.size := Nat.lt_of_lt_of_le hk hb.size
      exact (G.block k (Nat.lt_of_lt_of_le k2 G1.size) (by intro e; cases e; omega)).trans ((G1.block k k2 hne2).trans (hb.block k hk)))
  have hr1 : (1 : Int) ≤ (r.length : Int) + 1 := by omega
  generalize r.length = m at HG FIN hr1 hc hr9
  clear h h2 ht hv hv1
  go_enter Tryd.func44, Tryd.ntmps44
  go_upto_region 4 with (first
    | (go_at_call 51; refine (CN.out _ B0.out).mono ?_; rintro e w1 ⟨ka, kn, kc, rfl, VK, B1⟩; replace VK := hide VK; replace P0 := hide ((B1.block _ (Array.getElem?_eq_some_iff.1 P0.out).1).trans P0.out); replace B0 := hide (bto B0.out B1); clear B1)
    | (go_at_call 45; refine (CD.out _ (bplus B0.out _)).mono ?_; rintro e w2 ⟨rfl, hw2⟩; obtain ⟨R0, R1, B2, hlt⟩ := two_blks hw2 P0.out B0.out; obtain ⟨k1, k2⟩ := HG.out w2 B2; replace B2 := hide B2; clear hw2 P0 B0 HG))
  have hAD : 0 < m → (if c = 1 then some (⟨b, o, none⟩ : Addr) else some ⟨b, o + 7, none⟩) = some ⟨b, o + 7, none⟩ := fun hm => by rw [if_neg (by omega)]
  generalize (if c = 1 then some (⟨b, o, none⟩ : Addr) else some ⟨b, o + 7, none⟩) = ad at hAD ⊢
  have FF := hide (FIN.out w2 B2.out ad hAD [.int .i64 t.k, .string t.s, .int .i64 t.n, .int .i64 t.d, .bool t.i, .bool t.h, .slice ka kn kc])
  have Q0 := (Below.heap_setCell w2 ⟨g, 0, none⟩ (.slice ad m (c - 1)) wr.heap.size (by show wr.heap.size ≠ g; omega)).trans R0
  have Q1 := (Below.heap_setCell w2 ⟨g, 0, none⟩ (.slice ad m (c - 1)) w1.heap.size (by show w1.heap.size ≠ g; omega)).trans R1
  clear FIN R0 R1 B2 k1 k2 CN CD HC
  generalize w2.setCell ⟨g, 0, none⟩ (.slice ad m (c - 1)) = wx at FF Q0 Q1 ⊢
  refine wp_region_list ?_
  refine wpList_load_mid rfl 68 (.tmp 3) rfl w1.heap.size 0 rfl [.int .i64 t.k, .string t.s, .int .i64 t.n, .int .i64 t.d, .bool t.i, .bool t.h, .slice ka kn kc] _ (range_blk Q1) Tryd.underlying68 rfl (by kernel_rfl) ?_
  refine wpList_store_mid rfl 68 (.tmp 2) (.tmp 17) rfl wr.heap.size 0 #[.int .i64 t.k, .string t.s, .int .i64 t.n, .int .i64 t.d, .bool t.i, .bool t.h, .slice ka kn kc] rfl rfl (there_blk Q0 rfl) (by kernel_rfl) (by simp [Value.oneCell']) ?_
  go_wp2_with fail
  refine ret_cell (b := wr.heap.size) (cs := [.int .i64 t.k, .string t.s, .int .i64 t.n, .int .i64 t.d, .bool t.i, .bool t.h, .slice ka kn kc]) Tryd.results44 rfl (World.rangeAt_setCells_same _ _ _ _ (there_blk Q0 rfl)) Tryd.underlying68 rfl (by kernel_rfl) rfl ?_
  exact ⟨ka, kn, kc, rfl, VK.out, FF.out.1, FF.out.2⟩

theorem fldV (u0 u1 u2 u3 u4 u5 u6 : Value) (w : World) : (Instr.field 68 (.agg #[u0, u1, u2, u3, u4, u5, u6]) 0).run Tryd.prog w = .ok (.agg #[u0, u1, u2, u3, u4, u5]) w := by kernel_rfl
theorem fldT (u0 u1 u2 u3 u4 u5 : Value) (w : World) : (Instr.field 66 (.agg #[u0, u1, u2, u3, u4, u5]) 0).run Tryd.prog w = .ok u0 w := by kernel_rfl
def sp9 (v : VT) : Bool := v.t.k == 13
def spL (l : List VT) : List VT := l.dropWhile sp9
theorem spL_yes {t : TS} {ks r : List VT} (h : t.k = 13) : spL (.mk t ks :: r) = spL r := List.dropWhile_cons_of_pos (by show (t.k == 13) = true; simpa using h)
theorem spL_no {t : TS} {ks r : List VT} (h : ¬ t.k = 13) : spL (.mk t ks :: r) = .mk t ks :: r := List.dropWhile_cons_of_neg (by show ¬ (t.k == 13) = true; simpa using h)
theorem Cu.mod {W wr w1 : World} {g : Nat} {l : List VT} (h : Cu W wr g l) (hb : Below wr.heap.size wr w1) : Cu W w1 g l ∧ wr.grownBy w1 (some g) := ⟨h.low hb, Mod.of g hb⟩
def RelSp9 (W w0 : World) (g : Nat) (l : List VT) (m : Nat) (b : Value) (wr : World) : Prop := ∃ q, Cu W wr g q ∧ w0.grownBy wr (some g) ∧ q.length ≤ m ∧ q.length ≤ l.length ∧ Hid (spL l = spL q) ∧ b = .bool (decide (q.length < l.length))
theorem RelSp9.mk {W w0 : World} {g : Nat} {l : List VT} {m : Nat} {b : Value} {wr : World} (q : List VT) (h1 : Cu W wr g q) (h2 : w0.grownBy wr (some g)) (h3 : q.length ≤ m) (h4 : q.length ≤ l.length) (h5 : spL l = spL q) (h6 : b = .bool (decide (q.length < l.length))) : RelSp9 W w0 g l m b wr := ⟨q, h1, h2, h3, h4, h5, h6⟩
set_option maxRecDepth 100000 in
set_option maxHeartbeats 2000000 in
theorem spacesC_any (W w0 : World) (g : Nat) (l : List VT) (h : Cu W w0 g l) : Calls Tryd.prog 43 #[.pointer (some ⟨g, 0, none⟩)] w0 fun e w' => e = .returned (.bool (decide ((spL l).length < l.length))) ∧ Cu W w' g (spL l) ∧ w0.grownBy w' (some g) := by
  have HC := hide h
  have q1 := fun (u0 u1 u2 u3 u4 u5 u6 : Value) (w : World) => fldV u0 u1 u2 u3 u4 u5 u6 w
  have q2 := fun (u0 u1 u2 u3 u4 u5 : Value) (w : World) => fldT u0 u1 u2 u3 u4 u5 w
  clear h
  go_enter Tryd.func43, Tryd.ntmps43
  go_wp2
  go_loopg [3] l.length (fun m b wr => RelSp9 W w0 g l m b wr)
  case atStart => exact .mk l HC.out (Mod.refl _ _) (Nat.le_refl _) (Nat.le_refl _) rfl (by simp)
  case round =>
    clear HC
    obtain ⟨q, CU, MO, hm, hl, R, hb⟩ := hrel
    subst hb
    cases q with
    | nil =>
      have E := hide (show spL l = [] by rw [R.out]; rfl)
      have CN := hide (nextC_nil W wr g CU)
      have HC := hide CU
      have HM := hide MO
      clear R CU MO
      go_wp2_with (go_at_call 51; refine CN.out.mono ?_; rintro e w1 ⟨rfl, B1⟩; replace HC := hide (HC.out.low B1); replace HM := hide (Mod.trans HM.out (Mod.of g B1)); clear B1)
      go_ret
      exact ⟨ret_bool (by rw [E.out]; first | rfl | (simp; done)), by rw [E.out]; exact HC.out, HM.out⟩
    | cons x r =>
      obtain ⟨t, ks⟩ := x
      have CN := hide (nextC_cons W wr g t ks r CU)
      have HC := hide CU
      have HM := hide MO
      clear CU MO
      by_cases hk : t.k = 13
      · have E := hide (show spL l = spL r by rw [R.out, spL_yes hk])
        simp only [List.length_cons] at hm hl
        have CT := hide (fun (w1 : World) (h : Cu W w1 g (.mk t ks :: r)) => takeC_cons W w1 g t ks r h)
        rw [hk] at CN
        clear R hk
        go_wp2_with (first
          | (go_at_call 51; refine CN.out.mono ?_; rintro e w1 ⟨ka, kn, kc, rfl, -, B1⟩; replace HC := hide (HC.out.low B1); replace HM := hide (Mod.trans HM.out (Mod.of g B1)); clear B1)
          | (go_at_call 44; refine (CT.out _ HC.out).mono ?_; rintro e w2 ⟨ka2, kn2, kc2, rfl, -, C2, M2⟩; replace HC := hide C2; replace HM := hide (Mod.trans HM.out M2); clear C2 M2))
        go_roundg (gk - 1)
        case measure => omega
        case rel => exact .mk r HC.out HM.out (by omega) (by omega) E.out (by rw [show decide (r.length < l.length) = true by simp; omega])
      · have E := hide (show spL l = .mk t ks :: r by rw [R.out, spL_no hk])
        have h1 : (t.k == 13) = false := by simpa using hk
        clear R
        go_wp2_with (go_at_call 51; refine CN.out.mono ?_; rintro e w1 ⟨ka, kn, kc, rfl, -, B1⟩; replace HC := hide (HC.out.low B1); replace HM := hide (Mod.trans HM.out (Mod.of g B1)); clear B1)
        go_ret
        exact ⟨ret_bool (by rw [E.out]; first | rfl | (simp; done)), by rw [E.out]; exact HC.out, HM.out⟩
end Go.Proofs.YtlkocepoohhglaaDoor.cc
