/-
  What form tells of any expression that is a length: the walk of the program.
  What Form tells of any expression, by the program.
-/
import Derived.Test.YtlhmecagijdinaaDoorJ02
import Derived.Test.YtlhmecagijdinaaDoorH06
set_option linter.unusedVariables false
set_option linter.unusedSimpArgs false
namespace Go.Proofs.YtlhmecagijdinaaDoor.nm
open Go.RowKit cc be

theorem run_ixF {ρ : Operand → Value} {w : World} {o : Oper} {x y : Operand} {b n c k : Nat} (ho : o.op = .indexAddr 49 x y) (hx : ρ x = .slice (some ⟨b, 0, none⟩) n c) (hy : ρ y = .int .i64 k) (hk : (k : Int) < n) : (execOp ρ o).run Tryd.prog w = .ok (.value (.pointer (some ⟨b, k * 15, none⟩))) w := by
  have hk0 : ¬ (k : Int) < 0 := by omega
  have hk1 : 0 ≤ (k : Int) := by omega
  unfold execOp
  rw [ho]
  simp [go_sem, hx, hy, hk, hk0, hk1]
/-- The contract that a node's last call keeps. -/
def FinC (B S n : Nat) (F : Fo) (e : Ending) (w' : World) : Prop := ∃ v, e = .returned (.agg (usL F.us ++ [v]).toArray) ∧ Us F.us ∧ PM (cutW B w') n v F.ps ∧ S ≤ w'.heap.size
def RelFm (w : World) (n' : Nat) (gq : List Fo) (e5 : List Value) (i : Value) (wr : World) : Prop := ∃ (m : Nat) (ys zs : List Value), i = .int .i64 m ∧ m ≤ gq.length ∧ Hid (Bk wr (w.heap.size + 2) 30 (ys ++ zs) ∧ FoC (cutW (w.heap.size + 3) wr) n' (gq.take m) ys ∧ zs.length + m * 15 = gq.length * 15 ∧ Bk wr (w.heap.size + 1) 30 z15 ∧ Bk wr w.heap.size 26 e5 ∧ Below w.heap.size w wr)
theorem RelFm.mk {w : World} {n' : Nat} {gq : List Fo} {e5 : List Value} {i : Value} {wr : World} (m : Nat) (ys zs : List Value) (h1 : i = .int .i64 m) (h2 : m ≤ gq.length) (h3 : Bk wr (w.heap.size + 2) 30 (ys ++ zs)) (h4 : FoC (cutW (w.heap.size + 3) wr) n' (gq.take m) ys) (h5 : zs.length + m * 15 = gq.length * 15) (h6 : Bk wr (w.heap.size + 1) 30 z15) (h7 : Bk wr w.heap.size 26 e5) (h8 : Below w.heap.size w wr) : RelFm w n' gq e5 i wr := ⟨m, ys, zs, h1, h2, h3, h4, h5, h6, h7, h8⟩
def kdF16 (b m : Nat) (A : List Value) : Nat → Kd
  | 0 => .val (.slice (some ⟨b, 0, none⟩) m m)
  | 1 => .val (.pointer (some ⟨b, 0 * 15, none⟩))
  | 2 => .val (.agg A.toArray)
  | 3 => .val (.agg #[.int .i64 (-1), .int .i64 1])
  | _ => .val undef
/-- What is there behind the kids' forms. -/
structure FmS (w wr : World) (B L p : Nat) (gq : List Fo) : Prop where
  hB : B = w.heap.size + 2
  sl : FM (cutW B wr) (2 * p + 1) (.slice (some ⟨B, 0, none⟩) L L) gq
  gl : gq.length = L
  q1 : Bk wr (w.heap.size + 1) 30 z15
  bw : Below w.heap.size w wr
  hq : B < wr.heap.size
theorem FmS.us {w wr : World} {B L p : Nat} {gq : List Fo} (h : FmS w wr B L p gq) : ∀ f ∈ gq, Us f.us := fm_us h.sl
/-- A pick of the kids' forms. -/
theorem FmS.pick {w wr : World} {B L p : Nat} {gq : List Fo} (h : FmS w wr B L p gq) (hN : Nth w) (hT : TabD w) (mx : Bool) : Calls Tryd.prog 30 #[.bool mx, .slice (some ⟨B, 0, none⟩) L L] wr fun e w' => ∃ v, e = .returned (.agg (usL (pkF mx gq).us ++ [v]).toArray) ∧ Us (pkF mx gq).us ∧ PM (cutW B w') (2 * p + 1) v (pkF mx gq).ps ∧ Below wr.heap.size wr w' := by
  refine (pickE_any (2 * p + 1) mx gq _ (cutW B wr) wr (hN.low h.bw) (hT.low h.bw) h.sl (cut_sees B wr)).mono ?_
  rintro e w1 ⟨fu, rfl, hp, hb⟩
  have h1 := h.hq
  exact ⟨fu, rfl, pkF_us h.us, hp (cutW B w1) (cut_keep (Nat.le_refl _) hb.size (fun b _ hl => hb.block b hl)) (fun b hb1 hb2 => cut_blk w1 (by omega)), hb⟩
/-- Their sum. -/
theorem FmS.sum {w wr : World} {B L p : Nat} {gq : List Fo} (h : FmS w wr B L p gq) (hN : Nth w) (hpl : (ssP gq).length ≤ 1000000000) : Calls Tryd.prog 29 #[.slice (some ⟨B, 0, none⟩) L L] wr fun e w' => ∃ v, e = .returned (.agg (usL (ssU gq) ++ [v]).toArray) ∧ Us (ssU gq) ∧ PM (cutW B w') (2 * p) v (ssP gq) ∧ Below wr.heap.size wr w' := by
  refine (sumE_any (2 * p) gq _ (cutW B wr) wr (hN.low h.bw) (cut_sees B wr) h.sl hpl).mono ?_
  rintro e w5 ⟨v, rfl, B9, hB9, PV, B5⟩
  have h1 := h.hq
  exact ⟨v, rfl, ssU_us h.us, PO.pmS (PO.keep PV (w' := cutW B w5) (fun g hg hl => cut_blk w5 (by omega))) (cut_keep (Nat.le_refl _) B5.size (fun b hb hl => B5.block b hl)) hpl, B5⟩
/-- The first of them, times a fraction. -/
theorem FmS.first {w wr : World} {B L p : Nat} {gq : List Fo} (h : FmS w wr B L p gq) (i : Nat) (hi : i < L) : ∃ u, Us (foAt gq i).us ∧ wr.rangeAt B (i * 15) (usL (foAt gq i).us ++ [u]) ∧ PM (cutW B wr) (2 * p) u (foAt gq i).ps := by
  have hg := h.gl
  obtain ⟨f, hf⟩ : ∃ f, gq[i]? = some f := ⟨_, List.getElem?_eq_getElem (by omega)⟩
  obtain ⟨m, b, o, c, u, hm, hv, hb, hus, hr, hp⟩ := fm_rangeN h.sl hf
  obtain ⟨rfl, rfl⟩ : B = b ∧ 0 = o := by simp at hv; exact ⟨hv.1.1, hv.1.2⟩
  obtain rfl : 2 * p = m := by omega
  have e : foAt gq i = f := by unfold foAt; rw [List.getD_eq_getElem?_getD, hf]; rfl
  rw [e]
  refine ⟨u, hus, fun q v hq => ?_, hp⟩
  have := hr q v hq
  rw [Nat.zero_add] at this
  exact (cut_sees B wr).2 _ _ _ this
theorem FmS.scale {w wr : World} {B L p : Nat} {gq : List Fo} (h : FmS w wr B L p gq) (hN : Nth w) (hT : TabD w) (k : Int × Int) (hk : R64 k) (hL : 0 < L) (hsz : szF (foAt gq 0) ≤ 1000000000) (W : World) (hW : Below wr.heap.size wr W) (u : Value) (hu : PM (cutW B wr) (2 * p) u (foAt gq 0).ps) : Calls Tryd.prog 22 #[.agg (usL (foAt gq 0).us ++ [u]).toArray, .agg #[.int .i64 k.1, .int .i64 k.2]] W fun e w' => ∃ v, e = .returned (.agg (usL (scF k (2 * p) (foAt gq 0)).us ++ [v]).toArray) ∧ Us (scF k (2 * p) (foAt gq 0)).us ∧ PM (cutW B w') (2 * p) v (scF k (2 * p) (foAt gq 0)).ps ∧ Below W.heap.size W w' := by
  obtain ⟨_, hus, -, -⟩ := h.first 0 hL
  have hz : Fo.mk (foAt gq 0).us (foAt gq 0).ps = foAt gq 0 := by cases foAt gq 0; rfl
  have q := scaling_all k hk (2 * p) (foAt gq 0).us (foAt gq 0).ps u W (hN.low (bto h.bw hW)) (hT.low (bto h.bw hW)) hus (PM.low hW (pm_sees (cut_sees B wr) hu)) (by rw [hz]; exact hsz)
  rw [hz] at q
  refine q.mono ?_
  rintro e w' ⟨v, rfl, h1, h2, h3⟩
  have s1 := h.hq
  have s2 := hW.size
  exact ⟨v, rfl, h1, pm_sees (cut_keep (by omega) (Nat.le_refl _) (fun _ _ _ => rfl)) h2, h3⟩
/-- A pick of two forms that lie in a row of their own. -/
theorem pick2_any {B n b : Nat} {f g : Fo} {u v : Value} {W : World} (hN : Nth W) (hT : TabD W) (mx : Bool) (hf : Us f.us) (hg : Us g.us) (pf : PM (cutW B W) n u f.ps) (pg : PM (cutW B W) n v g.ps) (hB : B ≤ b) (hb : W.heap[b]? = some (.cells ((usL f.us ++ [u]) ++ (usL g.us ++ [v])).toArray 30)) :
    Calls Tryd.prog 30 #[.bool mx, .slice (some ⟨b, 0, none⟩) 2 2] W fun e w' => ∃ x, e = .returned (.agg (usL (pkF mx [f, g]).us ++ [x]).toArray) ∧ PM (cutW B w') (n + 1) x (pkF mx [f, g]).ps ∧ Below W.heap.size W w' := by
  have fc : FoC (cutW B W) n [f, g] ((usL f.us ++ [u]) ++ (usL g.us ++ [v])) := by
    have := FoC.cons f [g] _ u hf pf (FoC.cons g [] [] v hg pg .nil)
    rwa [List.append_nil] at this
  have fm := foc_fm fc (show Bk (cutW B W) b 30 _ from (cut_blk W hB).trans hb) (by show 2 ≤ 1000000000; decide)
  have hl : b < W.heap.size := (Array.getElem?_eq_some_iff.1 hb).1
  refine (pickE_any (n + 1) mx [f, g] _ (cutW B W) W hN hT fm (cut_sees B W)).mono ?_
  rintro e w1 ⟨fu, rfl, hp, hbl⟩
  exact ⟨fu, rfl, hp (cutW B w1) (cut_keep (Nat.le_refl _) hbl.size (fun b _ hl => hbl.block b hl)) (fun b hb1 hb2 => cut_blk w1 (by omega)), hbl⟩
theorem pk2_us {mx : Bool} {f g : Fo} (hf : Us f.us) (hg : Us g.us) : Us (pkF mx [f, g]).us := pkF_us fun x hx => by
  simp at hx
  rcases hx with rfl | rfl
  · exact hf
  · exact hg
/-- What stands behind each of a clamp's last operations. -/
def ClT (w wr : World) (B n : Nat) (A0 A1 A2 : List Value) (I O : Fo) : Nat → Value → World → Prop
  | 0, v, W => Below wr.heap.size wr W
  | 1, v, W => Below wr.heap.size wr W ∧ ∃ g, v = .slice (some ⟨g, 0, none⟩) 2 2 ∧ wr.heap.size ≤ g ∧ W.heap[g]? = some (.cells (A1 ++ A2).toArray 30)
  | 2, v, W => Below wr.heap.size wr W ∧ ∃ fu, v = .agg (usL I.us ++ [fu]).toArray ∧ PM (cutW B W) (n + 1) fu I.ps
  | 3, v, W => Below wr.heap.size wr W ∧ ∃ g fu, v = .slice (some ⟨g, 0, none⟩) 2 2 ∧ wr.heap.size ≤ g ∧ W.heap[g]? = some (.cells (A0 ++ (usL I.us ++ [fu])).toArray 30) ∧ PM (cutW B W) (n + 1) fu I.ps
  | 4, v, W => Below wr.heap.size wr W ∧ ∃ fu, v = .agg (usL O.us ++ [fu]).toArray ∧ PM (cutW B W) (n + 2) fu O.ps
  | _, v, W => ∃ W5 fu, W = W5.setCells (w.heap.size + 1) 0 (usL O.us ++ [fu]) ∧ Below wr.heap.size wr W5 ∧ PM (cutW B W5) (n + 2) fu O.ps
theorem range_low {wr W : World} {b o : Nat} {A : List Value} (h : Below wr.heap.size wr W) (hb : b < wr.heap.size) (hr : wr.rangeAt b o A) : W.rangeAt b o A := fun q v hq => (h.cell (p := ⟨b, o + q, none⟩) hb).trans (hr q v hq)
theorem ClT.rg {w wr : World} {B n : Nat} {A0 A1 A2 : List Value} {I O : Fo} {q : Nat} {v : Value} {W : World} (h : ClT w wr B n A0 A1 A2 I O q v W) {b o : Nat} {A : List Value} (hb : b < wr.heap.size) (hne : b ≠ w.heap.size + 1) (hr : wr.rangeAt b o A) : W.rangeAt b o A := by
  match q, h with
  | 0, h => exact range_low h hb hr
  | 1, h => exact range_low h.1 hb hr
  | 2, h => exact range_low h.1 hb hr
  | 3, h => exact range_low h.1 hb hr
  | 4, h => exact range_low h.1 hb hr
  | q + 5, h =>
    obtain ⟨W5, fu, rfl, h5, -⟩ := h
    exact fun j x hj => (cell_blk (setCells_far b (w.heap.size + 1) 0 hne _ _ _) _).trans (range_low h5 hb hr j x hj)
def enC (b m c : Nat) (A0 A1 A2 : List Value) : Nat → Option Value
  | 0 => some (.slice (some ⟨b, 0, none⟩) m c)
  | 1 => some (.pointer (some ⟨b, 0 * 15, none⟩))
  | 2 => some (.agg A0.toArray)
  | 3 => some (.slice (some ⟨b, 0, none⟩) m c)
  | 4 => some (.pointer (some ⟨b, 1 * 15, none⟩))
  | 5 => some (.agg A1.toArray)
  | 6 => some (.slice (some ⟨b, 0, none⟩) m c)
  | 7 => some (.pointer (some ⟨b, 2 * 15, none⟩))
  | 8 => some (.agg A2.toArray)
  | _ => none
def tlC (q : Nat) : Nat := q + 9
set_option maxRecDepth 100000 in
set_option maxHeartbeats 16000000 in
theorem form_step (N : Nat) (IH : FpC N) : FpC (N + 1) := by
  intro x j u w hN hsz hx hm hk hNt hT hu
  obtain ⟨a, c, rfl, hl9⟩ := hu.shape
  have KX := hx.kids
  have XO := hx.ok
  have KK := fun h => kids_kind hm h (by omega)
  have KL := fun h => kids_len hm h
  have KM := fun h => exMs_mem (exM_kids hm h).1
  have FSZ := fm_sz _ x j (Nat.le_refl _) hm hk
  obtain ⟨p, rfl⟩ : ∃ p, j = p + 1 := by
    rw [exM_eq, Bool.and_eq_true] at hm
    have := of_decide_eq_true hm.1
    exact ⟨j - 1, by omega⟩
  have hz1 := szE_ks x
  obtain ⟨k, n, d, q, ks⟩ := x
  simp only [Ex.k, Ex.n, Ex.d, Ex.u, Ex.ks, Nat.add_sub_cancel] at hN hl9 hu KX KK KL KM hz1
  have E := fmE_mk k n d q ks (p + 1)
  rw [Nat.add_sub_cancel] at E
  show Calls Tryd.prog 16 #[.agg #[.int .i64 k, .int .i64 n, .int .i64 d, .int .i64 q, .slice a ks.length c]] w _
  obtain ⟨W1, hW1⟩ : ∃ W1, (w.alloc (.cells #[.int .i64 k, .int .i64 n, .int .i64 d, .int .i64 q, .slice a ks.length c] 26)).alloc (.cells #[.int .i64 0, .int .i64 0, .int .i64 0, .int .i64 0, .int .i64 0, .int .i64 0, .int .i64 0, .int .i64 0, .int .i64 0, .int .i64 0, .int .i64 0, .int .i64 0, .int .i64 0, .int .i64 0, .slice none 0 0] 30) = W1 := ⟨_, rfl⟩
  have S1 : W1.heap.size = w.heap.size + 2 := by rw [← hW1]; simp
  have B0 := hide (show Below w.heap.size w W1 by rw [← hW1]; exact bplus (bplus (Below.refl _ _) _) _)
  have P0 := hide (show Bk W1 w.heap.size 26 [.int .i64 k, .int .i64 n, .int .i64 d, .int .i64 q, .slice a ks.length c] by rw [← hW1]; exact (two_new w _ _).1)
  have P1 := hide (show Bk W1 (w.heap.size + 1) 30 z15 by rw [← hW1]; exact (two_new w _ _).2)
  have HW1 := hide hW1
  have a0 := Bk.cell P0.out 0
  have a1 := Bk.cell P0.out 1
  have a2 := Bk.cell P0.out 2
  have a3 := Bk.cell P0.out 3
  have a4 := Bk.cell P0.out 4
  simp at a0 a1 a2 a3 a4
  have THr := hide (fun (wr W : World) (Q1 : Bk wr (w.heap.size + 1) 30 z15) (h : Below wr.heap.size wr W) => show W.there (w.heap.size + 1) 0 15 from there_blk (show W.heap[w.heap.size + 1]? = some (.cells z15.toArray 30) from Bk.up Q1 h) rfl)
  clear hW1
  by_cases k1 : k = 1
  · subst k1
    rw [if_pos rfl] at E
    have XO1 : i64 n := XO.2.1
    have XO2 : i64 d := XO.2.2.1
    have XO3 : i64 q := XO.2.2.2
    have OU := one_us q n d XO1 XO2
    have CO := hide (fun (W : World) (h : Below w.heap.size w W) => show Calls Tryd.prog 32 #[.int .i64 q, .agg #[.int .i64 n, .int .i64 d]] W fun e w' => e = .returned (.agg (usL (oneU q (n, d)) ++ [nilS]).toArray) ∧ Below W.heap.size W w' from oneF_any q n d W (hNt.low h) XO3 XO1 XO2)
    have FIN := hide (fun (w5 : World) (h : Below W1.heap.size W1 w5) => show ∃ v, (Ending.returned (.agg (usL (oneU q (n, d)) ++ [nilS]).toArray) : Ending) = .returned (foV (fmE (.mk 1 n d q ks) (p + 1)).us v) ∧ Us (fmE (.mk 1 n d q ks) (p + 1)).us ∧ PM (cutW w.heap.size (w5.setCells (w.heap.size + 1) 0 (usL (oneU q (n, d)) ++ [nilS]))) (2 * (p + 1)) v (fmE (.mk 1 n d q ks) (p + 1)).ps ∧ Below w.heap.size w (w5.setCells (w.heap.size + 1) 0 (usL (oneU q (n, d)) ++ [nilS])) from by
      rw [E]
      exact ⟨nilS, rfl, OU, .inl ⟨_, _, rfl, rfl⟩, (bto B0.out h).grown (setCells_grown _ _ _ _) (bto B0.out h).size (fun k hk => by cases hk; omega)⟩)
    have LZ := hide (fo_len OU nilS)
    have OZ := hide (us_one (us := oneU q (n, d)) (u := nilS) rfl)
    obtain ⟨A, hA⟩ : ∃ A, usL (oneU q (n, d)) ++ [nilS] = A := ⟨_, rfl⟩
    rw [hA] at CO FIN LZ OZ
    clear hA E OU KX XO KK KL KM FSZ hu hx hm hk hN hsz IH XO1 XO2 XO3
    go_enter Tryd.func16, Tryd.ntmps16
    go_upto_region 1 with fail
    rw [HW1.out]
    clear HW1
    go_wp2_with (first
      | (go_at_call 32; refine (CO.out _ B0.out).mono ?_; rintro e w5 ⟨rfl, B5⟩; replace B5 := hide B5)
      | (refine wpList_store_mid rfl 30 (.tmp 2) (.tmp 14) rfl (w.heap.size + 1) 0 A.toArray rfl rfl (by rw [show A.toArray.size = 15 from LZ.out]; exact THr.out _ _ P1.out B5.out) (by rw [show A.toArray.size = 15 from LZ.out]; kernel_rfl) (all_oneCell_toArray OZ.out) ?_))
    (try rw [show A.toArray.toList = A from rfl])
    refine ret_cell (b := w.heap.size + 1) (cs := A) Tryd.results16 rfl (World.rangeAt_setCells_same _ _ _ _ (by rw [LZ.out]; exact THr.out _ _ P1.out B5.out)) Tryd.underlying30 rfl (by rw [LZ.out]; kernel_rfl) rfl ?_
    exact FIN.out w5 B5.out
  rw [if_neg k1] at E
  have k1' : (k == 1) = false := by simpa using k1
  obtain ⟨hkk, hl1, h83⟩ := KL k1
  obtain ⟨d1, d2, d3, d4⟩ := KK k1
  replace KM := KM k1
  by_cases k4 : k = 4
  · subst k4
    have hone : (fmEs ks p).length = 1 := by rw [fmEs_len]; exact (d3 rfl).2 hk
    have CP := product_of N IH ks p
    have hfs : szF (foAt (fmEs ks p) 0) ≤ 1000000000 := by
      match hq : fmEs ks p, hone with
      | [f], _ =>
        have hmem : f ∈ fmEs ks p := by rw [hq]; simp
        obtain ⟨y, hy, hy2, rfl⟩ := fmEs_mem hmem
        obtain ⟨i, hi⟩ := List.mem_iff_getElem?.1 hy
        have h1 := fm_sz _ y p (Nat.le_refl _) (KM y hy) hy2
        have h2 := szEs_at hi
        show szF (fmE y p) ≤ _
        omega
    have CQ := hide (fun (W : World) (h : Below w.heap.size w W) => CP (.slice a ks.length c) W (by omega) (by omega) KX KM d1 hone (hNt.low h) (hT.low h) (hu.low h) _ rfl hfs)
    have E4 : fmE (.mk 4 n d q ks) (p + 1) = scF (wk.mulAll (nmE ks)) (2 * p) (foAt (fmEs ks p) 0) := E
    rw [E4]
    generalize scF (wk.mulAll (nmE ks)) (2 * p) (foAt (fmEs ks p) 0) = FF at *
    obtain ⟨SU, SP⟩ := FF
    replace CQ := hide (fun (W : World) (h : Below w.heap.size w W) => show Calls Tryd.prog 33 #[.slice a ks.length c] W fun e w' => ∃ v, e = .returned (.agg (usL SU ++ [v]).toArray) ∧ Us SU ∧ PM (cutW W.heap.size w') (2 * p) v SP ∧ Below W.heap.size W w' from CQ.out W h)
    have S2 := hide S1
    clear E E4 hfs CP hone d1 d2 d3 d4 KX XO KK KL KM FSZ hu hx hm hk hN hsz IH S1 hkk h83
    go_enter Tryd.func16, Tryd.ntmps16
    go_upto_region 1 with fail
    rw [HW1.out]
    clear HW1
    go_wp2_with (first
      | (go_at_call 33; refine (CQ.out _ B0.out).mono ?_; rintro e w5 ⟨v, rfl, UV, PV, B5⟩; replace B5 := hide B5; have LV := hide (fo_len UV v); have OV := hide (us_one (us := SU) (pm_one PV)); have UVH := hide UV; have PVH := hide PV; clear UV PV)
      | (refine wpList_store_mid rfl 30 (.tmp 2) (.tmp 19) rfl (w.heap.size + 1) 0 (usL SU ++ [v]).toArray rfl rfl (by rw [show (usL SU ++ [v]).toArray.size = 15 from LV.out]; exact THr.out _ _ P1.out B5.out) (by rw [show (usL SU ++ [v]).toArray.size = 15 from LV.out]; kernel_rfl) (all_oneCell_toArray OV.out) ?_))
    (try rw [show (usL SU ++ [v]).toArray.toList = usL SU ++ [v] from rfl])
    refine ret_cell (b := w.heap.size + 1) (cs := usL SU ++ [v]) Tryd.results16 rfl (World.rangeAt_setCells_same _ _ _ _ (by rw [LV.out]; exact THr.out _ _ P1.out B5.out)) Tryd.underlying30 rfl (by rw [LV.out]; kernel_rfl) rfl ?_
    exact ⟨v, rfl, UVH.out, pm_le (by omega) (pm_sees (cut_keep (by have := S2.out; omega) (by rw [setCells_size]; exact Nat.le_refl _) (fun b hb hl => setCells_far b (w.heap.size + 1) 0 (by have := S2.out; omega) _ _ _)) PVH.out), (bto B0.out B5.out).grown (setCells_grown _ _ _ _) (bto B0.out B5.out).size (fun k hk => by cases hk; omega)⟩
  have k4' : (k == 4) = false := by simpa using k4
  have kd2 : ∀ y ∈ ks, kdE y = 2 := fun y hy => (d2 k4 y hy).trans hk
  have k5 := d4 hk
  obtain ⟨gq, hgq⟩ : ∃ gq, fmEs ks p = gq := ⟨_, rfl⟩
  have GE := (fmEs_all p kd2).symm.trans hgq
  have GL := hide (show gq.length = ks.length by rw [← GE, List.length_map])
  have GA := hide (fun (i : Nat) (y : Ex) (h : ks[i]? = some y) => show gq[i]? = some (fmE y p) from by rw [← GE, List.getElem?_map, h]; rfl)
  have GZ : ∀ i, i < ks.length → szF (foAt gq i) ≤ 1000000000 := fun i hi => by
    obtain ⟨y, hy⟩ : ∃ y, ks[i]? = some y := ⟨_, List.getElem?_eq_getElem hi⟩
    have e : foAt gq i = fmE y p := by unfold foAt; rw [List.getD_eq_getElem?_getD, GA.out i y hy]; rfl
    rw [e]
    have h1 := fm_sz _ y p (Nat.le_refl _) (KM y (List.mem_of_getElem? hy)) (kd2 y (List.mem_of_getElem? hy))
    have h2 := szEs_at hy
    omega
  have FPL : (fmE (.mk k n d q ks) (p + 1)).ps.length ≤ 1000000000 := by have := ps_le (fmE (.mk k n d q ks) (p + 1)); omega
  rw [hgq] at E
  have CI := hide (fun (i : Nat) (y : Ex) (u : Value) (W : World) (hy : ks[i]? = some y) (hW : Below w.heap.size w W) (hu : EM w u y.ks) => IH y p u W (by have := szEs_at hy; omega) (by have := szEs_at hy; omega) (KX y (List.mem_of_getElem? hy)) (KM y (List.mem_of_getElem? hy)) (kd2 y (List.mem_of_getElem? hy)) (hNt.low hW) (hT.low hW) (hu.low hW))
  obtain ⟨FX, hFX⟩ : ∃ FX, fmE (.mk k n d q ks) (p + 1) = FX := ⟨_, rfl⟩
  rw [hFX] at E FPL ⊢
  have HE := hide E
  have HV := hide hu
  have HN := hide hNt
  have HT := hide hT
  have HGZ := hide GZ
  have HPL := hide FPL
  generalize wk.mulAll (nmE ks) = mm at *
  clear E GE hgq hFX d1 d2 d3 d4 KX XO KK KL KM FSZ hu hx hm hk hN hsz IH GZ kd2 hNt hT FPL hz1
  go_enter Tryd.func16, Tryd.ntmps16
  go_upto_region 1 with fail
  rw [HW1.out]
  clear HW1
  have MK := madeF ks.length hl9 W1
  obtain ⟨W2, hW2⟩ : ∃ W2, W1.alloc (.cells (madeCells #[.int .i64 0, .int .i64 0, .int .i64 0, .int .i64 0, .int .i64 0, .int .i64 0, .int .i64 0, .int .i64 0, .int .i64 0, .int .i64 0, .int .i64 0, .int .i64 0, .int .i64 0, .int .i64 0, .slice none 0 0] (ks.length * 15)) 30) = W2 := ⟨_, rfl⟩
  have K0 := hide (show Bk W2 (w.heap.size + 2) 30 (madeCells #[.int .i64 0, .int .i64 0, .int .i64 0, .int .i64 0, .int .i64 0, .int .i64 0, .int .i64 0, .int .i64 0, .int .i64 0, .int .i64 0, .int .i64 0, .int .i64 0, .int .i64 0, .int .i64 0, .slice none 0 0] (ks.length * 15)).toList by unfold Bk; rw [Array.toArray_toList, ← hW2, ← S1]; exact heap_alloc_new W1 _)
  have K1 := hide (show Bk W2 (w.heap.size + 1) 30 z15 by rw [← hW2]; exact Bk.more P1.out _)
  have K2 := hide (show Bk W2 w.heap.size 26 [.int .i64 k, .int .i64 n, .int .i64 d, .int .i64 q, .slice a ks.length c] by rw [← hW2]; exact Bk.more P0.out _)
  have K3 := hide (show Below w.heap.size w W2 by rw [← hW2]; exact bplus B0.out _)
  have ML := hide (show (madeCells #[.int .i64 0, .int .i64 0, .int .i64 0, .int .i64 0, .int .i64 0, .int .i64 0, .int .i64 0, .int .i64 0, .int .i64 0, .int .i64 0, .int .i64 0, .int .i64 0, .int .i64 0, .int .i64 0, .slice none 0 0] (ks.length * 15)).toList.length + 0 * 15 = gq.length * 15 by rw [Array.length_toList, size_madeCells, GL.out]; omega)
  rw [S1, hW2] at MK
  clear hW2
  go_upto_region 7 with fail
  clear MK P0 P1 B0 a0 a1 a2 a3 a4
  have a4 := Bk.cell K2.out 4
  simp at a4
  go_wp2_with fail
  go_loopw [27] (fun i wr => RelFm w (2 * p) gq [.int .i64 k, .int .i64 n, .int .i64 d, .int .i64 q, .slice a ks.length c] i wr) (fun i _ => ks.length - (intOf i).toNat)
  case atStart => exact .mk 0 [] _ rfl (by omega) K0.out .nil ML.out K1.out K2.out K3.out
  case round =>
    obtain ⟨m, xs, ws, rfl, hmn, R⟩ := hrel
    have X0 := hide R.out.1
    have X1 := hide R.out.2.1
    have X2 := R.out.2.2.1
    have Q1 := hide R.out.2.2.2.1
    have Q2 := hide R.out.2.2.2.2.1
    have BW := hide R.out.2.2.2.2.2
    clear R K0 K1 K2 K3 ML a4
    have gl := GL.out
    have hq3 : w.heap.size + 2 < wr.heap.size := Bk.lt X0.out
    by_cases hlt : m < ks.length
    · have hlt' : (m : Int) < ks.length := by omega
      obtain ⟨y, hy⟩ : ∃ y, ks[m]? = some y := ⟨_, List.getElem?_eq_getElem hlt⟩
      obtain ⟨b, o, c', u5, hv', hb, -, -, yo, t5, hu5, hku⟩ := HV.out.at hy
      obtain ⟨rfl, rfl⟩ : a = some ⟨b, o, none⟩ ∧ c = c' := by cases hv'; exact ⟨rfl, rfl⟩
      have CF := hide (fun (W : World) (h : Below w.heap.size w W) => CI.out m y u5 W hy h hku)
      have GT := hide (show gq.take (m + 1) = gq.take m ++ [fmE y p] by rw [List.take_add_one, GA.out m y hy]; rfl)
      obtain ⟨ua, uc, rfl, -⟩ := hku.shape
      obtain ⟨c0, c1, c2, c3⟩ := t5.below BW.out hb
      have c4 := (BW.out.cell (p := ⟨b, o + m * 5 + 4, none⟩) hb).trans hu5
      have hbw : b < wr.heap.size := by have := BW.out.size; omega
      have nb : b ≠ wr.heap.size := by omega
      unfold exV at CF
      clear hy t5 hu5 hku yo
      (try clear hv')
      generalize fmE y p = fy at *
      generalize y.k = yk at *
      generalize y.n = yn at *
      generalize y.d = yd at *
      generalize y.u = yu at *
      generalize y.ks.length = yl at *
      obtain ⟨sus, sps⟩ := fy
      replace CF := hide (fun (W : World) (h : Below w.heap.size w W) => show Calls Tryd.prog 16 #[.agg #[.int .i64 yk, .int .i64 yn, .int .i64 yd, .int .i64 yu, .slice ua yl uc]] W fun e w' => ∃ v, e = .returned (.agg (usL sus ++ [v]).toArray) ∧ Us sus ∧ PM (cutW W.heap.size w') (2 * p) v sps ∧ Below W.heap.size W w' from CF.out W h)
      obtain ⟨W5, hW5⟩ : ∃ W5, wr.alloc (.cells #[.int .i64 yk, .int .i64 yn, .int .i64 yd, .int .i64 yu, .slice ua yl uc] 26) = W5 := ⟨_, rfl⟩
      have B5 := hide (show Below wr.heap.size wr W5 by rw [← hW5]; exact bplus (Below.refl _ _) _)
      have K5 := hide (show Bk W5 wr.heap.size 26 [.int .i64 yk, .int .i64 yn, .int .i64 yd, .int .i64 yu, .slice ua yl uc] by rw [← hW5]; exact Bk.new wr _ _)
      have HW5 := hide hW5
      clear hW5
      have hxl : xs.length = m * 15 := by rw [X1.out.len, List.length_take]; omega
      obtain ⟨ws0, ws', hw0, rfl⟩ : ∃ ws0 ws', ws0.length = 15 ∧ ws = ws0 ++ ws' := ⟨ws.take 15, ws.drop 15, by rw [List.length_take]; omega, (List.take_append_drop 15 ws).symm⟩
      have NX := hide (fun (W4 w5 : World) (v : Value) (SU : Us sus) (h4 : Below wr.heap.size wr W4) (h5 : Below W4.heap.size W4 w5) (hp : PM (cutW W4.heap.size w5) (2 * p) v sps) => show Bk (w5.setCells (w.heap.size + 2) (m * 15) (usL sus ++ [v])) (w.heap.size + 2) 30 ((xs ++ (usL sus ++ [v])) ++ ws') ∧ FoC (cutW (w.heap.size + 3) (w5.setCells (w.heap.size + 2) (m * 15) (usL sus ++ [v]))) (2 * p) (gq.take (m + 1)) (xs ++ (usL sus ++ [v])) ∧ Bk (w5.setCells (w.heap.size + 2) (m * 15) (usL sus ++ [v])) (w.heap.size + 1) 30 z15 ∧ Bk (w5.setCells (w.heap.size + 2) (m * 15) (usL sus ++ [v])) w.heap.size 26 [.int .i64 k, .int .i64 n, .int .i64 d, .int .i64 q, .slice (some ⟨b, o, none⟩) ks.length c] ∧ Below w.heap.size w (w5.setCells (w.heap.size + 2) (m * 15) (usL sus ++ [v])) from by
        have h45 := bto h4 h5
        have q0 : Bk w5 (w.heap.size + 2) 30 (xs ++ (ws0 ++ ws')) := Bk.up X0.out h45
        have s4 := h4.size
        refine ⟨mid_put q0 hxl (by rw [hw0, fo_len SU]), ?_, ?_, ?_, ?_⟩
        · rw [GT.out]
          have o1 : FoC (cutW (w.heap.size + 3) (w5.setCells (w.heap.size + 2) (m * 15) (usL sus ++ [v]))) (2 * p) (gq.take m) xs := X1.out.sees (cut_keep (Nat.le_refl _) (by rw [setCells_size]; exact h45.size) (fun b hb hl => (setCells_far b (w.heap.size + 2) 0 (by omega) _ _ _).trans (h45.block b hl)))
          have o2 : PM (cutW (w.heap.size + 3) (w5.setCells (w.heap.size + 2) (m * 15) (usL sus ++ [v]))) (2 * p) v sps := pm_sees (cut_keep (by omega) (by rw [setCells_size]; omega) (fun b hb hl => setCells_far b (w.heap.size + 2) 0 (by omega) _ _ _)) hp
          have o3 := o1.app (.cons (.mk sus sps) [] [] v SU o2 .nil)
          rwa [List.append_nil] at o3
        · exact (setCells_far (w.heap.size + 1) (w.heap.size + 2) 0 (by omega) _ _ _).trans (Bk.up Q1.out h45)
        · exact (setCells_far w.heap.size (w.heap.size + 2) 0 (by omega) _ _ _).trans (Bk.up Q2.out h45)
        · exact (bto BW.out h45).grown (setCells_grown _ _ _ _) (bto BW.out h45).size (fun k hk => by cases hk; omega))
      have XT := hide (fun (W : World) (h : Below wr.heap.size wr W) => mid_there (Bk.up X0.out h) hxl (m := 15) hw0.symm)
      have X3 := hide (show ws'.length + (m + 1) * 15 = gq.length * 15 by rw [List.length_append] at X2; omega)
      clear X2 X1 GT hw0 hxl
      go_upto_region 10 with fail
      rw [HW5.out]
      clear HW5 c0 c1 c2 c3 c4
      have x0 := Bk.cell K5.out 0
      have x1 := Bk.cell K5.out 1
      have x2 := Bk.cell K5.out 2
      have x3 := Bk.cell K5.out 3
      have x4 := Bk.cell K5.out 4
      simp at x0 x1 x2 x3 x4
      go_wp2_with (first
        | (go_at_call 16; refine (CF.out _ (bto BW.out B5.out)).mono ?_; rintro e w6 ⟨fv, rfl, UV, PV, B6⟩; replace B6 := hide B6; have LV := hide (fo_len UV fv); have OV := hide (us_one (us := sus) (pm_one PV)); have UVH := hide UV; have PVH := hide PV; clear UV PV)
        | (refine wpList_store_mid rfl 30 (.tmp 36) (.tmp 35) rfl (w.heap.size + 2) (m * 15) (usL sus ++ [fv]).toArray rfl rfl (by rw [show (usL sus ++ [fv]).toArray.size = 15 from LV.out]; exact XT.out _ (bto B5.out B6.out)) (by rw [show (usL sus ++ [fv]).toArray.size = 15 from LV.out]; kernel_rfl) (all_oneCell_toArray OV.out) ?_))
      (try rw [show (usL sus ++ [fv]).toArray.toList = usL sus ++ [fv] from rfl])
      have NY := hide (NX.out W5 w6 fv UVH.out B5.out B6.out PVH.out)
      go_roundw
      case rel => exact .mk (m + 1) (xs ++ (usL sus ++ [fv])) ws' (by go_num) (by omega) NY.out.1 NY.out.2.1 X3.out NY.out.2.2.1 NY.out.2.2.2.1 NY.out.2.2.2.2
      case measure => simp [intOf]; omega
    · obtain rfl : m = ks.length := by omega
      have hlt' : ¬ (ks.length : Int) < ks.length := by omega
      have X1' : FoC (cutW (w.heap.size + 3) wr) (2 * p) gq xs := by have := X1.out; rwa [List.take_of_length_le (by omega)] at this
      obtain rfl : ws = [] := List.eq_nil_of_length_eq_zero (by omega)
      rw [List.append_nil] at X0
      have FS := hide (show FmS w wr (w.heap.size + 2) ks.length p gq from {
        hB := rfl
        sl := by
          have := foc_fm (X1'.sees (cut_keep (B := w.heap.size + 3) (C := w.heap.size + 2) (w := wr) (w' := wr) (by omega) (Nat.le_refl _) (fun _ _ _ => rfl))) (show Bk (cutW (w.heap.size + 2) wr) (w.heap.size + 2) 30 xs from (cut_blk wr (Nat.le_refl _)).trans X0.out) (by omega)
          rwa [gl] at this
        gl := gl
        q1 := Q1.out
        bw := BW.out
        hq := hq3 })
      have FIN0 := hide (fun (SU : List (Int × Int)) (SP : List Pa) (n : Nat) (hn : n ≤ 2 * (p + 1)) (hF : FX = .mk SU SP) (w5 : World) (v : Value) (hU : Us SU) (hPV : PM (cutW (w.heap.size + 2) w5) n v SP) (h5 : Below wr.heap.size wr w5) => show ∃ u, (Ending.returned (.agg (usL SU ++ [v]).toArray) : Ending) = .returned (foV FX.us u) ∧ Us FX.us ∧ PM (cutW w.heap.size (w5.setCells (w.heap.size + 1) 0 (usL SU ++ [v]))) (2 * (p + 1)) u FX.ps ∧ Below w.heap.size w (w5.setCells (w.heap.size + 1) 0 (usL SU ++ [v])) from by
        subst hF
        exact ⟨v, rfl, hU, pm_le hn (pm_sees (cut_keep (by omega) (by rw [setCells_size]; exact Nat.le_refl _) (fun b hb hl => setCells_far b (w.heap.size + 1) 0 (by omega) _ _ _)) hPV), (bto BW.out h5).grown (setCells_grown _ _ _ _) (bto BW.out h5).size (fun k hk => by cases hk; omega)⟩)
      have TH := hide (fun (W : World) (h : Below wr.heap.size wr W) => THr.out wr W Q1.out h)
      have a0 := Bk.cell Q2.out 0
      simp at a0
      have hl0 : (0 : Int) < ks.length := by omega
      clear X0 X1 X1' X2 Q1 Q2 HV CI GA THr
      rcases hkk with rfl | rfl | rfl | rfl | rfl | rfl | rfl
      · have EF : FX = Fo.mk (ssU gq) (ssP gq) := HE.out
        have CC := hide (FS.out.sum HN.out (by have := HPL.out; rw [HE.out] at this; exact this))
        have UF := hide (show Us (Fo.mk (ssU gq) (ssP gq)).us from ssU_us FS.out.us)
        obtain ⟨G, hG⟩ : ∃ G, Fo.mk (ssU gq) (ssP gq) = G := ⟨_, rfl⟩
        rw [hG] at EF UF
        obtain ⟨SU, SP⟩ := G
        have CD := hide (CC.out.mono (R' := fun e w' => ∃ v, e = .returned (.agg (usL SU ++ [v]).toArray) ∧ PM (cutW (w.heap.size + 2) w') (2 * p) v SP ∧ Below wr.heap.size wr w') (by
          rintro e w1 ⟨v, he, h1, h2, h3⟩
          rw [show ssU gq = SU by have := congrArg Fo.us hG; exact this] at he; rw [show ssP gq = SP by have := congrArg Fo.ps hG; exact this] at h2
          exact ⟨v, he, h2, h3⟩))
        have LC := hide (fun (v : Value) => show (usL SU ++ [v]).length = 15 from fo_len UF.out v)
        have OC := hide (fun (v : Value) (h : v.oneCell' = true) => us_one (us := SU) h)
        have FIN := hide (fun (w5 : World) (v : Value) => FIN0.out SU SP (2 * p) (by omega) EF w5 v UF.out)
        obtain ⟨SL, hSL⟩ : ∃ SL, usL SU = SL := ⟨_, rfl⟩
        rw [hSL] at CD LC OC FIN
        clear EF hG CC UF hSL FIN0 HGZ HPL FS HE
        go_wp2_with (first
          | (go_at_call 29; refine CD.out.mono ?_; rintro e w5 ⟨v, rfl, PV, B5⟩; replace PV := hide PV; replace B5 := hide B5)
          | (refine wpList_store_mid rfl 30 (.tmp 2) (.tmp 43) rfl (w.heap.size + 1) 0 (SL ++ [v]).toArray rfl rfl (by rw [show (SL ++ [v]).toArray.size = 15 from LC.out v]; exact TH.out _ B5.out) (by rw [show (SL ++ [v]).toArray.size = 15 from LC.out v]; kernel_rfl) (all_oneCell_toArray (OC.out v (pm_one PV.out))) ?_))
        (try rw [show (SL ++ [v]).toArray.toList = SL ++ [v] from rfl])
        refine ret_cell (b := w.heap.size + 1) (cs := SL ++ [v]) Tryd.results16 rfl (World.rangeAt_setCells_same _ _ _ _ (by rw [show (SL ++ [v]).length = 15 from LC.out v]; exact TH.out _ B5.out)) Tryd.underlying30 rfl (by rw [show (SL ++ [v]).length = 15 from LC.out v]; kernel_rfl) rfl ?_
        exact FIN.out w5 v PV.out B5.out
      · have EF : FX = scF (-1, 1) (2 * p) (foAt gq 0) := HE.out
        obtain ⟨u0, U0, R0, M0⟩ := FS.out.first 0 (by omega)
        have HK : R64 (-1, 1) := ⟨⟨by decide, by decide⟩, ⟨by decide, by decide⟩⟩
        have CS := hide (fun (W : World) (h : Below wr.heap.size wr W) => FS.out.scale HN.out HT.out (-1, 1) HK (by omega) (HGZ.out 0 (by omega)) W h u0 M0)
        have CO := hide (fun (W : World) => (wk.of_all (-1) 1 W (by decide) (by decide) (by decide) (by decide)).mono (R' := fun e w' => e = .returned (.agg #[.int .i64 (-1), .int .i64 1]) ∧ be.Up W w') (by rintro e w1 ⟨rfl, U⟩; exact ⟨rfl, U.1⟩))
        have L0 := fo_len U0 u0
        obtain ⟨G, hG⟩ : ∃ G, scF (-1, 1) (2 * p) (foAt gq 0) = G := ⟨_, rfl⟩
        rw [hG] at EF CS
        obtain ⟨SU, SP⟩ := G
        obtain ⟨A, hA⟩ : ∃ A, usL (foAt gq 0).us ++ [u0] = A := ⟨_, rfl⟩
        rw [hA] at CS R0 L0
        replace CS := hide (fun (W : World) (h : Below wr.heap.size wr W) => show Calls Tryd.prog 22 #[.agg A.toArray, .agg #[.int .i64 (-1), .int .i64 1]] W fun e w' => ∃ v, e = .returned (.agg (usL SU ++ [v]).toArray) ∧ Us SU ∧ PM (cutW (w.heap.size + 2) w') (2 * p) v SP ∧ Below W.heap.size W w' from CS.out W h)
        have RF := hide (fun (W : World) (h : Below wr.heap.size wr W) => show W.rangeAt (w.heap.size + 2) (0 * 15) A from fun q v hq => (h.cell (p := ⟨w.heap.size + 2, 0 * 15 + q, none⟩) hq3).trans (R0 q v hq))
        have FL := hide (show (Tryd.prog.info? 30).map (·.size) = some A.length by rw [L0]; kernel_rfl)
        have FIN := hide (fun (w5 : World) (v : Value) (hU : Us SU) => FIN0.out SU SP (2 * p) (by omega) EF w5 v hU)
        have HI := hide (fun (A : List Value) (hA : A.length = 15) => show (Tryd.prog.info? 30).map (·.size) = some A.toArray.size by rw [List.size_toArray, hA]; kernel_rfl)
        clear EF hG U0 R0 M0 L0 hA FIN0 HGZ HPL HE FS
        go_upto_region 16 with fail
        refine wp_region_tl2 (by kernel_rfl) (kdF16 (w.heap.size + 2) ks.length A) 4 rfl (Stat.of (by kernel_rfl)) (acy_of (by kernel_rfl)) (by kernel_rfl) ?_ ?_
        · as_aux_lemma =>
            intro Q' i o hi ho blk listed a wx I hd
            rcases (show i = 0 ∨ i = 1 ∨ i = 2 ∨ i = 3 by omega) with rfl | rfl | rfl | rfl
            · obtain rfl := Option.some.inj ho
              exact wpOp_valW rfl (wn rfl) (run_mv rfl (show a.tmps.getD 3 undef = _ from (I.oth_at (by kernel_rfl)).trans rfl)) (show _ ∧ _ from ⟨rfl, be.Up.refl _⟩)
            · obtain rfl := Option.some.inj ho
              have v0 := (I.val_at (i := 0) (by decide) (hd ⟨0, .data⟩ (by simp) rfl) (.inl rfl) rfl)
              exact wpOp_valW rfl (wn rfl) (run_ixF (k := 0) rfl v0 rfl hl0) (show _ ∧ _ from ⟨rfl, be.Up.refl _⟩)
            · obtain rfl := Option.some.inj ho
              have v0 := (I.val_at (i := 1) (by decide) (hd ⟨1, .data⟩ (by simp) rfl) (.inl rfl) rfl)
              exact wpOp_valW rfl (wn rfl) (run_ldO rfl v0 (RF.out wx I.up) Tryd.underlying30 rfl FL.out) (show _ ∧ _ from ⟨rfl, be.Up.refl _⟩)
            · obtain rfl := Option.some.inj ho
              refine wpOp_callW rfl (wn rfl) (run_cl2 rfl rfl (fun v u => enters_of Tryd.func34 (by kernel_rfl) rfl #[v, u] wx)) ?_
              refine (show Calls Tryd.prog 34 #[.int .i64 (-1), .int .i64 1] wx _ from ?_)
              exact (CO.out wx).mono (by rintro e w' ⟨rfl, hu⟩; exact ⟨_, rfl, (show _ ∧ _ from ⟨rfl, hu⟩)⟩)
        · intro blk listed a' wx I hall LATE
          have fr := I.frameL [(46, (.slice (some ⟨w.heap.size + 2, 0, none⟩) ks.length ks.length)), (47, (.pointer (some ⟨w.heap.size + 2, 0 * 15, none⟩))), (48, (.agg A.toArray)), (49, (.agg #[.int .i64 (-1), .int .i64 1])), (50, undef)] (by
            intro p hp
            simp only [List.mem_cons, List.not_mem_nil, or_false] at hp
            rcases hp with rfl | rfl | rfl | rfl | rfl
            · exact ⟨by simp, I.val_at (i := 0) (by decide) (hall _ (by decide)) (.inl rfl) rfl⟩
            · exact ⟨by simp, I.val_at (i := 1) (by decide) (hall _ (by decide)) (.inl rfl) rfl⟩
            · exact ⟨by simp, I.val_at (i := 2) (by decide) (hall _ (by decide)) (.inl rfl) rfl⟩
            · exact ⟨by simp, I.val_at (i := 3) (by decide) (hall _ (by decide)) (.inl rfl) rfl⟩
            · exact ⟨by simp, (LATE 4 50 (by decide) (by decide) rfl).trans rfl⟩) (by kernel_rfl)
          have BY := hide (show Below wr.heap.size wr wx from I.up)
          clear I hall LATE
          subst fr
          dsimp only [setsL, List.set_cons_zero, List.set_cons_succ]
          refine wpOp_callW rfl (wn rfl) (run_cl2 rfl rfl (fun v u => enters_of Tryd.func22 (by kernel_rfl) rfl #[v, u] wx)) ?_
          refine (show Calls Tryd.prog 22 #[.agg A.toArray, .agg #[.int .i64 (-1), .int .i64 1]] wx _ from ?_)
          refine (CS.out wx BY.out).mono ?_
          rintro e w5 ⟨v, rfl, hSL, PV, B5⟩
          refine ⟨_, rfl, ?_⟩
          have LS := fo_len hSL v
          have TT : w5.there (w.heap.size + 1) 0 (usL SU ++ [v]).toArray.size := by rw [show (usL SU ++ [v]).toArray.size = 15 from LS]; exact TH.out _ (bto BY.out B5)
          refine wpOp_stM (b := w.heap.size + 1) (off := 0) (cells := (usL SU ++ [v]).toArray) rfl rfl rfl rfl rfl TT (HI.out _ LS) (all_oneCell_toArray (us_one (pm_one PV))) ?_
          rw [show (usL SU ++ [v]).toArray.toList = usL SU ++ [v] from rfl]
          have RA := World.rangeAt_setCells_same w5 (w.heap.size + 1) 0 (usL SU ++ [v]) (by rwa [List.size_toArray] at TT)
          have FN := hide (FIN.out w5 v hSL PV (bto BY.out B5))
          generalize usL SU ++ [v] = Z at *
          go_wp2_with fail
          refine ret_cell (b := w.heap.size + 1) (cs := Z) Tryd.results16 rfl RA Tryd.underlying30 rfl (by rw [LS]; kernel_rfl) rfl ?_
          exact FN.out
      · exact absurd rfl k4
      · exact absurd rfl k5
      · have EF : FX = pkF false gq := HE.out
        have CC := hide (FS.out.pick HN.out HT.out false)
        have UF := hide (show Us (pkF false gq).us from pkF_us FS.out.us)
        obtain ⟨G, hG⟩ : ∃ G, pkF false gq = G := ⟨_, rfl⟩
        rw [hG] at EF UF
        obtain ⟨SU, SP⟩ := G
        have CD := hide (CC.out.mono (R' := fun e w' => ∃ v, e = .returned (.agg (usL SU ++ [v]).toArray) ∧ PM (cutW (w.heap.size + 2) w') (2 * p + 1) v SP ∧ Below wr.heap.size wr w') (by
          rintro e w1 ⟨v, he, h1, h2, h3⟩
          rw [hG] at he h2
          exact ⟨v, he, h2, h3⟩))
        have LC := hide (fun (v : Value) => show (usL SU ++ [v]).length = 15 from fo_len UF.out v)
        have OC := hide (fun (v : Value) (h : v.oneCell' = true) => us_one (us := SU) h)
        have FIN := hide (fun (w5 : World) (v : Value) => FIN0.out SU SP (2 * p + 1) (by omega) EF w5 v UF.out)
        obtain ⟨SL, hSL⟩ : ∃ SL, usL SU = SL := ⟨_, rfl⟩
        rw [hSL] at CD LC OC FIN
        clear EF hG CC UF hSL FIN0 HGZ HPL FS HE
        go_wp2_with (first
          | (go_at_call 30; refine CD.out.mono ?_; rintro e w5 ⟨v, rfl, PV, B5⟩; replace PV := hide PV; replace B5 := hide B5)
          | (refine wpList_store_mid rfl 30 (.tmp 2) (.tmp 54) rfl (w.heap.size + 1) 0 (SL ++ [v]).toArray rfl rfl (by rw [show (SL ++ [v]).toArray.size = 15 from LC.out v]; exact TH.out _ B5.out) (by rw [show (SL ++ [v]).toArray.size = 15 from LC.out v]; kernel_rfl) (all_oneCell_toArray (OC.out v (pm_one PV.out))) ?_))
        (try rw [show (SL ++ [v]).toArray.toList = SL ++ [v] from rfl])
        refine ret_cell (b := w.heap.size + 1) (cs := SL ++ [v]) Tryd.results16 rfl (World.rangeAt_setCells_same _ _ _ _ (by rw [show (SL ++ [v]).length = 15 from LC.out v]; exact TH.out _ B5.out)) Tryd.underlying30 rfl (by rw [show (SL ++ [v]).length = 15 from LC.out v]; kernel_rfl) rfl ?_
        exact FIN.out w5 v PV.out B5.out
      · have EF : FX = pkF true gq := HE.out
        have CC := hide (FS.out.pick HN.out HT.out true)
        have UF := hide (show Us (pkF true gq).us from pkF_us FS.out.us)
        obtain ⟨G, hG⟩ : ∃ G, pkF true gq = G := ⟨_, rfl⟩
        rw [hG] at EF UF
        obtain ⟨SU, SP⟩ := G
        have CD := hide (CC.out.mono (R' := fun e w' => ∃ v, e = .returned (.agg (usL SU ++ [v]).toArray) ∧ PM (cutW (w.heap.size + 2) w') (2 * p + 1) v SP ∧ Below wr.heap.size wr w') (by
          rintro e w1 ⟨v, he, h1, h2, h3⟩
          rw [hG] at he h2
          exact ⟨v, he, h2, h3⟩))
        have LC := hide (fun (v : Value) => show (usL SU ++ [v]).length = 15 from fo_len UF.out v)
        have OC := hide (fun (v : Value) (h : v.oneCell' = true) => us_one (us := SU) h)
        have FIN := hide (fun (w5 : World) (v : Value) => FIN0.out SU SP (2 * p + 1) (by omega) EF w5 v UF.out)
        obtain ⟨SL, hSL⟩ : ∃ SL, usL SU = SL := ⟨_, rfl⟩
        rw [hSL] at CD LC OC FIN
        clear EF hG CC UF hSL FIN0 HGZ HPL FS HE
        go_wp2_with (first
          | (go_at_call 30; refine CD.out.mono ?_; rintro e w5 ⟨v, rfl, PV, B5⟩; replace PV := hide PV; replace B5 := hide B5)
          | (refine wpList_store_mid rfl 30 (.tmp 2) (.tmp 58) rfl (w.heap.size + 1) 0 (SL ++ [v]).toArray rfl rfl (by rw [show (SL ++ [v]).toArray.size = 15 from LC.out v]; exact TH.out _ B5.out) (by rw [show (SL ++ [v]).toArray.size = 15 from LC.out v]; kernel_rfl) (all_oneCell_toArray (OC.out v (pm_one PV.out))) ?_))
        (try rw [show (SL ++ [v]).toArray.toList = SL ++ [v] from rfl])
        refine ret_cell (b := w.heap.size + 1) (cs := SL ++ [v]) Tryd.results16 rfl (World.rangeAt_setCells_same _ _ _ _ (by rw [show (SL ++ [v]).length = 15 from LC.out v]; exact TH.out _ B5.out)) Tryd.underlying30 rfl (by rw [show (SL ++ [v]).length = 15 from LC.out v]; kernel_rfl) rfl ?_
        exact FIN.out w5 v PV.out B5.out
      · have h3 := h83 rfl
        obtain ⟨u0, U0, R0, M0⟩ := FS.out.first 0 (by omega)
        obtain ⟨u1, U1, R1, M1⟩ := FS.out.first 1 (by omega)
        obtain ⟨u2, U2, R2, M2⟩ := FS.out.first 2 (by omega)
        have EF : FX = pkF true [foAt gq 0, pkF false [foAt gq 1, foAt gq 2]] := HE.out
        generalize foAt gq 0 = f0 at *
        generalize foAt gq 1 = f1 at *
        generalize foAt gq 2 = f2 at *
        have UI := pk2_us (mx := false) U1 U2
        have UO := pk2_us (mx := true) U0 UI
        obtain ⟨I, hI⟩ : ∃ I, pkF false [f1, f2] = I := ⟨_, rfl⟩
        obtain ⟨O, hO⟩ : ∃ O, pkF true [f0, I] = O := ⟨_, rfl⟩
        rw [hI] at EF UI UO
        rw [hO] at EF UO
        have l0 := fo_len U0 u0
        have l1 := fo_len U1 u1
        have l2 := fo_len U2 u2
        have PI := hide (fun (W : World) (g : Nat) (h : Below wr.heap.size wr W) (hg : wr.heap.size ≤ g) (hb : W.heap[g]? = some (.cells ((usL f1.us ++ [u1]) ++ (usL f2.us ++ [u2])).toArray 30)) => pick2_any (HN.out.low (bto BW.out h)) (HT.out.low (bto BW.out h)) (B := w.heap.size + 2) false U1 U2 (pm_sees (cut_keep (Nat.le_refl _) h.size (fun b _ hl => h.block b hl)) M1) (pm_sees (cut_keep (Nat.le_refl _) h.size (fun b _ hl => h.block b hl)) M2) (by omega) hb)
        have PJ := hide (fun (W : World) (g : Nat) (fu : Value) (h : Below wr.heap.size wr W) (hg : wr.heap.size ≤ g) (hp : PM (cutW (w.heap.size + 2) W) (2 * p + 1) fu I.ps) (hb : W.heap[g]? = some (.cells ((usL f0.us ++ [u0]) ++ (usL I.us ++ [fu])).toArray 30)) => pick2_any (HN.out.low (bto BW.out h)) (HT.out.low (bto BW.out h)) (B := w.heap.size + 2) true U0 UI (pm_le (Nat.le_succ _) (pm_sees (cut_keep (Nat.le_refl _) h.size (fun b _ hl => h.block b hl)) M0)) hp (by omega) hb)
        rw [hI] at PI
        rw [hO] at PJ
        obtain ⟨A0, hA0⟩ : ∃ A, usL f0.us ++ [u0] = A := ⟨_, rfl⟩
        obtain ⟨A1, hA1⟩ : ∃ A, usL f1.us ++ [u1] = A := ⟨_, rfl⟩
        obtain ⟨A2, hA2⟩ : ∃ A, usL f2.us ++ [u2] = A := ⟨_, rfl⟩
        rw [hA0] at R0 l0 PJ
        rw [hA1] at R1 l1 PI
        rw [hA2] at R2 l2 PI
        have FI := hide (show Us I.us from UI)
        have FO' := hide (show Us O.us from UO)
        have FIN := hide (fun (w5 : World) (v : Value) => FIN0.out O.us O.ps (2 * p + 2) (by omega) (by rw [EF]; cases O; rfl) w5 v UO)
        have H3 := hide h3
        have RR0 := hide R0
        have RR1 := hide R1
        have RR2 := hide R2
        have fl : ∀ A : List Value, A.length = 15 → (Tryd.prog.info? 30).map (·.size) = some A.length := fun A h => by rw [h]; kernel_rfl
        have FL0 := hide (fl A0 l0)
        have FL1 := hide (fl A1 l1)
        have FL2 := hide (fl A2 l2)
        clear fl EF hI hO U0 U1 U2 UI UO M0 M1 M2 hA0 hA1 hA2 FIN0 HGZ HPL HE FS R0 R1 R2
        go_upto_region 21 with fail
        refine wp_region_ch (by kernel_rfl) (enC (w.heap.size + 2) (ks.length) (ks.length) A0 A1 A2) tlC 5 (Stat.of (by kernel_rfl)) (acy_of (by kernel_rfl)) (by kernel_rfl) (by kernel_rfl) (by decide) rfl (ClT w wr (w.heap.size + 2) (2 * p) A0 A1 A2 I O) (Below.refl _ _).drew ?_ ?_ ?_
        · as_aux_lemma =>
            intro i o v hi ho hv listed a wx q u hqk hT I hd
            rcases (show i = 0 ∨ i = 1 ∨ i = 2 ∨ i = 3 ∨ i = 4 ∨ i = 5 ∨ i = 6 ∨ i = 7 ∨ i = 8 ∨ i ≥ 9 by omega) with rfl | rfl | rfl | rfl | rfl | rfl | rfl | rfl | rfl | h9
            · obtain rfl := Option.some.inj ho
              obtain rfl := Option.some.inj hv
              exact ⟨rfl, run_mv rfl (show a.tmps.getD 3 undef = _ from (I.oth_at (by kernel_rfl)).trans rfl)⟩
            · obtain rfl := Option.some.inj ho
              obtain rfl := Option.some.inj hv
              exact ⟨rfl, run_ixF (k := 0) rfl (I.val 0 _ 59 (by decide) (hd ⟨0, .data⟩ (by simp) rfl) rfl rfl) rfl (by have := H3.out; omega)⟩
            · obtain rfl := Option.some.inj ho
              obtain rfl := Option.some.inj hv
              exact ⟨rfl, run_ldO rfl (I.val 1 _ 60 (by decide) (hd ⟨1, .data⟩ (by simp) rfl) rfl rfl) (hT.rg hq3 (by omega) RR0.out) Tryd.underlying30 rfl FL0.out⟩
            · obtain rfl := Option.some.inj ho
              obtain rfl := Option.some.inj hv
              exact ⟨rfl, run_mv rfl (show a.tmps.getD 3 undef = _ from (I.oth_at (by kernel_rfl)).trans rfl)⟩
            · obtain rfl := Option.some.inj ho
              obtain rfl := Option.some.inj hv
              exact ⟨rfl, run_ixF (k := 1) rfl (I.val 3 _ 62 (by decide) (hd ⟨3, .data⟩ (by simp) rfl) rfl rfl) rfl (by have := H3.out; omega)⟩
            · obtain rfl := Option.some.inj ho
              obtain rfl := Option.some.inj hv
              exact ⟨rfl, run_ldO rfl (I.val 4 _ 63 (by decide) (hd ⟨4, .data⟩ (by simp) rfl) rfl rfl) (hT.rg hq3 (by omega) RR1.out) Tryd.underlying30 rfl FL1.out⟩
            · obtain rfl := Option.some.inj ho
              obtain rfl := Option.some.inj hv
              exact ⟨rfl, run_mv rfl (show a.tmps.getD 3 undef = _ from (I.oth_at (by kernel_rfl)).trans rfl)⟩
            · obtain rfl := Option.some.inj ho
              obtain rfl := Option.some.inj hv
              exact ⟨rfl, run_ixF (k := 2) rfl (I.val 6 _ 65 (by decide) (hd ⟨6, .data⟩ (by simp) rfl) rfl rfl) rfl (by have := H3.out; omega)⟩
            · obtain rfl := Option.some.inj ho
              obtain rfl := Option.some.inj hv
              exact ⟨rfl, run_ldO rfl (I.val 7 _ 66 (by decide) (hd ⟨7, .data⟩ (by simp) rfl) rfl rfl) (hT.rg hq3 (by omega) RR2.out) Tryd.underlying30 rfl FL2.out⟩
            · exfalso
              match i, h9 with
              | i + 9, _ => cases hv
        · as_aux_lemma =>
            intro Q' q o hq ho listed a wx I hd hT
            rcases (show q = 0 ∨ q = 1 ∨ q = 2 ∨ q = 3 ∨ q = 4 by omega) with rfl | rfl | rfl | rfl | rfl
            · obtain rfl := Option.some.inj (show (_ : Array Oper)[9]? = some o from ho)
              have hB : Below wr.heap.size wr wx := hT
              exact wpOp_valW rfl (wn rfl) (run_bs2F rfl (I.val 5 _ 64 (by decide) (hd ⟨5, .data⟩ (by simp) rfl) rfl rfl) (I.val 8 _ 67 (by decide) (hd ⟨8, .data⟩ (by simp) rfl) rfl rfl) l1 l2) ⟨_, rfl, (fun h => by cases h), bplus hB _, wx.heap.size, rfl, hB.size, heap_alloc_new wx _⟩
            · obtain rfl := Option.some.inj (show (_ : Array Oper)[10]? = some o from ho)
              obtain ⟨hB, g, hv, hg, hb⟩ := hT
              replace hv : a.tmps.getD 68 undef = _ := hv
              refine wpOp_callW rfl (wn rfl) (run_cl2 rfl rfl (fun v u => enters_of Tryd.func30 (by kernel_rfl) rfl #[v, u] wx)) ?_
              refine (show Calls Tryd.prog 30 #[.bool false, a.tmps.getD 68 undef] wx _ from ?_)
              rw [hv]
              refine (PI.out wx g hB hg hb).mono ?_
              rintro e w' ⟨x, rfl, hp, hb2⟩
              exact ⟨_, rfl, _, rfl, (fun h => by cases h), bto hB hb2, x, rfl, hp⟩
            · obtain rfl := Option.some.inj (show (_ : Array Oper)[11]? = some o from ho)
              obtain ⟨hB, fu, hv, hp⟩ := hT
              replace hv : a.tmps.getD 69 undef = _ := hv
              exact wpOp_valW rfl (wn rfl) (run_bs2F rfl (I.val 2 _ 61 (by decide) (hd ⟨2, .data⟩ (by simp) rfl) rfl rfl) hv l0 (fo_len FI.out fu)) ⟨_, rfl, (fun h => by cases h), bplus hB _, wx.heap.size, fu, rfl, hB.size, heap_alloc_new wx _, pm_sees (cut_keep (Nat.le_refl _) (by simp) (fun b _ hl => (bplus (Below.refl wx.heap.size wx) _).block b hl)) hp⟩
            · obtain rfl := Option.some.inj (show (_ : Array Oper)[12]? = some o from ho)
              obtain ⟨hB, g, fu, hv, hg, hb, hp⟩ := hT
              replace hv : a.tmps.getD 70 undef = _ := hv
              refine wpOp_callW rfl (wn rfl) (run_cl2 rfl rfl (fun v u => enters_of Tryd.func30 (by kernel_rfl) rfl #[v, u] wx)) ?_
              refine (show Calls Tryd.prog 30 #[.bool true, a.tmps.getD 70 undef] wx _ from ?_)
              rw [hv]
              refine (PJ.out wx g fu hB hg hp hb).mono ?_
              rintro e w' ⟨x, rfl, hp, hb2⟩
              exact ⟨_, rfl, _, rfl, (fun h => by cases h), bto hB hb2, x, rfl, hp⟩
            · obtain rfl := Option.some.inj (show (_ : Array Oper)[13]? = some o from ho)
              obtain ⟨hB, fu, hv, hp⟩ := hT
              replace hv : a.tmps.getD 71 undef = _ := hv
              have LS := fo_len FO'.out fu
              exact wpOp_stM (b := w.heap.size + 1) (off := 0) (cells := (usL O.us ++ [fu]).toArray) rfl rfl rfl ((I.oth_at (by kernel_rfl)).trans rfl) hv (by rw [show (usL O.us ++ [fu]).toArray.size = 15 from LS]; exact TH.out _ hB) (by rw [show (usL O.us ++ [fu]).toArray.size = 15 from LS]; kernel_rfl) (all_oneCell_toArray (us_one (pm_one hp))) ⟨undef, rfl, (fun _ => rfl), wx, fu, rfl, hB, hp⟩
        · intro a' wx OTH DF hT
          obtain ⟨w5, fu, rfl, hB, hp⟩ := hT
          have LS := fo_len FO'.out fu
          have OT := hide (show a'.tmps.getD 2 undef = _ from (OTH.2 2 (by kernel_rfl)).trans rfl)
          have DE := hide (show a'.defers = [] from DF)
          have RA := World.rangeAt_setCells_same w5 (w.heap.size + 1) 0 (usL O.us ++ [fu]) (by rw [LS]; exact TH.out _ hB)
          have FN := hide (FIN.out w5 fu hp hB)
          generalize usL O.us ++ [fu] = Z at *
          clear OTH DF hp hB FIN
          go_wp2_with fail
          refine ret_cell (b := w.heap.size + 1) (cs := Z) Tryd.results16 OT.out RA Tryd.underlying30 rfl (by rw [LS]; kernel_rfl) DE.out ?_
          exact FN.out
end Go.Proofs.YtlhmecagijdinaaDoor.nm
set_option linter.unusedVariables false
set_option linter.unusedSimpArgs false
namespace Go.Proofs.YtlhmecagijdinaaDoor.nm
open Go.RowKit cc

theorem z00_us : Us z00 := ⟨rfl, by intro r hr; simp [z00] at hr; subst hr; exact r64_zero⟩
theorem form_all (N : Nat) : FpC N := by
  induction N with
  | zero => intro x j u w hN; rw [szE_ks] at hN; omega
  | succ N ih => exact form_step N ih
/-- The error of an expression that is no length. -/
def lnX (x : Ex) : Nat := if kdX x = 0 then (if kdT x = 2 then 0 else 4) else kdX x
def lnF (x : Ex) : Fo := if lnX x = 0 then fmE x 340 else .mk z00 []
theorem ln_cases (x : Ex) : (lnX x = 0 ∧ lnF x = fmE x 340 ∧ exM x 340 = true ∧ kdE x = 2) ∨ ((lnX x = 1 ∨ lnX x = 4) ∧ lnF x = .mk z00 []) := by
  have K := kd_cases x
  unfold lnF lnX
  rcases K with ⟨h1, h2, h3, h4⟩ | ⟨h1, h2⟩ | ⟨h1, h2⟩
  · rw [h1, h3]
    rcases h4 with h4 | h4
    · rw [h4]; exact .inr ⟨.inr rfl, rfl⟩
    · rw [h4]; exact .inl ⟨rfl, rfl, h2, rfl⟩
  · rw [h1, h2]; exact .inr ⟨.inl rfl, rfl⟩
  · rw [h1, h2]; exact .inr ⟨.inr rfl, rfl⟩
theorem kindIs_lenA (x : Ex) (u : Value) (w : World) (hx : x.Ok) (hu : EM w u x.ks) : Calls Tryd.prog 15 #[exV x u, .int .i64 2] w fun e w' => e = .returned (.int .i64 (lnX x)) ∧ Below w.heap.size w w' := by
  have C := hide (fun (W : World) (h : Below w.heap.size w W) => kindP_any x u W hx (hu.low h))
  have KK := kd_cases x
  have EX := hide (show lnX x = if kdX x = 0 then (if kdT x = 2 then 0 else 4) else kdX x from rfl)
  obtain ⟨a, c, rfl, hl9⟩ := hu.shape
  have HB := hide (bplus (Below.refl w.heap.size w) (.cells #[.int .i64 x.k, .int .i64 x.n, .int .i64 x.d, .int .i64 x.u, .slice a x.ks.length c] 26))
  unfold exV at C ⊢
  generalize lnX x = nx at *
  generalize x.k = xk at *
  generalize x.n = xn at *
  generalize x.d = xd at *
  generalize x.u = xu at *
  generalize x.ks.length = xl at *
  clear hu hx
  rcases KK with ⟨h1, -, h2, h3⟩ | ⟨h1, h2⟩ | ⟨h1, h2⟩
  · rcases h3 with h3 | h3
    all_goals
      rw [h1, h2, h3] at C EX
      have EX2 := EX.out
      simp at EX2
      subst EX2
      clear h1 h2 h3 EX
      go_enter Tryd.func15, Tryd.ntmps15
      go_wp2_with (go_at_call 31; refine (C.out _ HB.out).mono ?_; rintro e w1 ⟨rfl, B1⟩; replace HB := hide (bto HB.out B1); clear B1 C)
      go_ret
      exact ⟨rfl, HB.out⟩
  all_goals
    rw [h1, h2] at C
    rw [h1] at EX
    have EX2 := EX.out
    simp at EX2
    subst EX2
    clear h1 h2 EX
    go_enter Tryd.func15, Tryd.ntmps15
    go_wp2_with (go_at_call 31; refine (C.out _ HB.out).mono ?_; rintro e w1 ⟨rfl, B1⟩; replace HB := hide (bto HB.out B1); clear B1 C)
    go_ret
    exact ⟨rfl, HB.out⟩
/-- What Form tells. -/
def FnPost (x : Ex) (w : World) (e : Ending) (w' : World) : Prop := ∃ fu, e = .returned (.tuple #[.agg (usL (lnF x).us ++ [fu]).toArray, .int .i64 (lnX x)]) ∧ Us (lnF x).us ∧ PM (cutW w.heap.size w') 680 fu (lnF x).ps ∧ Below w.heap.size w w'
set_option maxRecDepth 100000 in
set_option maxHeartbeats 8000000 in
theorem formN_any (x : Ex) (u : Value) (w : World) (hN : Nth w) (hT : TabD w) (hx : OkX x) (hu : EM w u x.ks) (hsz : szE x ≤ 200000000) : Calls Tryd.prog 6 #[exV x u] w (FnPost x w) := by
  have C1 := hide (fun (W : World) (h : Below w.heap.size w W) => kindIs_lenA x u W hx.ok (hu.low h))
  have LC := ln_cases x
  have C2 := hide (fun (W : World) (h : Below w.heap.size w W) (h1 : exM x 340 = true) (h2 : kdE x = 2) => form_all _ x 340 u W (Nat.le_refl _) hsz hx h1 h2 (hN.low h) (hT.low h) (hu.low h))
  obtain ⟨a, c, rfl, hl9⟩ := hu.shape
  obtain ⟨W1, hW1⟩ : ∃ W1, (w.alloc (.cells #[.int .i64 x.k, .int .i64 x.n, .int .i64 x.d, .int .i64 x.u, .slice a x.ks.length c] 26)).alloc (.cells #[.int .i64 0, .int .i64 0, .int .i64 0, .int .i64 0, .int .i64 0, .int .i64 0, .int .i64 0, .int .i64 0, .int .i64 0, .int .i64 0, .int .i64 0, .int .i64 0, .int .i64 0, .int .i64 0, .slice none 0 0] 30) = W1 := ⟨_, rfl⟩
  have S1 := hide (show W1.heap.size = w.heap.size + 2 by rw [← hW1]; simp)
  have B0 := hide (show Below w.heap.size w W1 by rw [← hW1]; exact bplus (bplus (Below.refl _ _) _) _)
  have P0 := hide (show Bk W1 w.heap.size 26 [.int .i64 x.k, .int .i64 x.n, .int .i64 x.d, .int .i64 x.u, .slice a x.ks.length c] by rw [← hW1]; exact (two_new w _ _).1)
  have P1 := hide (show Bk W1 (w.heap.size + 1) 30 z15 by rw [← hW1]; exact (two_new w _ _).2)
  have HW1 := hide hW1
  unfold exV at C1 C2 ⊢
  unfold FnPost
  generalize fmE x 340 = FE at *
  generalize lnF x = LF at *
  generalize lnX x = nx at *
  generalize x.k = xk at *
  generalize x.n = xn at *
  generalize x.d = xd at *
  generalize x.u = xu at *
  generalize x.ks.length = xl at *
  obtain ⟨a0, a1, a2, a3, a4⟩ := bxk_5m P0.out
  have KE := hide (fun (W : World) (h : Below W1.heap.size W1 W) => bxk_5m (Bk.up P0.out h))
  have TH := hide (fun (W : World) (h : Below W1.heap.size W1 W) => show W.there (w.heap.size + 1) 0 15 from there_blk (show W.heap[w.heap.size + 1]? = some (.cells z15.toArray 30) from Bk.up P1.out h) rfl)
  clear hW1 hN hT hu hx hsz P0 P1
  rcases LC with ⟨h1, h2, h3, h4⟩ | ⟨h1, h2⟩
  · subst h1 h2
    obtain ⟨SU, SP⟩ := LF
    replace C2 := hide (fun (W : World) (h : Below w.heap.size w W) => show Calls Tryd.prog 16 #[.agg #[.int .i64 xk, .int .i64 xn, .int .i64 xd, .int .i64 xu, .slice a xl c]] W fun e w' => ∃ v, e = .returned (.agg (usL SU ++ [v]).toArray) ∧ Us SU ∧ PM (cutW W.heap.size w') 680 v SP ∧ Below W.heap.size W w' from C2.out W h h3 h4)
    clear h3 h4
    go_enter Tryd.func6, Tryd.ntmps6
    go_upto_region 1 with fail
    rw [HW1.out]
    clear HW1
    go_wp2_with (first
      | (go_at_call 15; refine (C1.out _ B0.out).mono ?_; rintro e w1 ⟨rfl, B1⟩; obtain ⟨e0, e1, e2, e3, e4⟩ := KE.out w1 B1; replace B1 := hide B1)
      | (go_at_call 16; refine (C2.out _ (bto B0.out B1.out)).mono ?_; rintro e w5 ⟨v, rfl, UV, PV, B5⟩; have B6 := hide (bto B1.out B5); replace B5 := hide B5; have LV := hide (fo_len UV v); have OV := hide (us_one (us := SU) (pm_one PV)); have UVH := hide UV; have PVH := hide PV; clear UV PV)
      | (refine wpList_store_mid rfl 30 (.tmp 2) (.tmp 12) rfl (w.heap.size + 1) 0 (usL SU ++ [v]).toArray rfl rfl (by rw [show (usL SU ++ [v]).toArray.size = 15 from LV.out]; exact TH.out _ B6.out) (by rw [show (usL SU ++ [v]).toArray.size = 15 from LV.out]; kernel_rfl) (all_oneCell_toArray OV.out) ?_))
    (try rw [show (usL SU ++ [v]).toArray.toList = usL SU ++ [v] from rfl])
    refine ret_cell2 (b := w.heap.size + 1) (cs := usL SU ++ [v]) Tryd.results6 rfl rfl (World.rangeAt_setCells_same _ _ _ _ (by rw [LV.out]; exact TH.out _ B6.out)) Tryd.underlying30 rfl (by rw [LV.out]; kernel_rfl) rfl ?_
    have s1 := S1.out
    have s2 := B1.out.size
    exact ⟨v, rfl, UVH.out, pm_sees (cut_keep (by omega) (by rw [setCells_size]; exact Nat.le_refl _) (fun b hb hl => setCells_far b (w.heap.size + 1) 0 (by omega) _ _ _)) PVH.out, (bto B0.out B6.out).grown (setCells_grown _ _ _ _) (bto B0.out B6.out).size (fun k hk => by cases hk; omega)⟩
  · subst h2
    clear C2
    rcases h1 with h1 | h1
    all_goals
      subst h1
      obtain ⟨ZL, hZL⟩ : ∃ q, z15 = q := ⟨_, rfl⟩
      have HZV := hide (show Value.agg #[.int .i64 0, .int .i64 0, .int .i64 0, .int .i64 0, .int .i64 0, .int .i64 0, .int .i64 0, .int .i64 0, .int .i64 0, .int .i64 0, .int .i64 0, .int .i64 0, .int .i64 0, .int .i64 0, .slice none 0 0] = .agg ZL.toArray by rw [← hZL]; rfl)
      have LZ := hide (show ZL.length = 15 by rw [← hZL]; rfl)
      have OZ := hide (show ∀ v ∈ ZL, v.oneCell' = true by rw [← hZL]; intro v hv; simp [z15] at hv; rcases hv with rfl | rfl <;> rfl)
      have HZL := hide hZL
      clear hZL
      go_enter Tryd.func6, Tryd.ntmps6
      go_upto_region 1 with fail
      rw [HW1.out]
      clear HW1
      go_wp2_with (first
        | (go_at_call 15; refine (C1.out _ B0.out).mono ?_; rintro e w1 ⟨rfl, B1⟩; replace B1 := hide B1)
        | (refine wpList_store_mid rfl 30 (.tmp 2) (.tmp 9) rfl (w.heap.size + 1) 0 ZL.toArray rfl HZV.out (by rw [show ZL.toArray.size = 15 from LZ.out]; exact TH.out _ B1.out) (by rw [show ZL.toArray.size = 15 from LZ.out]; kernel_rfl) (all_oneCell_toArray OZ.out) ?_))
      (try rw [show ZL.toArray.toList = ZL from rfl])
      refine ret_cell2 (b := w.heap.size + 1) (cs := ZL) Tryd.results6 rfl rfl (World.rangeAt_setCells_same _ _ _ _ (by rw [LZ.out]; exact TH.out _ B1.out)) Tryd.underlying30 rfl (by rw [LZ.out]; kernel_rfl) rfl ?_
      rw [← HZL.out]
      exact ⟨nilS, rfl, z00_us, .inl ⟨_, _, rfl, rfl⟩, (bto B0.out B1.out).grown (setCells_grown _ _ _ _) (bto B0.out B1.out).size (fun k hk => by cases hk; omega)⟩
end Go.Proofs.YtlhmecagijdinaaDoor.nm
