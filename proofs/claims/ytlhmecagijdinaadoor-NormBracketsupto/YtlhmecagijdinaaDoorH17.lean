/-
  An own row of forms.
  A form times a fraction, as the program tells it, given its scaling.
-/
import Derived.Test.YtlhmecagijdinaaDoorH10
import Derived.Test.YtlhmecagijdinaaDoorH11
import Derived.Test.YtlhmecagijdinaaDoorH08
import Derived.Test.YtlhmecagijdinaaDoorH16
import Derived.Test.YtlhmecagijdinaaDoorK10
import Derived.Test.YtlhmecagijdinaaDoorMBeE
set_option linter.unusedVariables false
set_option linter.unusedSimpArgs false
namespace Go.Proofs.YtlhmecagijdinaaDoor.nm
open Go.RowKit cc

theorem infoFo : (Tryd.prog.info? 30).map (fun i => (i.zero, i.size, i.bytes)) = some (some (.agg #[.int .i64 0, .int .i64 0, .int .i64 0, .int .i64 0, .int .i64 0, .int .i64 0, .int .i64 0, .int .i64 0, .int .i64 0, .int .i64 0, .int .i64 0, .int .i64 0, .int .i64 0, .int .i64 0, .slice none 0 0]), 15, 136) := by kernel_rfl
/-- A row of forms that a call fills; what the forms hold lies in w. -/
def FO (w : World) (B n : Nat) (wr : World) (v : Value) (l : List Fo) : Prop := ∃ xs, wr.ownsRow B 30 15 v l.length xs ∧ FoC w n l xs
theorem FO.nil (w wr : World) (B n : Nat) : FO w B n wr (.slice none 0 0) [] := ⟨[], World.ownsRow_nil _ _ _ _, .nil⟩
theorem FO.keep {w wr w' : World} {B n : Nat} {v : Value} {l : List Fo} (h : FO w B n wr v l) (hk : ∀ g, B ≤ g → g < wr.heap.size → w'.heap[g]? = wr.heap[g]?) : FO w B n w' v l := by
  obtain ⟨xs, h1, h2⟩ := h
  exact ⟨xs, own_keep h1 hk, h2⟩
theorem FO.up {w wr w' : World} {B n : Nat} {v : Value} {l : List Fo} (h : FO w B n wr v l) (hw : Below wr.heap.size wr w') : FO w B n w' v l := h.keep fun g _ hg => hw.block g hg
theorem FO.sees {w w0 wr : World} {B n : Nat} {v : Value} {l : List Fo} (h : FO w B n wr v l) (k : Sees w w0) : FO w0 B n wr v l := by
  obtain ⟨xs, h1, h2⟩ := h
  exact ⟨xs, h1, h2.sees k⟩
theorem FO.shape {w wr : World} {B n : Nat} {v : Value} {l : List Fo} (h : FO w B n wr v l) : ∃ a c, v = .slice a l.length c := by
  obtain ⟨xs, ⟨_, ⟨rfl, h0⟩ | ⟨g, cap, cur, rfl, _⟩⟩, _⟩ := h
  · rw [h0]; exact ⟨_, _, rfl⟩
  · exact ⟨_, _, rfl⟩
theorem FO.fm {w wr : World} {B n : Nat} {v : Value} {l : List Fo} (h : FO w B n wr v l) (hbl : Sees w wr) (hl : l.length ≤ 1000000000) : FM wr (n + 1) v l := by
  obtain ⟨xs, ho, hr0⟩ := h
  have hr := hr0.sees hbl
  rcases ho.2 with ⟨rfl, h0⟩ | ⟨g, cap, cur, rfl, hb, hg, hn, hm, hs, ht⟩
  · exact .inl ⟨_, _, rfl, List.eq_nil_of_length_eq_zero h0⟩
  · by_cases h0 : l.length = 0
    · obtain rfl := List.eq_nil_of_length_eq_zero h0
      exact .inl ⟨_, _, rfl, rfl⟩
    · have C : ∀ j, j < l.length * 15 → wr.cell? ⟨g, 0 + j, none⟩ = xs[j]? := fun j hj => by
        rw [← ht, List.getElem?_take_of_lt (by omega), row_blk hg, Nat.zero_add, Array.getElem?_toList]
      refine .inr ⟨g, 0, cap, rfl, by omega, (Array.getElem?_eq_some_iff.1 hg).1, hn, hl, by unfold maxLen at hm; exact hm, fun i p hi => ?_⟩
      have hil := (List.getElem?_eq_some_iff.1 hi).1
      obtain ⟨u, h1, h2, h3⟩ := hr.get i p hi
      have := rowg.fo_reads (W := wr) (X := FM wr n) (b := g) (o := 0 + i * 15) (u := u) h1 (fun j hj => by rw [Nat.add_assoc, C _ (by omega), h3 j hj]) h2
      rwa [show Fo.mk p.us p.ps = p by cases p; rfl] at this
theorem fo_one {us : List (Int × Int)} {u : Value} (h : u.oneCell' = true) : ∀ v ∈ usL us ++ [u], v.oneCell' = true := us_one h
/-- 'append(own, form)'. -/
theorem wpList_append_form {w wr : World} {B n : Nat} {ops : Array Oper} {rest : List Oper} {o : Oper} {a : Act} {Q : Exit → Act → World → Prop} (hgd : o.guard = none) (s x : Operand)
    (ho : o.op = .call { callee := .builtin .append, args := #[s, x], argTypes := #[49, 49] })
    (v : Value) (l : List Fo) (hs : a.eval s = v) (hown : FO w B n wr v l) (hB : B ≤ wr.heap.size) (g : Nat) (f : Fo) (u : Value) (hx : a.eval x = .slice (some ⟨g, 0, none⟩) 1 1) (hg : Bk wr g 30 (usL f.us ++ [u])) (hus : Us f.us) (hpm : PM w n u f.ps) (hl : l.length + 1 ≤ 1000000000)
    (h : ∀ v' w', FO w B n w' v' (l ++ [f]) → Below B wr w' → wpList Tryd.prog ops Q rest (a.put o.dst v') w') : wpList Tryd.prog ops Q (o :: rest) a wr := by
  obtain ⟨i1, hj, hy0, hy1, hy2⟩ := info_parts infoFo
  obtain ⟨xs, ho1, hr1⟩ := hown
  have hlen := fo_len hus u
  refine wpList_append_own wr hgd s x 49 ho B 30 i1 _ 15 136 Tryd.underlying49 hj hy0 hy1 hy2 rfl (by decide) v l.length xs hs ho1 ⟨g, 0, none⟩ 1 1 (usL f.us ++ [u]) hx (by rw [hlen]) (fun j y hj' => ?_) (us_one (pm_one hpm)) (by unfold maxLen; omega) (by omega) hB ?_
  · rw [Addr.add_lit, Nat.zero_add, Bk.cell hg]
    exact hj'
  · intro v' w' h1 h2 _
    refine h v' w' ⟨xs ++ (usL f.us ++ [u]), by rw [List.length_append]; exact h1, hr1.app ?_⟩ ((Below.refl B wr).grown h2 hB (fun k hk => (ho1.lt k hk).1))
    have := FoC.cons f [] [] u hus hpm (.nil : FoC w n [] [])
    rwa [List.append_nil] at this
end Go.Proofs.YtlhmecagijdinaaDoor.nm
set_option linter.unusedVariables false
set_option linter.unusedSimpArgs false
namespace Go.Proofs.YtlhmecagijdinaaDoor.nm
open Go.RowKit cc be

/-- What scaling tells lies in new memory. -/
def ScC (k : Int × Int) (n : Nat) (us : List (Int × Int)) (ps : List Pa) (u : Value) (w : World) : Prop := ∀ W, Below w.heap.size w W → Calls Tryd.prog 22 #[.agg (usL us ++ [u]).toArray, .agg #[.int .i64 k.1, .int .i64 k.2]] W fun e w' => ∃ v, e = .returned (.agg (usL (scF k n (.mk us ps)).us ++ [v]).toArray) ∧ Us (scF k n (.mk us ps)).us ∧ PM (cutW W.heap.size w') n v (scF k n (.mk us ps)).ps ∧ Below W.heap.size W w'
/-- What Scale tells. -/
def scT (k : Int × Int) (n : Nat) (f : Fo) : Fo := if maF 340 f = true then scF (ctR k) n f else .mk z01 []
def kdG3 (csF : List Value) (k c : Int × Int) : Nat → Kd
  | 0 => .val (.agg csF.toArray)
  | 1 => .val (.agg #[.int .i64 k.1, .int .i64 k.2])
  | 2 => .val (.agg #[.int .i64 c.1, .int .i64 c.2])
  | _ => .val undef
set_option maxRecDepth 100000 in
set_option maxHeartbeats 8000000 in
theorem scaleN_of (k : Int × Int) (hk : R64 k) (n : Nat) (us : List (Int × Int)) (ps : List Pa) (u : Value) (w : World) (hN : Nth w) (hus : Us us) (hv : PM w n u ps) (hS : ScC (ctR k) n us ps u w) : Calls Tryd.prog 11 #[foV us u, ratV k] w (PkPost n (scT k n (.mk us ps)) w) := by
  have C1 := hide (fun (W : World) (h : Below w.heap.size w W) => show Calls Tryd.prog 20 #[.agg (usL us ++ [u]).toArray] W fun e w' => e = .returned (.bool (maF 340 (.mk us ps))) ∧ Below W.heap.size W w' from fmay_any n us ps u W hus (PM.low h hv))
  have C2 := hide (fun (W : World) (h : Below w.heap.size w W) => show Calls Tryd.prog 21 #[] W fun e w' => e = .returned (.agg (usL z01 ++ [nilS]).toArray) ∧ Below W.heap.size W w' from zero_any W (hN.low h))
  have C3 := hide (fun (W : World) => counted_any k.1 k.2 W hk.1 hk.2)
  have C4 := hide hS
  unfold ScC at C4
  rw [show ((k.1, k.2) : Int × Int) = k from rfl] at C3
  have ET := hide (show scT k n (.mk us ps) = if maF 340 (.mk us ps) = true then scF (ctR k) n (.mk us ps) else .mk z01 [] from rfl)
  have L2 := hide (show (usL z01 ++ [nilS]).length = 15 from rfl)
  have FLN := hide (fo_len hus u)
  obtain ⟨a, c, rfl, h9⟩ := hv.shape
  show Calls Tryd.prog 11 #[.agg (usL us ++ [Value.slice a ps.length c]).toArray, .agg #[.int .i64 k.1, .int .i64 k.2]] w _
  generalize usL us ++ [Value.slice a ps.length c] = csF at *
  obtain ⟨fa, hfa⟩ : ∃ q : Array Value, csF.toArray = q := ⟨_, rfl⟩
  have fa15 : fa.size = 15 := by rw [← hfa, List.size_toArray, FLN.out]
  have FL := hide (show (Tryd.prog.info? 30).map (·.size) = some csF.length by rw [FLN.out]; kernel_rfl)
  have HFA := hide hfa
  rw [hfa] at C1 C4
  rw [hfa]
  obtain ⟨cq, hcq⟩ : ∃ q, ctR k = q := ⟨_, rfl⟩
  rw [hcq] at C3 C4 ET
  obtain ⟨W1, hW1⟩ : ∃ W1, ((w.alloc (.cells fa 30)).alloc (.cells #[.int .i64 k.1, .int .i64 k.2] 23)).alloc (.cells #[.int .i64 0, .int .i64 0, .int .i64 0, .int .i64 0, .int .i64 0, .int .i64 0, .int .i64 0, .int .i64 0, .int .i64 0, .int .i64 0, .int .i64 0, .int .i64 0, .int .i64 0, .int .i64 0, .slice none 0 0] 30) = W1 := ⟨_, rfl⟩
  have B0 := hide (show Below w.heap.size w W1 by rw [← hW1]; exact bplus (bplus (bplus (Below.refl _ _) _) _) _)
  have P0 := hide (show Bk W1 w.heap.size 30 csF by rw [← hW1, ← hfa]; exact (three_blk w _ _ _).1)
  have P1 := hide (show Bk W1 (w.heap.size + 1) 23 [.int .i64 k.1, .int .i64 k.2] by rw [← hW1]; exact (three_blk w _ _ _).2.1)
  have P2 := hide (show Bk W1 (w.heap.size + 2) 30 [.int .i64 0, .int .i64 0, .int .i64 0, .int .i64 0, .int .i64 0, .int .i64 0, .int .i64 0, .int .i64 0, .int .i64 0, .int .i64 0, .int .i64 0, .int .i64 0, .int .i64 0, .int .i64 0, .slice none 0 0] by rw [← hW1]; exact (three_blk w _ _ _).2.2)
  have HW1 := hide hW1
  have TH := hide (fun (W : World) (A : List Value) (hA : A.length = 15) (h : Below W1.heap.size W1 W) => show W.there (w.heap.size + 2) 0 A.toArray.size from there_blk (show W.heap[w.heap.size + 2]? = some (.cells #[.int .i64 0, .int .i64 0, .int .i64 0, .int .i64 0, .int .i64 0, .int .i64 0, .int .i64 0, .int .i64 0, .int .i64 0, .int .i64 0, .int .i64 0, .int .i64 0, .int .i64 0, .int .i64 0, .slice none 0 0] 30) from Bk.up P2.out h) (by rw [List.size_toArray, List.size_toArray, hA]; rfl))
  have HI := hide (fun (A : List Value) (hA : A.length = 15) => show (Tryd.prog.info? 30).map (·.size) = some A.toArray.size by rw [List.size_toArray, hA]; kernel_rfl)
  have RF1 := hide (range_blk P0.out)
  have RF := hide (fun (W : World) (h : Below W1.heap.size W1 W) => show W.rangeAt w.heap.size 0 csF from range_blk (Bk.up P0.out h))
  have RR := hide (fun (W : World) (h : Below W1.heap.size W1 W) => bxk_2g (show W.heap[w.heap.size + 1]? = some (.cells #[.int .i64 k.1, .int .i64 k.2] 23) from Bk.up P1.out h))
  have hw3 : w.heap.size + 2 < W1.heap.size := Bk.lt P2.out
  clear hW1 hv hN hus hS hk hfa hcq P0 P1 P2
  cases hm : maF 340 (.mk us ps)
  · rw [hm] at C1 ET
    replace ET := hide (show scT k n (.mk us ps) = .mk z01 [] from ET.out)
    clear C3 C4 hm RF RR
    have OZ := hide (us_one (us := z01) (u := nilS) rfl)
    obtain ⟨A, hAA⟩ : ∃ A, usL z01 ++ [nilS] = A := ⟨_, rfl⟩
    rw [hAA] at C2 L2 OZ
    have HAA := hide hAA
    clear hAA
    go_enter Tryd.func11, Tryd.ntmps11
    go_upto_region 1 with fail
    rw [HW1.out]
    clear HW1
    go_wp2_with (first
      | (refine wpList_load_mid rfl 30 (.tmp 2) rfl w.heap.size 0 rfl csF _ RF1.out Tryd.underlying30 rfl FL.out ?_; rw [HFA.out])
      | (go_at_call 20; refine (C1.out _ B0.out).mono ?_; rintro e w1 ⟨rfl, B1⟩; replace B1 := hide B1)
      | (go_at_call 21; refine (C2.out _ (bto B0.out B1.out)).mono ?_; rintro e w5 ⟨rfl, B5⟩; replace B5 := hide (bto B1.out B5))
      | (refine wpList_store_mid rfl 30 (.tmp 4) (.tmp 8) rfl (w.heap.size + 2) 0 A.toArray rfl rfl (TH.out _ A L2.out B5.out) (HI.out A L2.out) (all_oneCell_toArray OZ.out) ?_))
    (try rw [show A.toArray.toList = A from rfl])
    refine ret_cell (b := w.heap.size + 2) (cs := A) Tryd.results11 rfl (World.rangeAt_setCells_same _ _ _ _ (TH.out _ A L2.out B5.out)) Tryd.underlying30 rfl (by rw [L2.out]; kernel_rfl) rfl ?_
    rw [ET.out]
    exact PkPost.mk (f := .mk z01 []) nilS (by show _ = Ending.returned (.agg (usL z01 ++ [nilS]).toArray); rw [HAA.out]) (.inl ⟨_, _, rfl, rfl⟩) ((bto B0.out B5.out).grown (setCells_grown _ _ _ _) (bto B0.out B5.out).size (fun k hk => by cases hk; omega))
  · rw [hm] at C1 ET
    replace ET := hide (show scT k n (.mk us ps) = scF cq n (.mk us ps) from ET.out)
    clear C2 hm L2
    obtain ⟨SF, hSF⟩ : ∃ x, scF cq n (.mk us ps) = x := ⟨_, rfl⟩
    rw [hSF] at ET C4
    clear hSF
    obtain ⟨SL, SP⟩ := SF
    replace C4 := hide (show ∀ W, Below w.heap.size w W → Calls Tryd.prog 22 #[.agg fa, .agg #[.int .i64 cq.1, .int .i64 cq.2]] W fun e w' => ∃ v, e = .returned (.agg (usL SL ++ [v]).toArray) ∧ Us SL ∧ PM (cutW W.heap.size w') n v SP ∧ Below W.heap.size W w' from C4.out)
    go_enter Tryd.func11, Tryd.ntmps11
    go_upto_region 1 with fail
    rw [HW1.out]
    clear HW1
    go_upto_region 3 with (first
      | (refine wpList_load_mid rfl 30 (.tmp 2) rfl w.heap.size 0 rfl csF _ RF1.out Tryd.underlying30 rfl FL.out ?_; rw [HFA.out])
      | (go_at_call 20; refine (C1.out _ B0.out).mono ?_; rintro e w1 ⟨rfl, B1⟩; replace B1 := hide B1))
    refine wp_region_tl2 (by kernel_rfl) (kdG3 csF k cq) 3 rfl (Stat.of (by kernel_rfl)) (acy_of (by kernel_rfl)) (by kernel_rfl) ?_ ?_
    · as_aux_lemma =>
        intro Q' i o hi ho blk listed a wx I hd
        rcases (show i = 0 ∨ i = 1 ∨ i = 2 by omega) with rfl | rfl | rfl
        · obtain rfl := Option.some.inj ho
          exact wpOp_valW rfl (wn rfl) (run_ldF rfl (show a.tmps.getD 2 undef = _ from (I.oth_at (by kernel_rfl)).trans rfl) (RF.out wx (bto B1.out I.up)) Tryd.underlying30 rfl FL.out) (show _ ∧ _ from ⟨rfl, be.Up.refl _⟩)
        · obtain rfl := Option.some.inj ho
          exact wpOp_valW rfl (wn rfl) (run_ldA rfl (show a.tmps.getD 3 undef = _ from (I.oth_at (by kernel_rfl)).trans rfl) (RR.out wx (bto B1.out I.up)).1 (RR.out wx (bto B1.out I.up)).2) (show _ ∧ _ from ⟨rfl, be.Up.refl _⟩)
        · obtain rfl := Option.some.inj ho
          have v0 := (I.val_at (i := 1) (by decide) (hd ⟨1, .data⟩ (by simp) rfl) (.inl rfl) rfl)
          refine wpOp_callW rfl (wn rfl) (run_cl1 rfl rfl (fun v => enters_of Tryd.func23 (by kernel_rfl) rfl #[v] wx)) ?_
          refine (show Calls Tryd.prog 23 #[a.tmps.getD _ undef] wx _ from ?_)
          rw [v0]
          exact (C3.out wx).mono (by rintro e w' ⟨rfl, hu⟩; exact ⟨_, rfl, (show _ ∧ _ from ⟨rfl, hu⟩)⟩)
    · intro blk listed a' wx I hall LATE
      have fr := I.frameL [(9, (.agg csF.toArray)), (10, (.agg #[.int .i64 k.1, .int .i64 k.2])), (11, (.agg #[.int .i64 cq.1, .int .i64 cq.2])), (12, undef)] (by
        intro p hp
        simp only [List.mem_cons, List.not_mem_nil, or_false] at hp
        rcases hp with rfl | rfl | rfl | rfl
        · exact ⟨by simp, I.val_at (i := 0) (by decide) (hall _ (by decide)) (.inl rfl) rfl⟩
        · exact ⟨by simp, I.val_at (i := 1) (by decide) (hall _ (by decide)) (.inl rfl) rfl⟩
        · exact ⟨by simp, I.val_at (i := 2) (by decide) (hall _ (by decide)) (.inl rfl) rfl⟩
        · exact ⟨by simp, (LATE 3 12 (by decide) (by decide) rfl).trans rfl⟩) (by kernel_rfl)
      have BY := hide (show Below W1.heap.size W1 wx from bto B1.out I.up)
      clear I hall LATE
      subst fr
      dsimp only [setsL, List.set_cons_zero, List.set_cons_succ]
      refine wpOp_callW rfl (wn rfl) (run_cl2 rfl rfl (fun v u => enters_of Tryd.func22 (by kernel_rfl) rfl #[v, u] wx)) ?_
      refine (show Calls Tryd.prog 22 #[.agg csF.toArray, .agg #[.int .i64 cq.1, .int .i64 cq.2]] wx _ from ?_)
      rw [HFA.out]
      refine (C4.out wx (bto B0.out BY.out)).mono ?_
      rintro e w5 ⟨v, rfl, hSL, PV, B5⟩
      refine ⟨_, rfl, ?_⟩
      have LS := fo_len hSL v
      refine wpOp_stM (b := w.heap.size + 2) (off := 0) (cells := (usL SL ++ [v]).toArray) rfl rfl rfl rfl rfl (TH.out _ _ LS (bto BY.out B5)) (HI.out _ LS) (all_oneCell_toArray (us_one (pm_one PV))) ?_
      have BW := hide (show Below w.heap.size w (w5.setCells (w.heap.size + 2) 0 (usL SL ++ [v])) from (bto B0.out (bto BY.out B5)).grown (setCells_grown _ _ _ _) (bto B0.out (bto BY.out B5)).size (fun k hk => by cases hk; omega))
      have RA := World.rangeAt_setCells_same w5 (w.heap.size + 2) 0 (usL SL ++ [v]) (by have := TH.out _ _ LS (bto BY.out B5); rwa [List.size_toArray] at this)
      have hsx : w.heap.size + 2 < wx.heap.size := Nat.lt_of_lt_of_le hw3 BY.out.size
      have HPV : PM (w5.setCells (w.heap.size + 2) 0 (usL SL ++ [v])) n v SP := pm_sees ⟨by rw [cut_size, setCells_size]; omega, fun b o v' h => by
        by_cases hb : b < wx.heap.size
        · rw [cut_low _ hb] at h; cases h
        · rw [cell_blk (cut_blk _ (by omega)) o] at h
          rw [cell_blk (setCells_far b (w.heap.size + 2) 0 (by omega) _ _ _) o]
          exact h⟩ PV
      have EF := hide (show foV SL v = .agg (usL SL ++ [v]).toArray from rfl)
      generalize usL SL ++ [v] = A at *
      go_wp2_with fail
      refine ret_cell (b := w.heap.size + 2) (cs := A) Tryd.results11 rfl RA Tryd.underlying30 rfl (by rw [LS]; kernel_rfl) rfl ?_
      rw [ET.out]
      exact PkPost.mk (f := .mk SL SP) v (by show _ = Ending.returned (foV SL v); rw [EF.out]) HPV BW.out
end Go.Proofs.YtlhmecagijdinaaDoor.nm
