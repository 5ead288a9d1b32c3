/-
  Which tokens may be, which must stand apart: the law.
  Tokens as a row reads them; the table of kinds out of what a row lays.
  The tables that are laid; the law of may.
  The law of texts of selectors.
-/
import Derived.Test.YtmkbjcoagfnegaaGreatDoorZ14
import Derived.Deep.RegionHeld3
import Derived.ProofKit
import Derived.OpenShut
import Derived.JoinedCond
import Derived.Carry
import Derived.Lib.SmallJoins
import Derived.Lib.LaidTab
import Derived.Test.YtmkbjcoagfnegaaGreatDoorZ45
import Derived.Test.YtmkbjcoagfnegaaGreatDoorZ18
import Derived.Test.YtmkbjcoagfnegaaGreatDoorZ25
set_option linter.unusedVariables false
set_option linter.unusedSimpArgs false
namespace Go.Proofs.YtmkbjcoagfnegaaGreatDoor
open Go.RowKit

end Go.Proofs.YtmkbjcoagfnegaaGreatDoor
set_option linter.unusedVariables false
set_option linter.unusedSimpArgs false
namespace Go.Proofs.YtmkbjcoagfnegaaGreatDoor
open Go.ChangeShapes Go.WideShapes Go.ChangeAt Go.RowKit Go.Joins

theorem cI : Tryz.prog.cellsOf 3 = 1 := by kernel_rfl
theorem cS : Tryz.prog.cellsOf 9 = 1 := by kernel_rfl
theorem cB : Tryz.prog.cellsOf 4 = 1 := by kernel_rfl
/-- From what the row lays to the two tables. -/
theorem tabs_of {W : World} {a1 : String × DataW Unit} {r : List (String × DataW Unit)}
    (h : laidMet Tryz.prog (a1 :: ("math/bits.deBruijn64tab", Rows.laid_math_bits_deBruijn64tab) :: ("internal/strconv.uint64pow10", Rows.laid_internal_strconv_uint64pow10) :: r) W) : Tabs W := by
  obtain ⟨ps, hL, _⟩ := h
  obtain ⟨_, _, _, _, _, q1, _, _, _, _, hL, _⟩ := hL
  obtain ⟨g', t', cs, fuel, p, q, hg', ht', hvar, hd, hL, _⟩ := hL
  obtain ⟨g2, t2, cs2, fuel2, p2, q2, hg2, ht2, hvar2, hd2, _, _⟩ := hL
  refine ⟨?_, ?_⟩
  · have hg : Tryz.prog.globalNamed "math/bits.deBruijn64tab" = some 4 := by kernel_rfl
    have hty : (Tryz.prog.globals[4]?).map (·.type) = some 246 := by kernel_rfl
    have hu : Tryz.prog.underlying 246 = some (.array 64 5) := by kernel_rfl
    have he : Tryz.prog.underlying 5 = some (.int .u8) := by kernel_rfl
    have hc1 : Tryz.prog.cellsOf 5 = 1 := by kernel_rfl
    have hc9 : Tryz.prog.cellsOf 246 = 64 := by kernel_rfl
    obtain rfl := Option.some.inj (hg.symm.trans hg')
    obtain rfl := Option.some.inj (hty.symm.trans ht')
    have hd' : DataW.trod (fun _ => ()) Tryz.prog W 0 (fun _ => true) false fuel 246 cs.toList = some (Lib.tabData .u8 (Lib.deBruijn64tab.map fun n : Nat => (n : Int)), p) := hd
    unfold Lib.TabIs
    rw [hvar, ← Lib.cells_of_tab hu he hc1 hc9 hd']
  · have hg : Tryz.prog.globalNamed "internal/strconv.uint64pow10" = some 1 := by kernel_rfl
    have hty : (Tryz.prog.globals[1]?).map (·.type) = some 216 := by kernel_rfl
    have hu : Tryz.prog.underlying 216 = some (.array 20 178) := by kernel_rfl
    have he : Tryz.prog.underlying 178 = some (.int .u64) := by kernel_rfl
    have hc1 : Tryz.prog.cellsOf 178 = 1 := by kernel_rfl
    have hc9 : Tryz.prog.cellsOf 216 = 20 := by kernel_rfl
    obtain rfl := Option.some.inj (hg.symm.trans hg2)
    obtain rfl := Option.some.inj (hty.symm.trans ht2)
    have hd' : DataW.trod (fun _ => ()) Tryz.prog W 0 (fun _ => true) false fuel2 216 cs2.toList = some (Lib.tabData .u64 Lib.pow10Tab, p2) := hd2
    unfold Lib.TabIs
    rw [hvar2, ← Lib.cells_of_tab hu he hc1 hc9 hd']
/-! ### The table of kinds -/
def kd (k : Nat) : DataW Unit := .agg [.lit (.bool (tx k)), .lit (.bool (nm k)), .lit (.bool (nu k)), .lit (.bool (ro k)), .lit (.bool (jo k)), .lit (.string (fx k).data.toList)]
theorem laid_kd : Rows.laid_jalousie_spell_kinds = .agg ((List.range 25).map kd) := by kernel_rfl
theorem cK : Tryz.prog.cellsOf 209 = 6 := by kernel_rfl
theorem take1 {α : Type} {l : List α} {j : Nat} {x : α} (h : (l.drop j).take 1 = [x]) : l[j]? = some x := by
  cases hl : l.drop j with
  | nil => rw [hl] at h; simp at h
  | cons y r =>
    rw [hl] at h
    simp at h
    have : (l.drop j)[0]? = some y := by rw [hl]; rfl
    rw [List.getElem?_drop, Nat.add_zero] at this
    rw [this, h]
theorem chunk_at {α : Type} {l : List α} {k j : Nat} {x : α} (hj : j < 6) (h : ((l.drop (k * 6)).take 6)[j]? = some x) : l[k * 6 + j]? = some x := by
  rw [List.getElem?_take, if_pos hj, List.getElem?_drop] at h
  exact h
set_option maxRecDepth 100000 in
theorem row_kd {W : World} {base : Nat} {sp : Nat → Bool} {held : Bool} {m : Nat} {cs : List Value} {k : Nat} {q : List MemPlace} (h : DataW.trod (fun _ => ()) Tryz.prog W base sp held m 209 cs = some (kd k, q)) :
    cs[0]? = some (.bool (tx k)) ∧ cs[1]? = some (.bool (nm k)) ∧ cs[2]? = some (.bool (nu k)) ∧ cs[3]? = some (.bool (ro k)) ∧ cs[4]? = some (.bool (jo k)) ∧ cs[5]? = some (.string (fx k)) := by
  obtain ⟨xs, m', _, hx, _, hl, hq⟩ := DataW.trod_struct Tryz.underlying209 h
  match xs, hl with
  | [y0, y1, y2, y3, y4, y5], _ =>
    have q0 : DataW.trod (fun _ => ()) Tryz.prog W base sp held m' 4 ((cs.drop 0).take (Tryz.prog.cellsOf 4)) = some y0 := hq 0 _ rfl
    have q1 : DataW.trod (fun _ => ()) Tryz.prog W base sp held m' 4 ((cs.drop 1).take (Tryz.prog.cellsOf 4)) = some y1 := hq 1 _ rfl
    have q2 : DataW.trod (fun _ => ()) Tryz.prog W base sp held m' 4 ((cs.drop 2).take (Tryz.prog.cellsOf 4)) = some y2 := hq 2 _ rfl
    have q3 : DataW.trod (fun _ => ()) Tryz.prog W base sp held m' 4 ((cs.drop 3).take (Tryz.prog.cellsOf 4)) = some y3 := hq 3 _ rfl
    have q4 : DataW.trod (fun _ => ()) Tryz.prog W base sp held m' 4 ((cs.drop 4).take (Tryz.prog.cellsOf 4)) = some y4 := hq 4 _ rfl
    have q5 : DataW.trod (fun _ => ()) Tryz.prog W base sp held m' 9 ((cs.drop 5).take (Tryz.prog.cellsOf 9)) = some y5 := hq 5 _ rfl
    rw [cB] at q0 q1 q2 q3 q4
    rw [cS] at q5
    obtain ⟨b0, e0, rfl⟩ := DataW.trod_bool Tryz.underlying4 q0
    obtain ⟨b1, e1, rfl⟩ := DataW.trod_bool Tryz.underlying4 q1
    obtain ⟨b2, e2, rfl⟩ := DataW.trod_bool Tryz.underlying4 q2
    obtain ⟨b3, e3, rfl⟩ := DataW.trod_bool Tryz.underlying4 q3
    obtain ⟨b4, e4, rfl⟩ := DataW.trod_bool Tryz.underlying4 q4
    obtain ⟨s5, e5, rfl, _⟩ := DataW.trod_string Tryz.underlying9 q5
    have hd := congrArg Prod.fst hx
    simp only [kd, List.map_cons, List.map_nil, DataW.agg.injEq, List.cons.injEq, DataW.lit.injEq, Lit.bool.injEq, Lit.string.injEq, and_true] at hd
    obtain ⟨g0, g1, g2, g3, g4, g5⟩ := hd
    have g5' : fx k = s5 := by
      have h1 := Array.toList_inj.1 g5
      cases hf : fx k; cases s5
      rw [hf] at h1
      exact congrArg ByteArray.mk h1
    rw [g0, g1, g2, g3, g4, g5']
    exact ⟨take1 e0, take1 e1, take1 e2, take1 e3, take1 e4, take1 e5⟩
end Go.Proofs.YtmkbjcoagfnegaaGreatDoor
set_option linter.unusedVariables false
set_option linter.unusedSimpArgs false
namespace Go.Proofs.YtmkbjcoagfnegaaGreatDoor
open Go.ChangeShapes Go.WideShapes Go.ChangeAt Go.RowKit Go.Joins

set_option maxRecDepth 100000 in
theorem kt_of5 {W : World} {a1 a2 a3 a4 a5 : String × DataW Unit} {r : List (String × DataW Unit)}
    (h : laidMet Tryz.prog (a1 :: a2 :: a3 :: a4 :: a5 :: ("jalousie/spell.kinds", Rows.laid_jalousie_spell_kinds) :: r) W) : KT W := by
  obtain ⟨ps, hL, _⟩ := h
  obtain ⟨_, _, _, _, _, q1, _, _, _, _, hL, _⟩ := hL
  obtain ⟨_, _, _, _, _, q2, _, _, _, _, hL, _⟩ := hL
  obtain ⟨_, _, _, _, _, q3, _, _, _, _, hL, _⟩ := hL
  obtain ⟨_, _, _, _, _, q4, _, _, _, _, hL, _⟩ := hL
  obtain ⟨_, _, _, _, _, q5, _, _, _, _, hL, _⟩ := hL
  obtain ⟨g', t', cs, fuel, p, q, hg', ht', hvar, hd, _, _⟩ := hL
  have hg : Tryz.prog.globalNamed "jalousie/spell.kinds" = some 2 := by kernel_rfl
  have hty : (Tryz.prog.globals[2]?).map (·.type) = some 220 := by kernel_rfl
  have hu : Tryz.prog.underlying 220 = some (.array 25 209) := by kernel_rfl
  obtain rfl := Option.some.inj (hg.symm.trans hg')
  obtain rfl := Option.some.inj (hty.symm.trans ht')
  have hd' : DataW.trod (fun _ => ()) Tryz.prog W 0 (fun _ => true) false fuel 220 cs.toList = some (Rows.laid_jalousie_spell_kinds, p) := hd
  rw [laid_kd] at hd'
  obtain ⟨xs, m, _, hx, _, hl, hq⟩ := DataW.trod_array hu hd'
  have hm : (List.range 25).map kd = xs.map (·.1) := by
    have := congrArg Prod.fst hx
    simpa using this
  have cells : ∀ k, k < 25 → ∀ j, j < 6 → W.cell? ⟨2, k * 6 + j, none⟩ = cs.toList[k * 6 + j]? := fun k hk j hj => by
    have := World.var?_cell hg hvar (k * 6 + j)
    rw [this]; simp
  have row : ∀ k, k < 25 → W.cell? ⟨2, k * 6 + 0, none⟩ = some (.bool (tx k)) ∧ W.cell? ⟨2, k * 6 + 1, none⟩ = some (.bool (nm k)) ∧ W.cell? ⟨2, k * 6 + 2, none⟩ = some (.bool (nu k)) ∧ W.cell? ⟨2, k * 6 + 3, none⟩ = some (.bool (ro k)) ∧ W.cell? ⟨2, k * 6 + 4, none⟩ = some (.bool (jo k)) ∧ W.cell? ⟨2, k * 6 + 5, none⟩ = some (.string (fx k)) := fun k hk => by
    have hxk : ∃ qk, xs[k]? = some (kd k, qk) := by
      have h1 : (xs.map (·.1))[k]? = some (kd k) := by rw [← hm]; simp [hk]
      rw [List.getElem?_map] at h1
      cases hxx : xs[k]? with
      | none => rw [hxx] at h1; cases h1
      | some y =>
        rw [hxx] at h1
        simp at h1
        exact ⟨y.2, by rw [← h1]⟩
    obtain ⟨qk, hqk⟩ := hxk
    have ht := hq k hk
    rw [cK, hqk] at ht
    obtain ⟨r0, r1, r2, r3, r4, r5⟩ := row_kd ht
    exact ⟨(cells k hk 0 (by omega)).trans (chunk_at (by omega) r0), (cells k hk 1 (by omega)).trans (chunk_at (by omega) r1), (cells k hk 2 (by omega)).trans (chunk_at (by omega) r2), (cells k hk 3 (by omega)).trans (chunk_at (by omega) r3), (cells k hk 4 (by omega)).trans (chunk_at (by omega) r4), (cells k hk 5 (by omega)).trans (chunk_at (by omega) r5)⟩
  exact ⟨World.block_lt_of_cell? _ _ (row 0 (by omega)).1, row⟩
set_option maxRecDepth 100000 in
theorem kinds_of4 {W : World} {a1 a2 a3 a4 : String × DataW Unit} {r : List (String × DataW Unit)}
    (h : laidMet Tryz.prog (a1 :: a2 :: a3 :: a4 :: ("jalousie/jalousieref3.kinds", Rows.laid_jalousie_jalousieref3_kinds) :: r) W) : Kinds W := by
  obtain ⟨ps, hL, _⟩ := h
  obtain ⟨_, _, _, _, _, q1, _, _, _, _, hL, _⟩ := hL
  obtain ⟨_, _, _, _, _, q2, _, _, _, _, hL, _⟩ := hL
  obtain ⟨_, _, _, _, _, q3, _, _, _, _, hL, _⟩ := hL
  obtain ⟨_, _, _, _, _, q4, _, _, _, _, hL, _⟩ := hL
  obtain ⟨g', t', cs, fuel, p, q, hg', ht', hvar, hd, _, _⟩ := hL
  have hg : Tryz.prog.globalNamed "jalousie/jalousieref3.kinds" = some 0 := by kernel_rfl
  have hty : (Tryz.prog.globals[0]?).map (·.type) = some 128 := by kernel_rfl
  have hu : Tryz.prog.underlying 128 = some (.array 9 3) := by kernel_rfl
  have he : Tryz.prog.underlying 3 = some (.int .i64) := by kernel_rfl
  have hc1 : Tryz.prog.cellsOf 3 = 1 := by kernel_rfl
  have hc9 : Tryz.prog.cellsOf 128 = 9 := by kernel_rfl
  obtain rfl := Option.some.inj (hg.symm.trans hg')
  obtain rfl := Option.some.inj (hty.symm.trans ht')
  have hd' : DataW.trod (fun _ => ()) Tryz.prog W 0 (fun _ => true) false fuel 128 cs.toList = some (Lib.tabData .i64 [21, 22, 19, 20, 23, 24, 18, 16, 17], p) := hd
  have tab : Lib.TabIs Tryz.prog W "jalousie/jalousieref3.kinds" .i64 [21, 22, 19, 20, 23, 24, 18, 16, 17] := by
    unfold Lib.TabIs
    rw [hvar, ← Lib.cells_of_tab hu he hc1 hc9 hd']
  have c := fun i (hi : i < 9) => tab.cell hg i hi
  exact ⟨World.block_lt_of_cell? _ _ (c 0 (by decide)), c 0 (by decide), c 1 (by decide), c 2 (by decide), c 3 (by decide), c 4 (by decide), c 5 (by decide), c 6 (by decide), c 7 (by decide), c 8 (by decide)⟩
end Go.Proofs.YtmkbjcoagfnegaaGreatDoor
set_option linter.unusedVariables false
set_option linter.unusedSimpArgs false
namespace Go.Proofs.YtmkbjcoagfnegaaGreatDoor
open Go.RowKit Go.Shelf

set_option maxRecDepth 100000 in
set_option maxHeartbeats 4000000 in
theorem textR9_any (n : Nat) (l : List Cx) (v : Value) (w : World) (hv : CM w n v l) (hm : lsM 65 l = true) (hl : (lsT n l).length ≤ 1000000000000) (hT : Tabs w) :
    Calls Tryz.prog 18 #[v] w fun e w' => ∃ u, e = .returned (.tuple #[.string u, .int .i64 0]) ∧ bl u = lsT n l ∧ Below w.heap.size w w' := by
  have CY := hide (mayRR9_any n l v w hv)
  have CW := hide (fun (w1 : World) (h : Below w.heap.size w w1) => listR_any n 65 l v w1 (Nat.le_refl _) (CM.low h hv) hm hl (hT.below h))
  rw [hm] at CY
  obtain ⟨a, cc, rfl, h9⟩ := hv.shape
  clear hv hl hT hm
  generalize lsT n l = tt at *
  generalize l.length = ln at *
  go_enter Tryz.func18, Tryz.ntmps18
  go_wp2_with (first
    | (go_at_call 16; refine CY.out.mono ?_; rintro e w1 ⟨rfl, B1⟩; have BB := hide B1; clear B1)
    | (go_at_call 38; refine (CW.out _ BB.out).mono ?_; rintro e w2 ⟨u, rfl, hu, B2⟩; have HU := hide hu; replace BB := hide (bto BB.out B2); clear hu B2))
  go_ret2
  exact ⟨u, rfl, HU.out, BB.out⟩
set_option maxRecDepth 100000 in
set_option maxHeartbeats 4000000 in
theorem law_texts9 (n : Nat) (l : List Cx) (v : Value) (w : World) (hv : CM w n v l) (hl : (lsT n l).length ≤ 1000000000000) (hI : Kinds w) (hK : KT w) (hT : Tabs w) :
    Calls Tryz.prog 6 #[v] w fun e w' => e = .returned (.bool true) ∧ Below w.heap.size w w' := by
  have C1 := hide (textP_any n l v w hv hl hK hT)
  have C2 := hide (fun (w1 : World) (B : Below w.heap.size w w1) => mayRR9_any n l v w1 (CM.low B hv))
  have C3 := hide (fun (w1 : World) (B : Below w.heap.size w w1) (hm : lsM 65 l = true) => textR9_any n l v w1 (CM.low B hv) hm hl (hT.below B))
  have C4 := hide (fun (w1 : World) (B : Below w.heap.size w w1) => awake9_any w1 (hI.below B) (hK.below B) (hT.below B))
  have TP := hide (show ∀ u c, TxP n l u c → ((lsM 65 l = true ∧ bl u = lsT n l ∧ c = 0) ∨ (lsM 65 l = false ∧ u = ⟨#[]⟩ ∧ c = 1)) from fun u c h => h)
  clear hv hl hK hT hI
  generalize TxP n l = TT at TP C1
  generalize lsT n l = tt at *
  generalize lsM 65 l = r at *
  cases r with
  | false =>
    have TQ := hide (fun u c (h : TT u c) => show u = ⟨#[]⟩ ∧ c = 1 from (TP.out u c h).elim (fun x => by cases x.1) fun x => x.2)
    clear C3 TP
    go_enter Tryz.func6, Tryz.ntmps6
    go_wp2_with (first
      | (go_at_call 17; refine C1.out.mono ?_; rintro e w1 ⟨u, c, rfl, h, B1⟩; obtain ⟨rfl, rfl⟩ := TQ.out u c h; have HB := hide B1; clear B1 C1 h)
      | (go_at_call 16; refine (C2.out _ HB.out).mono ?_; rintro e w2 ⟨rfl, B2⟩; replace HB := hide (bto HB.out B2); clear B2 C2)
      | (go_at_call 12; refine (C4.out _ HB.out).mono ?_; rintro e w4 ⟨rfl, B4⟩; replace HB := hide (bto HB.out B4); clear B4 C4))
    go_ret
    exact ⟨rfl, HB.out⟩
  | true =>
    have TQ := hide (fun u c (h : TT u c) => show bl u = tt ∧ c = 0 from (TP.out u c h).elim (fun x => x.2) fun x => by cases x.1)
    replace C3 := hide (fun w1 B => C3.out w1 B rfl)
    clear TP
    go_enter Tryz.func6, Tryz.ntmps6
    go_wp2_with (first
      | (go_at_call 17; refine C1.out.mono ?_; rintro e w1 ⟨u, c, rfl, h, B1⟩; obtain ⟨hu, rfl⟩ := TQ.out u c h; have E1 := hide hu; have HB := hide B1; clear B1 C1 h hu)
      | (go_at_call 16; refine (C2.out _ HB.out).mono ?_; rintro e w2 ⟨rfl, B2⟩; replace HB := hide (bto HB.out B2); clear B2 C2)
      | (go_at_call 18; refine (C3.out _ HB.out).mono ?_; rintro e w3 ⟨u', rfl, hu', B3⟩; obtain rfl : u' = u := bl_inj (hu'.trans E1.out.symm); replace HB := hide (bto HB.out B3); clear B3 C3)
      | (go_at_call 12; refine (C4.out _ HB.out).mono ?_; rintro e w4 ⟨rfl, B4⟩; replace HB := hide (bto HB.out B4); clear B4 C4))
    go_ret
    exact ⟨rfl, HB.out⟩
end Go.Proofs.YtmkbjcoagfnegaaGreatDoor

