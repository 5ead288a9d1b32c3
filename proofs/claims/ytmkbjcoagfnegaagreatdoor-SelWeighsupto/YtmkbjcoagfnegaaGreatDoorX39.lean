/-
  Tokens as a row reads them; the table of kinds out of what a row lays.
  The tables that are laid; the law of may.
  Selectors as a row reads them.
-/
import Derived.Test.YtmkbjcoagfnegaaGreatDoorX38
import Derived.ProofKit
import Derived.OpenShut
import Derived.JoinedCond
import Derived.Carry
import Derived.Lib.SmallJoins
import Derived.Lib.LaidTab
import Derived.Test.YtmkbjcoagfnegaaGreatDoorX31
import Derived.Test.YtmkbjcoagfnegaaGreatDoorX33
import Derived.Test.YtmkbjcoagfnegaaGreatDoorX37
import Derived.Test.YtmkbjcoagfnegaaGreatDoorX13
import Derived.Deep.DeepHandedRow
import Derived.Deep.DeepWitnessRowRef
import Derived.Deep.Slices
set_option linter.unusedVariables false
set_option linter.unusedSimpArgs false
namespace Go.Proofs.YtmkbjcoagfnegaaGreatDoor
open Go.ChangeShapes Go.WideShapes Go.ChangeAt Go.RowKit Go.Joins

theorem cT : Tryz.prog.cellsOf 73 = 6 := by kernel_rfl
theorem cR : Tryz.prog.cellsOf 71 = 2 := by kernel_rfl
theorem cI : Tryz.prog.cellsOf 3 = 1 := by kernel_rfl
theorem cL : Tryz.prog.cellsOf 2 = 1 := by kernel_rfl
theorem cS : Tryz.prog.cellsOf 9 = 1 := by kernel_rfl
theorem cB : Tryz.prog.cellsOf 4 = 1 := by kernel_rfl
theorem arr6 {α : Type} {cs : Array α} (h : cs.size = 6) : ∃ c0 c1 c2 c3 c4 c5, cs = #[c0, c1, c2, c3, c4, c5] := by
  obtain ⟨l⟩ := cs
  match l, h with
  | [c0, c1, c2, c3, c4, c5], _ => exact ⟨c0, c1, c2, c3, c4, c5, rfl⟩
def tokD {H : Type} (k : Int) (s : ByteArray) (n d : Int) (i h : Bool) : DataW H := .agg [.lit (.int .i64 k), .lit (.string s.data.toList), .agg [.lit (.int .i64 n), .lit (.int .i64 d)], .lit (.bool i), .lit (.bool h)]
set_option maxRecDepth 100000 in
theorem tok_open {H : Type} {enc : TypeId × Value → H} {W : World} {r : Reach} {b0 base : Nat} {sp : Nat → Bool} {held : Bool} {v : Value} {x : DataW H} {p : List MemPlace}
    (hv : Value.okWide Tryz.prog W r b0 73 v) (h : DataW.Trod enc Tryz.prog W base sp held 73 v x p) :
    ∃ k s n d i h, v = tokV k s n d i h ∧ x = tokD k s n d i h ∧ p = [] ∧ (Lit.int .i64 k).wf = true ∧ s.size ≤ maxLen ∧ (Lit.int .i64 n).wf = true ∧ (Lit.int .i64 d).wf = true := by
  obtain ⟨cs, rfl, hsz⟩ := okWide_struct Tryz.underlying73 hv
  obtain ⟨c0, c1, c2, c3, c4, c5, rfl⟩ := arr6 (hsz.trans cT)
  obtain ⟨fuel, hf⟩ := h
  obtain ⟨xs, m, _, hx, _, hl, hq⟩ := DataW.trod_struct Tryz.underlying73 hf
  match xs, hl with
  | [y0, y1, y2, y3, y4], _ =>
    have q0' : DataW.trod enc Tryz.prog W base sp held m 3 (([c0, c1, c2, c3, c4, c5].drop 0).take (Tryz.prog.cellsOf 3)) = some y0 := hq 0 _ rfl
    rw [cI] at q0'
    have q0 : DataW.trod enc Tryz.prog W base sp held m 3 [c0] = some y0 := q0'
    have q1' : DataW.trod enc Tryz.prog W base sp held m 9 (([c0, c1, c2, c3, c4, c5].drop 1).take (Tryz.prog.cellsOf 9)) = some y1 := hq 1 _ rfl
    rw [cS] at q1'
    have q1 : DataW.trod enc Tryz.prog W base sp held m 9 [c1] = some y1 := q1'
    have q2' : DataW.trod enc Tryz.prog W base sp held m 71 (([c0, c1, c2, c3, c4, c5].drop 2).take (Tryz.prog.cellsOf 71)) = some y2 := hq 2 _ rfl
    rw [cR] at q2'
    have q2 : DataW.trod enc Tryz.prog W base sp held m 71 [c2, c3] = some y2 := q2'
    have q3' : DataW.trod enc Tryz.prog W base sp held m 4 (([c0, c1, c2, c3, c4, c5].drop 4).take (Tryz.prog.cellsOf 4)) = some y3 := hq 3 _ rfl
    rw [cB] at q3'
    have q3 : DataW.trod enc Tryz.prog W base sp held m 4 [c4] = some y3 := q3'
    have q4' : DataW.trod enc Tryz.prog W base sp held m 4 (([c0, c1, c2, c3, c4, c5].drop 5).take (Tryz.prog.cellsOf 4)) = some y4 := hq 4 _ rfl
    rw [cB] at q4'
    have q4 : DataW.trod enc Tryz.prog W base sp held m 4 [c5] = some y4 := q4'
    obtain ⟨k, ek, rfl, wk⟩ := DataW.trod_int Tryz.underlying3 q0
    obtain ⟨s, es, rfl, ws⟩ := DataW.trod_string Tryz.underlying9 q1
    obtain ⟨i, ei, rfl⟩ := DataW.trod_bool Tryz.underlying4 q3
    obtain ⟨h, eh, rfl⟩ := DataW.trod_bool Tryz.underlying4 q4
    obtain ⟨ys, m2, _, hy, _, hl2, hq2⟩ := DataW.trod_struct Tryz.underlying71 q2
    match ys, hl2 with
    | [u0, u1], _ =>
      have r0' : DataW.trod enc Tryz.prog W base sp held m2 2 (([c2, c3].drop 0).take (Tryz.prog.cellsOf 2)) = some u0 := hq2 0 _ rfl
      rw [cL] at r0'
      have r0 : DataW.trod enc Tryz.prog W base sp held m2 2 [c2] = some u0 := r0'
      have r1' : DataW.trod enc Tryz.prog W base sp held m2 2 (([c2, c3].drop 1).take (Tryz.prog.cellsOf 2)) = some u1 := hq2 1 _ rfl
      rw [cL] at r1'
      have r1 : DataW.trod enc Tryz.prog W base sp held m2 2 [c3] = some u1 := r1'
      obtain ⟨n, en, rfl, wn⟩ := DataW.trod_int Tryz.underlying2 r0
      obtain ⟨d, ed, rfl, wd⟩ := DataW.trod_int Tryz.underlying2 r1
      simp at ek es ei eh en ed
      subst ek es ei eh en ed
      subst hy
      simp only [Prod.mk.injEq] at hx
      exact ⟨k, s, n, d, i, h, rfl, by rw [hx.1]; rfl, by rw [hx.2]; rfl, wk, ws, wn, wd⟩
theorem tok_shut {H : Type} {enc : TypeId × Value → H} {W : World} {base : Nat} {sp : Nat → Bool} {held : Bool} (k : Int) (s : ByteArray) (n d : Int) (i h : Bool) (wk : (Lit.int .i64 k).wf = true) (ws : s.size ≤ maxLen) (wn : (Lit.int .i64 n).wf = true) (wd : (Lit.int .i64 d).wf = true) :
    DataW.Trod enc Tryz.prog W base sp held 73 (tokV k s n d i h) (tokD k s n d i h) [] := by
  refine ⟨4, ?_⟩
  simp [DataW.trod, tokV, tokD, Value.cells, Tryz.underlying73, Tryz.underlying71, Tryz.underlying3, Tryz.underlying2, Tryz.underlying9, Tryz.underlying4, cT, cR, cI, cL, cS, cB, wk, ws, wn, wd]
/-- From what the row lays to the two tables. -/
theorem tabs_of {W : World} {a1 : String × DataW Unit} {r : List (String × DataW Unit)}
    (h : laidMet Tryz.prog (a1 :: ("math/bits.deBruijn64tab", Rows.laid_math_bits_deBruijn64tab) :: ("internal/strconv.uint64pow10", Rows.laid_internal_strconv_uint64pow10) :: r) W) : Tabs W := by
  obtain ⟨ps, hL, _⟩ := h
  obtain ⟨_, _, _, _, _, q1, _, _, _, _, hL, _⟩ := hL
  obtain ⟨g', t', cs, fuel, p, q, hg', ht', hvar, hd, hL, _⟩ := hL
  obtain ⟨g2, t2, cs2, fuel2, p2, q2, hg2, ht2, hvar2, hd2, _, _⟩ := hL
  refine ⟨?_, ?_⟩
  · have hg : Tryz.prog.globalNamed "math/bits.deBruijn64tab" = some 4 := by kernel_rfl
    have hty : (Tryz.prog.globals[4]?).map (·.type) = some 246 := by kernel_rfl
    have hu : Tryz.prog.underlying 246 = some (.array 64 5) := by kernel_rfl
    have he : Tryz.prog.underlying 5 = some (.int .u8) := by kernel_rfl
    have hc1 : Tryz.prog.cellsOf 5 = 1 := by kernel_rfl
    have hc9 : Tryz.prog.cellsOf 246 = 64 := by kernel_rfl
    obtain rfl := Option.some.inj (hg.symm.trans hg')
    obtain rfl := Option.some.inj (hty.symm.trans ht')
    have hd' : DataW.trod (fun _ => ()) Tryz.prog W 0 (fun _ => true) false fuel 246 cs.toList = some (Lib.tabData .u8 (Lib.deBruijn64tab.map fun n : Nat => (n : Int)), p) := hd
    unfold Lib.TabIs
    rw [hvar, ← Lib.cells_of_tab hu he hc1 hc9 hd']
  · have hg : Tryz.prog.globalNamed "internal/strconv.uint64pow10" = some 1 := by kernel_rfl
    have hty : (Tryz.prog.globals[1]?).map (·.type) = some 216 := by kernel_rfl
    have hu : Tryz.prog.underlying 216 = some (.array 20 178) := by kernel_rfl
    have he : Tryz.prog.underlying 178 = some (.int .u64) := by kernel_rfl
    have hc1 : Tryz.prog.cellsOf 178 = 1 := by kernel_rfl
    have hc9 : Tryz.prog.cellsOf 216 = 20 := by kernel_rfl
    obtain rfl := Option.some.inj (hg.symm.trans hg2)
    obtain rfl := Option.some.inj (hty.symm.trans ht2)
    have hd' : DataW.trod (fun _ => ()) Tryz.prog W 0 (fun _ => true) false fuel2 216 cs2.toList = some (Lib.tabData .u64 Lib.pow10Tab, p2) := hd2
    unfold Lib.TabIs
    rw [hvar2, ← Lib.cells_of_tab hu he hc1 hc9 hd']
/-! ### The table of kinds -/
def kd (k : Nat) : DataW Unit := .agg [.lit (.bool (tx k)), .lit (.bool (nm k)), .lit (.bool (nu k)), .lit (.bool (ro k)), .lit (.bool (jo k)), .lit (.string (fx k).data.toList)]
theorem laid_kd : Rows.laid_jalousie_spell_kinds = .agg ((List.range 25).map kd) := by kernel_rfl
theorem cK : Tryz.prog.cellsOf 209 = 6 := by kernel_rfl
theorem cA : Tryz.prog.cellsOf 220 = 150 := by kernel_rfl
theorem take1 {α : Type} {l : List α} {j : Nat} {x : α} (h : (l.drop j).take 1 = [x]) : l[j]? = some x := by
  cases hl : l.drop j with
  | nil => rw [hl] at h; simp at h
  | cons y r =>
    rw [hl] at h
    simp at h
    have : (l.drop j)[0]? = some y := by rw [hl]; rfl
    rw [List.getElem?_drop, Nat.add_zero] at this
    rw [this, h]
theorem chunk_at {α : Type} {l : List α} {k j : Nat} {x : α} (hj : j < 6) (h : ((l.drop (k * 6)).take 6)[j]? = some x) : l[k * 6 + j]? = some x := by
  rw [List.getElem?_take, if_pos hj, List.getElem?_drop] at h
  exact h
set_option maxRecDepth 100000 in
theorem row_kd {W : World} {base : Nat} {sp : Nat → Bool} {held : Bool} {m : Nat} {cs : List Value} {k : Nat} {q : List MemPlace} (h : DataW.trod (fun _ => ()) Tryz.prog W base sp held m 209 cs = some (kd k, q)) :
    cs[0]? = some (.bool (tx k)) ∧ cs[1]? = some (.bool (nm k)) ∧ cs[2]? = some (.bool (nu k)) ∧ cs[3]? = some (.bool (ro k)) ∧ cs[4]? = some (.bool (jo k)) ∧ cs[5]? = some (.string (fx k)) := by
  obtain ⟨xs, m', _, hx, _, hl, hq⟩ := DataW.trod_struct Tryz.underlying209 h
  match xs, hl with
  | [y0, y1, y2, y3, y4, y5], _ =>
    have q0 : DataW.trod (fun _ => ()) Tryz.prog W base sp held m' 4 ((cs.drop 0).take (Tryz.prog.cellsOf 4)) = some y0 := hq 0 _ rfl
    have q1 : DataW.trod (fun _ => ()) Tryz.prog W base sp held m' 4 ((cs.drop 1).take (Tryz.prog.cellsOf 4)) = some y1 := hq 1 _ rfl
    have q2 : DataW.trod (fun _ => ()) Tryz.prog W base sp held m' 4 ((cs.drop 2).take (Tryz.prog.cellsOf 4)) = some y2 := hq 2 _ rfl
    have q3 : DataW.trod (fun _ => ()) Tryz.prog W base sp held m' 4 ((cs.drop 3).take (Tryz.prog.cellsOf 4)) = some y3 := hq 3 _ rfl
    have q4 : DataW.trod (fun _ => ()) Tryz.prog W base sp held m' 4 ((cs.drop 4).take (Tryz.prog.cellsOf 4)) = some y4 := hq 4 _ rfl
    have q5 : DataW.trod (fun _ => ()) Tryz.prog W base sp held m' 9 ((cs.drop 5).take (Tryz.prog.cellsOf 9)) = some y5 := hq 5 _ rfl
    rw [cB] at q0 q1 q2 q3 q4
    rw [cS] at q5
    obtain ⟨b0, e0, rfl⟩ := DataW.trod_bool Tryz.underlying4 q0
    obtain ⟨b1, e1, rfl⟩ := DataW.trod_bool Tryz.underlying4 q1
    obtain ⟨b2, e2, rfl⟩ := DataW.trod_bool Tryz.underlying4 q2
    obtain ⟨b3, e3, rfl⟩ := DataW.trod_bool Tryz.underlying4 q3
    obtain ⟨b4, e4, rfl⟩ := DataW.trod_bool Tryz.underlying4 q4
    obtain ⟨s5, e5, rfl, _⟩ := DataW.trod_string Tryz.underlying9 q5
    have hd := congrArg Prod.fst hx
    simp only [kd, List.map_cons, List.map_nil, DataW.agg.injEq, List.cons.injEq, DataW.lit.injEq, Lit.bool.injEq, Lit.string.injEq, and_true] at hd
    obtain ⟨g0, g1, g2, g3, g4, g5⟩ := hd
    have g5' : fx k = s5 := by
      have h1 := Array.toList_inj.1 g5
      cases hf : fx k; cases s5
      rw [hf] at h1
      exact congrArg ByteArray.mk h1
    rw [g0, g1, g2, g3, g4, g5']
    exact ⟨take1 e0, take1 e1, take1 e2, take1 e3, take1 e4, take1 e5⟩
set_option maxRecDepth 100000 in
/-- From what a row lays to the table of kinds. -/
theorem kt_of {W : World} {a1 a2 a3 a4 : String × DataW Unit} {r : List (String × DataW Unit)}
    (h : laidMet Tryz.prog (a1 :: a2 :: a3 :: a4 :: ("jalousie/spell.kinds", Rows.laid_jalousie_spell_kinds) :: r) W) : KT W := by
  obtain ⟨ps, hL, _⟩ := h
  obtain ⟨_, _, _, _, _, q1, _, _, _, _, hL, _⟩ := hL
  obtain ⟨_, _, _, _, _, q2, _, _, _, _, hL, _⟩ := hL
  obtain ⟨_, _, _, _, _, q3, _, _, _, _, hL, _⟩ := hL
  obtain ⟨_, _, _, _, _, q4, _, _, _, _, hL, _⟩ := hL
  obtain ⟨g', t', cs, fuel, p, q, hg', ht', hvar, hd, _, _⟩ := hL
  have hg : Tryz.prog.globalNamed "jalousie/spell.kinds" = some 2 := by kernel_rfl
  have hty : (Tryz.prog.globals[2]?).map (·.type) = some 220 := by kernel_rfl
  have hu : Tryz.prog.underlying 220 = some (.array 25 209) := by kernel_rfl
  obtain rfl := Option.some.inj (hg.symm.trans hg')
  obtain rfl := Option.some.inj (hty.symm.trans ht')
  have hd' : DataW.trod (fun _ => ()) Tryz.prog W 0 (fun _ => true) false fuel 220 cs.toList = some (Rows.laid_jalousie_spell_kinds, p) := hd
  rw [laid_kd] at hd'
  obtain ⟨xs, m, _, hx, _, hl, hq⟩ := DataW.trod_array hu hd'
  have hm : (List.range 25).map kd = xs.map (·.1) := by
    have := congrArg Prod.fst hx
    simpa using this
  have cells : ∀ k, k < 25 → ∀ j, j < 6 → W.cell? ⟨2, k * 6 + j, none⟩ = cs.toList[k * 6 + j]? := fun k hk j hj => by
    have := World.var?_cell hg hvar (k * 6 + j)
    rw [this]; simp
  have row : ∀ k, k < 25 → W.cell? ⟨2, k * 6 + 0, none⟩ = some (.bool (tx k)) ∧ W.cell? ⟨2, k * 6 + 1, none⟩ = some (.bool (nm k)) ∧ W.cell? ⟨2, k * 6 + 2, none⟩ = some (.bool (nu k)) ∧ W.cell? ⟨2, k * 6 + 3, none⟩ = some (.bool (ro k)) ∧ W.cell? ⟨2, k * 6 + 4, none⟩ = some (.bool (jo k)) ∧ W.cell? ⟨2, k * 6 + 5, none⟩ = some (.string (fx k)) := fun k hk => by
    have hxk : ∃ qk, xs[k]? = some (kd k, qk) := by
      have h1 : (xs.map (·.1))[k]? = some (kd k) := by rw [← hm]; simp [hk]
      rw [List.getElem?_map] at h1
      cases hxx : xs[k]? with
      | none => rw [hxx] at h1; cases h1
      | some y =>
        rw [hxx] at h1
        simp at h1
        exact ⟨y.2, by rw [← h1]⟩
    obtain ⟨qk, hqk⟩ := hxk
    have ht := hq k hk
    rw [cK, hqk] at ht
    obtain ⟨r0, r1, r2, r3, r4, r5⟩ := row_kd ht
    exact ⟨(cells k hk 0 (by omega)).trans (chunk_at (by omega) r0), (cells k hk 1 (by omega)).trans (chunk_at (by omega) r1), (cells k hk 2 (by omega)).trans (chunk_at (by omega) r2), (cells k hk 3 (by omega)).trans (chunk_at (by omega) r3), (cells k hk 4 (by omega)).trans (chunk_at (by omega) r4), (cells k hk 5 (by omega)).trans (chunk_at (by omega) r5)⟩
  exact ⟨World.block_lt_of_cell? _ _ (row 0 (by omega)).1, row⟩
end Go.Proofs.YtmkbjcoagfnegaaGreatDoor
set_option linter.unusedVariables false
set_option linter.unusedSimpArgs false
namespace Go.Proofs.YtmkbjcoagfnegaaGreatDoor
open Go.ChangeShapes Go.WideShapes Go.ChangeAt Go.RowKit Go.Joins

set_option maxRecDepth 100000 in
theorem kt_of5 {W : World} {a1 a2 a3 a4 a5 : String × DataW Unit} {r : List (String × DataW Unit)}
    (h : laidMet Tryz.prog (a1 :: a2 :: a3 :: a4 :: a5 :: ("jalousie/spell.kinds", Rows.laid_jalousie_spell_kinds) :: r) W) : KT W := by
  obtain ⟨ps, hL, _⟩ := h
  obtain ⟨_, _, _, _, _, q1, _, _, _, _, hL, _⟩ := hL
  obtain ⟨_, _, _, _, _, q2, _, _, _, _, hL, _⟩ := hL
  obtain ⟨_, _, _, _, _, q3, _, _, _, _, hL, _⟩ := hL
  obtain ⟨_, _, _, _, _, q4, _, _, _, _, hL, _⟩ := hL
  obtain ⟨_, _, _, _, _, q5, _, _, _, _, hL, _⟩ := hL
  obtain ⟨g', t', cs, fuel, p, q, hg', ht', hvar, hd, _, _⟩ := hL
  have hg : Tryz.prog.globalNamed "jalousie/spell.kinds" = some 2 := by kernel_rfl
  have hty : (Tryz.prog.globals[2]?).map (·.type) = some 220 := by kernel_rfl
  have hu : Tryz.prog.underlying 220 = some (.array 25 209) := by kernel_rfl
  obtain rfl := Option.some.inj (hg.symm.trans hg')
  obtain rfl := Option.some.inj (hty.symm.trans ht')
  have hd' : DataW.trod (fun _ => ()) Tryz.prog W 0 (fun _ => true) false fuel 220 cs.toList = some (Rows.laid_jalousie_spell_kinds, p) := hd
  rw [laid_kd] at hd'
  obtain ⟨xs, m, _, hx, _, hl, hq⟩ := DataW.trod_array hu hd'
  have hm : (List.range 25).map kd = xs.map (·.1) := by
    have := congrArg Prod.fst hx
    simpa using this
  have cells : ∀ k, k < 25 → ∀ j, j < 6 → W.cell? ⟨2, k * 6 + j, none⟩ = cs.toList[k * 6 + j]? := fun k hk j hj => by
    have := World.var?_cell hg hvar (k * 6 + j)
    rw [this]; simp
  have row : ∀ k, k < 25 → W.cell? ⟨2, k * 6 + 0, none⟩ = some (.bool (tx k)) ∧ W.cell? ⟨2, k * 6 + 1, none⟩ = some (.bool (nm k)) ∧ W.cell? ⟨2, k * 6 + 2, none⟩ = some (.bool (nu k)) ∧ W.cell? ⟨2, k * 6 + 3, none⟩ = some (.bool (ro k)) ∧ W.cell? ⟨2, k * 6 + 4, none⟩ = some (.bool (jo k)) ∧ W.cell? ⟨2, k * 6 + 5, none⟩ = some (.string (fx k)) := fun k hk => by
    have hxk : ∃ qk, xs[k]? = some (kd k, qk) := by
      have h1 : (xs.map (·.1))[k]? = some (kd k) := by rw [← hm]; simp [hk]
      rw [List.getElem?_map] at h1
      cases hxx : xs[k]? with
      | none => rw [hxx] at h1; cases h1
      | some y =>
        rw [hxx] at h1
        simp at h1
        exact ⟨y.2, by rw [← h1]⟩
    obtain ⟨qk, hqk⟩ := hxk
    have ht := hq k hk
    rw [cK, hqk] at ht
    obtain ⟨r0, r1, r2, r3, r4, r5⟩ := row_kd ht
    exact ⟨(cells k hk 0 (by omega)).trans (chunk_at (by omega) r0), (cells k hk 1 (by omega)).trans (chunk_at (by omega) r1), (cells k hk 2 (by omega)).trans (chunk_at (by omega) r2), (cells k hk 3 (by omega)).trans (chunk_at (by omega) r3), (cells k hk 4 (by omega)).trans (chunk_at (by omega) r4), (cells k hk 5 (by omega)).trans (chunk_at (by omega) r5)⟩
  exact ⟨World.block_lt_of_cell? _ _ (row 0 (by omega)).1, row⟩
set_option maxRecDepth 100000 in
theorem kinds_of4 {W : World} {a1 a2 a3 a4 : String × DataW Unit} {r : List (String × DataW Unit)}
    (h : laidMet Tryz.prog (a1 :: a2 :: a3 :: a4 :: ("jalousie/jalousieref3.kinds", Rows.laid_jalousie_jalousieref3_kinds) :: r) W) : Kinds W := by
  obtain ⟨ps, hL, _⟩ := h
  obtain ⟨_, _, _, _, _, q1, _, _, _, _, hL, _⟩ := hL
  obtain ⟨_, _, _, _, _, q2, _, _, _, _, hL, _⟩ := hL
  obtain ⟨_, _, _, _, _, q3, _, _, _, _, hL, _⟩ := hL
  obtain ⟨_, _, _, _, _, q4, _, _, _, _, hL, _⟩ := hL
  obtain ⟨g', t', cs, fuel, p, q, hg', ht', hvar, hd, _, _⟩ := hL
  have hg : Tryz.prog.globalNamed "jalousie/jalousieref3.kinds" = some 0 := by kernel_rfl
  have hty : (Tryz.prog.globals[0]?).map (·.type) = some 128 := by kernel_rfl
  have hu : Tryz.prog.underlying 128 = some (.array 9 3) := by kernel_rfl
  have he : Tryz.prog.underlying 3 = some (.int .i64) := by kernel_rfl
  have hc1 : Tryz.prog.cellsOf 3 = 1 := by kernel_rfl
  have hc9 : Tryz.prog.cellsOf 128 = 9 := by kernel_rfl
  obtain rfl := Option.some.inj (hg.symm.trans hg')
  obtain rfl := Option.some.inj (hty.symm.trans ht')
  have hd' : DataW.trod (fun _ => ()) Tryz.prog W 0 (fun _ => true) false fuel 128 cs.toList = some (Lib.tabData .i64 [21, 22, 19, 20, 23, 24, 18, 16, 17], p) := hd
  have tab : Lib.TabIs Tryz.prog W "jalousie/jalousieref3.kinds" .i64 [21, 22, 19, 20, 23, 24, 18, 16, 17] := by
    unfold Lib.TabIs
    rw [hvar, ← Lib.cells_of_tab hu he hc1 hc9 hd']
  have c := fun i (hi : i < 9) => tab.cell hg i hi
  exact ⟨World.block_lt_of_cell? _ _ (c 0 (by decide)), c 0 (by decide), c 1 (by decide), c 2 (by decide), c 3 (by decide), c 4 (by decide), c 5 (by decide), c 6 (by decide), c 7 (by decide), c 8 (by decide)⟩
set_option maxRecDepth 100000 in
set_option maxHeartbeats 4000000 in
theorem law_may9 (n : Nat) (l : List Cx) (v : Value) (w : World) (hv : CM w n v l) (hI : Kinds w) (hK : KT w) (hT : Tabs w) :
    Calls Tryz.prog 5 #[v] w fun e w' => e = .returned (.bool true) ∧ Below w.heap.size w w' := by
  have C1 := hide (may9_any n l v w hv hK hT)
  have C2 := hide (fun (w1 : World) (B : Below w.heap.size w w1) => mayRR9_any n l v w1 (CM.low B hv))
  have C3 := hide (fun (w1 : World) (B : Below w.heap.size w w1) => may9_any 0 [] (.slice none 0 0) w1 ⟨rfl, none, 0, rfl⟩ (hK.below B) (hT.below B))
  have C4 := hide (fun (w1 : World) (B : Below w.heap.size w w1) => awake9_any w1 (hI.below B) (hK.below B) (hT.below B))
  rw [show lsM 65 [] = false from rfl] at C3
  generalize lsM 65 l = r at *
  clear hv hK hT hI
  go_enter Tryz.func5, Tryz.ntmps5
  go_wp2_with (first
    | (go_at_call 15; refine C1.out.mono ?_; rintro e w1 ⟨rfl, B1⟩; have HB := hide B1; clear B1 C1)
    | (go_at_call 16; refine (C2.out _ HB.out).mono ?_; rintro e w2 ⟨rfl, B2⟩; replace HB := hide (bto HB.out B2); clear B2 C2)
    | (go_at_call 15; refine (C3.out _ HB.out).mono ?_; rintro e w3 ⟨rfl, B3⟩; replace HB := hide (bto HB.out B3); clear B3 C3)
    | (go_at_call 12; refine (C4.out _ HB.out).mono ?_; rintro e w4 ⟨rfl, B4⟩; replace HB := hide (bto HB.out B4); clear B4 C4))
  go_ret
  exact ⟨rfl, HB.out⟩
end Go.Proofs.YtmkbjcoagfnegaaGreatDoor
set_option linter.unusedVariables false
namespace Go.Proofs.YtmkbjcoagfnegaaGreatDoor.sel9
open Go.ChangeShapes Go.WideShapes Go.ChangeAt Go.RowKit Go.Joins
open Go.ChangeMaps (open_string shut_string)

theorem one_le {H : Type} (d : DataW H) : 1 ≤ Rows.uptoBulk d := by
  cases d with
  | lit l => cases l <;> simp [Rows.uptoBulk]
  | nil => simp [Rows.uptoBulk]
  | ptr d => simp [Rows.uptoBulk]
  | slice elems spare => simp [Rows.uptoBulk]
  | agg parts => simp [Rows.uptoBulk]
  | iface t d => simp [Rows.uptoBulk]
  | map entries => simp [Rows.uptoBulk]
  | held h => simp [Rows.uptoBulk]
theorem length_le {H : Type} (l : List (DataW H)) : l.length ≤ Rows.uptoBulkAll l := by
  induction l with
  | nil => simp [Rows.uptoBulkAll]
  | cons x r ih => have := one_le x; simp only [Rows.uptoBulkAll, List.length_cons]; omega
theorem mem_le {H : Type} {l : List (DataW H)} {d : DataW H} (h : d ∈ l) : Rows.uptoBulk d ≤ Rows.uptoBulkAll l := by
  induction l with
  | nil => cases h
  | cons x r ih =>
    simp only [Rows.uptoBulkAll]
    rcases List.mem_cons.1 h with rfl | h
    · omega
    · have := ih h; omega
theorem str_le {H : Type} (s : ByteArray) : s.size ≤ Rows.uptoBulk (.lit (.string s.data.toList) : DataW H) := by
  simp only [Rows.uptoBulk]
  have e : s.data.toList.length = s.size := by rw [Array.length_toList]; rfl
  omega
/-- A slice that comes in, whatever its elements are. -/
theorem row_open {α : Type} [Inhabited α] {H : Type} {enc : TypeId × Value → H} {W : World} {held : Bool} {T E : TypeId} {sz : Nat} (hT : Tryz.prog.underlying T = some (.slice E)) (hsz : Tryz.prog.cellsOf E = sz) (h0 : 0 < sz) (R : Nat → Nat → α → Prop)
    {c : Value} {fuel : Nat} {x : DataW H × List MemPlace} (hf : DataW.trod enc Tryz.prog W 0 (fun _ => true) held fuel T [c] = some x) {N : Nat} (hN : Rows.uptoBulk x.1 ≤ N + 1) (hN9 : N ≤ 1048576)
    (each : ∀ (b o m : Nat) (cs : List Value) (d : DataW H × List MemPlace), cs.length = sz → (∀ j, j < sz → W.cell? ⟨b, o + j, none⟩ = cs[j]?) → b < W.heap.size → DataW.trod enc Tryz.prog W 0 (fun _ => true) held m E cs = some d → Rows.uptoBulk d.1 ≤ N → ∃ y : α, R b o y) : ∃ l, RowOf W sz R c l := by
  rcases Go.Deep.open_slice hT hf with ⟨hcs, hx⟩ | ⟨a1, len, cap, m, n, D, Pl, hcs, _, hl, hm, hmm, hx, each0⟩
  · simp at hcs
    subst hcs
    exact ⟨[], .inl ⟨_, _, rfl, rfl⟩⟩
  · simp at hcs
    subst hcs
    simp only [if_true] at hmm
    subst hmm
    rw [hx] at hN
    simp only [Rows.uptoBulk] at hN
    have hlen := length_le ((List.range len).map D)
    rw [List.length_map, List.length_range] at hlen
    by_cases hl0 : len = 0
    · subst hl0; exact ⟨[], .inl ⟨_, _, rfl, rfl⟩⟩
    obtain ⟨b, off, spot⟩ := a1
    have hspot : spot = none := by
      obtain ⟨cs, h1, h2⟩ := each0 0 (by omega)
      rw [hsz] at h1
      obtain ⟨_, hcl, hcell⟩ := World.cells?_some h1
      have c00 := hcell 0 h0
      rw [List.getElem?_eq_getElem (by omega)] at c00
      simpa [Addr.add] using World.cell?_spot c00
    subst hspot
    have each2 : ∀ i, i < len → ∃ y : α, R b (off + i * sz) y := by
      intro i hi
      obtain ⟨cs, h1, h2⟩ := each0 i (by omega)
      rw [hsz] at h1
      obtain ⟨_, hcl, hcell⟩ := World.cells?_some h1
      have hm2 := mem_le (d := D i) (l := (List.range len).map D) (List.mem_map.2 ⟨i, List.mem_range.2 hi, rfl⟩)
      refine each b (off + i * sz) _ cs _ hcl (fun j hj => ?_) ?_ h2 (by show Rows.uptoBulk (D i) ≤ N; omega)
      · have := hcell j hj
        rwa [Addr.add_lit, Addr.add_lit] at this
      · have c00 := hcell 0 h0
        rw [List.getElem?_eq_getElem (by omega)] at c00
        have k := World.block_lt_of_cell? _ _ c00
        rwa [Addr.add_lit, Addr.add_lit] at k
    obtain ⟨q, hq⟩ := Go.Deep.choose_lt each2
    have hll : ((List.range len).map q).length = len := by simp
    refine ⟨(List.range len).map q, .inr ⟨b, off, m, by rw [hll], by rw [hll]; omega, ?_, by rw [hll]; exact hl, by rw [hll]; omega, by unfold maxLen at hm; omega, fun i y hi => ?_⟩⟩
    · obtain ⟨cs, h1, h2⟩ := each0 0 (by omega)
      rw [hsz] at h1
      obtain ⟨_, hcl, hcell⟩ := World.cells?_some h1
      have c00 := hcell 0 h0
      rw [List.getElem?_eq_getElem (by omega)] at c00
      have k := World.block_lt_of_cell? _ _ c00
      simpa [Addr.add] using k
    · have hil : i < len := by
        have := (List.getElem?_eq_some_iff.1 hi).1
        simpa using this
      rw [List.getElem?_map, List.getElem?_range hil] at hi
      have e : q i = y := by simpa using hi
      rw [← e]
      exact hq i hil
instance : Inhabited Sl := ⟨.mk 0 0 0 0 ⟨#[]⟩ ⟨#[]⟩ false []⟩
theorem cCx : Tryz.prog.cellsOf 40 = 1 := by kernel_rfl
theorem cCp : Tryz.prog.cellsOf 67 = 2 := by kernel_rfl
theorem cSl : Tryz.prog.cellsOf 69 = 8 := by kernel_rfl
theorem cSl' : Tryz.prog.cellsOf 23 = 1 := by kernel_rfl
theorem cSs : Tryz.prog.cellsOf 65 = 1 := by kernel_rfl
theorem cPs : Tryz.prog.cellsOf 38 = 1 := by kernel_rfl
/-- A simple selector that comes in. -/
theorem sl_open {H : Type} {enc : TypeId × Value → H} {W : World} {held : Bool} {X : Value → List Cx → Prop} {b o m N : Nat} {cs : List Value} {d : DataW H × List MemPlace} (hl : cs.length = 8) (hc : ∀ j, j < 8 → W.cell? ⟨b, o + j, none⟩ = cs[j]?)
    (hf : DataW.trod enc Tryz.prog W 0 (fun _ => true) held m 69 cs = some d) (hN : Rows.uptoBulk d.1 ≤ N + 1) (hN9 : N ≤ 1048576)
    (hX : ∀ (c : Value) (fuel : Nat) (x : DataW H × List MemPlace), DataW.trod enc Tryz.prog W 0 (fun _ => true) held fuel 23 [c] = some x → Rows.uptoBulk x.1 ≤ N → ∃ l, X c l) : ∃ s, SlR W X b o s := by
  match cs, hl with
  | [c0, c1, c2, c3, c4, c5, c6, c7], _ =>
    obtain ⟨xs, k', _, hx', _, hl', hq⟩ := DataW.trod_struct Tryz.underlying69 hf
    match xs, hl' with
    | [y0, y1, y2, y3, y4, y5, y6, y7], _ =>
      have q0' : DataW.trod enc Tryz.prog W 0 (fun _ => true) held k' 3 (([c0, c1, c2, c3, c4, c5, c6, c7].drop 0).take (Tryz.prog.cellsOf 3)) = some y0 := hq 0 _ rfl
      rw [cI] at q0'
      have q0 : DataW.trod enc Tryz.prog W 0 (fun _ => true) held k' 3 [c0] = some y0 := q0'
      have q1' : DataW.trod enc Tryz.prog W 0 (fun _ => true) held k' 9 (([c0, c1, c2, c3, c4, c5, c6, c7].drop 1).take (Tryz.prog.cellsOf 9)) = some y1 := hq 1 _ rfl
      rw [cS] at q1'
      have q1 : DataW.trod enc Tryz.prog W 0 (fun _ => true) held k' 9 [c1] = some y1 := q1'
      have q2' : DataW.trod enc Tryz.prog W 0 (fun _ => true) held k' 3 (([c0, c1, c2, c3, c4, c5, c6, c7].drop 2).take (Tryz.prog.cellsOf 3)) = some y2 := hq 2 _ rfl
      rw [cI] at q2'
      have q2 : DataW.trod enc Tryz.prog W 0 (fun _ => true) held k' 3 [c2] = some y2 := q2'
      have q3' : DataW.trod enc Tryz.prog W 0 (fun _ => true) held k' 9 (([c0, c1, c2, c3, c4, c5, c6, c7].drop 3).take (Tryz.prog.cellsOf 9)) = some y3 := hq 3 _ rfl
      rw [cS] at q3'
      have q3 : DataW.trod enc Tryz.prog W 0 (fun _ => true) held k' 9 [c3] = some y3 := q3'
      have q4' : DataW.trod enc Tryz.prog W 0 (fun _ => true) held k' 4 (([c0, c1, c2, c3, c4, c5, c6, c7].drop 4).take (Tryz.prog.cellsOf 4)) = some y4 := hq 4 _ rfl
      rw [cB] at q4'
      have q4 : DataW.trod enc Tryz.prog W 0 (fun _ => true) held k' 4 [c4] = some y4 := q4'
      have q5' : DataW.trod enc Tryz.prog W 0 (fun _ => true) held k' 23 (([c0, c1, c2, c3, c4, c5, c6, c7].drop 5).take (Tryz.prog.cellsOf 23)) = some y5 := hq 5 _ rfl
      rw [cSl'] at q5'
      have q5 : DataW.trod enc Tryz.prog W 0 (fun _ => true) held k' 23 [c5] = some y5 := q5'
      have q6' : DataW.trod enc Tryz.prog W 0 (fun _ => true) held k' 3 (([c0, c1, c2, c3, c4, c5, c6, c7].drop 6).take (Tryz.prog.cellsOf 3)) = some y6 := hq 6 _ rfl
      rw [cI] at q6'
      have q6 : DataW.trod enc Tryz.prog W 0 (fun _ => true) held k' 3 [c6] = some y6 := q6'
      have q7' : DataW.trod enc Tryz.prog W 0 (fun _ => true) held k' 3 (([c0, c1, c2, c3, c4, c5, c6, c7].drop 7).take (Tryz.prog.cellsOf 3)) = some y7 := hq 7 _ rfl
      rw [cI] at q7'
      have q7 : DataW.trod enc Tryz.prog W 0 (fun _ => true) held k' 3 [c7] = some y7 := q7'
      obtain ⟨k, ek, rfl, wk⟩ := DataW.trod_int Tryz.underlying3 q0
      obtain ⟨nm, en, rfl, wn⟩ := DataW.trod_string Tryz.underlying9 q1
      obtain ⟨op, eo, rfl, wo⟩ := DataW.trod_int Tryz.underlying3 q2
      obtain ⟨vl, ev, rfl, wv⟩ := DataW.trod_string Tryz.underlying9 q3
      obtain ⟨fo, ef, rfl⟩ := DataW.trod_bool Tryz.underlying4 q4
      obtain ⟨a, ea, rfl, wa⟩ := DataW.trod_int Tryz.underlying3 q6
      obtain ⟨b', eb, rfl, wb⟩ := DataW.trod_int Tryz.underlying3 q7
      simp at ek en eo ev ef ea eb
      subst ek en eo ev ef ea eb
      have hD : d.1 = .agg [.lit (.int .i64 k), .lit (.string nm.data.toList), .lit (.int .i64 op), .lit (.string vl.data.toList), .lit (.bool fo), y5.1, .lit (.int .i64 a), .lit (.int .i64 b')] := by simpa using congrArg Prod.fst hx'
      rw [hD] at hN
      simp only [Rows.uptoBulk, Rows.uptoBulkAll] at hN
      have e1 : nm.data.toList.length = nm.size := by rw [Array.length_toList]; rfl
      have e2 : vl.data.toList.length = vl.size := by rw [Array.length_toList]; rfl
      obtain ⟨l, hXl⟩ := hX c5 k' y5 q5 (by omega)
      obtain ⟨x1, x2⟩ := bounds_i64 wk
      obtain ⟨x3, x4⟩ := bounds_i64 wo
      obtain ⟨x5, x6⟩ := bounds_i64 wa
      obtain ⟨x7, x8⟩ := bounds_i64 wb
      exact ⟨.mk k op a b' nm vl fo l, c5, ⟨hc 0 (by omega), hc 1 (by omega), hc 2 (by omega), hc 3 (by omega), hc 4 (by omega), hc 5 (by omega), hc 6 (by omega), hc 7 (by omega)⟩, hXl, ⟨x1, x2, x3, x4, x5, x6, x7, x8, by show nm.size ≤ _; omega, by show vl.size ≤ _; omega⟩⟩
theorem cp_open {H : Type} {enc : TypeId × Value → H} {W : World} {held : Bool} {X : Value → List Cx → Prop} {b o m N : Nat} {cs : List Value} {d : DataW H × List MemPlace} (hl : cs.length = 2) (hc : ∀ j, j < 2 → W.cell? ⟨b, o + j, none⟩ = cs[j]?)
    (hf : DataW.trod enc Tryz.prog W 0 (fun _ => true) held m 67 cs = some d) (hN : Rows.uptoBulk d.1 ≤ N + 1) (hN9 : N ≤ 1048576)
    (hX : ∀ (c : Value) (fuel : Nat) (x : DataW H × List MemPlace), DataW.trod enc Tryz.prog W 0 (fun _ => true) held fuel 23 [c] = some x → Rows.uptoBulk x.1 ≤ N → ∃ l, X c l) : ∃ p, CpR W X b o p := by
  match cs, hl with
  | [c0, c1], _ =>
    obtain ⟨xs, k', _, hx', _, hl', hq⟩ := DataW.trod_struct Tryz.underlying67 hf
    match xs, hl' with
    | [y0, y1], _ =>
      have q0' : DataW.trod enc Tryz.prog W 0 (fun _ => true) held k' 3 (([c0, c1].drop 0).take (Tryz.prog.cellsOf 3)) = some y0 := hq 0 _ rfl
      rw [cI] at q0'
      have q0 : DataW.trod enc Tryz.prog W 0 (fun _ => true) held k' 3 [c0] = some y0 := q0'
      have q1' : DataW.trod enc Tryz.prog W 0 (fun _ => true) held k' 65 (([c0, c1].drop 1).take (Tryz.prog.cellsOf 65)) = some y1 := hq 1 _ rfl
      rw [cSs] at q1'
      have q1 : DataW.trod enc Tryz.prog W 0 (fun _ => true) held k' 65 [c1] = some y1 := q1'
      obtain ⟨k, ek, rfl, wk⟩ := DataW.trod_int Tryz.underlying3 q0
      simp at ek
      subst ek
      have hD : d.1 = .agg [.lit (.int .i64 k), y1.1] := by simpa using congrArg Prod.fst hx'
      rw [hD] at hN
      simp only [Rows.uptoBulk, Rows.uptoBulkAll] at hN
      obtain ⟨x1, x2⟩ := bounds_i64 wk
      obtain ⟨ss, hss⟩ := row_open Tryz.underlying65 cSl (by omega) (SlR W X) q1 (N := N) (by omega) hN9 (fun b o m cs d h1 h2 h3 h4 h5 => sl_open h1 h2 h4 (by omega) hN9 hX)
      exact ⟨(k, ss), c1, hc 0 (by omega), hc 1 (by omega), hss, x1, x2⟩
theorem cx_open {H : Type} {enc : TypeId × Value → H} {W : World} {held : Bool} {X : Value → List Cx → Prop} {b o m N : Nat} {cs : List Value} {d : DataW H × List MemPlace} (hl : cs.length = 1) (hc : ∀ j, j < 1 → W.cell? ⟨b, o + j, none⟩ = cs[j]?)
    (hf : DataW.trod enc Tryz.prog W 0 (fun _ => true) held m 40 cs = some d) (hN : Rows.uptoBulk d.1 ≤ N + 1) (hN9 : N ≤ 1048576)
    (hX : ∀ (c : Value) (fuel : Nat) (x : DataW H × List MemPlace), DataW.trod enc Tryz.prog W 0 (fun _ => true) held fuel 23 [c] = some x → Rows.uptoBulk x.1 ≤ N → ∃ l, X c l) : ∃ c, CxR W X b o c := by
  match cs, hl with
  | [c0], _ =>
    obtain ⟨xs, k', _, hx', _, hl', hq⟩ := DataW.trod_struct Tryz.underlying40 hf
    match xs, hl' with
    | [y0], _ =>
      have q0' : DataW.trod enc Tryz.prog W 0 (fun _ => true) held k' 38 (([c0].drop 0).take (Tryz.prog.cellsOf 38)) = some y0 := hq 0 _ rfl
      rw [cPs] at q0'
      have q0 : DataW.trod enc Tryz.prog W 0 (fun _ => true) held k' 38 [c0] = some y0 := q0'
      have hD : d.1 = .agg [y0.1] := by simpa using congrArg Prod.fst hx'
      rw [hD] at hN
      simp only [Rows.uptoBulk, Rows.uptoBulkAll] at hN
      obtain ⟨ps, hps⟩ := row_open Tryz.underlying38 cCp (by omega) (CpR W X) q0 (N := N) (by omega) hN9 (fun b o m cs d h1 h2 h3 h4 h5 => cp_open h1 h2 h4 (by omega) hN9 hX)
      exact ⟨ps, c0, hc 0 (by omega), hps⟩
/-- A slice of selectors that comes in. -/
theorem cxs_open {H : Type} {enc : TypeId × Value → H} {W : World} {held : Bool} (N : Nat) : ∀ (c : Value) (fuel : Nat) (x : DataW H × List MemPlace),
    DataW.trod enc Tryz.prog W 0 (fun _ => true) held fuel 23 [c] = some x → Rows.uptoBulk x.1 ≤ N → N ≤ 1048576 → ∃ l : List Cx, CM W N c l := by
  induction N with
  | zero => intro c fuel x hf hb; have := one_le x.1; omega
  | succ N ih =>
    intro c fuel x hf hb hN
    exact row_open (α := Cx) Tryz.underlying23 cCx (by omega) (CxR W (CM W N)) hf hb (by omega) (fun b o m cs d h1 h2 h3 h4 h5 => cx_open h1 h2 h4 (by omega) (by omega) (fun c fuel x hx hbx => ih c fuel x hx hbx (by omega)))
end Go.Proofs.YtmkbjcoagfnegaaGreatDoor.sel9
