/-
  Which tokens may be, which must stand apart: the law.
  Tokens as a row reads them; the table of kinds out of what a row lays.
  The tables that are laid.
  Two weights held against each other.
-/
import Derived.Test.YtmkbjcoagfnegabGreatDoorV34
import Derived.Deep.RegionHeld3
import Derived.ProofKit
import Derived.OpenShut
import Derived.JoinedCond
import Derived.Carry
import Derived.Lib.SmallJoins
import Derived.Lib.LaidTab
import Derived.Test.YtmkbjcoagfnegabGreatDoorV31
import Derived.Test.YtmkbjcoagfnegabGreatDoorV33
import Derived.Test.YtmkbjcoagfnegabGreatDoorV03
set_option linter.unusedVariables false
set_option linter.unusedSimpArgs false
namespace Go.Proofs.YtmkbjcoagfnegabGreatDoor
open Go.RowKit

theorem keep12 {w0 W : World} {b c : Nat} {k : Int} {s : ByteArray} {n d : Int} {i h : Bool} {k' : Int} {s' : ByteArray} {n' d' : Int} {i' h' : Bool} (hb : Below w0.heap.size w0 W) (t : Tok6 w0 b k s n d i h) (u : Tok6 w0 c k' s' n' d' i' h') :
    W.cell? ⟨b, 0, none⟩ = some (.int .i64 k) ∧ W.cell? ⟨b, 1, none⟩ = some (.string s) ∧ W.cell? ⟨b, 2, none⟩ = some (.int .i64 n) ∧ W.cell? ⟨b, 3, none⟩ = some (.int .i64 d) ∧ W.cell? ⟨b, 4, none⟩ = some (.bool i) ∧ W.cell? ⟨b, 5, none⟩ = some (.bool h) ∧
    W.cell? ⟨c, 0, none⟩ = some (.int .i64 k') ∧ W.cell? ⟨c, 1, none⟩ = some (.string s') ∧ W.cell? ⟨c, 2, none⟩ = some (.int .i64 n') ∧ W.cell? ⟨c, 3, none⟩ = some (.int .i64 d') ∧ W.cell? ⟨c, 4, none⟩ = some (.bool i') ∧ W.cell? ⟨c, 5, none⟩ = some (.bool h') := by
  obtain ⟨_, a0, a1, a2, a3, a4, a5⟩ := t.below hb
  obtain ⟨_, c0, c1, c2, c3, c4, c5⟩ := u.below hb
  exact ⟨a0, a1, a2, a3, a4, a5, c0, c1, c2, c3, c4, c5⟩
theorem may_13 : mayT 13 (bl ⟨#[]⟩) 0 0 false false = true := by
  rw [may_rest (by omega)]
  rfl
theorem ap_13 : apB 13 13 = true := rfl
end Go.Proofs.YtmkbjcoagfnegabGreatDoor
set_option linter.unusedVariables false
set_option linter.unusedSimpArgs false
namespace Go.Proofs.YtmkbjcoagfnegabGreatDoor
open Go.ChangeShapes Go.WideShapes Go.ChangeAt Go.RowKit Go.Joins

theorem cT : Tryz.prog.cellsOf 62 = 6 := by kernel_rfl
theorem cR : Tryz.prog.cellsOf 60 = 2 := by kernel_rfl
theorem cI : Tryz.prog.cellsOf 3 = 1 := by kernel_rfl
theorem cL : Tryz.prog.cellsOf 2 = 1 := by kernel_rfl
theorem cS : Tryz.prog.cellsOf 9 = 1 := by kernel_rfl
theorem cB : Tryz.prog.cellsOf 4 = 1 := by kernel_rfl
theorem arr6 {α : Type} {cs : Array α} (h : cs.size = 6) : ∃ c0 c1 c2 c3 c4 c5, cs = #[c0, c1, c2, c3, c4, c5] := by
  obtain ⟨l⟩ := cs
  match l, h with
  | [c0, c1, c2, c3, c4, c5], _ => exact ⟨c0, c1, c2, c3, c4, c5, rfl⟩
def tokD {H : Type} (k : Int) (s : ByteArray) (n d : Int) (i h : Bool) : DataW H := .agg [.lit (.int .i64 k), .lit (.string s.data.toList), .agg [.lit (.int .i64 n), .lit (.int .i64 d)], .lit (.bool i), .lit (.bool h)]
set_option maxRecDepth 100000 in
theorem tok_open {H : Type} {enc : TypeId × Value → H} {W : World} {r : Reach} {b0 base : Nat} {sp : Nat → Bool} {held : Bool} {v : Value} {x : DataW H} {p : List MemPlace}
    (hv : Value.okWide Tryz.prog W r b0 62 v) (h : DataW.Trod enc Tryz.prog W base sp held 62 v x p) :
    ∃ k s n d i h, v = tokV k s n d i h ∧ x = tokD k s n d i h ∧ p = [] ∧ (Lit.int .i64 k).wf = true ∧ s.size ≤ maxLen ∧ (Lit.int .i64 n).wf = true ∧ (Lit.int .i64 d).wf = true := by
  obtain ⟨cs, rfl, hsz⟩ := okWide_struct Tryz.underlying62 hv
  obtain ⟨c0, c1, c2, c3, c4, c5, rfl⟩ := arr6 (hsz.trans cT)
  obtain ⟨fuel, hf⟩ := h
  obtain ⟨xs, m, _, hx, _, hl, hq⟩ := DataW.trod_struct Tryz.underlying62 hf
  match xs, hl with
  | [y0, y1, y2, y3, y4], _ =>
    have q0' : DataW.trod enc Tryz.prog W base sp held m 3 (([c0, c1, c2, c3, c4, c5].drop 0).take (Tryz.prog.cellsOf 3)) = some y0 := hq 0 _ rfl
    rw [cI] at q0'
    have q0 : DataW.trod enc Tryz.prog W base sp held m 3 [c0] = some y0 := q0'
    have q1' : DataW.trod enc Tryz.prog W base sp held m 9 (([c0, c1, c2, c3, c4, c5].drop 1).take (Tryz.prog.cellsOf 9)) = some y1 := hq 1 _ rfl
    rw [cS] at q1'
    have q1 : DataW.trod enc Tryz.prog W base sp held m 9 [c1] = some y1 := q1'
    have q2' : DataW.trod enc Tryz.prog W base sp held m 60 (([c0, c1, c2, c3, c4, c5].drop 2).take (Tryz.prog.cellsOf 60)) = some y2 := hq 2 _ rfl
    rw [cR] at q2'
    have q2 : DataW.trod enc Tryz.prog W base sp held m 60 [c2, c3] = some y2 := q2'
    have q3' : DataW.trod enc Tryz.prog W base sp held m 4 (([c0, c1, c2, c3, c4, c5].drop 4).take (Tryz.prog.cellsOf 4)) = some y3 := hq 3 _ rfl
    rw [cB] at q3'
    have q3 : DataW.trod enc Tryz.prog W base sp held m 4 [c4] = some y3 := q3'
    have q4' : DataW.trod enc Tryz.prog W base sp held m 4 (([c0, c1, c2, c3, c4, c5].drop 5).take (Tryz.prog.cellsOf 4)) = some y4 := hq 4 _ rfl
    rw [cB] at q4'
    have q4 : DataW.trod enc Tryz.prog W base sp held m 4 [c5] = some y4 := q4'
    obtain ⟨k, ek, rfl, wk⟩ := DataW.trod_int Tryz.underlying3 q0
    obtain ⟨s, es, rfl, ws⟩ := DataW.trod_string Tryz.underlying9 q1
    obtain ⟨i, ei, rfl⟩ := DataW.trod_bool Tryz.underlying4 q3
    obtain ⟨h, eh, rfl⟩ := DataW.trod_bool Tryz.underlying4 q4
    obtain ⟨ys, m2, _, hy, _, hl2, hq2⟩ := DataW.trod_struct Tryz.underlying60 q2
    match ys, hl2 with
    | [u0, u1], _ =>
      have r0' : DataW.trod enc Tryz.prog W base sp held m2 2 (([c2, c3].drop 0).take (Tryz.prog.cellsOf 2)) = some u0 := hq2 0 _ rfl
      rw [cL] at r0'
      have r0 : DataW.trod enc Tryz.prog W base sp held m2 2 [c2] = some u0 := r0'
      have r1' : DataW.trod enc Tryz.prog W base sp held m2 2 (([c2, c3].drop 1).take (Tryz.prog.cellsOf 2)) = some u1 := hq2 1 _ rfl
      rw [cL] at r1'
      have r1 : DataW.trod enc Tryz.prog W base sp held m2 2 [c3] = some u1 := r1'
      obtain ⟨n, en, rfl, wn⟩ := DataW.trod_int Tryz.underlying2 r0
      obtain ⟨d, ed, rfl, wd⟩ := DataW.trod_int Tryz.underlying2 r1
      simp at ek es ei eh en ed
      subst ek es ei eh en ed
      subst hy
      simp only [Prod.mk.injEq] at hx
      exact ⟨k, s, n, d, i, h, rfl, by rw [hx.1]; rfl, by rw [hx.2]; rfl, wk, ws, wn, wd⟩
theorem tok_shut {H : Type} {enc : TypeId × Value → H} {W : World} {base : Nat} {sp : Nat → Bool} {held : Bool} (k : Int) (s : ByteArray) (n d : Int) (i h : Bool) (wk : (Lit.int .i64 k).wf = true) (ws : s.size ≤ maxLen) (wn : (Lit.int .i64 n).wf = true) (wd : (Lit.int .i64 d).wf = true) :
    DataW.Trod enc Tryz.prog W base sp held 62 (tokV k s n d i h) (tokD k s n d i h) [] := by
  refine ⟨4, ?_⟩
  simp [DataW.trod, tokV, tokD, Value.cells, Tryz.underlying62, Tryz.underlying60, Tryz.underlying3, Tryz.underlying2, Tryz.underlying9, Tryz.underlying4, cT, cR, cI, cL, cS, cB, wk, ws, wn, wd]
/-- From what the row lays to the two tables. -/
theorem tabs_of {W : World} {a1 : String × DataW Unit} {r : List (String × DataW Unit)}
    (h : laidMet Tryz.prog (a1 :: ("math/bits.deBruijn64tab", Rows.laid_math_bits_deBruijn64tab) :: ("internal/strconv.uint64pow10", Rows.laid_internal_strconv_uint64pow10) :: r) W) : Tabs W := by
  obtain ⟨ps, hL, _⟩ := h
  obtain ⟨_, _, _, _, _, q1, _, _, _, _, hL, _⟩ := hL
  obtain ⟨g', t', cs, fuel, p, q, hg', ht', hvar, hd, hL, _⟩ := hL
  obtain ⟨g2, t2, cs2, fuel2, p2, q2, hg2, ht2, hvar2, hd2, _, _⟩ := hL
  refine ⟨?_, ?_⟩
  · have hg : Tryz.prog.globalNamed "math/bits.deBruijn64tab" = some 2 := by kernel_rfl
    have hty : (Tryz.prog.globals[2]?).map (·.type) = some 184 := by kernel_rfl
    have hu : Tryz.prog.underlying 184 = some (.array 64 5) := by kernel_rfl
    have he : Tryz.prog.underlying 5 = some (.int .u8) := by kernel_rfl
    have hc1 : Tryz.prog.cellsOf 5 = 1 := by kernel_rfl
    have hc9 : Tryz.prog.cellsOf 184 = 64 := by kernel_rfl
    obtain rfl := Option.some.inj (hg.symm.trans hg')
    obtain rfl := Option.some.inj (hty.symm.trans ht')
    have hd' : DataW.trod (fun _ => ()) Tryz.prog W 0 (fun _ => true) false fuel 184 cs.toList = some (Lib.tabData .u8 (Lib.deBruijn64tab.map fun n : Nat => (n : Int)), p) := hd
    unfold Lib.TabIs
    rw [hvar, ← Lib.cells_of_tab hu he hc1 hc9 hd']
  · have hg : Tryz.prog.globalNamed "internal/strconv.uint64pow10" = some 4 := by kernel_rfl
    have hty : (Tryz.prog.globals[4]?).map (·.type) = some 214 := by kernel_rfl
    have hu : Tryz.prog.underlying 214 = some (.array 20 148) := by kernel_rfl
    have he : Tryz.prog.underlying 148 = some (.int .u64) := by kernel_rfl
    have hc1 : Tryz.prog.cellsOf 148 = 1 := by kernel_rfl
    have hc9 : Tryz.prog.cellsOf 214 = 20 := by kernel_rfl
    obtain rfl := Option.some.inj (hg.symm.trans hg2)
    obtain rfl := Option.some.inj (hty.symm.trans ht2)
    have hd' : DataW.trod (fun _ => ()) Tryz.prog W 0 (fun _ => true) false fuel2 214 cs2.toList = some (Lib.tabData .u64 Lib.pow10Tab, p2) := hd2
    unfold Lib.TabIs
    rw [hvar2, ← Lib.cells_of_tab hu he hc1 hc9 hd']
/-! ### The table of kinds -/
def kd (k : Nat) : DataW Unit := .agg [.lit (.bool (tx k)), .lit (.bool (nm k)), .lit (.bool (nu k)), .lit (.bool (ro k)), .lit (.bool (jo k)), .lit (.string (fx k).data.toList)]
theorem laid_kd : Rows.laid_jalousie_spell_kinds = .agg ((List.range 25).map kd) := by kernel_rfl
theorem cK : Tryz.prog.cellsOf 150 = 6 := by kernel_rfl
theorem cA : Tryz.prog.cellsOf 157 = 150 := by kernel_rfl
theorem take1 {α : Type} {l : List α} {j : Nat} {x : α} (h : (l.drop j).take 1 = [x]) : l[j]? = some x := by
  cases hl : l.drop j with
  | nil => rw [hl] at h; simp at h
  | cons y r =>
    rw [hl] at h
    simp at h
    have : (l.drop j)[0]? = some y := by rw [hl]; rfl
    rw [List.getElem?_drop, Nat.add_zero] at this
    rw [this, h]
theorem chunk_at {α : Type} {l : List α} {k j : Nat} {x : α} (hj : j < 6) (h : ((l.drop (k * 6)).take 6)[j]? = some x) : l[k * 6 + j]? = some x := by
  rw [List.getElem?_take, if_pos hj, List.getElem?_drop] at h
  exact h
set_option maxRecDepth 100000 in
theorem row_kd {W : World} {base : Nat} {sp : Nat → Bool} {held : Bool} {m : Nat} {cs : List Value} {k : Nat} {q : List MemPlace} (h : DataW.trod (fun _ => ()) Tryz.prog W base sp held m 150 cs = some (kd k, q)) :
    cs[0]? = some (.bool (tx k)) ∧ cs[1]? = some (.bool (nm k)) ∧ cs[2]? = some (.bool (nu k)) ∧ cs[3]? = some (.bool (ro k)) ∧ cs[4]? = some (.bool (jo k)) ∧ cs[5]? = some (.string (fx k)) := by
  obtain ⟨xs, m', _, hx, _, hl, hq⟩ := DataW.trod_struct Tryz.underlying150 h
  match xs, hl with
  | [y0, y1, y2, y3, y4, y5], _ =>
    have q0 : DataW.trod (fun _ => ()) Tryz.prog W base sp held m' 4 ((cs.drop 0).take (Tryz.prog.cellsOf 4)) = some y0 := hq 0 _ rfl
    have q1 : DataW.trod (fun _ => ()) Tryz.prog W base sp held m' 4 ((cs.drop 1).take (Tryz.prog.cellsOf 4)) = some y1 := hq 1 _ rfl
    have q2 : DataW.trod (fun _ => ()) Tryz.prog W base sp held m' 4 ((cs.drop 2).take (Tryz.prog.cellsOf 4)) = some y2 := hq 2 _ rfl
    have q3 : DataW.trod (fun _ => ()) Tryz.prog W base sp held m' 4 ((cs.drop 3).take (Tryz.prog.cellsOf 4)) = some y3 := hq 3 _ rfl
    have q4 : DataW.trod (fun _ => ()) Tryz.prog W base sp held m' 4 ((cs.drop 4).take (Tryz.prog.cellsOf 4)) = some y4 := hq 4 _ rfl
    have q5 : DataW.trod (fun _ => ()) Tryz.prog W base sp held m' 9 ((cs.drop 5).take (Tryz.prog.cellsOf 9)) = some y5 := hq 5 _ rfl
    rw [cB] at q0 q1 q2 q3 q4
    rw [cS] at q5
    obtain ⟨b0, e0, rfl⟩ := DataW.trod_bool Tryz.underlying4 q0
    obtain ⟨b1, e1, rfl⟩ := DataW.trod_bool Tryz.underlying4 q1
    obtain ⟨b2, e2, rfl⟩ := DataW.trod_bool Tryz.underlying4 q2
    obtain ⟨b3, e3, rfl⟩ := DataW.trod_bool Tryz.underlying4 q3
    obtain ⟨b4, e4, rfl⟩ := DataW.trod_bool Tryz.underlying4 q4
    obtain ⟨s5, e5, rfl, _⟩ := DataW.trod_string Tryz.underlying9 q5
    have hd := congrArg Prod.fst hx
    simp only [kd, List.map_cons, List.map_nil, DataW.agg.injEq, List.cons.injEq, DataW.lit.injEq, Lit.bool.injEq, Lit.string.injEq, and_true] at hd
    obtain ⟨g0, g1, g2, g3, g4, g5⟩ := hd
    have g5' : fx k = s5 := by
      have h1 := Array.toList_inj.1 g5
      cases hf : fx k; cases s5
      rw [hf] at h1
      exact congrArg ByteArray.mk h1
    rw [g0, g1, g2, g3, g4, g5']
    exact ⟨take1 e0, take1 e1, take1 e2, take1 e3, take1 e4, take1 e5⟩
set_option maxRecDepth 100000 in
/-- From what a row lays to the table of kinds. -/
theorem kt_of {W : World} {a1 a2 a3 a4 : String × DataW Unit} {r : List (String × DataW Unit)}
    (h : laidMet Tryz.prog (a1 :: a2 :: a3 :: a4 :: ("jalousie/spell.kinds", Rows.laid_jalousie_spell_kinds) :: r) W) : KT W := by
  obtain ⟨ps, hL, _⟩ := h
  obtain ⟨_, _, _, _, _, q1, _, _, _, _, hL, _⟩ := hL
  obtain ⟨_, _, _, _, _, q2, _, _, _, _, hL, _⟩ := hL
  obtain ⟨_, _, _, _, _, q3, _, _, _, _, hL, _⟩ := hL
  obtain ⟨_, _, _, _, _, q4, _, _, _, _, hL, _⟩ := hL
  obtain ⟨g', t', cs, fuel, p, q, hg', ht', hvar, hd, _, _⟩ := hL
  have hg : Tryz.prog.globalNamed "jalousie/spell.kinds" = some 1 := by kernel_rfl
  have hty : (Tryz.prog.globals[1]?).map (·.type) = some 157 := by kernel_rfl
  have hu : Tryz.prog.underlying 157 = some (.array 25 150) := by kernel_rfl
  obtain rfl := Option.some.inj (hg.symm.trans hg')
  obtain rfl := Option.some.inj (hty.symm.trans ht')
  have hd' : DataW.trod (fun _ => ()) Tryz.prog W 0 (fun _ => true) false fuel 157 cs.toList = some (Rows.laid_jalousie_spell_kinds, p) := hd
  rw [laid_kd] at hd'
  obtain ⟨xs, m, _, hx, _, hl, hq⟩ := DataW.trod_array hu hd'
  have hm : (List.range 25).map kd = xs.map (·.1) := by
    have := congrArg Prod.fst hx
    simpa using this
  have cells : ∀ k, k < 25 → ∀ j, j < 6 → W.cell? ⟨1, k * 6 + j, none⟩ = cs.toList[k * 6 + j]? := fun k hk j hj => by
    have := World.var?_cell hg hvar (k * 6 + j)
    rw [this]; simp
  have row : ∀ k, k < 25 → W.cell? ⟨1, k * 6 + 0, none⟩ = some (.bool (tx k)) ∧ W.cell? ⟨1, k * 6 + 1, none⟩ = some (.bool (nm k)) ∧ W.cell? ⟨1, k * 6 + 2, none⟩ = some (.bool (nu k)) ∧ W.cell? ⟨1, k * 6 + 3, none⟩ = some (.bool (ro k)) ∧ W.cell? ⟨1, k * 6 + 4, none⟩ = some (.bool (jo k)) ∧ W.cell? ⟨1, k * 6 + 5, none⟩ = some (.string (fx k)) := fun k hk => by
    have hxk : ∃ qk, xs[k]? = some (kd k, qk) := by
      have h1 : (xs.map (·.1))[k]? = some (kd k) := by rw [← hm]; simp [hk]
      rw [List.getElem?_map] at h1
      cases hxx : xs[k]? with
      | none => rw [hxx] at h1; cases h1
      | some y =>
        rw [hxx] at h1
        simp at h1
        exact ⟨y.2, by rw [← h1]⟩
    obtain ⟨qk, hqk⟩ := hxk
    have ht := hq k hk
    rw [cK, hqk] at ht
    obtain ⟨r0, r1, r2, r3, r4, r5⟩ := row_kd ht
    exact ⟨(cells k hk 0 (by omega)).trans (chunk_at (by omega) r0), (cells k hk 1 (by omega)).trans (chunk_at (by omega) r1), (cells k hk 2 (by omega)).trans (chunk_at (by omega) r2), (cells k hk 3 (by omega)).trans (chunk_at (by omega) r3), (cells k hk 4 (by omega)).trans (chunk_at (by omega) r4), (cells k hk 5 (by omega)).trans (chunk_at (by omega) r5)⟩
  exact ⟨World.block_lt_of_cell? _ _ (row 0 (by omega)).1, row⟩
end Go.Proofs.YtmkbjcoagfnegabGreatDoor
set_option linter.unusedVariables false
set_option linter.unusedSimpArgs false
namespace Go.Proofs.YtmkbjcoagfnegabGreatDoor
open Go.ChangeShapes Go.WideShapes Go.ChangeAt Go.RowKit Go.Joins

set_option maxRecDepth 100000 in
theorem kt_of5 {W : World} {a1 a2 a3 a4 a5 : String × DataW Unit} {r : List (String × DataW Unit)}
    (h : laidMet Tryz.prog (a1 :: a2 :: a3 :: a4 :: a5 :: ("jalousie/spell.kinds", Rows.laid_jalousie_spell_kinds) :: r) W) : KT W := by
  obtain ⟨ps, hL, _⟩ := h
  obtain ⟨_, _, _, _, _, q1, _, _, _, _, hL, _⟩ := hL
  obtain ⟨_, _, _, _, _, q2, _, _, _, _, hL, _⟩ := hL
  obtain ⟨_, _, _, _, _, q3, _, _, _, _, hL, _⟩ := hL
  obtain ⟨_, _, _, _, _, q4, _, _, _, _, hL, _⟩ := hL
  obtain ⟨_, _, _, _, _, q5, _, _, _, _, hL, _⟩ := hL
  obtain ⟨g', t', cs, fuel, p, q, hg', ht', hvar, hd, _, _⟩ := hL
  have hg : Tryz.prog.globalNamed "jalousie/spell.kinds" = some 1 := by kernel_rfl
  have hty : (Tryz.prog.globals[1]?).map (·.type) = some 157 := by kernel_rfl
  have hu : Tryz.prog.underlying 157 = some (.array 25 150) := by kernel_rfl
  obtain rfl := Option.some.inj (hg.symm.trans hg')
  obtain rfl := Option.some.inj (hty.symm.trans ht')
  have hd' : DataW.trod (fun _ => ()) Tryz.prog W 0 (fun _ => true) false fuel 157 cs.toList = some (Rows.laid_jalousie_spell_kinds, p) := hd
  rw [laid_kd] at hd'
  obtain ⟨xs, m, _, hx, _, hl, hq⟩ := DataW.trod_array hu hd'
  have hm : (List.range 25).map kd = xs.map (·.1) := by
    have := congrArg Prod.fst hx
    simpa using this
  have cells : ∀ k, k < 25 → ∀ j, j < 6 → W.cell? ⟨1, k * 6 + j, none⟩ = cs.toList[k * 6 + j]? := fun k hk j hj => by
    have := World.var?_cell hg hvar (k * 6 + j)
    rw [this]; simp
  have row : ∀ k, k < 25 → W.cell? ⟨1, k * 6 + 0, none⟩ = some (.bool (tx k)) ∧ W.cell? ⟨1, k * 6 + 1, none⟩ = some (.bool (nm k)) ∧ W.cell? ⟨1, k * 6 + 2, none⟩ = some (.bool (nu k)) ∧ W.cell? ⟨1, k * 6 + 3, none⟩ = some (.bool (ro k)) ∧ W.cell? ⟨1, k * 6 + 4, none⟩ = some (.bool (jo k)) ∧ W.cell? ⟨1, k * 6 + 5, none⟩ = some (.string (fx k)) := fun k hk => by
    have hxk : ∃ qk, xs[k]? = some (kd k, qk) := by
      have h1 : (xs.map (·.1))[k]? = some (kd k) := by rw [← hm]; simp [hk]
      rw [List.getElem?_map] at h1
      cases hxx : xs[k]? with
      | none => rw [hxx] at h1; cases h1
      | some y =>
        rw [hxx] at h1
        simp at h1
        exact ⟨y.2, by rw [← h1]⟩
    obtain ⟨qk, hqk⟩ := hxk
    have ht := hq k hk
    rw [cK, hqk] at ht
    obtain ⟨r0, r1, r2, r3, r4, r5⟩ := row_kd ht
    exact ⟨(cells k hk 0 (by omega)).trans (chunk_at (by omega) r0), (cells k hk 1 (by omega)).trans (chunk_at (by omega) r1), (cells k hk 2 (by omega)).trans (chunk_at (by omega) r2), (cells k hk 3 (by omega)).trans (chunk_at (by omega) r3), (cells k hk 4 (by omega)).trans (chunk_at (by omega) r4), (cells k hk 5 (by omega)).trans (chunk_at (by omega) r5)⟩
  exact ⟨World.block_lt_of_cell? _ _ (row 0 (by omega)).1, row⟩
set_option maxRecDepth 100000 in
theorem kinds_of4 {W : World} {a1 a2 a3 a4 : String × DataW Unit} {r : List (String × DataW Unit)}
    (h : laidMet Tryz.prog (a1 :: a2 :: a3 :: a4 :: ("jalousie/jalousieref3.kinds", Rows.laid_jalousie_jalousieref3_kinds) :: r) W) : Kinds W := by
  obtain ⟨ps, hL, _⟩ := h
  obtain ⟨_, _, _, _, _, q1, _, _, _, _, hL, _⟩ := hL
  obtain ⟨_, _, _, _, _, q2, _, _, _, _, hL, _⟩ := hL
  obtain ⟨_, _, _, _, _, q3, _, _, _, _, hL, _⟩ := hL
  obtain ⟨_, _, _, _, _, q4, _, _, _, _, hL, _⟩ := hL
  obtain ⟨g', t', cs, fuel, p, q, hg', ht', hvar, hd, _, _⟩ := hL
  have hg : Tryz.prog.globalNamed "jalousie/jalousieref3.kinds" = some 0 := by kernel_rfl
  have hty : (Tryz.prog.globals[0]?).map (·.type) = some 114 := by kernel_rfl
  have hu : Tryz.prog.underlying 114 = some (.array 9 3) := by kernel_rfl
  have he : Tryz.prog.underlying 3 = some (.int .i64) := by kernel_rfl
  have hc1 : Tryz.prog.cellsOf 3 = 1 := by kernel_rfl
  have hc9 : Tryz.prog.cellsOf 114 = 9 := by kernel_rfl
  obtain rfl := Option.some.inj (hg.symm.trans hg')
  obtain rfl := Option.some.inj (hty.symm.trans ht')
  have hd' : DataW.trod (fun _ => ()) Tryz.prog W 0 (fun _ => true) false fuel 114 cs.toList = some (Lib.tabData .i64 [21, 22, 19, 20, 23, 24, 18, 16, 17], p) := hd
  have tab : Lib.TabIs Tryz.prog W "jalousie/jalousieref3.kinds" .i64 [21, 22, 19, 20, 23, 24, 18, 16, 17] := by
    unfold Lib.TabIs
    rw [hvar, ← Lib.cells_of_tab hu he hc1 hc9 hd']
  have c := fun i (hi : i < 9) => tab.cell hg i hi
  exact ⟨World.block_lt_of_cell? _ _ (c 0 (by decide)), c 0 (by decide), c 1 (by decide), c 2 (by decide), c 3 (by decide), c 4 (by decide), c 5 (by decide), c 6 (by decide), c 7 (by decide), c 8 (by decide)⟩
end Go.Proofs.YtmkbjcoagfnegabGreatDoor
set_option linter.unusedVariables false
set_option linter.unusedSimpArgs false
namespace Go.Proofs.YtmkbjcoagfnegabGreatDoor
open Go.RowKit

theorem run_equalIn_int3 (d : Nat) (a b : Int) (W : World) : (Op.equalIn (d + 1) 3 (.int .i64 a) (.int .i64 b)).run Tryz.prog W = .ok (a == b) W := run_equalIn_int W d 3 .i64 .i64 a b Tryz.underlying3
theorem part3 (v0 v1 v2 : Value) (W : World) : (part 3 #[v0, v1, v2] 0).run Tryz.prog W = .ok v0 W ∧ (part 3 #[v0, v1, v2] 1).run Tryz.prog W = .ok v1 W ∧ (part 3 #[v0, v1, v2] 2).run Tryz.prog W = .ok v2 W := by
  refine ⟨?_, ?_, ?_⟩ <;> simp [part, go_sem]
theorem size3 (W : World) : (sizeOf 3).run Tryz.prog W = .ok 1 W := by simp [sizeOf, go_sem]; rfl
theorem run_eq3 (d : Nat) (a0 a1 a2 b0 b1 b2 : Int) (W : World) : (Op.equalIn (d + 2) 26 (.agg #[.int .i64 a0, .int .i64 a1, .int .i64 a2]) (.agg #[.int .i64 b0, .int .i64 b1, .int .i64 b2])).run Tryz.prog W = .ok ((a0 == b0) && ((a1 == b1) && (a2 == b2))) W := by
  have hu : Tryz.prog.underlying 26 = some (.array 3 3) := by kernel_rfl
  unfold Op.equalIn
  simp only [Sem.run_bind, run_underlying hu, Result.andThen_ok, size3]
  rw [Std.Legacy.Range.forIn_eq_forIn_range']
  simp only [Std.Legacy.Range.size, Nat.sub_zero, Nat.add_sub_cancel, Nat.div_one, List.range'_succ, List.range'_zero, List.forIn_cons, List.forIn_nil, Sem.run_bind]
  have pa := fun w => part3 (.int .i64 a0) (.int .i64 a1) (.int .i64 a2) w
  have pb := fun w => part3 (.int .i64 b0) (.int .i64 b1) (.int .i64 b2) w
  simp only [show 0 * 1 = 0 from rfl, show (0 + 1) * 1 = 1 from rfl, show (0 + 1 + 1) * 1 = 2 from rfl, (pa _).1, (pb _).1, Result.andThen_ok, run_equalIn_int3]
  generalize (a0 == b0) = e0
  generalize he1 : (a1 == b1) = e1
  generalize he2 : (a2 == b2) = e2
  cases e0
  · simp
  · simp only [Bool.not_true, Bool.false_eq_true, if_false, Sem.run_pure, Result.andThen_ok, Sem.run_bind, (pa _).2.1, (pb _).2.1, run_equalIn_int3, he1]
    cases e1
    · simp
    · simp only [Bool.not_true, Bool.false_eq_true, if_false, Sem.run_pure, Result.andThen_ok, Sem.run_bind, (pa _).2.2, (pb _).2.2, run_equalIn_int3, he2]
      cases e2 <;> simp
@[go_sem] theorem eq3_sem (a0 a1 a2 b0 b1 b2 : Int) (W : World) : (Op.equalIn 10000 26 (.agg #[.int .i64 a0, .int .i64 a1, .int .i64 a2]) (.agg #[.int .i64 b0, .int .i64 b1, .int .i64 b2])).run Tryz.prog W = .ok ((a0 == b0) && ((a1 == b1) && (a2 == b2))) W := run_eq3 9998 a0 a1 a2 b0 b1 b2 W
@[go_sem] theorem build3_sem (a b c : Int) (W : World) : (Instr.build 26 #[(0, .int .i64 a), (1, .int .i64 b), (2, .int .i64 c)]).run Tryz.prog W = .ok (.agg #[.int .i64 a, .int .i64 b, .int .i64 c]) W := run_build W 26 _ _ (by kernel_rfl)
@[go_sem] theorem build0_sem (W : World) : (Instr.build 26 #[]).run Tryz.prog W = .ok (.agg #[.int .i64 0, .int .i64 0, .int .i64 0]) W := run_build W 26 _ _ (by kernel_rfl)
end Go.Proofs.YtmkbjcoagfnegabGreatDoor
