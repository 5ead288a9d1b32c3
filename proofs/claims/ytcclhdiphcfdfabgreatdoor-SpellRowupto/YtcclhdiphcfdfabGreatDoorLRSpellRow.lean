/-
  For all tokens in a row, as anybody makes them: of those that are texts, numbers, names, commas, hashes, words behind @, --> and urls the text, if there is one, is read as they were. Condition: the tokens are of bounded bulk.
-/
import Derived.Test.YtcclhdiphcfdfabGreatDoorLSpcD
import Derived.Test.YtcclhdiphcfdfabGreatDoorKz
import Derived.Test.YtcclhdiphcfdfabGreatDoorCards
import Derived.Test.YtcclhdiphcfdfabGreatDoorTie
import Derived.Deep.DeepHandedRow
import Derived.Deep.DeepWitnessRowRef
import Derived.Deep.Slices
import Derived.Carry
set_option linter.unusedVariables false
namespace Go.Proofs.YtcclhdiphcfdfabGreatDoor.spellRow
open Go.ChangeShapes Go.WideShapes Go.ChangeAt Go.RowKit Go.Joins
open Go.ChangeMaps (open_string shut_string)

theorem own : ownKnob Tryz.prog.godebug = none := by kernel_rfl
theorem laidOut : laidOutB Tryz.prog = true := by kernel_rfl
theorem one_le {H : Type} (d : DataW H) : 1 ≤ Rows.uptoBulk d := by
  cases d with
  | lit l => cases l <;> simp [Rows.uptoBulk]
  | nil => simp [Rows.uptoBulk]
  | ptr d => simp [Rows.uptoBulk]
  | slice elems spare => simp [Rows.uptoBulk]
  | agg parts => simp [Rows.uptoBulk]
  | iface t d => simp [Rows.uptoBulk]
  | map entries => simp [Rows.uptoBulk]
  | held h => simp [Rows.uptoBulk]
theorem length_le {H : Type} (l : List (DataW H)) : l.length ≤ Rows.uptoBulkAll l := by
  induction l with
  | nil => simp [Rows.uptoBulkAll]
  | cons x r ih => have := one_le x; simp only [Rows.uptoBulkAll, List.length_cons]; omega
theorem mem_le {H : Type} {l : List (DataW H)} {d : DataW H} (h : d ∈ l) : Rows.uptoBulk d ≤ Rows.uptoBulkAll l := by
  induction l with
  | nil => cases h
  | cons x r ih =>
    simp only [Rows.uptoBulkAll]
    rcases List.mem_cons.1 h with rfl | h
    · omega
    · have := ih h; omega
theorem bulkT {H : Type} (k : Int) (s : ByteArray) (n d : Int) (i h : Bool) : s.size + 1 ≤ Rows.uptoBulk (tokD (H := H) k s n d i h) := by
  unfold tokD
  simp only [Rows.uptoBulk, Rows.uptoBulkAll]
  have e : s.data.toList.length = s.size := by rw [Array.length_toList]; rfl
  omega
def dOf {H : Type} (t : TS) : DataW H := tokD t.k t.s t.n t.d t.i t.h
theorem bulk_sum {H : Type} (ts : List TS) : szS ts + ts.length ≤ Rows.uptoBulkAll (ts.map (dOf (H := H))) := by
  induction ts with
  | nil => simp [szS]
  | cons t r ih =>
    have := bulkT (H := H) t.k t.s t.n t.d t.i t.h
    unfold szS at *
    simp only [List.map_cons, List.sum_cons, List.length_cons, Rows.uptoBulkAll, dOf]
    omega
instance : Inhabited TS := ⟨⟨0, ⟨#[]⟩, 0, 0, false, false⟩⟩
set_option maxRecDepth 100000 in
theorem tok_core {H : Type} {enc : TypeId × Value → H} {W : World} {base : Nat} {sp : Nat → Bool} {held : Bool} {cs : List Value} {x : DataW H × List MemPlace} {fuel : Nat} (hl : cs.length = 6)
    (hf : DataW.trod enc Tryz.prog W base sp held fuel 26 cs = some x) :
    ∃ k s n d i h, cs = [.int .i64 k, .string s, .int .i64 n, .int .i64 d, .bool i, .bool h] ∧ x.1 = tokD k s n d i h ∧ (Lit.int .i64 k).wf = true ∧ s.size ≤ maxLen ∧ (Lit.int .i64 n).wf = true ∧ (Lit.int .i64 d).wf = true := by
  match cs, hl with
  | [c0, c1, c2, c3, c4, c5], _ =>
    obtain ⟨xs, m, _, hx, _, hl', hq⟩ := DataW.trod_struct Tryz.underlying26 hf
    match xs, hl' with
    | [y0, y1, y2, y3, y4], _ =>
      have q0' : DataW.trod enc Tryz.prog W base sp held m 3 (([c0, c1, c2, c3, c4, c5].drop 0).take (Tryz.prog.cellsOf 3)) = some y0 := hq 0 _ rfl
      rw [cI] at q0'
      have q0 : DataW.trod enc Tryz.prog W base sp held m 3 [c0] = some y0 := q0'
      have q1' : DataW.trod enc Tryz.prog W base sp held m 9 (([c0, c1, c2, c3, c4, c5].drop 1).take (Tryz.prog.cellsOf 9)) = some y1 := hq 1 _ rfl
      rw [cS] at q1'
      have q1 : DataW.trod enc Tryz.prog W base sp held m 9 [c1] = some y1 := q1'
      have q2' : DataW.trod enc Tryz.prog W base sp held m 24 (([c0, c1, c2, c3, c4, c5].drop 2).take (Tryz.prog.cellsOf 24)) = some y2 := hq 2 _ rfl
      rw [cR] at q2'
      have q2 : DataW.trod enc Tryz.prog W base sp held m 24 [c2, c3] = some y2 := q2'
      have q3' : DataW.trod enc Tryz.prog W base sp held m 4 (([c0, c1, c2, c3, c4, c5].drop 4).take (Tryz.prog.cellsOf 4)) = some y3 := hq 3 _ rfl
      rw [cB] at q3'
      have q3 : DataW.trod enc Tryz.prog W base sp held m 4 [c4] = some y3 := q3'
      have q4' : DataW.trod enc Tryz.prog W base sp held m 4 (([c0, c1, c2, c3, c4, c5].drop 5).take (Tryz.prog.cellsOf 4)) = some y4 := hq 4 _ rfl
      rw [cB] at q4'
      have q4 : DataW.trod enc Tryz.prog W base sp held m 4 [c5] = some y4 := q4'
      obtain ⟨k, ek, rfl, wk⟩ := DataW.trod_int Tryz.underlying3 q0
      obtain ⟨s, es, rfl, ws⟩ := DataW.trod_string Tryz.underlying9 q1
      obtain ⟨i, ei, rfl⟩ := DataW.trod_bool Tryz.underlying4 q3
      obtain ⟨h, eh, rfl⟩ := DataW.trod_bool Tryz.underlying4 q4
      obtain ⟨ys, m2, _, hy, _, hl2, hq2⟩ := DataW.trod_struct Tryz.underlying24 q2
      match ys, hl2 with
      | [u0, u1], _ =>
        have r0' : DataW.trod enc Tryz.prog W base sp held m2 2 (([c2, c3].drop 0).take (Tryz.prog.cellsOf 2)) = some u0 := hq2 0 _ rfl
        rw [cL] at r0'
        have r0 : DataW.trod enc Tryz.prog W base sp held m2 2 [c2] = some u0 := r0'
        have r1' : DataW.trod enc Tryz.prog W base sp held m2 2 (([c2, c3].drop 1).take (Tryz.prog.cellsOf 2)) = some u1 := hq2 1 _ rfl
        rw [cL] at r1'
        have r1 : DataW.trod enc Tryz.prog W base sp held m2 2 [c3] = some u1 := r1'
        obtain ⟨n, en, rfl, wn⟩ := DataW.trod_int Tryz.underlying2 r0
        obtain ⟨d, ed, rfl, wd⟩ := DataW.trod_int Tryz.underlying2 r1
        simp at ek es ei eh en ed
        subst ek es ei eh en ed
        subst hy
        exact ⟨k, s, n, d, i, h, rfl, by rw [hx]; rfl, wk, ws, wn, wd⟩
/-- A slice of tokens that comes in. -/
theorem toks_open {H : Type} {enc : TypeId × Value → H} {W : World} {held : Bool} {a : Option Addr} {len cap fuel : Nat} {x : DataW H × List MemPlace}
    (hf : DataW.trod enc Tryz.prog W 0 (fun _ => true) held fuel 22 [.slice a len cap] = some x) (hb : Rows.uptoBulk x.1 ≤ 1048576) :
    ∃ ts : List TS, Toks4 W (.slice a len cap) ts ∧ (∀ t ∈ ts, t.Ok) ∧ szS ts + ts.length ≤ 1048576 := by
  rcases Go.Deep.open_slice Tryz.underlying22 hf with ⟨hcs, hx⟩ | ⟨a1, len', cap', m, n, D, Pl, hcs, _, hl, hm, hmm, hx, each⟩
  · simp at hcs
    obtain ⟨rfl, rfl, rfl⟩ := hcs
    exact ⟨[], .inl ⟨_, _, rfl, rfl⟩, by simp, by simp [szS]⟩
  · simp at hcs
    obtain ⟨rfl, rfl, rfl⟩ := hcs
    simp only [if_true] at hmm
    subst hmm
    rw [hx] at hb
    simp only [Rows.uptoBulk] at hb
    have hlen := length_le ((List.range len).map D)
    rw [List.length_map, List.length_range] at hlen
    have hcap := length_le ((List.range (m - len)).map fun j => D (len + j))
    rw [List.length_map, List.length_range] at hcap
    have each2 : ∀ i, i < len → ∃ t : TS, (∀ j, j < 6 → W.cell? ((a1.add (i * 6)).add j) = [Value.int .i64 t.k, .string t.s, .int .i64 t.n, .int .i64 t.d, .bool t.i, .bool t.h][j]?) ∧ t.Ok ∧ D i = dOf t := by
      intro i hi
      obtain ⟨cs, h1, h2⟩ := each i (by omega)
      rw [cT] at h1
      obtain ⟨_, hcl, hcell⟩ := World.cells?_some h1
      obtain ⟨k, s, n', d, b1, b2, rfl, hD, wk, ws, wn, wd⟩ := tok_core hcl h2
      have hm2 := mem_le (d := D i) (l := (List.range len).map D) (List.mem_map.2 ⟨i, List.mem_range.2 hi, rfl⟩)
      have hD' : D i = tokD k s n' d b1 b2 := hD
      rw [hD'] at hm2
      have hs := bulkT (H := H) k s n' d b1 b2
      obtain ⟨x1, x2⟩ := bounds_i64 wk
      obtain ⟨x3, x4⟩ := bounds_i64 wn
      obtain ⟨x5, x6⟩ := bounds_i64 wd
      exact ⟨⟨k, s, n', d, b1, b2⟩, hcell, ⟨x1, x2, by show s.size ≤ _; omega, x3, x4, x5, x6⟩, hD'⟩
    obtain ⟨q, hq⟩ := Go.Deep.choose_lt each2
    refine ⟨(List.range len).map q, ?_, ?_, ?_⟩
    · by_cases h0 : len = 0
      · subst h0; exact .inl ⟨_, _, rfl, rfl⟩
      · obtain ⟨b, off, spot⟩ := a1
        have c00 := (hq 0 (by omega)).1 0 (by omega)
        have hspot : spot = none := by simpa [Addr.add] using World.cell?_spot c00
        subst hspot
        refine .inr ⟨b, off, len, m, rfl, by simp, by omega, ?_, hl, by omega, by unfold maxLen at hm; omega, fun i t hi => ?_⟩
        · have k := World.block_lt_of_cell? _ _ c00
          simpa [Addr.add] using k
        · have hil : i < len := by
            have := (List.getElem?_eq_some_iff.1 hi).1
            simpa using this
          have ht : q i = t := by
            rw [List.getElem?_map, List.getElem?_range hil] at hi
            simpa using hi
          have hc := (hq i hil).1
          rw [ht] at hc
          have g : ∀ j, j < 6 → W.cell? ⟨b, off + i * 6 + j, none⟩ = [Value.int .i64 t.k, .string t.s, .int .i64 t.n, .int .i64 t.d, .bool t.i, .bool t.h][j]? := fun j hj => by
            have := hc j hj
            rwa [Addr.add_lit, Addr.add_lit] at this
          exact ⟨g 0 (by omega), g 1 (by omega), g 2 (by omega), g 3 (by omega), g 4 (by omega), g 5 (by omega)⟩
    · intro t ht
      obtain ⟨i, hi, rfl⟩ := List.mem_map.1 ht
      exact (hq i (List.mem_range.1 hi)).2.1
    · have e : (List.range len).map D = ((List.range len).map q).map (dOf (H := H)) := by
        rw [List.map_map]
        exact List.map_congr_left fun i hi => (hq i (List.mem_range.1 hi)).2.2
      have := bulk_sum (H := H) ((List.range len).map q)
      rw [← e] at this
      omega
set_option maxRecDepth 100000 in
theorem contract (H : Type) (enc : TypeId × Value → H) (W : World) (base : Nat) (args : Array Value) (ds gs : List (DataW H)) (before : List MemPlace) (hK : KT W) (hT : Tabs W)
    (hval : ∀ (j : Nat) t v, Tryz.f3.params[j]? = some t → args[j]? = some v → Value.okWide Tryz.prog W .any base t v)
    (hW : DataW.Whole enc Tryz.prog Tryz.f3.params.toList Rows.spellRowSpec.vars false W args.toList ds gs before) (hk : Rows.uptoSmall H (ds ++ gs) = true) :
    Calls Tryz.prog 3 args W fun e W' => ∃ v, e = .returned v ∧ Rows.spellRowSpec.post enc Tryz.prog Tryz.f3 false true false false W args v W' := by
  have hW' := hW
  obtain ⟨p, q, hA0, hV, rfl, hfz, hnd⟩ := hW
  have hA : DataW.TrodAll enc Tryz.prog W 0 (fun _ => true) true Tryz.f3.params.toList args.toList ds p := hA0
  rw [Tryz.params3] at hA hval
  obtain ⟨v0, vs0, d0, ds0, p0, q0, hargs, rfl, rfl, h0, r0⟩ := trodAll_cons hA
  obtain ⟨rfl, rfl, rfl⟩ := trodAll_nil r0
  obtain rfl : args = #[v0] := by cases args; simp_all
  obtain ⟨rfl, rfl⟩ := trodVars_none hV
  obtain ⟨a0, len0, cap0, rfl⟩ := okWide_slice Tryz.underlying22 (hval 0 22 v0 rfl rfl)
  have k0 := h0
  have lt0 : ∀ x ∈ p0, x.block < W.heap.size := by obtain ⟨m, hm⟩ := k0; exact DataW.trod_lt m _ _ _ hm
  simp only [List.append_nil] at hW' hk
  have hbulk : Rows.uptoBulkAll [d0] ≤ 1048576 := of_decide_eq_true hk
  simp only [Rows.uptoBulkAll] at hbulk
  obtain ⟨ts, hts, hok, hlen⟩ : ∃ ts : List TS, Toks4 W (.slice a0 len0 cap0) ts ∧ (∀ t ∈ ts, t.Ok) ∧ szS ts + ts.length ≤ 1048576 := by
    obtain ⟨fuel, hf⟩ := h0
    exact toks_open (x := (d0, p0)) (by simpa [Value.cells] using hf) (by show Rows.uptoBulk d0 ≤ _; omega)
  clear hA0
  refine (law_row ts (.slice a0 len0 cap0) W hts hok (by omega) hK hT).mono fun e W' ⟨he, bel⟩ => ?_
  subst he
  exact ⟨_, rfl, _, _, _, [], _, [], hW', trodAll_mk1 (shut_bool Tryz.underlying4 _), (trodAll_cons_mk (Below.trod laidOut (by kernel_rfl) (of_decide_eq_true (by kernel_rfl)) k0 bel lt0) trodAll_mk0), rfl, bel.frame _, fun h => by cases h⟩
/-! ### A world for the witness: the variables hold what their initialisers lay. -/
def num1 : DataW Unit → List Value
  | .agg l => l.map fun
    | .lit (.int k n) => Value.int k n
    | .lit (.bool b) => Value.bool b
    | .lit (.string l) => Value.string ⟨l.toArray⟩
    | _ => .bool false
  | _ => []
def num2 : DataW Unit → List Value
  | .agg l => l.flatMap num1
  | _ => []
noncomputable def low : Nat := (World.holding Tryz.prog default ⟨#[], #[], []⟩).heap.size
def put (h : Array Obj) (g : Nat) (cs : Array Value) : Array Obj := h.modify g fun
  | .cells _ t frozen => .cells cs t frozen
  | o => o
noncomputable def laidWorld (os : Os) : World :=
  let w0 := World.holding Tryz.prog os ⟨#[.cells #[.string ⟨#[105, 110, 118, 97, 108, 105, 100, 32, 115, 121, 110, 116, 97, 120]⟩] 184, .cells #[.string ⟨#[118, 97, 108, 117, 101, 32, 111, 117, 116, 32, 111, 102, 32, 114, 97, 110, 103, 101]⟩] 184], #[], []⟩
  let e1 := put w0.heap 7 #[.iface 182 (.pointer (some ⟨low, 0, none⟩))]
  let e2 := put e1 8 #[.iface 182 (.pointer (some ⟨low + 1, 0, none⟩))]
  let h1 := put e2 0 (num2 Rows.laid_jalousie_spell_kinds).toArray
  let h3 := put h1 4 (num1 Rows.laid_unicode_utf8_first).toArray
  let h4 := put h3 5 (num2 Rows.laid_unicode_utf8_acceptRanges).toArray
  let h5 := put h4 3 (num1 Rows.laid_internal_strconv_uint64pow10).toArray
  let h6 := put h5 6 (num1 Rows.laid_math_bits_deBruijn32tab).toArray
  let h7 := put h6 1 (num1 Rows.laid_math_bits_deBruijn64tab).toArray
  { w0 with heap := h7 }
theorem laid_met (os : Os) : laidMet Tryz.prog Rows.spellRowUptoRow.laid ((laidWorld os).forCall (fun _ _ => 0) ⟨#[], #[.slice none 0 0], []⟩).memory :=
  laidMet_of_run' 8 (by kernel_rfl) (by kernel_rfl)
theorem reads (os : Os) {H : Type} (enc : TypeId × Value → H) : ∃ places, DataW.whole enc Tryz.prog ((laidWorld os).forCall (fun _ _ => 0) ⟨#[], #[.slice none 0 0], []⟩).memory Tryz.f3.params.toList Rows.spellRowSpec.vars false #[Value.slice none 0 0].toList 8 = some ([.nil], [], places) :=
  ⟨[], by kernel_rfl⟩
set_option maxRecDepth 100000 in
theorem lifted (os : Os) (started : os.Started) (H : Type) (enc : TypeId × Value → H) (F : Stop.Interp) :
    ReturnsInHanded {} Tryz.checked os 3 .any ((Rows.OpenSpec.upto Rows.spellRowSpec).preRow enc Tryz.prog Tryz.f3 Rows.spellRowUptoRow.domain false Rows.spellRowUptoRow.laid) (((Rows.OpenSpec.upto Rows.spellRowSpec).at F).post enc Tryz.prog Tryz.f3 false true false false) := by
  obtain ⟨places, hx⟩ := reads os enc
  refine returnsInHanded_of_row (C := Tryz.checked) (s := Rows.OpenSpec.upto Rows.spellRowSpec) own started (by kernel_rfl) Tryz.func3
    (witness_row_atRef (enc := enc) (C := Tryz.checked) false (laidWorld os) #[.slice none 0 0] rfl (by kernel_rfl) (by kernel_rfl) (by kernel_rfl)
      (OpenSpec.preRow_of_cond 8 hx (by kernel_rfl) (fun k hk => by cases hk; kernel_rfl) (by kernel_rfl) (laid_met os))) ?_
  intro W base args ds gs before hval hW _ hcond _ hL _ _
  exact contract H enc W base args ds gs before (kt_of6 hL) (tabs_of hL) hval hW (hcond _ rfl)
theorem said : Rows.SpellRowUptoSaid :=
  OpenClaim.holds_of_cond 3 Tryz.f3 rfl rfl rfl rfl rfl rfl rfl ⟨rfl, rfl, rfl, rfl, rfl⟩ rfl rfl rfl rfl rfl (by kernel_rfl) Tryz.func3 (by kernel_rfl)
    (of_decide_eq_true (by kernel_rfl)) (by unfold Func.isWrapper; first | (rw [if_pos (by decide +kernel)]; kernel_rfl) | (rw [if_neg (by decide +kernel)]; exact ⟨rfl, rfl⟩))
    (fun os started H enc _ F => by rw [OpenClaim.pre_eq_preRow]; exact lifted os started H enc F)
theorem plain (f : FuncId) (fn : Func) (hf : Tryz.pinned.checked.prog.funcNamed Rows.spellRowUptoRow.func = some f) (hfn : Tryz.pinned.checked.prog.funcs[f]? = some fn) :
    true = Tryz.pinned.checked.prog.looks [] ∧ ∀ (j : Nat) t, fn.params[j]? = some t → Tryz.pinned.checked.prog.wantsStandIn t = false := by
  obtain rfl : f = 3 := Option.some.inj ((show Tryz.prog.funcNamed Rows.spellRowUptoRow.func = some 3 by kernel_rfl).symm.trans hf) |>.symm
  obtain rfl : fn = Tryz.f3 := (Option.some.inj (Tryz.func3.symm.trans hfn)).symm
  refine ⟨by kernel_rfl, fun j t ht => ?_⟩
  rw [Tryz.params3] at ht
  obtain rfl : t = 22 := by simpa using Array.mem_of_getElem? ht
  exact (show Tryz.prog.wantsStandIn 22 = false by kernel_rfl)
theorem card : Rows.SpellRowUptoCardSaid :=
  Claim7.holds_tied_plain_at .later [] _ _ _ _ said (fun _ h => by cases h) (by kernel_rfl) (fun _ h => by cases h) spellRowUpto_row_tie rfl ⟨rfl, rfl⟩ (by kernel_rfl) rfl plain (by kernel_rfl)
end Go.Proofs.YtcclhdiphcfdfabGreatDoor.spellRow
namespace Go.Proofs.YtcclhdiphcfdfabGreatDoor
theorem spellRow_holds : Rows.SpellRowUptoCardSaid := spellRow.card
end Go.Proofs.YtcclhdiphcfdfabGreatDoor
