/-
  Selectors and weights as a row reads them, and how great they are.
-/
import Derived.Test.YtmkbjcoagfnegabGreatDoorV37
import Derived.Laws.IdiomArrays
set_option linter.unusedVariables false
namespace Go.Proofs.YtmkbjcoagfnegabGreatDoor.sel9
open Go.ChangeShapes Go.WideShapes Go.ChangeAt Go.RowKit Go.Joins
open Go.ChangeMaps (open_string shut_string)

theorem sum_bulk {α H : Type} (L : List Nat) (q : Nat → α) (D : Nat → DataW H) (μ : α → Nat) (h : ∀ i ∈ L, μ (q i) ≤ Rows.uptoBulk (D i)) : ((L.map q).map μ).sum ≤ Rows.uptoBulkAll (L.map D) := by
  induction L with
  | nil => simp
  | cons x L ih =>
    have := h x (by simp)
    have := ih (fun i hi => h i (by simp [hi]))
    simp only [List.map_cons, List.sum_cons, Rows.uptoBulkAll]
    omega
/-- A slice that comes in, whatever its elements are, and how great it is. -/
theorem row_open2 {α : Type} [Inhabited α] {H : Type} {enc : TypeId × Value → H} {W : World} {held : Bool} {T E : TypeId} {sz : Nat} (hT : Tryz.prog.underlying T = some (.slice E)) (hsz : Tryz.prog.cellsOf E = sz) (h0 : 0 < sz) (R : Nat → Nat → α → Prop) (μ : α → Nat)
    {c : Value} {fuel : Nat} {x : DataW H × List MemPlace} (hf : DataW.trod enc Tryz.prog W 0 (fun _ => true) held fuel T [c] = some x) {N : Nat} (hN : Rows.uptoBulk x.1 ≤ N + 1) (hN9 : N ≤ 1048576)
    (each : ∀ (b o m : Nat) (cs : List Value) (d : DataW H × List MemPlace), cs.length = sz → (∀ j, j < sz → W.cell? ⟨b, o + j, none⟩ = cs[j]?) → b < W.heap.size → DataW.trod enc Tryz.prog W 0 (fun _ => true) held m E cs = some d → Rows.uptoBulk d.1 ≤ N → ∃ y : α, R b o y ∧ μ y ≤ Rows.uptoBulk d.1) : ∃ l, RowOf W sz R c l ∧ (l.map μ).sum ≤ Rows.uptoBulk x.1 := by
  rcases Go.Deep.open_slice hT hf with ⟨hcs, hx⟩ | ⟨a1, len, cap, m, n, D, Pl, hcs, _, hl, hm, hmm, hx, each0⟩
  · simp at hcs
    subst hcs
    exact ⟨[], .inl ⟨_, _, rfl, rfl⟩, by simp⟩
  · simp at hcs
    subst hcs
    simp only [if_true] at hmm
    subst hmm
    rw [hx] at hN
    simp only [Rows.uptoBulk] at hN
    have hlen := length_le ((List.range len).map D)
    rw [List.length_map, List.length_range] at hlen
    by_cases hl0 : len = 0
    · subst hl0; exact ⟨[], .inl ⟨_, _, rfl, rfl⟩, by simp⟩
    obtain ⟨b, off, spot⟩ := a1
    have hspot : spot = none := by
      obtain ⟨cs, h1, h2⟩ := each0 0 (by omega)
      rw [hsz] at h1
      obtain ⟨_, hcl, hcell⟩ := World.cells?_some h1
      have c00 := hcell 0 h0
      rw [List.getElem?_eq_getElem (by omega)] at c00
      simpa [Addr.add] using World.cell?_spot c00
    subst hspot
    have each2 : ∀ i, i < len → ∃ y : α, R b (off + i * sz) y ∧ μ y ≤ Rows.uptoBulk (D i) := by
      intro i hi
      obtain ⟨cs, h1, h2⟩ := each0 i (by omega)
      rw [hsz] at h1
      obtain ⟨_, hcl, hcell⟩ := World.cells?_some h1
      have hm2 := mem_le (d := D i) (l := (List.range len).map D) (List.mem_map.2 ⟨i, List.mem_range.2 hi, rfl⟩)
      refine each b (off + i * sz) _ cs _ hcl (fun j hj => ?_) ?_ h2 (by show Rows.uptoBulk (D i) ≤ N; omega)
      · have := hcell j hj
        rwa [Addr.add_lit, Addr.add_lit] at this
      · have c00 := hcell 0 h0
        rw [List.getElem?_eq_getElem (by omega)] at c00
        have k := World.block_lt_of_cell? _ _ c00
        rwa [Addr.add_lit, Addr.add_lit] at k
    obtain ⟨q, hq⟩ := Go.Deep.choose_lt each2
    have hll : ((List.range len).map q).length = len := by simp
    refine ⟨(List.range len).map q, .inr ⟨b, off, m, by rw [hll], by rw [hll]; omega, ?_, by rw [hll]; exact hl, by rw [hll]; omega, by unfold maxLen at hm; omega, fun i y hi => ?_⟩, ?_⟩
    · obtain ⟨cs, h1, h2⟩ := each0 0 (by omega)
      rw [hsz] at h1
      obtain ⟨_, hcl, hcell⟩ := World.cells?_some h1
      have c00 := hcell 0 h0
      rw [List.getElem?_eq_getElem (by omega)] at c00
      have k := World.block_lt_of_cell? _ _ c00
      simpa [Addr.add] using k
    · have hil : i < len := by
        have := (List.getElem?_eq_some_iff.1 hi).1
        simpa using this
      rw [List.getElem?_map, List.getElem?_range hil] at hi
      have e : q i = y := by simpa using hi
      rw [← e]
      exact (hq i hil).1
    · have := sum_bulk (List.range len) q D μ (fun i hi => (hq i (List.mem_range.1 hi)).2)
      rw [hx]
      simp only [Rows.uptoBulk]
      omega
/-- A simple selector that comes in. -/
theorem sl_open2 {H : Type} {enc : TypeId × Value → H} {W : World} {held : Bool} {X : Value → List Cx → Prop} {z : List Cx → Nat} {b o m N : Nat} {cs : List Value} {d : DataW H × List MemPlace} (hl : cs.length = 8) (hc : ∀ j, j < 8 → W.cell? ⟨b, o + j, none⟩ = cs[j]?)
    (hf : DataW.trod enc Tryz.prog W 0 (fun _ => true) held m 37 cs = some d) (hN : Rows.uptoBulk d.1 ≤ N + 1) (hN9 : N ≤ 1048576)
    (hX : ∀ (c : Value) (fuel : Nat) (x : DataW H × List MemPlace), DataW.trod enc Tryz.prog W 0 (fun _ => true) held fuel 35 [c] = some x → Rows.uptoBulk x.1 ≤ N → ∃ l, X c l ∧ z l ≤ Rows.uptoBulk x.1) : ∃ s, SlR W X b o s ∧ szS z s ≤ Rows.uptoBulk d.1 := by
  match cs, hl with
  | [c0, c1, c2, c3, c4, c5, c6, c7], _ =>
    obtain ⟨xs, k', _, hx', _, hl', hq⟩ := DataW.trod_struct Tryz.underlying37 hf
    match xs, hl' with
    | [y0, y1, y2, y3, y4, y5, y6, y7], _ =>
      have q0' : DataW.trod enc Tryz.prog W 0 (fun _ => true) held k' 3 (([c0, c1, c2, c3, c4, c5, c6, c7].drop 0).take (Tryz.prog.cellsOf 3)) = some y0 := hq 0 _ rfl
      rw [cI] at q0'
      have q0 : DataW.trod enc Tryz.prog W 0 (fun _ => true) held k' 3 [c0] = some y0 := q0'
      have q1' : DataW.trod enc Tryz.prog W 0 (fun _ => true) held k' 9 (([c0, c1, c2, c3, c4, c5, c6, c7].drop 1).take (Tryz.prog.cellsOf 9)) = some y1 := hq 1 _ rfl
      rw [cS] at q1'
      have q1 : DataW.trod enc Tryz.prog W 0 (fun _ => true) held k' 9 [c1] = some y1 := q1'
      have q2' : DataW.trod enc Tryz.prog W 0 (fun _ => true) held k' 3 (([c0, c1, c2, c3, c4, c5, c6, c7].drop 2).take (Tryz.prog.cellsOf 3)) = some y2 := hq 2 _ rfl
      rw [cI] at q2'
      have q2 : DataW.trod enc Tryz.prog W 0 (fun _ => true) held k' 3 [c2] = some y2 := q2'
      have q3' : DataW.trod enc Tryz.prog W 0 (fun _ => true) held k' 9 (([c0, c1, c2, c3, c4, c5, c6, c7].drop 3).take (Tryz.prog.cellsOf 9)) = some y3 := hq 3 _ rfl
      rw [cS] at q3'
      have q3 : DataW.trod enc Tryz.prog W 0 (fun _ => true) held k' 9 [c3] = some y3 := q3'
      have q4' : DataW.trod enc Tryz.prog W 0 (fun _ => true) held k' 4 (([c0, c1, c2, c3, c4, c5, c6, c7].drop 4).take (Tryz.prog.cellsOf 4)) = some y4 := hq 4 _ rfl
      rw [cB] at q4'
      have q4 : DataW.trod enc Tryz.prog W 0 (fun _ => true) held k' 4 [c4] = some y4 := q4'
      have q5' : DataW.trod enc Tryz.prog W 0 (fun _ => true) held k' 35 (([c0, c1, c2, c3, c4, c5, c6, c7].drop 5).take (Tryz.prog.cellsOf 35)) = some y5 := hq 5 _ rfl
      rw [cSl'] at q5'
      have q5 : DataW.trod enc Tryz.prog W 0 (fun _ => true) held k' 35 [c5] = some y5 := q5'
      have q6' : DataW.trod enc Tryz.prog W 0 (fun _ => true) held k' 3 (([c0, c1, c2, c3, c4, c5, c6, c7].drop 6).take (Tryz.prog.cellsOf 3)) = some y6 := hq 6 _ rfl
      rw [cI] at q6'
      have q6 : DataW.trod enc Tryz.prog W 0 (fun _ => true) held k' 3 [c6] = some y6 := q6'
      have q7' : DataW.trod enc Tryz.prog W 0 (fun _ => true) held k' 3 (([c0, c1, c2, c3, c4, c5, c6, c7].drop 7).take (Tryz.prog.cellsOf 3)) = some y7 := hq 7 _ rfl
      rw [cI] at q7'
      have q7 : DataW.trod enc Tryz.prog W 0 (fun _ => true) held k' 3 [c7] = some y7 := q7'
      obtain ⟨k, ek, rfl, wk⟩ := DataW.trod_int Tryz.underlying3 q0
      obtain ⟨nm, en, rfl, wn⟩ := DataW.trod_string Tryz.underlying9 q1
      obtain ⟨op, eo, rfl, wo⟩ := DataW.trod_int Tryz.underlying3 q2
      obtain ⟨vl, ev, rfl, wv⟩ := DataW.trod_string Tryz.underlying9 q3
      obtain ⟨fo, ef, rfl⟩ := DataW.trod_bool Tryz.underlying4 q4
      obtain ⟨a, ea, rfl, wa⟩ := DataW.trod_int Tryz.underlying3 q6
      obtain ⟨b', eb, rfl, wb⟩ := DataW.trod_int Tryz.underlying3 q7
      simp at ek en eo ev ef ea eb
      subst ek en eo ev ef ea eb
      have hD : d.1 = .agg [.lit (.int .i64 k), .lit (.string nm.data.toList), .lit (.int .i64 op), .lit (.string vl.data.toList), .lit (.bool fo), y5.1, .lit (.int .i64 a), .lit (.int .i64 b')] := by simpa using congrArg Prod.fst hx'
      rw [hD] at hN ⊢
      simp only [Rows.uptoBulk, Rows.uptoBulkAll] at hN ⊢
      have e1 : nm.data.toList.length = nm.size := by rw [Array.length_toList]; rfl
      have e2 : vl.data.toList.length = vl.size := by rw [Array.length_toList]; rfl
      obtain ⟨l, hXl, hzl⟩ := hX c5 k' y5 q5 (by omega)
      obtain ⟨x1, x2⟩ := bounds_i64 wk
      obtain ⟨x3, x4⟩ := bounds_i64 wo
      obtain ⟨x5, x6⟩ := bounds_i64 wa
      obtain ⟨x7, x8⟩ := bounds_i64 wb
      exact ⟨.mk k op a b' nm vl fo l, ⟨c5, ⟨hc 0 (by omega), hc 1 (by omega), hc 2 (by omega), hc 3 (by omega), hc 4 (by omega), hc 5 (by omega), hc 6 (by omega), hc 7 (by omega)⟩, hXl, ⟨x1, x2, x3, x4, x5, x6, x7, x8, by show nm.size ≤ _; omega, by show vl.size ≤ _; omega⟩⟩, by show 1 + z l ≤ _; omega⟩
theorem cp_open2 {H : Type} {enc : TypeId × Value → H} {W : World} {held : Bool} {X : Value → List Cx → Prop} {z : List Cx → Nat} {b o m N : Nat} {cs : List Value} {d : DataW H × List MemPlace} (hl : cs.length = 2) (hc : ∀ j, j < 2 → W.cell? ⟨b, o + j, none⟩ = cs[j]?)
    (hf : DataW.trod enc Tryz.prog W 0 (fun _ => true) held m 33 cs = some d) (hN : Rows.uptoBulk d.1 ≤ N + 1) (hN9 : N ≤ 1048576)
    (hX : ∀ (c : Value) (fuel : Nat) (x : DataW H × List MemPlace), DataW.trod enc Tryz.prog W 0 (fun _ => true) held fuel 35 [c] = some x → Rows.uptoBulk x.1 ≤ N → ∃ l, X c l ∧ z l ≤ Rows.uptoBulk x.1) : ∃ p, CpR W X b o p ∧ szP z p.2 ≤ Rows.uptoBulk d.1 := by
  match cs, hl with
  | [c0, c1], _ =>
    obtain ⟨xs, k', _, hx', _, hl', hq⟩ := DataW.trod_struct Tryz.underlying33 hf
    match xs, hl' with
    | [y0, y1], _ =>
      have q0' : DataW.trod enc Tryz.prog W 0 (fun _ => true) held k' 3 (([c0, c1].drop 0).take (Tryz.prog.cellsOf 3)) = some y0 := hq 0 _ rfl
      rw [cI] at q0'
      have q0 : DataW.trod enc Tryz.prog W 0 (fun _ => true) held k' 3 [c0] = some y0 := q0'
      have q1' : DataW.trod enc Tryz.prog W 0 (fun _ => true) held k' 31 (([c0, c1].drop 1).take (Tryz.prog.cellsOf 31)) = some y1 := hq 1 _ rfl
      rw [cSs] at q1'
      have q1 : DataW.trod enc Tryz.prog W 0 (fun _ => true) held k' 31 [c1] = some y1 := q1'
      obtain ⟨k, ek, rfl, wk⟩ := DataW.trod_int Tryz.underlying3 q0
      simp at ek
      subst ek
      have hD : d.1 = .agg [.lit (.int .i64 k), y1.1] := by simpa using congrArg Prod.fst hx'
      rw [hD] at hN ⊢
      simp only [Rows.uptoBulk, Rows.uptoBulkAll] at hN ⊢
      obtain ⟨x1, x2⟩ := bounds_i64 wk
      obtain ⟨ss, hss, hzs⟩ := row_open2 Tryz.underlying31 cSl (by omega) (SlR W X) (szS z) q1 (N := N) (by omega) hN9 (fun b o m cs d h1 h2 h3 h4 h5 => sl_open2 h1 h2 h4 (by omega) hN9 hX)
      exact ⟨(k, ss), ⟨c1, hc 0 (by omega), hc 1 (by omega), hss, x1, x2⟩, by show (ss.map (szS z)).sum ≤ _; omega⟩
theorem cx_open2 {H : Type} {enc : TypeId × Value → H} {W : World} {held : Bool} {X : Value → List Cx → Prop} {z : List Cx → Nat} {b o m N : Nat} {cs : List Value} {d : DataW H × List MemPlace} (hl : cs.length = 1) (hc : ∀ j, j < 1 → W.cell? ⟨b, o + j, none⟩ = cs[j]?)
    (hf : DataW.trod enc Tryz.prog W 0 (fun _ => true) held m 24 cs = some d) (hN : Rows.uptoBulk d.1 ≤ N + 1) (hN9 : N ≤ 1048576)
    (hX : ∀ (c : Value) (fuel : Nat) (x : DataW H × List MemPlace), DataW.trod enc Tryz.prog W 0 (fun _ => true) held fuel 35 [c] = some x → Rows.uptoBulk x.1 ≤ N → ∃ l, X c l ∧ z l ≤ Rows.uptoBulk x.1) : ∃ c, CxR W X b o c ∧ szC z c ≤ Rows.uptoBulk d.1 := by
  match cs, hl with
  | [c0], _ =>
    obtain ⟨xs, k', _, hx', _, hl', hq⟩ := DataW.trod_struct Tryz.underlying24 hf
    match xs, hl' with
    | [y0], _ =>
      have q0' : DataW.trod enc Tryz.prog W 0 (fun _ => true) held k' 22 (([c0].drop 0).take (Tryz.prog.cellsOf 22)) = some y0 := hq 0 _ rfl
      rw [cPs] at q0'
      have q0 : DataW.trod enc Tryz.prog W 0 (fun _ => true) held k' 22 [c0] = some y0 := q0'
      have hD : d.1 = .agg [y0.1] := by simpa using congrArg Prod.fst hx'
      rw [hD] at hN ⊢
      simp only [Rows.uptoBulk, Rows.uptoBulkAll] at hN ⊢
      obtain ⟨ps, hps, hzs⟩ := row_open2 Tryz.underlying22 cCp (by omega) (CpR W X) (fun p => szP z p.2) q0 (N := N) (by omega) hN9 (fun b o m cs d h1 h2 h3 h4 h5 => cp_open2 h1 h2 h4 (by omega) hN9 hX)
      exact ⟨ps, ⟨c0, hc 0 (by omega), hps⟩, by show (ps.map fun p => szP z p.2).sum ≤ _; omega⟩
/-- A slice of selectors that comes in. -/
theorem cxs_open2 {H : Type} {enc : TypeId × Value → H} {W : World} {held : Bool} (N : Nat) : ∀ (c : Value) (fuel : Nat) (x : DataW H × List MemPlace),
    DataW.trod enc Tryz.prog W 0 (fun _ => true) held fuel 35 [c] = some x → Rows.uptoBulk x.1 ≤ N → N ≤ 1048576 → ∃ l : List Cx, CM W N c l ∧ szM N l ≤ Rows.uptoBulk x.1 := by
  induction N with
  | zero => intro c fuel x hf hb; have := one_le x.1; omega
  | succ N ih =>
    intro c fuel x hf hb hN
    exact row_open2 (α := Cx) Tryz.underlying35 cCx (by omega) (CxR W (CM W N)) (szC (szM N)) hf hb (by omega) (fun b o m cs d h1 h2 h3 h4 h5 => cx_open2 h1 h2 h4 (by omega) (by omega) (fun c fuel x hx hbx => ih c fuel x hx hbx (by omega)))
/-- A selector by value. -/
theorem complex_open {H : Type} {enc : TypeId × Value → H} {W : World} {held : Bool} {c0 : Value} {fuel N : Nat} {x : DataW H × List MemPlace}
    (hf : DataW.trod enc Tryz.prog W 0 (fun _ => true) held fuel 24 [c0] = some x) (hb : Rows.uptoBulk x.1 ≤ N) (hN : N ≤ 1048576) : ∃ c : Cx, PsM W N c0 c ∧ szC (szM N) c ≤ Rows.uptoBulk x.1 := by
  obtain ⟨xs, k', _, hx', _, hl', hq⟩ := DataW.trod_struct Tryz.underlying24 hf
  match xs, hl' with
  | [y0], _ =>
    have q0' : DataW.trod enc Tryz.prog W 0 (fun _ => true) held k' 22 (([c0].drop 0).take (Tryz.prog.cellsOf 22)) = some y0 := hq 0 _ rfl
    rw [cPs] at q0'
    have q0 : DataW.trod enc Tryz.prog W 0 (fun _ => true) held k' 22 [c0] = some y0 := q0'
    have hD : x.1 = .agg [y0.1] := by simpa using congrArg Prod.fst hx'
    rw [hD] at hb ⊢
    simp only [Rows.uptoBulk, Rows.uptoBulkAll] at hb ⊢
    obtain ⟨ps, hps, hzs⟩ := row_open2 Tryz.underlying22 cCp (by omega) (CpR W (CM W N)) (fun p => szP (szM N) p.2) q0 (N := N) (by omega) hN (fun b o m cs d h1 h2 h3 h4 h5 => cp_open2 h1 h2 h4 (by omega) hN (fun c fuel x hx hbx => cxs_open2 N c fuel x hx hbx hN))
    exact ⟨ps, hps, by show (ps.map fun p => szP (szM N) p.2).sum ≤ _; omega⟩
theorem cW3 : Tryz.prog.cellsOf 26 = 3 := by kernel_rfl
theorem arr3 {α : Type} {cs : Array α} (h : cs.size = 3) : ∃ c0 c1 c2, cs = #[c0, c1, c2] := by
  obtain ⟨l⟩ := cs
  match l, h with
  | [c0, c1, c2], _ => exact ⟨c0, c1, c2, rfl⟩
theorem arr1 {α : Type} {cs : Array α} (h : cs.size = 1) : ∃ c0, cs = #[c0] := by
  obtain ⟨l⟩ := cs
  match l, h with
  | [c0], _ => exact ⟨c0, rfl⟩
/-- Three cells that are a weight's. -/
theorem w3_cells {H : Type} {enc : TypeId × Value → H} {W : World} {held : Bool} {c0 c1 c2 : Value} {fuel : Nat} {x : DataW H × List MemPlace}
    (hf : DataW.trod enc Tryz.prog W 0 (fun _ => true) held fuel 26 [c0, c1, c2] = some x) : ∃ y : Wt, c0 = .int .i64 y.1 ∧ c1 = .int .i64 y.2.1 ∧ c2 = .int .i64 y.2.2 := by
  obtain ⟨y0, y1, y2, n, hx, q0, q1, q2⟩ := trod_array3 Tryz.underlying26 cI hf
  obtain ⟨k0, e0, rfl, _⟩ := DataW.trod_int Tryz.underlying3 q0
  obtain ⟨k1, e1, rfl, _⟩ := DataW.trod_int Tryz.underlying3 q1
  obtain ⟨k2, e2, rfl, _⟩ := DataW.trod_int Tryz.underlying3 q2
  simp at e0 e1 e2
  exact ⟨(k0, k1, k2), e0, e1, e2⟩
set_option maxRecDepth 100000 in
/-- A weight by value. -/
theorem weight_open {H : Type} {enc : TypeId × Value → H} {W : World} {r : Reach} {b0 : Nat} {held : Bool} {v : Value} {x : DataW H} {p : List MemPlace}
    (hv : Value.okWide Tryz.prog W r b0 26 v) (h : DataW.Trod enc Tryz.prog W 0 (fun _ => true) held 26 v x p) : ∃ y : Wt, v = wV y := by
  obtain ⟨cs, rfl, hsz⟩ : ∃ cs, v = .agg cs ∧ cs.size = Tryz.prog.cellsOf 26 := by
    simp only [Value.okWide, Tryz.underlying26] at hv
    obtain ⟨cs, h1, h2, _⟩ := hv
    exact ⟨cs, h1, h2⟩
  obtain ⟨c0, c1, c2, rfl⟩ := arr3 (hsz.trans cW3)
  obtain ⟨fuel, hf⟩ := h
  obtain ⟨y, rfl, rfl, rfl⟩ := w3_cells (show DataW.trod enc Tryz.prog W 0 (fun _ => true) held fuel 26 [c0, c1, c2] = some (x, p) by simpa [Value.cells] using hf)
  exact ⟨y, rfl⟩
/-- A slice of weights that comes in. -/
theorem weights_open {H : Type} {enc : TypeId × Value → H} {W : World} {held : Bool} {c : Value} {fuel N : Nat} {x : DataW H × List MemPlace}
    (hf : DataW.trod enc Tryz.prog W 0 (fun _ => true) held fuel 86 [c] = some x) (hb : Rows.uptoBulk x.1 ≤ N + 1) (hN : N ≤ 1048576) : ∃ l : List Wt, WsM W c l :=
  row_open (α := Wt) Tryz.underlying86 cW3 (by omega) (W3R W) hf hb hN (fun b o m cs d h1 h2 h3 h4 h5 => by
    match cs, h1 with
    | [c0, c1, c2], _ =>
      obtain ⟨y, rfl, rfl, rfl⟩ := w3_cells h4
      exact ⟨y, h2 0 (by omega), h2 1 (by omega), h2 2 (by omega)⟩)
end Go.Proofs.YtmkbjcoagfnegabGreatDoor.sel9
