/-
  A slice as a row reads it, and how great it is; expressions, and how great they are.
-/
import Derived.Test.YtpcdhdllclenaaaDoorCaRe
set_option linter.unusedVariables false
set_option linter.unusedSimpArgs false
namespace Go.Proofs.YtpcdhdllclenaaaDoor.rowg
open Go.ChangeShapes Go.WideShapes Go.ChangeAt Go.RowKit Go.Joins
open Go.ChangeMaps (open_string shut_string)

theorem sum_bulk {α H : Type} (L : List Nat) (q : Nat → α) (D : Nat → DataW H) (μ : α → Nat) (h : ∀ i ∈ L, μ (q i) ≤ Rows.uptoBulk (D i)) : ((L.map q).map μ).sum ≤ Rows.uptoBulkAll (L.map D) := by
  induction L with
  | nil => simp
  | cons x L ih =>
    have := h x (by simp)
    have := ih (fun i hi => h i (by simp [hi]))
    simp only [List.map_cons, List.sum_cons, Rows.uptoBulkAll]
    omega
/-- A slice that comes in, whatever its elements are, and how great it is. -/
theorem row_open2 {α : Type} [Inhabited α] {H : Type} {enc : TypeId × Value → H} {W : World} {held : Bool} {T E : TypeId} {sz : Nat} (hT : Tryd.prog.underlying T = some (.slice E)) (hsz : Tryd.prog.cellsOf E = sz) (h0 : 0 < sz) (R : Nat → Nat → α → Prop) (μ : α → Nat)
    {c : Value} {fuel : Nat} {x : DataW H × List MemPlace} (hf : DataW.trod enc Tryd.prog W 0 (fun _ => true) held fuel T [c] = some x) {N : Nat} (hN : Rows.uptoBulk x.1 ≤ N + 1) (hN9 : N ≤ 1048576)
    (each : ∀ (b o m : Nat) (cs : List Value) (d : DataW H × List MemPlace), cs.length = sz → (∀ j, j < sz → W.cell? ⟨b, o + j, none⟩ = cs[j]?) → b < W.heap.size → DataW.trod enc Tryd.prog W 0 (fun _ => true) held m E cs = some d → Rows.uptoBulk d.1 ≤ N → ∃ y : α, R b o y ∧ μ y ≤ Rows.uptoBulk d.1) : ∃ l, RowG W sz R c l ∧ (l.map μ).sum ≤ Rows.uptoBulk x.1 := by
  rcases Go.Deep.open_slice hT hf with ⟨hcs, hx⟩ | ⟨a1, len, cap, m, n, D, Pl, hcs, _, hl, hm, hmm, hx, each0⟩
  · simp at hcs
    subst hcs
    exact ⟨[], .inl ⟨_, _, rfl, rfl⟩, by simp⟩
  · simp at hcs
    subst hcs
    simp only [if_true] at hmm
    subst hmm
    rw [hx] at hN
    simp only [Rows.uptoBulk] at hN
    have hlen := length_le ((List.range len).map D)
    rw [List.length_map, List.length_range] at hlen
    by_cases hl0 : len = 0
    · subst hl0; exact ⟨[], .inl ⟨_, _, rfl, rfl⟩, by simp⟩
    obtain ⟨b, off, spot⟩ := a1
    have hspot : spot = none := by
      obtain ⟨cs, h1, h2⟩ := each0 0 (by omega)
      rw [hsz] at h1
      obtain ⟨_, hcl, hcell⟩ := World.cells?_some h1
      have c00 := hcell 0 h0
      rw [List.getElem?_eq_getElem (by omega)] at c00
      simpa [Addr.add] using World.cell?_spot c00
    subst hspot
    have each2 : ∀ i, i < len → ∃ y : α, R b (off + i * sz) y ∧ μ y ≤ Rows.uptoBulk (D i) := by
      intro i hi
      obtain ⟨cs, h1, h2⟩ := each0 i (by omega)
      rw [hsz] at h1
      obtain ⟨_, hcl, hcell⟩ := World.cells?_some h1
      have hm2 := mem_le (d := D i) (l := (List.range len).map D) (List.mem_map.2 ⟨i, List.mem_range.2 hi, rfl⟩)
      refine each b (off + i * sz) _ cs _ hcl (fun j hj => ?_) ?_ h2 (by show Rows.uptoBulk (D i) ≤ N; omega)
      · have := hcell j hj
        rwa [Addr.add_lit, Addr.add_lit] at this
      · have c00 := hcell 0 h0
        rw [List.getElem?_eq_getElem (by omega)] at c00
        have k := World.block_lt_of_cell? _ _ c00
        rwa [Addr.add_lit, Addr.add_lit] at k
    obtain ⟨q, hq⟩ := Go.Deep.choose_lt each2
    have hll : ((List.range len).map q).length = len := by simp
    refine ⟨(List.range len).map q, .inr ⟨b, off, m, by rw [hll], by rw [hll]; omega, ?_, by rw [hll]; exact hl, by rw [hll]; omega, by unfold maxLen at hm; omega, fun i y hi => ?_⟩, ?_⟩
    · obtain ⟨cs, h1, h2⟩ := each0 0 (by omega)
      rw [hsz] at h1
      obtain ⟨_, hcl, hcell⟩ := World.cells?_some h1
      have c00 := hcell 0 h0
      rw [List.getElem?_eq_getElem (by omega)] at c00
      have k := World.block_lt_of_cell? _ _ c00
      simpa [Addr.add] using k
    · have hil : i < len := by
        have := (List.getElem?_eq_some_iff.1 hi).1
        simpa using this
      rw [List.getElem?_map, List.getElem?_range hil] at hi
      have e : q i = y := by simpa using hi
      rw [← e]
      exact (hq i hil).1
    · have := sum_bulk (List.range len) q D μ (fun i hi => (hq i (List.mem_range.1 hi)).2)
      rw [hx]
      simp only [Rows.uptoBulk]
      omega
theorem szEs_sum (l : List Ex) : (l.map szE).sum = szEs l := by
  induction l with
  | nil => rw [szEs_nil]; rfl
  | cons x r ih => rw [List.map_cons, List.sum_cons, ih, szEs_cons, szE_ks]
/-- Five cells that are an expression's. -/
theorem ex_cells2 {H : Type} {enc : TypeId × Value → H} {W : World} {held : Bool} {c0 c1 c2 c3 c4 : Value} {m N : Nat} {d : DataW H × List MemPlace} {X : Value → List Ex → Prop}
    (hf : DataW.trod enc Tryd.prog W 0 (fun _ => true) held m 35 [c0, c1, c2, c3, c4] = some d) (hN : Rows.uptoBulk d.1 ≤ N + 1)
    (hX : ∀ (c : Value) (fuel : Nat) (x : DataW H × List MemPlace), DataW.trod enc Tryd.prog W 0 (fun _ => true) held fuel 33 [c] = some x → Rows.uptoBulk x.1 ≤ N → ∃ l, X c l ∧ szEs l ≤ Rows.uptoBulk x.1) :
    ∃ y : Ex, c0 = .int .i64 y.k ∧ c1 = .int .i64 y.n ∧ c2 = .int .i64 y.d ∧ c3 = .int .i64 y.u ∧ X c4 y.ks ∧ y.Ok ∧ szE y ≤ Rows.uptoBulk d.1 := by
  obtain ⟨xs, k', _, hx', _, hl', hq⟩ := DataW.trod_struct Tryd.underlying35 hf
  match xs, hl' with
  | [y0, y1, y2, y3], _ =>
    have q0' : DataW.trod enc Tryd.prog W 0 (fun _ => true) held k' 3 (([c0, c1, c2, c3, c4].drop 0).take (Tryd.prog.cellsOf 3)) = some y0 := hq 0 _ rfl
    rw [cI] at q0'
    have q0 : DataW.trod enc Tryd.prog W 0 (fun _ => true) held k' 3 [c0] = some y0 := q0'
    have q1' : DataW.trod enc Tryd.prog W 0 (fun _ => true) held k' 29 (([c0, c1, c2, c3, c4].drop 1).take (Tryd.prog.cellsOf 29)) = some y1 := hq 1 _ rfl
    rw [cR] at q1'
    have q1 : DataW.trod enc Tryd.prog W 0 (fun _ => true) held k' 29 [c1, c2] = some y1 := q1'
    have q2' : DataW.trod enc Tryd.prog W 0 (fun _ => true) held k' 3 (([c0, c1, c2, c3, c4].drop 3).take (Tryd.prog.cellsOf 3)) = some y2 := hq 2 _ rfl
    rw [cI] at q2'
    have q2 : DataW.trod enc Tryd.prog W 0 (fun _ => true) held k' 3 [c3] = some y2 := q2'
    have q3' : DataW.trod enc Tryd.prog W 0 (fun _ => true) held k' 33 (([c0, c1, c2, c3, c4].drop 4).take (Tryd.prog.cellsOf 33)) = some y3 := hq 3 _ rfl
    rw [cEs] at q3'
    have q3 : DataW.trod enc Tryd.prog W 0 (fun _ => true) held k' 33 [c4] = some y3 := q3'
    obtain ⟨k, ek, rfl, wk⟩ := DataW.trod_int Tryd.underlying3 q0
    obtain ⟨u, eu, rfl, wu⟩ := DataW.trod_int Tryd.underlying3 q2
    obtain ⟨ys, m2, _, hy, _, hl2, hq2⟩ := DataW.trod_struct Tryd.underlying29 q1
    match ys, hl2 with
    | [u0, u1], _ =>
      have r0' : DataW.trod enc Tryd.prog W 0 (fun _ => true) held m2 2 (([c1, c2].drop 0).take (Tryd.prog.cellsOf 2)) = some u0 := hq2 0 _ rfl
      rw [cL] at r0'
      have r0 : DataW.trod enc Tryd.prog W 0 (fun _ => true) held m2 2 [c1] = some u0 := r0'
      have r1' : DataW.trod enc Tryd.prog W 0 (fun _ => true) held m2 2 (([c1, c2].drop 1).take (Tryd.prog.cellsOf 2)) = some u1 := hq2 1 _ rfl
      rw [cL] at r1'
      have r1 : DataW.trod enc Tryd.prog W 0 (fun _ => true) held m2 2 [c2] = some u1 := r1'
      obtain ⟨n, en, rfl, wn⟩ := DataW.trod_int Tryd.underlying2 r0
      obtain ⟨dd, ed, rfl, wd⟩ := DataW.trod_int Tryd.underlying2 r1
      simp at ek eu en ed
      subst ek eu en ed
      have hD : d.1 = .agg [.lit (.int .i64 k), y1.1, .lit (.int .i64 u), y3.1] := by simpa using congrArg Prod.fst hx'
      rw [hD] at hN ⊢
      simp only [Rows.uptoBulk, Rows.uptoBulkAll] at hN ⊢
      obtain ⟨l, hXl, hzl⟩ := hX c4 k' y3 q3 (by omega)
      exact ⟨.mk k n dd u l, rfl, rfl, rfl, rfl, hXl, ⟨bounds_i64 wk, bounds_i64 wn, bounds_i64 wd, bounds_i64 wu⟩, by rw [szE_ks]; show szEs l + 1 ≤ _; omega⟩
/-- A slice of expressions that comes in. -/
theorem exs_open2 {H : Type} {enc : TypeId × Value → H} {W : World} {held : Bool} (N : Nat) : ∀ (c : Value) (fuel : Nat) (x : DataW H × List MemPlace),
    DataW.trod enc Tryd.prog W 0 (fun _ => true) held fuel 33 [c] = some x → Rows.uptoBulk x.1 ≤ N → N ≤ 1048576 → ∃ l : List Ex, EM W c l ∧ szEs l ≤ Rows.uptoBulk x.1 := by
  induction N with
  | zero => intro c fuel x hf hb; have := one_le x.1; omega
  | succ N ih =>
    intro c fuel x hf hb hN
    obtain ⟨l, hr, hz⟩ := row_open2 (α := Ex) Tryd.underlying33 cEx (by omega) (fun b o y => ∃ u, Fiv W b o y ∧ W.cell? ⟨b, o + 4, none⟩ = some u ∧ EM W u y.ks ∧ y.Ok) szE hf hb (by omega) (fun b o m cs d h1 h2 h3 h4 h5 => by
      match cs, h1 with
      | [c0, c1, c2, c3, c4], _ =>
        obtain ⟨y, rfl, rfl, rfl, rfl, hx, hk, hzy⟩ := ex_cells2 (N := N) (X := EM W) h4 (by omega) (fun c fuel x hx hbx => ih c fuel x hx hbx (by omega))
        exact ⟨y, ⟨c4, ⟨h2 0 (by omega), h2 1 (by omega), h2 2 (by omega), h2 3 (by omega)⟩, h2 4 (by omega), hx, hk⟩, hzy⟩)
    refine ⟨l, ?_, by rw [← szEs_sum]; exact hz⟩
    rcases hr with ⟨a, cp, rfl, rfl⟩ | ⟨b, o, cp, rfl, h0, hb', hc, hn, hm, hr⟩
    · exact .nil a cp
    · have ch : ∀ i, ∃ u, ∀ y, l[i]? = some y → Fiv W b (o + i * 5) y ∧ W.cell? ⟨b, o + i * 5 + 4, none⟩ = some u ∧ EM W u y.ks ∧ y.Ok := fun i => by
        cases hi : l[i]? with
        | none => exact ⟨.bool false, fun y hy => by cases hy⟩
        | some y =>
          obtain ⟨u, h1, h2, h3, h4⟩ := hr i y hi
          exact ⟨u, fun y' hy => by cases hy; exact ⟨h1, h2, h3, h4⟩⟩
      exact .row b o cp l (fun i => Classical.choose (ch i)) h0 hb' hc hn hm (fun i v hi => (Classical.choose_spec (ch i) v hi).2.2.2) (fun i v hi => (Classical.choose_spec (ch i) v hi).1) (fun i v hi => (Classical.choose_spec (ch i) v hi).2.1) (fun i v hi => (Classical.choose_spec (ch i) v hi).2.2.1)
set_option maxRecDepth 100000 in
/-- An expression that comes in. -/
theorem ex_open2 {H : Type} {enc : TypeId × Value → H} {W : World} {base : Nat} {held : Bool} {v : Value} {x : DataW H} {p : List MemPlace} (hv : Value.okWide Tryd.prog W .any base 35 v) (h : DataW.Trod enc Tryd.prog W 0 (fun _ => true) held 35 v x p) (hb : Rows.uptoBulk x ≤ 1048576) :
    ∃ (y : Ex) (u : Value), v = exV y u ∧ y.Ok ∧ EM W u y.ks ∧ szE y ≤ 1048576 := by
  obtain ⟨cs, rfl, hsz⟩ := okWide_struct Tryd.underlying35 hv
  obtain ⟨c0, c1, c2, c3, c4, rfl⟩ := arr5 (hsz.trans cEx)
  obtain ⟨fuel, hf⟩ := h
  obtain ⟨y, rfl, rfl, rfl, rfl, hx, hk, hz⟩ := ex_cells2 (c0 := c0) (c1 := c1) (c2 := c2) (c3 := c3) (c4 := c4) (m := fuel) (d := (x, p)) (N := 1048576) (X := EM W) (by simpa [Value.cells] using hf) (by show Rows.uptoBulk x ≤ _; omega) (fun c fuel x hx hbx => exs_open2 1048576 c fuel x hx hbx (Nat.le_refl _))
  exact ⟨y, c4, rfl, hk, hx, Nat.le_trans hz hb⟩
end Go.Proofs.YtpcdhdllclenaaaDoor.rowg
