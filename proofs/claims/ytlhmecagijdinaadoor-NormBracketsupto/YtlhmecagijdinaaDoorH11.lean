/-
  Expressions as a row reads them.
  A slice as a row reads it, and how great it is; expressions, and how great they are.
  Forms as a row reads them.
  A form as a row reads it; the variable that is nothing.
  A slice of forms as a row reads it, and how many parts they have.
  Forms as a row reads them, and how great they are.
-/
import Derived.Test.YtlhmecagijdinaaDoorN20
import Derived.Test.YtlhmecagijdinaaDoorN17
import Derived.Test.YtlhmecagijdinaaDoorH04
import Derived.Test.YtlhmecagijdinaaDoorH07
set_option linter.unusedVariables false
set_option linter.unusedSimpArgs false
namespace Go.Proofs.YtlhmecagijdinaaDoor.rowg
open Go.ChangeShapes Go.WideShapes Go.ChangeAt Go.RowKit Go.Joins
open Go.ChangeMaps (open_string shut_string)

instance : Inhabited Ex := ⟨.mk 0 0 0 0 []⟩
theorem cEx : Tryd.prog.cellsOf 26 = 5 := by kernel_rfl
theorem cEs : Tryd.prog.cellsOf 24 = 1 := by kernel_rfl
theorem arr5 {α : Type} {cs : Array α} (h : cs.size = 5) : ∃ c0 c1 c2 c3 c4, cs = #[c0, c1, c2, c3, c4] := by
  obtain ⟨l⟩ := cs
  match l, h with
  | [c0, c1, c2, c3, c4], _ => exact ⟨c0, c1, c2, c3, c4, rfl⟩
/-- Five cells that are an expression's. -/
theorem ex_cells {H : Type} {enc : TypeId × Value → H} {W : World} {held : Bool} {c0 c1 c2 c3 c4 : Value} {m N : Nat} {d : DataW H × List MemPlace} {X : Value → List Ex → Prop}
    (hf : DataW.trod enc Tryd.prog W 0 (fun _ => true) held m 26 [c0, c1, c2, c3, c4] = some d) (hN : Rows.uptoBulk d.1 ≤ N + 1)
    (hX : ∀ (c : Value) (fuel : Nat) (x : DataW H × List MemPlace), DataW.trod enc Tryd.prog W 0 (fun _ => true) held fuel 24 [c] = some x → Rows.uptoBulk x.1 ≤ N → ∃ l, X c l) :
    ∃ y : Ex, c0 = .int .i64 y.k ∧ c1 = .int .i64 y.n ∧ c2 = .int .i64 y.d ∧ c3 = .int .i64 y.u ∧ X c4 y.ks ∧ y.Ok := by
  obtain ⟨xs, k', _, hx', _, hl', hq⟩ := DataW.trod_struct Tryd.underlying26 hf
  match xs, hl' with
  | [y0, y1, y2, y3], _ =>
    have q0' : DataW.trod enc Tryd.prog W 0 (fun _ => true) held k' 3 (([c0, c1, c2, c3, c4].drop 0).take (Tryd.prog.cellsOf 3)) = some y0 := hq 0 _ rfl
    rw [cI] at q0'
    have q0 : DataW.trod enc Tryd.prog W 0 (fun _ => true) held k' 3 [c0] = some y0 := q0'
    have q1' : DataW.trod enc Tryd.prog W 0 (fun _ => true) held k' 23 (([c0, c1, c2, c3, c4].drop 1).take (Tryd.prog.cellsOf 23)) = some y1 := hq 1 _ rfl
    rw [cR] at q1'
    have q1 : DataW.trod enc Tryd.prog W 0 (fun _ => true) held k' 23 [c1, c2] = some y1 := q1'
    have q2' : DataW.trod enc Tryd.prog W 0 (fun _ => true) held k' 3 (([c0, c1, c2, c3, c4].drop 3).take (Tryd.prog.cellsOf 3)) = some y2 := hq 2 _ rfl
    rw [cI] at q2'
    have q2 : DataW.trod enc Tryd.prog W 0 (fun _ => true) held k' 3 [c3] = some y2 := q2'
    have q3' : DataW.trod enc Tryd.prog W 0 (fun _ => true) held k' 24 (([c0, c1, c2, c3, c4].drop 4).take (Tryd.prog.cellsOf 24)) = some y3 := hq 3 _ rfl
    rw [cEs] at q3'
    have q3 : DataW.trod enc Tryd.prog W 0 (fun _ => true) held k' 24 [c4] = some y3 := q3'
    obtain ⟨k, ek, rfl, wk⟩ := DataW.trod_int Tryd.underlying3 q0
    obtain ⟨u, eu, rfl, wu⟩ := DataW.trod_int Tryd.underlying3 q2
    obtain ⟨ys, m2, _, hy, _, hl2, hq2⟩ := DataW.trod_struct Tryd.underlying23 q1
    match ys, hl2 with
    | [u0, u1], _ =>
      have r0' : DataW.trod enc Tryd.prog W 0 (fun _ => true) held m2 2 (([c1, c2].drop 0).take (Tryd.prog.cellsOf 2)) = some u0 := hq2 0 _ rfl
      rw [cL] at r0'
      have r0 : DataW.trod enc Tryd.prog W 0 (fun _ => true) held m2 2 [c1] = some u0 := r0'
      have r1' : DataW.trod enc Tryd.prog W 0 (fun _ => true) held m2 2 (([c1, c2].drop 1).take (Tryd.prog.cellsOf 2)) = some u1 := hq2 1 _ rfl
      rw [cL] at r1'
      have r1 : DataW.trod enc Tryd.prog W 0 (fun _ => true) held m2 2 [c2] = some u1 := r1'
      obtain ⟨n, en, rfl, wn⟩ := DataW.trod_int Tryd.underlying2 r0
      obtain ⟨dd, ed, rfl, wd⟩ := DataW.trod_int Tryd.underlying2 r1
      simp at ek eu en ed
      subst ek eu en ed
      have hD : d.1 = .agg [.lit (.int .i64 k), y1.1, .lit (.int .i64 u), y3.1] := by simpa using congrArg Prod.fst hx'
      rw [hD] at hN
      simp only [Rows.uptoBulk, Rows.uptoBulkAll] at hN
      obtain ⟨l, hXl⟩ := hX c4 k' y3 q3 (by omega)
      exact ⟨.mk k n dd u l, rfl, rfl, rfl, rfl, hXl, bounds_i64 wk, bounds_i64 wn, bounds_i64 wd, bounds_i64 wu⟩
/-- A slice of expressions that comes in. -/
theorem exs_open {H : Type} {enc : TypeId × Value → H} {W : World} {held : Bool} (N : Nat) : ∀ (c : Value) (fuel : Nat) (x : DataW H × List MemPlace),
    DataW.trod enc Tryd.prog W 0 (fun _ => true) held fuel 24 [c] = some x → Rows.uptoBulk x.1 ≤ N → N ≤ 1048576 → ∃ l : List Ex, EM W c l := by
  induction N with
  | zero => intro c fuel x hf hb; have := one_le x.1; omega
  | succ N ih =>
    intro c fuel x hf hb hN
    obtain ⟨l, hr⟩ := row_open (α := Ex) Tryd.underlying24 cEx (by omega) (fun b o y => ∃ u, Fiv W b o y ∧ W.cell? ⟨b, o + 4, none⟩ = some u ∧ EM W u y.ks ∧ y.Ok) hf hb (by omega) (fun b o m cs d h1 h2 h3 h4 h5 => by
      match cs, h1 with
      | [c0, c1, c2, c3, c4], _ =>
        obtain ⟨y, rfl, rfl, rfl, rfl, hx, hk⟩ := ex_cells (N := N) (X := EM W) h4 (by omega) (fun c fuel x hx hbx => ih c fuel x hx hbx (by omega))
        exact ⟨y, c4, ⟨h2 0 (by omega), h2 1 (by omega), h2 2 (by omega), h2 3 (by omega)⟩, h2 4 (by omega), hx, hk⟩)
    refine ⟨l, ?_⟩
    rcases hr with ⟨a, cp, rfl, rfl⟩ | ⟨b, o, cp, rfl, h0, hb', hc, hn, hm, hr⟩
    · exact .nil a cp
    · have ch : ∀ i, ∃ u, ∀ y, l[i]? = some y → Fiv W b (o + i * 5) y ∧ W.cell? ⟨b, o + i * 5 + 4, none⟩ = some u ∧ EM W u y.ks ∧ y.Ok := fun i => by
        cases hi : l[i]? with
        | none => exact ⟨.bool false, fun y hy => by cases hy⟩
        | some y =>
          obtain ⟨u, h1, h2, h3, h4⟩ := hr i y hi
          exact ⟨u, fun y' hy => by cases hy; exact ⟨h1, h2, h3, h4⟩⟩
      exact .row b o cp l (fun i => Classical.choose (ch i)) h0 hb' hc hn hm (fun i v hi => (Classical.choose_spec (ch i) v hi).2.2.2) (fun i v hi => (Classical.choose_spec (ch i) v hi).1) (fun i v hi => (Classical.choose_spec (ch i) v hi).2.1) (fun i v hi => (Classical.choose_spec (ch i) v hi).2.2.1)
set_option maxRecDepth 100000 in
/-- An expression that comes in. -/
theorem ex_open {H : Type} {enc : TypeId × Value → H} {W : World} {base : Nat} {held : Bool} {v : Value} {x : DataW H} {p : List MemPlace} (hv : Value.okWide Tryd.prog W .any base 26 v) (h : DataW.Trod enc Tryd.prog W 0 (fun _ => true) held 26 v x p) (hb : Rows.uptoBulk x ≤ 1048576) :
    ∃ (y : Ex) (u : Value), v = exV y u ∧ y.Ok ∧ EM W u y.ks := by
  obtain ⟨cs, rfl, hsz⟩ := okWide_struct Tryd.underlying26 hv
  obtain ⟨c0, c1, c2, c3, c4, rfl⟩ := arr5 (hsz.trans cEx)
  obtain ⟨fuel, hf⟩ := h
  obtain ⟨y, rfl, rfl, rfl, rfl, hx, hk⟩ := ex_cells (c0 := c0) (c1 := c1) (c2 := c2) (c3 := c3) (c4 := c4) (m := fuel) (d := (x, p)) (N := 1048576) (X := EM W) (by simpa [Value.cells] using hf) (by show Rows.uptoBulk x ≤ _; omega) (fun c fuel x hx hbx => exs_open 1048576 c fuel x hx hbx (Nat.le_refl _))
  exact ⟨y, c4, rfl, hk, hx⟩
theorem arr2 {α : Type} {cs : Array α} (h : cs.size = 2) : ∃ c0 c1, cs = #[c0, c1] := by
  obtain ⟨l⟩ := cs
  match l, h with
  | [c0, c1], _ => exact ⟨c0, c1, rfl⟩
set_option maxRecDepth 100000 in
/-- A fraction that comes in. -/
theorem rat_open {H : Type} {enc : TypeId × Value → H} {W : World} {base : Nat} {held : Bool} {v : Value} {x : DataW H} {p : List MemPlace} (hv : Value.okWide Tryd.prog W .any base 23 v) (h : DataW.Trod enc Tryd.prog W 0 (fun _ => true) held 23 v x p) :
    ∃ n d, v = .agg #[.int .i64 n, .int .i64 d] ∧ i64 n ∧ i64 d := by
  obtain ⟨cs, rfl, hsz⟩ := okWide_struct Tryd.underlying23 hv
  obtain ⟨c1, c2, rfl⟩ := arr2 (hsz.trans cR)
  obtain ⟨fuel, hf⟩ := h
  obtain ⟨ys, m2, _, hy, _, hl2, hq2⟩ := DataW.trod_struct Tryd.underlying23 hf
  match ys, hl2 with
  | [u0, u1], _ =>
    have r0' : DataW.trod enc Tryd.prog W 0 (fun _ => true) held m2 2 (([c1, c2].drop 0).take (Tryd.prog.cellsOf 2)) = some u0 := hq2 0 _ rfl
    rw [cL] at r0'
    have r0 : DataW.trod enc Tryd.prog W 0 (fun _ => true) held m2 2 [c1] = some u0 := r0'
    have r1' : DataW.trod enc Tryd.prog W 0 (fun _ => true) held m2 2 (([c1, c2].drop 1).take (Tryd.prog.cellsOf 2)) = some u1 := hq2 1 _ rfl
    rw [cL] at r1'
    have r1 : DataW.trod enc Tryd.prog W 0 (fun _ => true) held m2 2 [c2] = some u1 := r1'
    obtain ⟨n, en, rfl, wn⟩ := DataW.trod_int Tryd.underlying2 r0
    obtain ⟨dd, ed, rfl, wd⟩ := DataW.trod_int Tryd.underlying2 r1
    simp at en ed
    subst en ed
    exact ⟨n, dd, rfl, bounds_i64 wn, bounds_i64 wd⟩
end Go.Proofs.YtlhmecagijdinaaDoor.rowg
set_option linter.unusedVariables false
set_option linter.unusedSimpArgs false
namespace Go.Proofs.YtlhmecagijdinaaDoor.rowg
open Go.ChangeShapes Go.WideShapes Go.ChangeAt Go.RowKit Go.Joins
open Go.ChangeMaps (open_string shut_string)

theorem sum_bulk {α H : Type} (L : List Nat) (q : Nat → α) (D : Nat → DataW H) (μ : α → Nat) (h : ∀ i ∈ L, μ (q i) ≤ Rows.uptoBulk (D i)) : ((L.map q).map μ).sum ≤ Rows.uptoBulkAll (L.map D) := by
  induction L with
  | nil => simp
  | cons x L ih =>
    have := h x (by simp)
    have := ih (fun i hi => h i (by simp [hi]))
    simp only [List.map_cons, List.sum_cons, Rows.uptoBulkAll]
    omega
/-- A slice that comes in, whatever its elements are, and how great it is. -/
theorem row_open2 {α : Type} [Inhabited α] {H : Type} {enc : TypeId × Value → H} {W : World} {held : Bool} {T E : TypeId} {sz : Nat} (hT : Tryd.prog.underlying T = some (.slice E)) (hsz : Tryd.prog.cellsOf E = sz) (h0 : 0 < sz) (R : Nat → Nat → α → Prop) (μ : α → Nat)
    {c : Value} {fuel : Nat} {x : DataW H × List MemPlace} (hf : DataW.trod enc Tryd.prog W 0 (fun _ => true) held fuel T [c] = some x) {N : Nat} (hN : Rows.uptoBulk x.1 ≤ N + 1) (hN9 : N ≤ 1048576)
    (each : ∀ (b o m : Nat) (cs : List Value) (d : DataW H × List MemPlace), cs.length = sz → (∀ j, j < sz → W.cell? ⟨b, o + j, none⟩ = cs[j]?) → b < W.heap.size → DataW.trod enc Tryd.prog W 0 (fun _ => true) held m E cs = some d → Rows.uptoBulk d.1 ≤ N → ∃ y : α, R b o y ∧ μ y ≤ Rows.uptoBulk d.1) : ∃ l, RowG W sz R c l ∧ (l.map μ).sum ≤ Rows.uptoBulk x.1 := by
  rcases Go.Deep.open_slice hT hf with ⟨hcs, hx⟩ | ⟨a1, len, cap, m, n, D, Pl, hcs, _, hl, hm, hmm, hx, each0⟩
  · simp at hcs
    subst hcs
    exact ⟨[], .inl ⟨_, _, rfl, rfl⟩, by simp⟩
  · simp at hcs
    subst hcs
    simp only [if_true] at hmm
    subst hmm
    rw [hx] at hN
    simp only [Rows.uptoBulk] at hN
    have hlen := length_le ((List.range len).map D)
    rw [List.length_map, List.length_range] at hlen
    by_cases hl0 : len = 0
    · subst hl0; exact ⟨[], .inl ⟨_, _, rfl, rfl⟩, by simp⟩
    obtain ⟨b, off, spot⟩ := a1
    have hspot : spot = none := by
      obtain ⟨cs, h1, h2⟩ := each0 0 (by omega)
      rw [hsz] at h1
      obtain ⟨_, hcl, hcell⟩ := World.cells?_some h1
      have c00 := hcell 0 h0
      rw [List.getElem?_eq_getElem (by omega)] at c00
      simpa [Addr.add] using World.cell?_spot c00
    subst hspot
    have each2 : ∀ i, i < len → ∃ y : α, R b (off + i * sz) y ∧ μ y ≤ Rows.uptoBulk (D i) := by
      intro i hi
      obtain ⟨cs, h1, h2⟩ := each0 i (by omega)
      rw [hsz] at h1
      obtain ⟨_, hcl, hcell⟩ := World.cells?_some h1
      have hm2 := mem_le (d := D i) (l := (List.range len).map D) (List.mem_map.2 ⟨i, List.mem_range.2 hi, rfl⟩)
      refine each b (off + i * sz) _ cs _ hcl (fun j hj => ?_) ?_ h2 (by show Rows.uptoBulk (D i) ≤ N; omega)
      · have := hcell j hj
        rwa [Addr.add_lit, Addr.add_lit] at this
      · have c00 := hcell 0 h0
        rw [List.getElem?_eq_getElem (by omega)] at c00
        have k := World.block_lt_of_cell? _ _ c00
        rwa [Addr.add_lit, Addr.add_lit] at k
    obtain ⟨q, hq⟩ := Go.Deep.choose_lt each2
    have hll : ((List.range len).map q).length = len := by simp
    refine ⟨(List.range len).map q, .inr ⟨b, off, m, by rw [hll], by rw [hll]; omega, ?_, by rw [hll]; exact hl, by rw [hll]; omega, by unfold maxLen at hm; omega, fun i y hi => ?_⟩, ?_⟩
    · obtain ⟨cs, h1, h2⟩ := each0 0 (by omega)
      rw [hsz] at h1
      obtain ⟨_, hcl, hcell⟩ := World.cells?_some h1
      have c00 := hcell 0 h0
      rw [List.getElem?_eq_getElem (by omega)] at c00
      have k := World.block_lt_of_cell? _ _ c00
      simpa [Addr.add] using k
    · have hil : i < len := by
        have := (List.getElem?_eq_some_iff.1 hi).1
        simpa using this
      rw [List.getElem?_map, List.getElem?_range hil] at hi
      have e : q i = y := by simpa using hi
      rw [← e]
      exact (hq i hil).1
    · have := sum_bulk (List.range len) q D μ (fun i hi => (hq i (List.mem_range.1 hi)).2)
      rw [hx]
      simp only [Rows.uptoBulk]
      omega
theorem szEs_sum (l : List Ex) : (l.map szE).sum = szEs l := by
  induction l with
  | nil => rw [szEs_nil]; rfl
  | cons x r ih => rw [List.map_cons, List.sum_cons, ih, szEs_cons, szE_ks]
/-- Five cells that are an expression's. -/
theorem ex_cells2 {H : Type} {enc : TypeId × Value → H} {W : World} {held : Bool} {c0 c1 c2 c3 c4 : Value} {m N : Nat} {d : DataW H × List MemPlace} {X : Value → List Ex → Prop}
    (hf : DataW.trod enc Tryd.prog W 0 (fun _ => true) held m 26 [c0, c1, c2, c3, c4] = some d) (hN : Rows.uptoBulk d.1 ≤ N + 1)
    (hX : ∀ (c : Value) (fuel : Nat) (x : DataW H × List MemPlace), DataW.trod enc Tryd.prog W 0 (fun _ => true) held fuel 24 [c] = some x → Rows.uptoBulk x.1 ≤ N → ∃ l, X c l ∧ szEs l ≤ Rows.uptoBulk x.1) :
    ∃ y : Ex, c0 = .int .i64 y.k ∧ c1 = .int .i64 y.n ∧ c2 = .int .i64 y.d ∧ c3 = .int .i64 y.u ∧ X c4 y.ks ∧ y.Ok ∧ szE y ≤ Rows.uptoBulk d.1 := by
  obtain ⟨xs, k', _, hx', _, hl', hq⟩ := DataW.trod_struct Tryd.underlying26 hf
  match xs, hl' with
  | [y0, y1, y2, y3], _ =>
    have q0' : DataW.trod enc Tryd.prog W 0 (fun _ => true) held k' 3 (([c0, c1, c2, c3, c4].drop 0).take (Tryd.prog.cellsOf 3)) = some y0 := hq 0 _ rfl
    rw [cI] at q0'
    have q0 : DataW.trod enc Tryd.prog W 0 (fun _ => true) held k' 3 [c0] = some y0 := q0'
    have q1' : DataW.trod enc Tryd.prog W 0 (fun _ => true) held k' 23 (([c0, c1, c2, c3, c4].drop 1).take (Tryd.prog.cellsOf 23)) = some y1 := hq 1 _ rfl
    rw [cR] at q1'
    have q1 : DataW.trod enc Tryd.prog W 0 (fun _ => true) held k' 23 [c1, c2] = some y1 := q1'
    have q2' : DataW.trod enc Tryd.prog W 0 (fun _ => true) held k' 3 (([c0, c1, c2, c3, c4].drop 3).take (Tryd.prog.cellsOf 3)) = some y2 := hq 2 _ rfl
    rw [cI] at q2'
    have q2 : DataW.trod enc Tryd.prog W 0 (fun _ => true) held k' 3 [c3] = some y2 := q2'
    have q3' : DataW.trod enc Tryd.prog W 0 (fun _ => true) held k' 24 (([c0, c1, c2, c3, c4].drop 4).take (Tryd.prog.cellsOf 24)) = some y3 := hq 3 _ rfl
    rw [cEs] at q3'
    have q3 : DataW.trod enc Tryd.prog W 0 (fun _ => true) held k' 24 [c4] = some y3 := q3'
    obtain ⟨k, ek, rfl, wk⟩ := DataW.trod_int Tryd.underlying3 q0
    obtain ⟨u, eu, rfl, wu⟩ := DataW.trod_int Tryd.underlying3 q2
    obtain ⟨ys, m2, _, hy, _, hl2, hq2⟩ := DataW.trod_struct Tryd.underlying23 q1
    match ys, hl2 with
    | [u0, u1], _ =>
      have r0' : DataW.trod enc Tryd.prog W 0 (fun _ => true) held m2 2 (([c1, c2].drop 0).take (Tryd.prog.cellsOf 2)) = some u0 := hq2 0 _ rfl
      rw [cL] at r0'
      have r0 : DataW.trod enc Tryd.prog W 0 (fun _ => true) held m2 2 [c1] = some u0 := r0'
      have r1' : DataW.trod enc Tryd.prog W 0 (fun _ => true) held m2 2 (([c1, c2].drop 1).take (Tryd.prog.cellsOf 2)) = some u1 := hq2 1 _ rfl
      rw [cL] at r1'
      have r1 : DataW.trod enc Tryd.prog W 0 (fun _ => true) held m2 2 [c2] = some u1 := r1'
      obtain ⟨n, en, rfl, wn⟩ := DataW.trod_int Tryd.underlying2 r0
      obtain ⟨dd, ed, rfl, wd⟩ := DataW.trod_int Tryd.underlying2 r1
      simp at ek eu en ed
      subst ek eu en ed
      have hD : d.1 = .agg [.lit (.int .i64 k), y1.1, .lit (.int .i64 u), y3.1] := by simpa using congrArg Prod.fst hx'
      rw [hD] at hN ⊢
      simp only [Rows.uptoBulk, Rows.uptoBulkAll] at hN ⊢
      obtain ⟨l, hXl, hzl⟩ := hX c4 k' y3 q3 (by omega)
      exact ⟨.mk k n dd u l, rfl, rfl, rfl, rfl, hXl, ⟨bounds_i64 wk, bounds_i64 wn, bounds_i64 wd, bounds_i64 wu⟩, by rw [szE_ks]; show szEs l + 1 ≤ _; omega⟩
/-- A slice of expressions that comes in. -/
theorem exs_open2 {H : Type} {enc : TypeId × Value → H} {W : World} {held : Bool} (N : Nat) : ∀ (c : Value) (fuel : Nat) (x : DataW H × List MemPlace),
    DataW.trod enc Tryd.prog W 0 (fun _ => true) held fuel 24 [c] = some x → Rows.uptoBulk x.1 ≤ N → N ≤ 1048576 → ∃ l : List Ex, EM W c l ∧ szEs l ≤ Rows.uptoBulk x.1 := by
  induction N with
  | zero => intro c fuel x hf hb; have := one_le x.1; omega
  | succ N ih =>
    intro c fuel x hf hb hN
    obtain ⟨l, hr, hz⟩ := row_open2 (α := Ex) Tryd.underlying24 cEx (by omega) (fun b o y => ∃ u, Fiv W b o y ∧ W.cell? ⟨b, o + 4, none⟩ = some u ∧ EM W u y.ks ∧ y.Ok) szE hf hb (by omega) (fun b o m cs d h1 h2 h3 h4 h5 => by
      match cs, h1 with
      | [c0, c1, c2, c3, c4], _ =>
        obtain ⟨y, rfl, rfl, rfl, rfl, hx, hk, hzy⟩ := ex_cells2 (N := N) (X := EM W) h4 (by omega) (fun c fuel x hx hbx => ih c fuel x hx hbx (by omega))
        exact ⟨y, ⟨c4, ⟨h2 0 (by omega), h2 1 (by omega), h2 2 (by omega), h2 3 (by omega)⟩, h2 4 (by omega), hx, hk⟩, hzy⟩)
    refine ⟨l, ?_, by rw [← szEs_sum]; exact hz⟩
    rcases hr with ⟨a, cp, rfl, rfl⟩ | ⟨b, o, cp, rfl, h0, hb', hc, hn, hm, hr⟩
    · exact .nil a cp
    · have ch : ∀ i, ∃ u, ∀ y, l[i]? = some y → Fiv W b (o + i * 5) y ∧ W.cell? ⟨b, o + i * 5 + 4, none⟩ = some u ∧ EM W u y.ks ∧ y.Ok := fun i => by
        cases hi : l[i]? with
        | none => exact ⟨.bool false, fun y hy => by cases hy⟩
        | some y =>
          obtain ⟨u, h1, h2, h3, h4⟩ := hr i y hi
          exact ⟨u, fun y' hy => by cases hy; exact ⟨h1, h2, h3, h4⟩⟩
      exact .row b o cp l (fun i => Classical.choose (ch i)) h0 hb' hc hn hm (fun i v hi => (Classical.choose_spec (ch i) v hi).2.2.2) (fun i v hi => (Classical.choose_spec (ch i) v hi).1) (fun i v hi => (Classical.choose_spec (ch i) v hi).2.1) (fun i v hi => (Classical.choose_spec (ch i) v hi).2.2.1)
set_option maxRecDepth 100000 in
/-- An expression that comes in. -/
theorem ex_open2 {H : Type} {enc : TypeId × Value → H} {W : World} {base : Nat} {held : Bool} {v : Value} {x : DataW H} {p : List MemPlace} (hv : Value.okWide Tryd.prog W .any base 26 v) (h : DataW.Trod enc Tryd.prog W 0 (fun _ => true) held 26 v x p) (hb : Rows.uptoBulk x ≤ 1048576) :
    ∃ (y : Ex) (u : Value), v = exV y u ∧ y.Ok ∧ EM W u y.ks ∧ szE y ≤ 1048576 := by
  obtain ⟨cs, rfl, hsz⟩ := okWide_struct Tryd.underlying26 hv
  obtain ⟨c0, c1, c2, c3, c4, rfl⟩ := arr5 (hsz.trans cEx)
  obtain ⟨fuel, hf⟩ := h
  obtain ⟨y, rfl, rfl, rfl, rfl, hx, hk, hz⟩ := ex_cells2 (c0 := c0) (c1 := c1) (c2 := c2) (c3 := c3) (c4 := c4) (m := fuel) (d := (x, p)) (N := 1048576) (X := EM W) (by simpa [Value.cells] using hf) (by show Rows.uptoBulk x ≤ _; omega) (fun c fuel x hx hbx => exs_open2 1048576 c fuel x hx hbx (Nat.le_refl _))
  exact ⟨y, c4, rfl, hk, hx, Nat.le_trans hz hb⟩
end Go.Proofs.YtlhmecagijdinaaDoor.rowg
set_option linter.unusedVariables false
set_option linter.unusedSimpArgs false
namespace Go.Proofs.YtlhmecagijdinaaDoor.rowg
open Go.ChangeShapes Go.WideShapes Go.ChangeAt Go.RowKit Go.Joins
open Go.ChangeMaps (open_string shut_string)
open Go.Proofs.YtlhmecagijdinaaDoor.nm

instance : Inhabited Fo := ⟨.mk [] []⟩
theorem cFo : Tryd.prog.cellsOf 30 = 15 := by kernel_rfl
theorem cUn : Tryd.prog.cellsOf 27 = 14 := by kernel_rfl
theorem cPa : Tryd.prog.cellsOf 51 = 2 := by kernel_rfl
theorem cPs : Tryd.prog.cellsOf 28 = 1 := by kernel_rfl
theorem cFs : Tryd.prog.cellsOf 49 = 1 := by kernel_rfl
set_option maxRecDepth 100000 in
/-- Two cells that are a fraction's. -/
theorem rat_cells {H : Type} {enc : TypeId × Value → H} {W : World} {held : Bool} {cs : List Value} {m : Nat} {d : DataW H × List MemPlace}
    (hf : DataW.trod enc Tryd.prog W 0 (fun _ => true) held m 23 cs = some d) : ∃ n e, cs = [.int .i64 n, .int .i64 e] ∧ i64 n ∧ i64 e ∧ 3 ≤ Rows.uptoBulk d.1 := by
  obtain ⟨ys, m2, _, hy, hc, hl2, hq2⟩ := DataW.trod_struct Tryd.underlying23 hf
  rw [cR] at hc
  match cs, hc, ys, hl2 with
  | [c1, c2], _, [u0, u1], _ =>
    have r0' : DataW.trod enc Tryd.prog W 0 (fun _ => true) held m2 2 (([c1, c2].drop 0).take (Tryd.prog.cellsOf 2)) = some u0 := hq2 0 _ rfl
    rw [cL] at r0'
    have r0 : DataW.trod enc Tryd.prog W 0 (fun _ => true) held m2 2 [c1] = some u0 := r0'
    have r1' : DataW.trod enc Tryd.prog W 0 (fun _ => true) held m2 2 (([c1, c2].drop 1).take (Tryd.prog.cellsOf 2)) = some u1 := hq2 1 _ rfl
    rw [cL] at r1'
    have r1 : DataW.trod enc Tryd.prog W 0 (fun _ => true) held m2 2 [c2] = some u1 := r1'
    obtain ⟨n, en, rfl, wn⟩ := DataW.trod_int Tryd.underlying2 r0
    obtain ⟨dd, ed, rfl, wd⟩ := DataW.trod_int Tryd.underlying2 r1
    simp at en ed
    subst en ed
    have hD : d.1 = .agg [.lit (.int .i64 n), .lit (.int .i64 dd)] := by simpa using congrArg Prod.fst hy
    refine ⟨n, dd, rfl, bounds_i64 wn, bounds_i64 wd, ?_⟩
    rw [hD]
    simp only [Rows.uptoBulk, Rows.uptoBulkAll]
    omega
set_option maxRecDepth 100000 in
/-- Fourteen cells that are seven fractions. -/
theorem un_cells {H : Type} {enc : TypeId × Value → H} {W : World} {held : Bool} {cs : List Value} {m : Nat} {d : DataW H × List MemPlace}
    (hf : DataW.trod enc Tryd.prog W 0 (fun _ => true) held m 27 cs = some d) : ∃ us, Us us ∧ cs = usL us ∧ 22 ≤ Rows.uptoBulk d.1 := by
  obtain ⟨xs, m2, _, hx, hc, hl, hq⟩ := DataW.trod_array (n := 7) (e := 23) Tryd.underlying27 hf
  rw [cUn] at hc
  rw [cR] at hq
  match cs, hc, xs, hl with
  | [c0, c1, c2, c3, c4, c5, c6, c7, c8, c9, c10, c11, c12, c13], _, [x0, x1, x2, x3, x4, x5, x6], _ =>
    obtain ⟨n0, e0, h0, a0, b0, k0⟩ := rat_cells (d := x0) (hq 0 (by omega))
    obtain ⟨n1, e1, h1, a1, b1, k1⟩ := rat_cells (d := x1) (hq 1 (by omega))
    obtain ⟨n2, e2, h2, a2, b2, k2⟩ := rat_cells (d := x2) (hq 2 (by omega))
    obtain ⟨n3, e3, h3, a3, b3, k3⟩ := rat_cells (d := x3) (hq 3 (by omega))
    obtain ⟨n4, e4, h4, a4, b4, k4⟩ := rat_cells (d := x4) (hq 4 (by omega))
    obtain ⟨n5, e5, h5, a5, b5, k5⟩ := rat_cells (d := x5) (hq 5 (by omega))
    obtain ⟨n6, e6, h6, a6, b6, k6⟩ := rat_cells (d := x6) (hq 6 (by omega))
    simp at h0 h1 h2 h3 h4 h5 h6
    obtain ⟨rfl, rfl⟩ := h0
    obtain ⟨rfl, rfl⟩ := h1
    obtain ⟨rfl, rfl⟩ := h2
    obtain ⟨rfl, rfl⟩ := h3
    obtain ⟨rfl, rfl⟩ := h4
    obtain ⟨rfl, rfl⟩ := h5
    obtain ⟨rfl, rfl⟩ := h6
    refine ⟨[(n0, e0), (n1, e1), (n2, e2), (n3, e3), (n4, e4), (n5, e5), (n6, e6)], ⟨rfl, ?_⟩, rfl, ?_⟩
    · intro r hr
      simp at hr
      rcases hr with rfl | rfl | rfl | rfl | rfl | rfl | rfl
      · exact ⟨a0, b0⟩
      · exact ⟨a1, b1⟩
      · exact ⟨a2, b2⟩
      · exact ⟨a3, b3⟩
      · exact ⟨a4, b4⟩
      · exact ⟨a5, b5⟩
      · exact ⟨a6, b6⟩
    · have hD : d.1 = .agg [x0.1, x1.1, x2.1, x3.1, x4.1, x5.1, x6.1] := by simpa using congrArg Prod.fst hx
      rw [hD]
      simp only [Rows.uptoBulk, Rows.uptoBulkAll]
      omega
set_option maxRecDepth 100000 in
/-- Fifteen cells that are a form's. -/
theorem fo_cells {H : Type} {enc : TypeId × Value → H} {W : World} {held : Bool} {cs : List Value} {m N : Nat} {d : DataW H × List MemPlace} {X : Value → List Pa → Prop}
    (hf : DataW.trod enc Tryd.prog W 0 (fun _ => true) held m 30 cs = some d) (hN : Rows.uptoBulk d.1 ≤ N)
    (hX : ∀ (c : Value) (fuel : Nat) (x : DataW H × List MemPlace), DataW.trod enc Tryd.prog W 0 (fun _ => true) held fuel 28 [c] = some x → Rows.uptoBulk x.1 + 23 ≤ N → ∃ l, X c l) :
    ∃ us ps u, Us us ∧ cs = usL us ++ [u] ∧ X u ps := by
  obtain ⟨xs, k', _, hx', hc, hl', hq⟩ := DataW.trod_struct Tryd.underlying30 hf
  rw [cFo] at hc
  match cs, hc, xs, hl' with
  | [c0, c1, c2, c3, c4, c5, c6, c7, c8, c9, c10, c11, c12, c13, c14], _, [y0, y1], _ =>
    have q0' : DataW.trod enc Tryd.prog W 0 (fun _ => true) held k' 27 (([c0, c1, c2, c3, c4, c5, c6, c7, c8, c9, c10, c11, c12, c13, c14].drop 0).take (Tryd.prog.cellsOf 27)) = some y0 := hq 0 _ rfl
    rw [cUn] at q0'
    have q0 : DataW.trod enc Tryd.prog W 0 (fun _ => true) held k' 27 [c0, c1, c2, c3, c4, c5, c6, c7, c8, c9, c10, c11, c12, c13] = some y0 := q0'
    have q1' : DataW.trod enc Tryd.prog W 0 (fun _ => true) held k' 28 (([c0, c1, c2, c3, c4, c5, c6, c7, c8, c9, c10, c11, c12, c13, c14].drop 14).take (Tryd.prog.cellsOf 28)) = some y1 := hq 1 _ rfl
    rw [cPs] at q1'
    have q1 : DataW.trod enc Tryd.prog W 0 (fun _ => true) held k' 28 [c14] = some y1 := q1'
    obtain ⟨us, hus, hcs, hb⟩ := un_cells q0
    have hD : d.1 = .agg [y0.1, y1.1] := by simpa using congrArg Prod.fst hx'
    rw [hD] at hN
    simp only [Rows.uptoBulk, Rows.uptoBulkAll] at hN
    obtain ⟨ps, hps⟩ := hX c14 k' y1 q1 (by omega)
    refine ⟨us, ps, c14, hus, ?_, hps⟩
    rw [← hcs]
    rfl
set_option maxRecDepth 100000 in
/-- Two cells that are a part's. -/
theorem pa_cells {H : Type} {enc : TypeId × Value → H} {W : World} {held : Bool} {cs : List Value} {m N : Nat} {d : DataW H × List MemPlace} {X : Value → List Fo → Prop}
    (hf : DataW.trod enc Tryd.prog W 0 (fun _ => true) held m 51 cs = some d) (hN : Rows.uptoBulk d.1 ≤ N)
    (hX : ∀ (c : Value) (fuel : Nat) (x : DataW H × List MemPlace), DataW.trod enc Tryd.prog W 0 (fun _ => true) held fuel 49 [c] = some x → Rows.uptoBulk x.1 + 2 ≤ N → ∃ l, X c l) :
    ∃ mx l u, cs = [.bool mx, u] ∧ X u l := by
  obtain ⟨xs, k', _, hx', hc, hl', hq⟩ := DataW.trod_struct Tryd.underlying51 hf
  rw [cPa] at hc
  match cs, hc, xs, hl' with
  | [c0, c1], _, [y0, y1], _ =>
    have q0' : DataW.trod enc Tryd.prog W 0 (fun _ => true) held k' 4 (([c0, c1].drop 0).take (Tryd.prog.cellsOf 4)) = some y0 := hq 0 _ rfl
    rw [cB] at q0'
    have q0 : DataW.trod enc Tryd.prog W 0 (fun _ => true) held k' 4 [c0] = some y0 := q0'
    have q1' : DataW.trod enc Tryd.prog W 0 (fun _ => true) held k' 49 (([c0, c1].drop 1).take (Tryd.prog.cellsOf 49)) = some y1 := hq 1 _ rfl
    rw [cFs] at q1'
    have q1 : DataW.trod enc Tryd.prog W 0 (fun _ => true) held k' 49 [c1] = some y1 := q1'
    obtain ⟨b, eb, hy0⟩ := DataW.trod_bool Tryd.underlying4 q0
    simp at eb
    subst eb
    have hD : d.1 = .agg [y0.1, y1.1] := by simpa using congrArg Prod.fst hx'
    rw [hD] at hN
    simp only [Rows.uptoBulk, Rows.uptoBulkAll] at hN
    have := one_le y0.1
    obtain ⟨l, hl⟩ := hX c1 k' y1 q1 (by omega)
    exact ⟨b, l, c1, rfl, hl⟩
theorem FM.le {w : World} {n m : Nat} (h : n ≤ m) {v : Value} {l : List Fo} (hf : FM w n v l) : FM w m v l := by
  induction m with
  | zero => obtain rfl : n = 0 := by omega
            exact hf
  | succ m ih =>
    by_cases e : n = m + 1
    · subst e; exact hf
    · exact (ih (by omega)).up
/-- The parts of a form that comes in. -/
theorem pas_open {H : Type} {enc : TypeId × Value → H} {W : World} {held : Bool} {X : Value → List Fo → Prop} {N : Nat} {c : Value} {fuel : Nat} {x : DataW H × List MemPlace}
    (hf : DataW.trod enc Tryd.prog W 0 (fun _ => true) held fuel 28 [c] = some x) (hb : Rows.uptoBulk x.1 ≤ N) (hN : N ≤ 1048576)
    (hX : ∀ (c : Value) (fuel : Nat) (x : DataW H × List MemPlace), DataW.trod enc Tryd.prog W 0 (fun _ => true) held fuel 49 [c] = some x → Rows.uptoBulk x.1 + 3 ≤ N → ∃ l, X c l) : ∃ l, nm.RowOf W 2 (PaR W X) c l := by
  have h1 := one_le x.1
  obtain ⟨l, hr⟩ := row_open (α := Pa) (N := N - 1) Tryd.underlying28 cPa (by omega) (PaR W X) hf (by omega) (by omega) (fun b o m cs d h1 h2 h3 h4 h5 => by
    obtain ⟨mx, l, u, rfl, hX'⟩ := pa_cells (N := N - 1) (X := X) h4 h5 (fun c fuel x hx hbx => hX c fuel x hx (by omega))
    exact ⟨(mx, l), u, h2 0 (by omega), h2 1 (by omega), hX'⟩)
  exact ⟨l, hr⟩
/-- A slice of forms that comes in. -/
theorem fos_open {H : Type} {enc : TypeId × Value → H} {W : World} {held : Bool} (N : Nat) : ∀ (c : Value) (fuel : Nat) (x : DataW H × List MemPlace),
    DataW.trod enc Tryd.prog W 0 (fun _ => true) held fuel 49 [c] = some x → Rows.uptoBulk x.1 ≤ N → N ≤ 1048576 → ∃ l : List Fo, FM W (N / 16) c l := by
  induction N using Nat.strongRecOn with
  | ind N ih =>
    intro c fuel x hf hb hN
    have h1 := one_le x.1
    by_cases h28 : 16 ≤ N
    · obtain ⟨l, hr⟩ := row_open (α := Fo) (N := N - 1) Tryd.underlying49 cFo (by omega) (FoR W (FM W (N / 16 - 1))) hf (by omega) (by omega) (fun b o m cs d h1 h2 h3 h4 h5 => by
        obtain ⟨us, ps, u, hus, rfl, hX'⟩ := fo_cells (N := N - 1) (X := nm.RowOf W 2 (PaR W (FM W (N / 16 - 1)))) h4 h5 (fun c fuel x hx hbx => pas_open (N := N - 24) hx (by omega) (by omega) (fun c fuel x hx hbx => by
          have hx1 := one_le x.1
          obtain ⟨l, hl⟩ := ih (N - 27) (by omega) c fuel x hx (by omega) (by omega)
          exact ⟨l, FM.le (by omega) hl⟩))
        refine ⟨.mk us ps, u, ⟨hus, fun i r hi => ?_⟩, ?_, hX'⟩
        · obtain ⟨rn, rd⟩ := r
          obtain ⟨e1, e2⟩ := usL_at hi
          have hi7 : i < 7 := by have := (List.getElem?_eq_some_iff.1 hi).1; rw [show (Fo.mk us ps).us = us from rfl, hus.1] at this; exact this
          have ll := usL_len us
          rw [hus.1] at ll
          refine ⟨?_, ?_⟩
          · rw [h2 (i * 2) (by omega), List.getElem?_append_left (by omega)]; exact e1
          · rw [show o + i * 2 + 1 = o + (i * 2 + 1) by omega, h2 (i * 2 + 1) (by omega), List.getElem?_append_left (by omega)]; exact e2
        · have ll := usL_len us
          rw [hus.1] at ll
          rw [h2 14 (by omega), List.getElem?_append_right (by omega), show 14 - (usL us).length = 0 by omega]; rfl)
      refine ⟨l, ?_⟩
      obtain ⟨q, hq⟩ : ∃ q, N / 16 = q + 1 := ⟨N / 16 - 1, by omega⟩
      rw [hq] at hr ⊢
      exact hr
    · obtain ⟨l, hr⟩ := row_open (α := Fo) (N := N - 1) Tryd.underlying49 cFo (by omega) (fun _ _ _ => False) hf (by omega) (by omega) (fun b o m cs d h1 h2 h3 h4 h5 => by
        exfalso
        obtain ⟨us, ps, u, hus, rfl, hX'⟩ := fo_cells (N := N - 1) (X := fun _ _ => False) h4 h5 (fun c fuel x hx hbx => by exfalso; omega)
        exact hX')
      refine ⟨l, ?_⟩
      rcases hr with ⟨a, cp, rfl, rfl⟩ | ⟨b, o, cp, rfl, h0, hb', hc, hn, hm, hr⟩
      · exact FM.le (Nat.zero_le _) ⟨rfl, a, cp, rfl⟩
      · exact absurd (hr 0 l[0] (List.getElem?_eq_getElem h0)) id
end Go.Proofs.YtlhmecagijdinaaDoor.rowg
set_option linter.unusedVariables false
set_option linter.unusedSimpArgs false
namespace Go.Proofs.YtlhmecagijdinaaDoor.rowg
open Go.ChangeShapes Go.WideShapes Go.ChangeAt Go.RowKit Go.Joins
open Go.ChangeMaps (open_string shut_string)
open Go.Proofs.YtlhmecagijdinaaDoor.nm
set_option maxRecDepth 100000 in
/-- A form that comes in. -/
theorem fo_open {H : Type} {enc : TypeId × Value → H} {W : World} {base : Nat} {held : Bool} {v : Value} {x : DataW H} {p : List MemPlace} (hv : Value.okWide Tryd.prog W .any base 30 v) (h : DataW.Trod enc Tryd.prog W 0 (fun _ => true) held 30 v x p) (hb : Rows.uptoBulk x ≤ 1048576) :
    ∃ (us : List (Int × Int)) (ps : List Pa) (u : Value), v = foV us u ∧ Us us ∧ PM W 65536 u ps := by
  obtain ⟨cs, rfl, hsz⟩ := okWide_struct Tryd.underlying30 hv
  obtain ⟨fuel, hf⟩ := h
  obtain ⟨us, ps, u, hus, hcs, hX⟩ := fo_cells (N := 1048576) (X := PM W 65536) (d := (x, p)) (m := fuel) (cs := cs.toList) (by simpa [Value.cells] using hf) hb (fun c fuel x hx hbx => pas_open (N := 1048576) hx (by omega) (by omega) (fun c fuel x hx hbx => by
    obtain ⟨l, hl⟩ := fos_open 1048576 c fuel x hx (by omega) (by omega)
    exact ⟨l, hl⟩))
  refine ⟨us, ps, u, ?_, hus, hX⟩
  unfold foV
  rw [← hcs]
set_option maxRecDepth 100000 in
theorem nth_third {W : World} {a1 a2 : String × DataW Unit} {r : List (String × DataW Unit)}
    (h : laidMet Tryd.prog (a1 :: a2 :: ("jalousie/norm.nothing", Rows.laid_jalousie_norm_nothing) :: r) W) : Nth W := by
  obtain ⟨ps, hL, _⟩ := h
  obtain ⟨_, _, _, _, _, q1, _, _, _, _, hL, _⟩ := hL
  obtain ⟨_, _, _, _, _, q2, _, _, _, _, hL, _⟩ := hL
  obtain ⟨g', t', cs, fuel, p, q, hg', ht', hvar, hd, _, _⟩ := hL
  have hg : Tryd.prog.globalNamed "jalousie/norm.nothing" = some 0 := by kernel_rfl
  have hty : (Tryd.prog.globals[0]?).map (·.type) = some 23 := by kernel_rfl
  obtain rfl := Option.some.inj (hg.symm.trans hg')
  obtain rfl := Option.some.inj (hty.symm.trans ht')
  have hd' : DataW.trod (fun _ => ()) Tryd.prog W 0 (fun _ => true) false fuel 23 cs.toList = some (Rows.laid_jalousie_norm_nothing, p) := hd
  obtain ⟨ys, m2, _, hy, hc, hl2, hq2⟩ := DataW.trod_struct Tryd.underlying23 hd'
  obtain ⟨n, e, hcs, -, -, -⟩ := rat_cells hd'
  match ys, hl2 with
  | [u0, u1], _ =>
    have r0' : DataW.trod (fun _ => ()) Tryd.prog W 0 (fun _ => true) false m2 2 ((cs.toList.drop 0).take (Tryd.prog.cellsOf 2)) = some u0 := hq2 0 _ rfl
    have r1' : DataW.trod (fun _ => ()) Tryd.prog W 0 (fun _ => true) false m2 2 ((cs.toList.drop 1).take (Tryd.prog.cellsOf 2)) = some u1 := hq2 1 _ rfl
    rw [cL, hcs] at r0' r1'
    obtain ⟨n', en, rfl, wn⟩ := DataW.trod_int Tryd.underlying2 r0'
    obtain ⟨e', ee, rfl, we⟩ := DataW.trod_int Tryd.underlying2 r1'
    simp at en ee
    subst en ee
    have hD : (Rows.laid_jalousie_norm_nothing : DataW Unit) = .agg [.lit (.int .i64 n), .lit (.int .i64 e)] := by simpa using congrArg Prod.fst hy
    simp [Rows.laid_jalousie_norm_nothing] at hD
    obtain ⟨rfl, rfl⟩ := hD
    have e0 := World.var?_cell hg hvar 0
    have e1 := World.var?_cell hg hvar 1
    have hca : cs = #[.int .i64 0, .int .i64 1] := by rw [← Array.toArray_toList (xs := cs), hcs]
    subst hca
    exact ⟨World.block_lt_of_cell? _ _ (show W.cell? ⟨0, 0, none⟩ = some (.int .i64 0) from e0), e0, e1⟩
end Go.Proofs.YtlhmecagijdinaaDoor.rowg
set_option linter.unusedVariables false
set_option linter.unusedSimpArgs false
namespace Go.Proofs.YtlhmecagijdinaaDoor.rowg
open Go.ChangeShapes Go.WideShapes Go.ChangeAt Go.RowKit Go.Joins
open Go.ChangeMaps (open_string shut_string)
open Go.Proofs.YtlhmecagijdinaaDoor.nm

set_option maxRecDepth 100000 in
/-- Fifteen cells that are a form's. -/
theorem fo_cells2 {H : Type} {enc : TypeId × Value → H} {W : World} {held : Bool} {cs : List Value} {m N : Nat} {d : DataW H × List MemPlace} {X : Value → List Pa → Prop}
    (hf : DataW.trod enc Tryd.prog W 0 (fun _ => true) held m 30 cs = some d) (hN : Rows.uptoBulk d.1 ≤ N)
    (hX : ∀ (c : Value) (fuel : Nat) (x : DataW H × List MemPlace), DataW.trod enc Tryd.prog W 0 (fun _ => true) held fuel 28 [c] = some x → Rows.uptoBulk x.1 + 23 ≤ N → ∃ l, X c l ∧ l.length ≤ Rows.uptoBulk x.1) :
    ∃ us ps u, Us us ∧ cs = usL us ++ [u] ∧ X u ps ∧ ps.length ≤ Rows.uptoBulk d.1 := by
  obtain ⟨xs, k', _, hx', hc, hl', hq⟩ := DataW.trod_struct Tryd.underlying30 hf
  rw [cFo] at hc
  match cs, hc, xs, hl' with
  | [c0, c1, c2, c3, c4, c5, c6, c7, c8, c9, c10, c11, c12, c13, c14], _, [y0, y1], _ =>
    have q0' : DataW.trod enc Tryd.prog W 0 (fun _ => true) held k' 27 (([c0, c1, c2, c3, c4, c5, c6, c7, c8, c9, c10, c11, c12, c13, c14].drop 0).take (Tryd.prog.cellsOf 27)) = some y0 := hq 0 _ rfl
    rw [cUn] at q0'
    have q0 : DataW.trod enc Tryd.prog W 0 (fun _ => true) held k' 27 [c0, c1, c2, c3, c4, c5, c6, c7, c8, c9, c10, c11, c12, c13] = some y0 := q0'
    have q1' : DataW.trod enc Tryd.prog W 0 (fun _ => true) held k' 28 (([c0, c1, c2, c3, c4, c5, c6, c7, c8, c9, c10, c11, c12, c13, c14].drop 14).take (Tryd.prog.cellsOf 28)) = some y1 := hq 1 _ rfl
    rw [cPs] at q1'
    have q1 : DataW.trod enc Tryd.prog W 0 (fun _ => true) held k' 28 [c14] = some y1 := q1'
    obtain ⟨us, hus, hcs, hb⟩ := un_cells q0
    have hD : d.1 = .agg [y0.1, y1.1] := by simpa using congrArg Prod.fst hx'
    rw [hD] at hN ⊢
    simp only [Rows.uptoBulk, Rows.uptoBulkAll] at hN ⊢
    obtain ⟨ps, hps, hpz⟩ := hX c14 k' y1 q1 (by omega)
    refine ⟨us, ps, c14, hus, ?_, hps, by omega⟩
    rw [← hcs]
    rfl
theorem ones_sum {α : Type} (l : List α) : (l.map (fun _ => 1)).sum = l.length := by
  induction l with
  | nil => rfl
  | cons x r ih => rw [List.map_cons, List.sum_cons, ih, List.length_cons, Nat.add_comm]
/-- The parts of a form that comes in. -/
theorem pas_open2 {H : Type} {enc : TypeId × Value → H} {W : World} {held : Bool} {X : Value → List Fo → Prop} {N : Nat} {c : Value} {fuel : Nat} {x : DataW H × List MemPlace}
    (hf : DataW.trod enc Tryd.prog W 0 (fun _ => true) held fuel 28 [c] = some x) (hb : Rows.uptoBulk x.1 ≤ N) (hN : N ≤ 1048576)
    (hX : ∀ (c : Value) (fuel : Nat) (x : DataW H × List MemPlace), DataW.trod enc Tryd.prog W 0 (fun _ => true) held fuel 49 [c] = some x → Rows.uptoBulk x.1 + 3 ≤ N → ∃ l, X c l) : ∃ l, nm.RowOf W 2 (PaR W X) c l ∧ l.length ≤ Rows.uptoBulk x.1 := by
  have h1 := one_le x.1
  obtain ⟨l, hr, hz⟩ := row_open2 (α := Pa) (N := N - 1) Tryd.underlying28 cPa (by omega) (PaR W X) (fun _ => 1) hf (by omega) (by omega) (fun b o m cs d h1 h2 h3 h4 h5 => by
    obtain ⟨mx, l, u, rfl, hX'⟩ := pa_cells (N := N - 1) (X := X) h4 h5 (fun c fuel x hx hbx => hX c fuel x hx (by omega))
    exact ⟨(mx, l), ⟨u, h2 0 (by omega), h2 1 (by omega), hX'⟩, one_le _⟩)
  refine ⟨l, hr, ?_⟩
  rw [ones_sum] at hz
  exact hz
theorem ssP_len (l : List Fo) : (ssP l).length = (l.map (fun f => f.ps.length)).sum := by
  unfold ssP
  induction l with
  | nil => rfl
  | cons x r ih => rw [List.flatMap_cons, List.length_append, ih]; rfl
set_option maxRecDepth 100000 in
/-- A slice of forms that comes in, by value. -/
theorem fol_open {H : Type} {enc : TypeId × Value → H} {W : World} {base : Nat} {held : Bool} {v : Value} {x : DataW H} {p : List MemPlace} (hv : Value.okWide Tryd.prog W .any base 49 v) (h : DataW.Trod enc Tryd.prog W 0 (fun _ => true) held 49 v x p) (hb : Rows.uptoBulk x ≤ 1048576) :
    ∃ l : List Fo, FM W (65535 + 1) v l ∧ (ssP l).length ≤ 1000000000 := by
  obtain ⟨fuel, hf⟩ := h
  obtain ⟨sa, sn, sc, rfl⟩ := okWide_slice Tryd.underlying49 hv
  have hf' : DataW.trod enc Tryd.prog W 0 (fun _ => true) held fuel 49 [.slice sa sn sc] = some (x, p) := by simpa [Value.cells] using hf
  obtain ⟨l, hr, hz⟩ := row_open2 (α := Fo) (N := 1048575) Tryd.underlying49 cFo (by omega) (FoR W (FM W 65535)) (fun f => f.ps.length) hf' (by show Rows.uptoBulk x ≤ _; omega) (by omega) (fun b o m cs d h1 h2 h3 h4 h5 => by
    obtain ⟨us, ps, u, hus, rfl, hX', hpz⟩ := fo_cells2 (N := 1048575) (X := nm.RowOf W 2 (PaR W (FM W 65535))) h4 h5 (fun c fuel x hx hbx => pas_open2 (N := 1048576 - 24) hx (by omega) (by omega) (fun c fuel x hx hbx => by
      have hx1 := one_le x.1
      obtain ⟨l, hl⟩ := fos_open (1048576 - 27) c fuel x hx (by omega) (by omega)
      exact ⟨l, FM.le (by omega) hl⟩))
    refine ⟨.mk us ps, ⟨u, ⟨hus, fun i r hi => ?_⟩, ?_, hX'⟩, hpz⟩
    · obtain ⟨rn, rd⟩ := r
      obtain ⟨e1, e2⟩ := usL_at hi
      have hi7 : i < 7 := by have := (List.getElem?_eq_some_iff.1 hi).1; rw [show (Fo.mk us ps).us = us from rfl, hus.1] at this; exact this
      have ll := usL_len us
      rw [hus.1] at ll
      refine ⟨?_, ?_⟩
      · rw [h2 (i * 2) (by omega), List.getElem?_append_left (by omega)]; exact e1
      · rw [show o + i * 2 + 1 = o + (i * 2 + 1) by omega, h2 (i * 2 + 1) (by omega), List.getElem?_append_left (by omega)]; exact e2
    · have ll := usL_len us
      rw [hus.1] at ll
      rw [h2 14 (by omega), List.getElem?_append_right (by omega), show 14 - (usL us).length = 0 by omega]; rfl)
  refine ⟨l, hr, ?_⟩
  rw [ssP_len]
  have : Rows.uptoBulk x ≤ 1048576 := hb
  exact Nat.le_trans hz (by show Rows.uptoBulk x ≤ _; omega)
end Go.Proofs.YtlhmecagijdinaaDoor.rowg
set_option linter.unusedVariables false
set_option linter.unusedSimpArgs false
namespace Go.Proofs.YtlhmecagijdinaaDoor.nm
mutual
/-- How great a form is: itself, its parts, and what they hold. -/
def szF : Fo → Nat
  | .mk _ ps => 1 + szPs ps
def szPs : List (Bool × List Fo) → Nat
  | [] => 0
  | p :: r => szPa p + szPs r
def szPa : Bool × List Fo → Nat
  | (_, l) => 1 + szFs l
def szFs : List Fo → Nat
  | [] => 0
  | f :: r => szF f + szFs r
end
theorem szFs_eq (l : List Fo) : szFs l = (l.map szF).sum := by
  induction l with
  | nil => rw [szFs]; rfl
  | cons f r ih => rw [szFs, ih, List.map_cons, List.sum_cons]
theorem szPs_eq (l : List Pa) : szPs l = (l.map fun p => 1 + (p.2.map szF).sum).sum := by
  induction l with
  | nil => rw [szPs]; rfl
  | cons p r ih =>
    obtain ⟨m, l⟩ := p
    rw [szPs, ih, szPa, szFs_eq, List.map_cons, List.sum_cons]
theorem szF_eq (f : Fo) : szF f = 1 + (f.ps.map fun p => 1 + (p.2.map szF).sum).sum := by
  cases f with
  | mk us ps => rw [szF, szPs_eq]; rfl
end Go.Proofs.YtlhmecagijdinaaDoor.nm
namespace Go.Proofs.YtlhmecagijdinaaDoor.rowg
open Go.ChangeShapes Go.WideShapes Go.ChangeAt Go.RowKit Go.Joins
open Go.ChangeMaps (open_string shut_string)
open Go.Proofs.YtlhmecagijdinaaDoor.nm

set_option maxRecDepth 100000 in
/-- Fifteen cells that are a form's. -/
theorem fo_cells3 {H : Type} {enc : TypeId × Value → H} {W : World} {held : Bool} {cs : List Value} {m N : Nat} {d : DataW H × List MemPlace} {X : Value → List Pa → Prop}
    (hf : DataW.trod enc Tryd.prog W 0 (fun _ => true) held m 30 cs = some d) (hN : Rows.uptoBulk d.1 ≤ N)
    (hX : ∀ (c : Value) (fuel : Nat) (x : DataW H × List MemPlace), DataW.trod enc Tryd.prog W 0 (fun _ => true) held fuel 28 [c] = some x → Rows.uptoBulk x.1 + 23 ≤ N → ∃ l, X c l ∧ (l.map fun p => 1 + (p.2.map szF).sum).sum ≤ Rows.uptoBulk x.1) :
    ∃ us ps u, Us us ∧ cs = usL us ++ [u] ∧ X u ps ∧ szF (.mk us ps) ≤ Rows.uptoBulk d.1 := by
  obtain ⟨xs, k', _, hx', hc, hl', hq⟩ := DataW.trod_struct Tryd.underlying30 hf
  rw [cFo] at hc
  match cs, hc, xs, hl' with
  | [c0, c1, c2, c3, c4, c5, c6, c7, c8, c9, c10, c11, c12, c13, c14], _, [y0, y1], _ =>
    have q0' : DataW.trod enc Tryd.prog W 0 (fun _ => true) held k' 27 (([c0, c1, c2, c3, c4, c5, c6, c7, c8, c9, c10, c11, c12, c13, c14].drop 0).take (Tryd.prog.cellsOf 27)) = some y0 := hq 0 _ rfl
    rw [cUn] at q0'
    have q0 : DataW.trod enc Tryd.prog W 0 (fun _ => true) held k' 27 [c0, c1, c2, c3, c4, c5, c6, c7, c8, c9, c10, c11, c12, c13] = some y0 := q0'
    have q1' : DataW.trod enc Tryd.prog W 0 (fun _ => true) held k' 28 (([c0, c1, c2, c3, c4, c5, c6, c7, c8, c9, c10, c11, c12, c13, c14].drop 14).take (Tryd.prog.cellsOf 28)) = some y1 := hq 1 _ rfl
    rw [cPs] at q1'
    have q1 : DataW.trod enc Tryd.prog W 0 (fun _ => true) held k' 28 [c14] = some y1 := q1'
    obtain ⟨us, hus, hcs, hb⟩ := un_cells q0
    have hD : d.1 = .agg [y0.1, y1.1] := by simpa using congrArg Prod.fst hx'
    rw [hD] at hN ⊢
    simp only [Rows.uptoBulk, Rows.uptoBulkAll] at hN ⊢
    obtain ⟨ps, hps, hpz⟩ := hX c14 k' y1 q1 (by omega)
    refine ⟨us, ps, c14, hus, ?_, hps, ?_⟩
    · rw [← hcs]
      rfl
    · rw [szF_eq]
      show 1 + (ps.map fun p => 1 + (p.2.map szF).sum).sum ≤ _
      omega
set_option maxRecDepth 100000 in
/-- Two cells that are a part's. -/
theorem pa_cells3 {H : Type} {enc : TypeId × Value → H} {W : World} {held : Bool} {cs : List Value} {m N : Nat} {d : DataW H × List MemPlace} {X : Value → List Fo → Prop}
    (hf : DataW.trod enc Tryd.prog W 0 (fun _ => true) held m 51 cs = some d) (hN : Rows.uptoBulk d.1 ≤ N)
    (hX : ∀ (c : Value) (fuel : Nat) (x : DataW H × List MemPlace), DataW.trod enc Tryd.prog W 0 (fun _ => true) held fuel 49 [c] = some x → Rows.uptoBulk x.1 + 2 ≤ N → ∃ l, X c l ∧ (l.map szF).sum ≤ Rows.uptoBulk x.1) :
    ∃ mx l u, cs = [.bool mx, u] ∧ X u l ∧ 1 + (l.map szF).sum ≤ Rows.uptoBulk d.1 := by
  obtain ⟨xs, k', _, hx', hc, hl', hq⟩ := DataW.trod_struct Tryd.underlying51 hf
  rw [cPa] at hc
  match cs, hc, xs, hl' with
  | [c0, c1], _, [y0, y1], _ =>
    have q0' : DataW.trod enc Tryd.prog W 0 (fun _ => true) held k' 4 (([c0, c1].drop 0).take (Tryd.prog.cellsOf 4)) = some y0 := hq 0 _ rfl
    rw [cB] at q0'
    have q0 : DataW.trod enc Tryd.prog W 0 (fun _ => true) held k' 4 [c0] = some y0 := q0'
    have q1' : DataW.trod enc Tryd.prog W 0 (fun _ => true) held k' 49 (([c0, c1].drop 1).take (Tryd.prog.cellsOf 49)) = some y1 := hq 1 _ rfl
    rw [cFs] at q1'
    have q1 : DataW.trod enc Tryd.prog W 0 (fun _ => true) held k' 49 [c1] = some y1 := q1'
    obtain ⟨b, eb, hy0⟩ := DataW.trod_bool Tryd.underlying4 q0
    simp at eb
    subst eb
    have hD : d.1 = .agg [y0.1, y1.1] := by simpa using congrArg Prod.fst hx'
    rw [hD] at hN ⊢
    simp only [Rows.uptoBulk, Rows.uptoBulkAll] at hN ⊢
    have := one_le y0.1
    obtain ⟨l, hl, hz⟩ := hX c1 k' y1 q1 (by omega)
    exact ⟨b, l, c1, rfl, hl, by omega⟩
/-- The parts of a form that comes in. -/
theorem pas_open3 {H : Type} {enc : TypeId × Value → H} {W : World} {held : Bool} {X : Value → List Fo → Prop} {N : Nat} {c : Value} {fuel : Nat} {x : DataW H × List MemPlace}
    (hf : DataW.trod enc Tryd.prog W 0 (fun _ => true) held fuel 28 [c] = some x) (hb : Rows.uptoBulk x.1 ≤ N) (hN : N ≤ 1048576)
    (hX : ∀ (c : Value) (fuel : Nat) (x : DataW H × List MemPlace), DataW.trod enc Tryd.prog W 0 (fun _ => true) held fuel 49 [c] = some x → Rows.uptoBulk x.1 + 3 ≤ N → ∃ l, X c l ∧ (l.map szF).sum ≤ Rows.uptoBulk x.1) : ∃ l, nm.RowOf W 2 (PaR W X) c l ∧ (l.map fun p => 1 + (p.2.map szF).sum).sum ≤ Rows.uptoBulk x.1 := by
  have h1 := one_le x.1
  obtain ⟨l, hr, hz⟩ := row_open2 (α := Pa) (N := N - 1) Tryd.underlying28 cPa (by omega) (PaR W X) (fun p => 1 + (p.2.map szF).sum) hf (by omega) (by omega) (fun b o m cs d h1 h2 h3 h4 h5 => by
    obtain ⟨mx, l, u, rfl, hX', hz⟩ := pa_cells3 (N := N - 1) (X := X) h4 h5 (fun c fuel x hx hbx => hX c fuel x hx (by omega))
    exact ⟨(mx, l), ⟨u, h2 0 (by omega), h2 1 (by omega), hX'⟩, hz⟩)
  exact ⟨l, hr, hz⟩
theorem fo_reads {W : World} {X : Value → List Fo → Prop} {b o : Nat} {us : List (Int × Int)} {ps : List Pa} {u : Value} (hus : Us us) (h2 : ∀ j, j < 15 → W.cell? ⟨b, o + j, none⟩ = (usL us ++ [u])[j]?) (hX' : nm.RowOf W 2 (PaR W X) u ps) : FoR W X b o (.mk us ps) := by
  have ll := usL_len us
  rw [hus.1] at ll
  refine ⟨u, ⟨hus, fun i r hi => ?_⟩, ?_, hX'⟩
  · obtain ⟨rn, rd⟩ := r
    obtain ⟨e1, e2⟩ := usL_at hi
    have hi7 : i < 7 := by have := (List.getElem?_eq_some_iff.1 hi).1; rw [show (Fo.mk us ps).us = us from rfl, hus.1] at this; exact this
    refine ⟨?_, ?_⟩
    · rw [h2 (i * 2) (by omega), List.getElem?_append_left (by omega)]; exact e1
    · rw [show o + i * 2 + 1 = o + (i * 2 + 1) by omega, h2 (i * 2 + 1) (by omega), List.getElem?_append_left (by omega)]; exact e2
  · rw [h2 14 (by omega), List.getElem?_append_right (by omega), show 14 - (usL us).length = 0 by omega]; rfl
/-- A slice of forms that comes in, and how great they are. -/
theorem fos_open3 {H : Type} {enc : TypeId × Value → H} {W : World} {held : Bool} (N : Nat) : ∀ (c : Value) (fuel : Nat) (x : DataW H × List MemPlace),
    DataW.trod enc Tryd.prog W 0 (fun _ => true) held fuel 49 [c] = some x → Rows.uptoBulk x.1 ≤ N → N ≤ 1048576 → ∃ l : List Fo, FM W (N / 16) c l ∧ (l.map szF).sum ≤ Rows.uptoBulk x.1 := by
  induction N using Nat.strongRecOn with
  | ind N ih =>
    intro c fuel x hf hb hN
    have h1 := one_le x.1
    by_cases h28 : 16 ≤ N
    · obtain ⟨l, hr, hz⟩ := row_open2 (α := Fo) (N := N - 1) Tryd.underlying49 cFo (by omega) (FoR W (FM W (N / 16 - 1))) szF hf (by omega) (by omega) (fun b o m cs d h1 h2 h3 h4 h5 => by
        obtain ⟨us, ps, u, hus, rfl, hX', hz⟩ := fo_cells3 (N := N - 1) (X := nm.RowOf W 2 (PaR W (FM W (N / 16 - 1)))) h4 h5 (fun c fuel x hx hbx => pas_open3 (N := N - 24) hx (by omega) (by omega) (fun c fuel x hx hbx => by
          have hx1 := one_le x.1
          obtain ⟨l, hl, hz⟩ := ih (N - 27) (by omega) c fuel x hx (by omega) (by omega)
          exact ⟨l, FM.le (by omega) hl, hz⟩))
        exact ⟨.mk us ps, fo_reads hus h2 hX', hz⟩)
      refine ⟨l, ?_, hz⟩
      obtain ⟨q, hq⟩ : ∃ q, N / 16 = q + 1 := ⟨N / 16 - 1, by omega⟩
      rw [hq] at hr ⊢
      exact hr
    · obtain ⟨l, hr, hz⟩ := row_open2 (α := Fo) (N := N - 1) Tryd.underlying49 cFo (by omega) (fun _ _ _ => False) szF hf (by omega) (by omega) (fun b o m cs d h1 h2 h3 h4 h5 => by
        exfalso
        obtain ⟨us, ps, u, hus, rfl, hX'⟩ := fo_cells (N := N - 1) (X := fun _ _ => False) h4 h5 (fun c fuel x hx hbx => by exfalso; omega)
        exact hX')
      refine ⟨l, ?_, hz⟩
      rcases hr with ⟨a, cp, rfl, rfl⟩ | ⟨b, o, cp, rfl, h0, hb', hc, hn, hm, hr⟩
      · exact FM.le (Nat.zero_le _) ⟨rfl, a, cp, rfl⟩
      · exact absurd (hr 0 l[0] (List.getElem?_eq_getElem h0)) id
set_option maxRecDepth 100000 in
theorem fo_open3 {H : Type} {enc : TypeId × Value → H} {W : World} {base : Nat} {held : Bool} {v : Value} {x : DataW H} {p : List MemPlace} (hv : Value.okWide Tryd.prog W .any base 30 v) (h : DataW.Trod enc Tryd.prog W 0 (fun _ => true) held 30 v x p) (hb : Rows.uptoBulk x ≤ 1048576) :
    ∃ (us : List (Int × Int)) (ps : List Pa) (u : Value), v = foV us u ∧ Us us ∧ PM W 65536 u ps ∧ szF (.mk us ps) ≤ 1048576 := by
  obtain ⟨cs, rfl, hsz⟩ := okWide_struct Tryd.underlying30 hv
  obtain ⟨fuel, hf⟩ := h
  obtain ⟨us, ps, u, hus, hcs, hX, hz⟩ := fo_cells3 (N := 1048576) (X := PM W 65536) (d := (x, p)) (m := fuel) (cs := cs.toList) (by simpa [Value.cells] using hf) hb (fun c fuel x hx hbx => pas_open3 (N := 1048576) hx (by omega) (by omega) (fun c fuel x hx hbx => by
    obtain ⟨l, hl, hz⟩ := fos_open3 1048576 c fuel x hx (by omega) (by omega)
    exact ⟨l, hl, hz⟩))
  refine ⟨us, ps, u, ?_, hus, hX, Nat.le_trans hz hb⟩
  unfold foV
  rw [← hcs]
end Go.Proofs.YtlhmecagijdinaaDoor.rowg
