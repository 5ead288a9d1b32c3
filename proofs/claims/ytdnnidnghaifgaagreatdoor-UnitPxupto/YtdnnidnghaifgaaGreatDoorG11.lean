/-
  Expressions as a row reads them.
  Forms as a row reads them.
  A form as a row reads it; the variable that is nothing.
  A context as a row reads it; the two variables that are nothing.
-/
import Derived.Test.YtdnnidnghaifgaaGreatDoorN20
import Derived.Test.YtdnnidnghaifgaaGreatDoorN17
import Derived.Test.YtdnnidnghaifgaaGreatDoorG02
import Derived.Test.YtdnnidnghaifgaaGreatDoorG07
set_option linter.unusedVariables false
set_option linter.unusedSimpArgs false
namespace Go.Proofs.YtdnnidnghaifgaaGreatDoor.rowg
open Go.ChangeShapes Go.WideShapes Go.ChangeAt Go.RowKit Go.Joins
open Go.ChangeMaps (open_string shut_string)

instance : Inhabited Ex := ⟨.mk 0 0 0 0 []⟩
theorem cEx : Tryz.prog.cellsOf 42 = 5 := by kernel_rfl
theorem cEs : Tryz.prog.cellsOf 40 = 1 := by kernel_rfl
theorem arr5 {α : Type} {cs : Array α} (h : cs.size = 5) : ∃ c0 c1 c2 c3 c4, cs = #[c0, c1, c2, c3, c4] := by
  obtain ⟨l⟩ := cs
  match l, h with
  | [c0, c1, c2, c3, c4], _ => exact ⟨c0, c1, c2, c3, c4, rfl⟩
/-- Five cells that are an expression's. -/
theorem ex_cells {H : Type} {enc : TypeId × Value → H} {W : World} {held : Bool} {c0 c1 c2 c3 c4 : Value} {m N : Nat} {d : DataW H × List MemPlace} {X : Value → List Ex → Prop}
    (hf : DataW.trod enc Tryz.prog W 0 (fun _ => true) held m 42 [c0, c1, c2, c3, c4] = some d) (hN : Rows.uptoBulk d.1 ≤ N + 1)
    (hX : ∀ (c : Value) (fuel : Nat) (x : DataW H × List MemPlace), DataW.trod enc Tryz.prog W 0 (fun _ => true) held fuel 40 [c] = some x → Rows.uptoBulk x.1 ≤ N → ∃ l, X c l) :
    ∃ y : Ex, c0 = .int .i64 y.k ∧ c1 = .int .i64 y.n ∧ c2 = .int .i64 y.d ∧ c3 = .int .i64 y.u ∧ X c4 y.ks ∧ y.Ok := by
  obtain ⟨xs, k', _, hx', _, hl', hq⟩ := DataW.trod_struct Tryz.underlying42 hf
  match xs, hl' with
  | [y0, y1, y2, y3], _ =>
    have q0' : DataW.trod enc Tryz.prog W 0 (fun _ => true) held k' 3 (([c0, c1, c2, c3, c4].drop 0).take (Tryz.prog.cellsOf 3)) = some y0 := hq 0 _ rfl
    rw [cI] at q0'
    have q0 : DataW.trod enc Tryz.prog W 0 (fun _ => true) held k' 3 [c0] = some y0 := q0'
    have q1' : DataW.trod enc Tryz.prog W 0 (fun _ => true) held k' 23 (([c0, c1, c2, c3, c4].drop 1).take (Tryz.prog.cellsOf 23)) = some y1 := hq 1 _ rfl
    rw [cR] at q1'
    have q1 : DataW.trod enc Tryz.prog W 0 (fun _ => true) held k' 23 [c1, c2] = some y1 := q1'
    have q2' : DataW.trod enc Tryz.prog W 0 (fun _ => true) held k' 3 (([c0, c1, c2, c3, c4].drop 3).take (Tryz.prog.cellsOf 3)) = some y2 := hq 2 _ rfl
    rw [cI] at q2'
    have q2 : DataW.trod enc Tryz.prog W 0 (fun _ => true) held k' 3 [c3] = some y2 := q2'
    have q3' : DataW.trod enc Tryz.prog W 0 (fun _ => true) held k' 40 (([c0, c1, c2, c3, c4].drop 4).take (Tryz.prog.cellsOf 40)) = some y3 := hq 3 _ rfl
    rw [cEs] at q3'
    have q3 : DataW.trod enc Tryz.prog W 0 (fun _ => true) held k' 40 [c4] = some y3 := q3'
    obtain ⟨k, ek, rfl, wk⟩ := DataW.trod_int Tryz.underlying3 q0
    obtain ⟨u, eu, rfl, wu⟩ := DataW.trod_int Tryz.underlying3 q2
    obtain ⟨ys, m2, _, hy, _, hl2, hq2⟩ := DataW.trod_struct Tryz.underlying23 q1
    match ys, hl2 with
    | [u0, u1], _ =>
      have r0' : DataW.trod enc Tryz.prog W 0 (fun _ => true) held m2 2 (([c1, c2].drop 0).take (Tryz.prog.cellsOf 2)) = some u0 := hq2 0 _ rfl
      rw [cL] at r0'
      have r0 : DataW.trod enc Tryz.prog W 0 (fun _ => true) held m2 2 [c1] = some u0 := r0'
      have r1' : DataW.trod enc Tryz.prog W 0 (fun _ => true) held m2 2 (([c1, c2].drop 1).take (Tryz.prog.cellsOf 2)) = some u1 := hq2 1 _ rfl
      rw [cL] at r1'
      have r1 : DataW.trod enc Tryz.prog W 0 (fun _ => true) held m2 2 [c2] = some u1 := r1'
      obtain ⟨n, en, rfl, wn⟩ := DataW.trod_int Tryz.underlying2 r0
      obtain ⟨dd, ed, rfl, wd⟩ := DataW.trod_int Tryz.underlying2 r1
      simp at ek eu en ed
      subst ek eu en ed
      have hD : d.1 = .agg [.lit (.int .i64 k), y1.1, .lit (.int .i64 u), y3.1] := by simpa using congrArg Prod.fst hx'
      rw [hD] at hN
      simp only [Rows.uptoBulk, Rows.uptoBulkAll] at hN
      obtain ⟨l, hXl⟩ := hX c4 k' y3 q3 (by omega)
      exact ⟨.mk k n dd u l, rfl, rfl, rfl, rfl, hXl, bounds_i64 wk, bounds_i64 wn, bounds_i64 wd, bounds_i64 wu⟩
/-- A slice of expressions that comes in. -/
theorem exs_open {H : Type} {enc : TypeId × Value → H} {W : World} {held : Bool} (N : Nat) : ∀ (c : Value) (fuel : Nat) (x : DataW H × List MemPlace),
    DataW.trod enc Tryz.prog W 0 (fun _ => true) held fuel 40 [c] = some x → Rows.uptoBulk x.1 ≤ N → N ≤ 1048576 → ∃ l : List Ex, EM W c l := by
  induction N with
  | zero => intro c fuel x hf hb; have := one_le x.1; omega
  | succ N ih =>
    intro c fuel x hf hb hN
    obtain ⟨l, hr⟩ := row_open (α := Ex) Tryz.underlying40 cEx (by omega) (fun b o y => ∃ u, Fiv W b o y ∧ W.cell? ⟨b, o + 4, none⟩ = some u ∧ EM W u y.ks ∧ y.Ok) hf hb (by omega) (fun b o m cs d h1 h2 h3 h4 h5 => by
      match cs, h1 with
      | [c0, c1, c2, c3, c4], _ =>
        obtain ⟨y, rfl, rfl, rfl, rfl, hx, hk⟩ := ex_cells (N := N) (X := EM W) h4 (by omega) (fun c fuel x hx hbx => ih c fuel x hx hbx (by omega))
        exact ⟨y, c4, ⟨h2 0 (by omega), h2 1 (by omega), h2 2 (by omega), h2 3 (by omega)⟩, h2 4 (by omega), hx, hk⟩)
    refine ⟨l, ?_⟩
    rcases hr with ⟨a, cp, rfl, rfl⟩ | ⟨b, o, cp, rfl, h0, hb', hc, hn, hm, hr⟩
    · exact .nil a cp
    · have ch : ∀ i, ∃ u, ∀ y, l[i]? = some y → Fiv W b (o + i * 5) y ∧ W.cell? ⟨b, o + i * 5 + 4, none⟩ = some u ∧ EM W u y.ks ∧ y.Ok := fun i => by
        cases hi : l[i]? with
        | none => exact ⟨.bool false, fun y hy => by cases hy⟩
        | some y =>
          obtain ⟨u, h1, h2, h3, h4⟩ := hr i y hi
          exact ⟨u, fun y' hy => by cases hy; exact ⟨h1, h2, h3, h4⟩⟩
      exact .row b o cp l (fun i => Classical.choose (ch i)) h0 hb' hc hn hm (fun i v hi => (Classical.choose_spec (ch i) v hi).2.2.2) (fun i v hi => (Classical.choose_spec (ch i) v hi).1) (fun i v hi => (Classical.choose_spec (ch i) v hi).2.1) (fun i v hi => (Classical.choose_spec (ch i) v hi).2.2.1)
set_option maxRecDepth 100000 in
/-- An expression that comes in. -/
theorem ex_open {H : Type} {enc : TypeId × Value → H} {W : World} {base : Nat} {held : Bool} {v : Value} {x : DataW H} {p : List MemPlace} (hv : Value.okWide Tryz.prog W .any base 42 v) (h : DataW.Trod enc Tryz.prog W 0 (fun _ => true) held 42 v x p) (hb : Rows.uptoBulk x ≤ 1048576) :
    ∃ (y : Ex) (u : Value), v = exV y u ∧ y.Ok ∧ EM W u y.ks := by
  obtain ⟨cs, rfl, hsz⟩ := okWide_struct Tryz.underlying42 hv
  obtain ⟨c0, c1, c2, c3, c4, rfl⟩ := arr5 (hsz.trans cEx)
  obtain ⟨fuel, hf⟩ := h
  obtain ⟨y, rfl, rfl, rfl, rfl, hx, hk⟩ := ex_cells (c0 := c0) (c1 := c1) (c2 := c2) (c3 := c3) (c4 := c4) (m := fuel) (d := (x, p)) (N := 1048576) (X := EM W) (by simpa [Value.cells] using hf) (by show Rows.uptoBulk x ≤ _; omega) (fun c fuel x hx hbx => exs_open 1048576 c fuel x hx hbx (Nat.le_refl _))
  exact ⟨y, c4, rfl, hk, hx⟩
theorem arr2 {α : Type} {cs : Array α} (h : cs.size = 2) : ∃ c0 c1, cs = #[c0, c1] := by
  obtain ⟨l⟩ := cs
  match l, h with
  | [c0, c1], _ => exact ⟨c0, c1, rfl⟩
set_option maxRecDepth 100000 in
/-- A fraction that comes in. -/
theorem rat_open {H : Type} {enc : TypeId × Value → H} {W : World} {base : Nat} {held : Bool} {v : Value} {x : DataW H} {p : List MemPlace} (hv : Value.okWide Tryz.prog W .any base 23 v) (h : DataW.Trod enc Tryz.prog W 0 (fun _ => true) held 23 v x p) :
    ∃ n d, v = .agg #[.int .i64 n, .int .i64 d] ∧ i64 n ∧ i64 d := by
  obtain ⟨cs, rfl, hsz⟩ := okWide_struct Tryz.underlying23 hv
  obtain ⟨c1, c2, rfl⟩ := arr2 (hsz.trans cR)
  obtain ⟨fuel, hf⟩ := h
  obtain ⟨ys, m2, _, hy, _, hl2, hq2⟩ := DataW.trod_struct Tryz.underlying23 hf
  match ys, hl2 with
  | [u0, u1], _ =>
    have r0' : DataW.trod enc Tryz.prog W 0 (fun _ => true) held m2 2 (([c1, c2].drop 0).take (Tryz.prog.cellsOf 2)) = some u0 := hq2 0 _ rfl
    rw [cL] at r0'
    have r0 : DataW.trod enc Tryz.prog W 0 (fun _ => true) held m2 2 [c1] = some u0 := r0'
    have r1' : DataW.trod enc Tryz.prog W 0 (fun _ => true) held m2 2 (([c1, c2].drop 1).take (Tryz.prog.cellsOf 2)) = some u1 := hq2 1 _ rfl
    rw [cL] at r1'
    have r1 : DataW.trod enc Tryz.prog W 0 (fun _ => true) held m2 2 [c2] = some u1 := r1'
    obtain ⟨n, en, rfl, wn⟩ := DataW.trod_int Tryz.underlying2 r0
    obtain ⟨dd, ed, rfl, wd⟩ := DataW.trod_int Tryz.underlying2 r1
    simp at en ed
    subst en ed
    exact ⟨n, dd, rfl, bounds_i64 wn, bounds_i64 wd⟩
end Go.Proofs.YtdnnidnghaifgaaGreatDoor.rowg
set_option linter.unusedVariables false
set_option linter.unusedSimpArgs false
namespace Go.Proofs.YtdnnidnghaifgaaGreatDoor.rowg
open Go.ChangeShapes Go.WideShapes Go.ChangeAt Go.RowKit Go.Joins
open Go.ChangeMaps (open_string shut_string)
open Go.Proofs.YtdnnidnghaifgaaGreatDoor.nm

instance : Inhabited Fo := ⟨.mk [] []⟩
theorem cFo : Tryz.prog.cellsOf 36 = 15 := by kernel_rfl
theorem cUn : Tryz.prog.cellsOf 33 = 14 := by kernel_rfl
theorem cPa : Tryz.prog.cellsOf 74 = 2 := by kernel_rfl
theorem cPs : Tryz.prog.cellsOf 34 = 1 := by kernel_rfl
theorem cFs : Tryz.prog.cellsOf 72 = 1 := by kernel_rfl
set_option maxRecDepth 100000 in
/-- Two cells that are a fraction's. -/
theorem rat_cells {H : Type} {enc : TypeId × Value → H} {W : World} {held : Bool} {cs : List Value} {m : Nat} {d : DataW H × List MemPlace}
    (hf : DataW.trod enc Tryz.prog W 0 (fun _ => true) held m 23 cs = some d) : ∃ n e, cs = [.int .i64 n, .int .i64 e] ∧ i64 n ∧ i64 e ∧ 3 ≤ Rows.uptoBulk d.1 := by
  obtain ⟨ys, m2, _, hy, hc, hl2, hq2⟩ := DataW.trod_struct Tryz.underlying23 hf
  rw [cR] at hc
  match cs, hc, ys, hl2 with
  | [c1, c2], _, [u0, u1], _ =>
    have r0' : DataW.trod enc Tryz.prog W 0 (fun _ => true) held m2 2 (([c1, c2].drop 0).take (Tryz.prog.cellsOf 2)) = some u0 := hq2 0 _ rfl
    rw [cL] at r0'
    have r0 : DataW.trod enc Tryz.prog W 0 (fun _ => true) held m2 2 [c1] = some u0 := r0'
    have r1' : DataW.trod enc Tryz.prog W 0 (fun _ => true) held m2 2 (([c1, c2].drop 1).take (Tryz.prog.cellsOf 2)) = some u1 := hq2 1 _ rfl
    rw [cL] at r1'
    have r1 : DataW.trod enc Tryz.prog W 0 (fun _ => true) held m2 2 [c2] = some u1 := r1'
    obtain ⟨n, en, rfl, wn⟩ := DataW.trod_int Tryz.underlying2 r0
    obtain ⟨dd, ed, rfl, wd⟩ := DataW.trod_int Tryz.underlying2 r1
    simp at en ed
    subst en ed
    have hD : d.1 = .agg [.lit (.int .i64 n), .lit (.int .i64 dd)] := by simpa using congrArg Prod.fst hy
    refine ⟨n, dd, rfl, bounds_i64 wn, bounds_i64 wd, ?_⟩
    rw [hD]
    simp only [Rows.uptoBulk, Rows.uptoBulkAll]
    omega
set_option maxRecDepth 100000 in
/-- Fourteen cells that are seven fractions. -/
theorem un_cells {H : Type} {enc : TypeId × Value → H} {W : World} {held : Bool} {cs : List Value} {m : Nat} {d : DataW H × List MemPlace}
    (hf : DataW.trod enc Tryz.prog W 0 (fun _ => true) held m 33 cs = some d) : ∃ us, Us us ∧ cs = usL us ∧ 22 ≤ Rows.uptoBulk d.1 := by
  obtain ⟨xs, m2, _, hx, hc, hl, hq⟩ := DataW.trod_array (n := 7) (e := 23) Tryz.underlying33 hf
  rw [cUn] at hc
  rw [cR] at hq
  match cs, hc, xs, hl with
  | [c0, c1, c2, c3, c4, c5, c6, c7, c8, c9, c10, c11, c12, c13], _, [x0, x1, x2, x3, x4, x5, x6], _ =>
    obtain ⟨n0, e0, h0, a0, b0, k0⟩ := rat_cells (d := x0) (hq 0 (by omega))
    obtain ⟨n1, e1, h1, a1, b1, k1⟩ := rat_cells (d := x1) (hq 1 (by omega))
    obtain ⟨n2, e2, h2, a2, b2, k2⟩ := rat_cells (d := x2) (hq 2 (by omega))
    obtain ⟨n3, e3, h3, a3, b3, k3⟩ := rat_cells (d := x3) (hq 3 (by omega))
    obtain ⟨n4, e4, h4, a4, b4, k4⟩ := rat_cells (d := x4) (hq 4 (by omega))
    obtain ⟨n5, e5, h5, a5, b5, k5⟩ := rat_cells (d := x5) (hq 5 (by omega))
    obtain ⟨n6, e6, h6, a6, b6, k6⟩ := rat_cells (d := x6) (hq 6 (by omega))
    simp at h0 h1 h2 h3 h4 h5 h6
    obtain ⟨rfl, rfl⟩ := h0
    obtain ⟨rfl, rfl⟩ := h1
    obtain ⟨rfl, rfl⟩ := h2
    obtain ⟨rfl, rfl⟩ := h3
    obtain ⟨rfl, rfl⟩ := h4
    obtain ⟨rfl, rfl⟩ := h5
    obtain ⟨rfl, rfl⟩ := h6
    refine ⟨[(n0, e0), (n1, e1), (n2, e2), (n3, e3), (n4, e4), (n5, e5), (n6, e6)], ⟨rfl, ?_⟩, rfl, ?_⟩
    · intro r hr
      simp at hr
      rcases hr with rfl | rfl | rfl | rfl | rfl | rfl | rfl
      · exact ⟨a0, b0⟩
      · exact ⟨a1, b1⟩
      · exact ⟨a2, b2⟩
      · exact ⟨a3, b3⟩
      · exact ⟨a4, b4⟩
      · exact ⟨a5, b5⟩
      · exact ⟨a6, b6⟩
    · have hD : d.1 = .agg [x0.1, x1.1, x2.1, x3.1, x4.1, x5.1, x6.1] := by simpa using congrArg Prod.fst hx
      rw [hD]
      simp only [Rows.uptoBulk, Rows.uptoBulkAll]
      omega
set_option maxRecDepth 100000 in
/-- Fifteen cells that are a form's. -/
theorem fo_cells {H : Type} {enc : TypeId × Value → H} {W : World} {held : Bool} {cs : List Value} {m N : Nat} {d : DataW H × List MemPlace} {X : Value → List Pa → Prop}
    (hf : DataW.trod enc Tryz.prog W 0 (fun _ => true) held m 36 cs = some d) (hN : Rows.uptoBulk d.1 ≤ N)
    (hX : ∀ (c : Value) (fuel : Nat) (x : DataW H × List MemPlace), DataW.trod enc Tryz.prog W 0 (fun _ => true) held fuel 34 [c] = some x → Rows.uptoBulk x.1 + 23 ≤ N → ∃ l, X c l) :
    ∃ us ps u, Us us ∧ cs = usL us ++ [u] ∧ X u ps := by
  obtain ⟨xs, k', _, hx', hc, hl', hq⟩ := DataW.trod_struct Tryz.underlying36 hf
  rw [cFo] at hc
  match cs, hc, xs, hl' with
  | [c0, c1, c2, c3, c4, c5, c6, c7, c8, c9, c10, c11, c12, c13, c14], _, [y0, y1], _ =>
    have q0' : DataW.trod enc Tryz.prog W 0 (fun _ => true) held k' 33 (([c0, c1, c2, c3, c4, c5, c6, c7, c8, c9, c10, c11, c12, c13, c14].drop 0).take (Tryz.prog.cellsOf 33)) = some y0 := hq 0 _ rfl
    rw [cUn] at q0'
    have q0 : DataW.trod enc Tryz.prog W 0 (fun _ => true) held k' 33 [c0, c1, c2, c3, c4, c5, c6, c7, c8, c9, c10, c11, c12, c13] = some y0 := q0'
    have q1' : DataW.trod enc Tryz.prog W 0 (fun _ => true) held k' 34 (([c0, c1, c2, c3, c4, c5, c6, c7, c8, c9, c10, c11, c12, c13, c14].drop 14).take (Tryz.prog.cellsOf 34)) = some y1 := hq 1 _ rfl
    rw [cPs] at q1'
    have q1 : DataW.trod enc Tryz.prog W 0 (fun _ => true) held k' 34 [c14] = some y1 := q1'
    obtain ⟨us, hus, hcs, hb⟩ := un_cells q0
    have hD : d.1 = .agg [y0.1, y1.1] := by simpa using congrArg Prod.fst hx'
    rw [hD] at hN
    simp only [Rows.uptoBulk, Rows.uptoBulkAll] at hN
    obtain ⟨ps, hps⟩ := hX c14 k' y1 q1 (by omega)
    refine ⟨us, ps, c14, hus, ?_, hps⟩
    rw [← hcs]
    rfl
set_option maxRecDepth 100000 in
/-- Two cells that are a part's. -/
theorem pa_cells {H : Type} {enc : TypeId × Value → H} {W : World} {held : Bool} {cs : List Value} {m N : Nat} {d : DataW H × List MemPlace} {X : Value → List Fo → Prop}
    (hf : DataW.trod enc Tryz.prog W 0 (fun _ => true) held m 74 cs = some d) (hN : Rows.uptoBulk d.1 ≤ N)
    (hX : ∀ (c : Value) (fuel : Nat) (x : DataW H × List MemPlace), DataW.trod enc Tryz.prog W 0 (fun _ => true) held fuel 72 [c] = some x → Rows.uptoBulk x.1 + 2 ≤ N → ∃ l, X c l) :
    ∃ mx l u, cs = [.bool mx, u] ∧ X u l := by
  obtain ⟨xs, k', _, hx', hc, hl', hq⟩ := DataW.trod_struct Tryz.underlying74 hf
  rw [cPa] at hc
  match cs, hc, xs, hl' with
  | [c0, c1], _, [y0, y1], _ =>
    have q0' : DataW.trod enc Tryz.prog W 0 (fun _ => true) held k' 4 (([c0, c1].drop 0).take (Tryz.prog.cellsOf 4)) = some y0 := hq 0 _ rfl
    rw [cB] at q0'
    have q0 : DataW.trod enc Tryz.prog W 0 (fun _ => true) held k' 4 [c0] = some y0 := q0'
    have q1' : DataW.trod enc Tryz.prog W 0 (fun _ => true) held k' 72 (([c0, c1].drop 1).take (Tryz.prog.cellsOf 72)) = some y1 := hq 1 _ rfl
    rw [cFs] at q1'
    have q1 : DataW.trod enc Tryz.prog W 0 (fun _ => true) held k' 72 [c1] = some y1 := q1'
    obtain ⟨b, eb, hy0⟩ := DataW.trod_bool Tryz.underlying4 q0
    simp at eb
    subst eb
    have hD : d.1 = .agg [y0.1, y1.1] := by simpa using congrArg Prod.fst hx'
    rw [hD] at hN
    simp only [Rows.uptoBulk, Rows.uptoBulkAll] at hN
    have := one_le y0.1
    obtain ⟨l, hl⟩ := hX c1 k' y1 q1 (by omega)
    exact ⟨b, l, c1, rfl, hl⟩
theorem FM.le {w : World} {n m : Nat} (h : n ≤ m) {v : Value} {l : List Fo} (hf : FM w n v l) : FM w m v l := by
  induction m with
  | zero => obtain rfl : n = 0 := by omega
            exact hf
  | succ m ih =>
    by_cases e : n = m + 1
    · subst e; exact hf
    · exact (ih (by omega)).up
/-- The parts of a form that comes in. -/
theorem pas_open {H : Type} {enc : TypeId × Value → H} {W : World} {held : Bool} {X : Value → List Fo → Prop} {N : Nat} {c : Value} {fuel : Nat} {x : DataW H × List MemPlace}
    (hf : DataW.trod enc Tryz.prog W 0 (fun _ => true) held fuel 34 [c] = some x) (hb : Rows.uptoBulk x.1 ≤ N) (hN : N ≤ 1048576)
    (hX : ∀ (c : Value) (fuel : Nat) (x : DataW H × List MemPlace), DataW.trod enc Tryz.prog W 0 (fun _ => true) held fuel 72 [c] = some x → Rows.uptoBulk x.1 + 3 ≤ N → ∃ l, X c l) : ∃ l, nm.RowOf W 2 (PaR W X) c l := by
  have h1 := one_le x.1
  obtain ⟨l, hr⟩ := row_open (α := Pa) (N := N - 1) Tryz.underlying34 cPa (by omega) (PaR W X) hf (by omega) (by omega) (fun b o m cs d h1 h2 h3 h4 h5 => by
    obtain ⟨mx, l, u, rfl, hX'⟩ := pa_cells (N := N - 1) (X := X) h4 h5 (fun c fuel x hx hbx => hX c fuel x hx (by omega))
    exact ⟨(mx, l), u, h2 0 (by omega), h2 1 (by omega), hX'⟩)
  exact ⟨l, hr⟩
/-- A slice of forms that comes in. -/
theorem fos_open {H : Type} {enc : TypeId × Value → H} {W : World} {held : Bool} (N : Nat) : ∀ (c : Value) (fuel : Nat) (x : DataW H × List MemPlace),
    DataW.trod enc Tryz.prog W 0 (fun _ => true) held fuel 72 [c] = some x → Rows.uptoBulk x.1 ≤ N → N ≤ 1048576 → ∃ l : List Fo, FM W (N / 16) c l := by
  induction N using Nat.strongRecOn with
  | ind N ih =>
    intro c fuel x hf hb hN
    have h1 := one_le x.1
    by_cases h28 : 16 ≤ N
    · obtain ⟨l, hr⟩ := row_open (α := Fo) (N := N - 1) Tryz.underlying72 cFo (by omega) (FoR W (FM W (N / 16 - 1))) hf (by omega) (by omega) (fun b o m cs d h1 h2 h3 h4 h5 => by
        obtain ⟨us, ps, u, hus, rfl, hX'⟩ := fo_cells (N := N - 1) (X := nm.RowOf W 2 (PaR W (FM W (N / 16 - 1)))) h4 h5 (fun c fuel x hx hbx => pas_open (N := N - 24) hx (by omega) (by omega) (fun c fuel x hx hbx => by
          have hx1 := one_le x.1
          obtain ⟨l, hl⟩ := ih (N - 27) (by omega) c fuel x hx (by omega) (by omega)
          exact ⟨l, FM.le (by omega) hl⟩))
        refine ⟨.mk us ps, u, ⟨hus, fun i r hi => ?_⟩, ?_, hX'⟩
        · obtain ⟨rn, rd⟩ := r
          obtain ⟨e1, e2⟩ := usL_at hi
          have hi7 : i < 7 := by have := (List.getElem?_eq_some_iff.1 hi).1; rw [show (Fo.mk us ps).us = us from rfl, hus.1] at this; exact this
          have ll := usL_len us
          rw [hus.1] at ll
          refine ⟨?_, ?_⟩
          · rw [h2 (i * 2) (by omega), List.getElem?_append_left (by omega)]; exact e1
          · rw [show o + i * 2 + 1 = o + (i * 2 + 1) by omega, h2 (i * 2 + 1) (by omega), List.getElem?_append_left (by omega)]; exact e2
        · have ll := usL_len us
          rw [hus.1] at ll
          rw [h2 14 (by omega), List.getElem?_append_right (by omega), show 14 - (usL us).length = 0 by omega]; rfl)
      refine ⟨l, ?_⟩
      obtain ⟨q, hq⟩ : ∃ q, N / 16 = q + 1 := ⟨N / 16 - 1, by omega⟩
      rw [hq] at hr ⊢
      exact hr
    · obtain ⟨l, hr⟩ := row_open (α := Fo) (N := N - 1) Tryz.underlying72 cFo (by omega) (fun _ _ _ => False) hf (by omega) (by omega) (fun b o m cs d h1 h2 h3 h4 h5 => by
        exfalso
        obtain ⟨us, ps, u, hus, rfl, hX'⟩ := fo_cells (N := N - 1) (X := fun _ _ => False) h4 h5 (fun c fuel x hx hbx => by exfalso; omega)
        exact hX')
      refine ⟨l, ?_⟩
      rcases hr with ⟨a, cp, rfl, rfl⟩ | ⟨b, o, cp, rfl, h0, hb', hc, hn, hm, hr⟩
      · exact FM.le (Nat.zero_le _) ⟨rfl, a, cp, rfl⟩
      · exact absurd (hr 0 l[0] (List.getElem?_eq_getElem h0)) id
end Go.Proofs.YtdnnidnghaifgaaGreatDoor.rowg
set_option linter.unusedVariables false
set_option linter.unusedSimpArgs false
namespace Go.Proofs.YtdnnidnghaifgaaGreatDoor.rowg
open Go.ChangeShapes Go.WideShapes Go.ChangeAt Go.RowKit Go.Joins
open Go.ChangeMaps (open_string shut_string)
open Go.Proofs.YtdnnidnghaifgaaGreatDoor.nm
set_option maxRecDepth 100000 in
/-- A form that comes in. -/
theorem fo_open {H : Type} {enc : TypeId × Value → H} {W : World} {base : Nat} {held : Bool} {v : Value} {x : DataW H} {p : List MemPlace} (hv : Value.okWide Tryz.prog W .any base 36 v) (h : DataW.Trod enc Tryz.prog W 0 (fun _ => true) held 36 v x p) (hb : Rows.uptoBulk x ≤ 1048576) :
    ∃ (us : List (Int × Int)) (ps : List Pa) (u : Value), v = foV us u ∧ Us us ∧ PM W 65536 u ps := by
  obtain ⟨cs, rfl, hsz⟩ := okWide_struct Tryz.underlying36 hv
  obtain ⟨fuel, hf⟩ := h
  obtain ⟨us, ps, u, hus, hcs, hX⟩ := fo_cells (N := 1048576) (X := PM W 65536) (d := (x, p)) (m := fuel) (cs := cs.toList) (by simpa [Value.cells] using hf) hb (fun c fuel x hx hbx => pas_open (N := 1048576) hx (by omega) (by omega) (fun c fuel x hx hbx => by
    obtain ⟨l, hl⟩ := fos_open 1048576 c fuel x hx (by omega) (by omega)
    exact ⟨l, hl⟩))
  refine ⟨us, ps, u, ?_, hus, hX⟩
  unfold foV
  rw [← hcs]
set_option maxRecDepth 100000 in
theorem nth_third {W : World} {a1 a2 : String × DataW Unit} {r : List (String × DataW Unit)}
    (h : laidMet Tryz.prog (a1 :: a2 :: ("jalousie/norm.nothing", Rows.laid_jalousie_norm_nothing) :: r) W) : Nth W := by
  obtain ⟨ps, hL, _⟩ := h
  obtain ⟨_, _, _, _, _, q1, _, _, _, _, hL, _⟩ := hL
  obtain ⟨_, _, _, _, _, q2, _, _, _, _, hL, _⟩ := hL
  obtain ⟨g', t', cs, fuel, p, q, hg', ht', hvar, hd, _, _⟩ := hL
  have hg : Tryz.prog.globalNamed "jalousie/norm.nothing" = some 1 := by kernel_rfl
  have hty : (Tryz.prog.globals[1]?).map (·.type) = some 23 := by kernel_rfl
  obtain rfl := Option.some.inj (hg.symm.trans hg')
  obtain rfl := Option.some.inj (hty.symm.trans ht')
  have hd' : DataW.trod (fun _ => ()) Tryz.prog W 0 (fun _ => true) false fuel 23 cs.toList = some (Rows.laid_jalousie_norm_nothing, p) := hd
  obtain ⟨ys, m2, _, hy, hc, hl2, hq2⟩ := DataW.trod_struct Tryz.underlying23 hd'
  obtain ⟨n, e, hcs, -, -, -⟩ := rat_cells hd'
  match ys, hl2 with
  | [u0, u1], _ =>
    have r0' : DataW.trod (fun _ => ()) Tryz.prog W 0 (fun _ => true) false m2 2 ((cs.toList.drop 0).take (Tryz.prog.cellsOf 2)) = some u0 := hq2 0 _ rfl
    have r1' : DataW.trod (fun _ => ()) Tryz.prog W 0 (fun _ => true) false m2 2 ((cs.toList.drop 1).take (Tryz.prog.cellsOf 2)) = some u1 := hq2 1 _ rfl
    rw [cL, hcs] at r0' r1'
    obtain ⟨n', en, rfl, wn⟩ := DataW.trod_int Tryz.underlying2 r0'
    obtain ⟨e', ee, rfl, we⟩ := DataW.trod_int Tryz.underlying2 r1'
    simp at en ee
    subst en ee
    have hD : (Rows.laid_jalousie_norm_nothing : DataW Unit) = .agg [.lit (.int .i64 n), .lit (.int .i64 e)] := by simpa using congrArg Prod.fst hy
    simp [Rows.laid_jalousie_norm_nothing] at hD
    obtain ⟨rfl, rfl⟩ := hD
    have e0 := World.var?_cell hg hvar 0
    have e1 := World.var?_cell hg hvar 1
    have hca : cs = #[.int .i64 0, .int .i64 1] := by rw [← Array.toArray_toList (xs := cs), hcs]
    subst hca
    exact ⟨World.block_lt_of_cell? _ _ (show W.cell? ⟨1, 0, none⟩ = some (.int .i64 0) from e0), e0, e1⟩
end Go.Proofs.YtdnnidnghaifgaaGreatDoor.rowg
set_option linter.unusedVariables false
set_option linter.unusedSimpArgs false
namespace Go.Proofs.YtdnnidnghaifgaaGreatDoor.rowg
open Go.ChangeShapes Go.WideShapes Go.ChangeAt Go.RowKit Go.Joins
open Go.ChangeMaps (open_string shut_string)
open Go.Proofs.YtdnnidnghaifgaaGreatDoor.nm
theorem cCx : Tryz.prog.cellsOf 25 = 12 := by kernel_rfl
set_option maxRecDepth 100000 in
/-- A context that comes in. -/
theorem ctx_open {H : Type} {enc : TypeId × Value → H} {W : World} {base : Nat} {held : Bool} {v : Value} {x : DataW H} {p : List MemPlace} (hv : Value.okWide Tryz.prog W .any base 25 v) (h : DataW.Trod enc Tryz.prog W 0 (fun _ => true) held 25 v x p) :
    ∃ cs : List (Int × Int), v = cxV cs ∧ cs.length = 6 ∧ ∀ r ∈ cs, R64 r := by
  obtain ⟨cs, rfl, hsz⟩ := okWide_struct Tryz.underlying25 hv
  obtain ⟨fuel, hf⟩ := h
  have hf2 : DataW.trod enc Tryz.prog W 0 (fun _ => true) held fuel 25 cs.toList = some (x, p) := by simpa [Value.cells] using hf
  obtain ⟨xs, k', _, hx', hc, hl', hq⟩ := DataW.trod_struct Tryz.underlying25 hf2
  rw [cCx] at hc
  obtain ⟨l⟩ := cs
  match l, hc, xs, hl' with
  | [c0, c1, c2, c3, c4, c5, c6, c7, c8, c9, c10, c11], _, [y0, y1, y2, y3, y4, y5], _ =>
    have q0' : DataW.trod enc Tryz.prog W 0 (fun _ => true) held k' 23 (([c0, c1, c2, c3, c4, c5, c6, c7, c8, c9, c10, c11].drop 0).take (Tryz.prog.cellsOf 23)) = some y0 := hq 0 _ rfl
    have q1' : DataW.trod enc Tryz.prog W 0 (fun _ => true) held k' 23 (([c0, c1, c2, c3, c4, c5, c6, c7, c8, c9, c10, c11].drop 2).take (Tryz.prog.cellsOf 23)) = some y1 := hq 1 _ rfl
    have q2' : DataW.trod enc Tryz.prog W 0 (fun _ => true) held k' 23 (([c0, c1, c2, c3, c4, c5, c6, c7, c8, c9, c10, c11].drop 4).take (Tryz.prog.cellsOf 23)) = some y2 := hq 2 _ rfl
    have q3' : DataW.trod enc Tryz.prog W 0 (fun _ => true) held k' 23 (([c0, c1, c2, c3, c4, c5, c6, c7, c8, c9, c10, c11].drop 6).take (Tryz.prog.cellsOf 23)) = some y3 := hq 3 _ rfl
    have q4' : DataW.trod enc Tryz.prog W 0 (fun _ => true) held k' 23 (([c0, c1, c2, c3, c4, c5, c6, c7, c8, c9, c10, c11].drop 8).take (Tryz.prog.cellsOf 23)) = some y4 := hq 4 _ rfl
    have q5' : DataW.trod enc Tryz.prog W 0 (fun _ => true) held k' 23 (([c0, c1, c2, c3, c4, c5, c6, c7, c8, c9, c10, c11].drop 10).take (Tryz.prog.cellsOf 23)) = some y5 := hq 5 _ rfl
    rw [cR] at q0' q1' q2' q3' q4' q5'
    obtain ⟨n0, e0, h0, a0, b0, -⟩ := rat_cells q0'
    obtain ⟨n1, e1, h1, a1, b1, -⟩ := rat_cells q1'
    obtain ⟨n2, e2, h2, a2, b2, -⟩ := rat_cells q2'
    obtain ⟨n3, e3, h3, a3, b3, -⟩ := rat_cells q3'
    obtain ⟨n4, e4, h4, a4, b4, -⟩ := rat_cells q4'
    obtain ⟨n5, e5, h5, a5, b5, -⟩ := rat_cells q5'
    simp at h0 h1 h2 h3 h4 h5
    obtain ⟨rfl, rfl⟩ := h0
    obtain ⟨rfl, rfl⟩ := h1
    obtain ⟨rfl, rfl⟩ := h2
    obtain ⟨rfl, rfl⟩ := h3
    obtain ⟨rfl, rfl⟩ := h4
    obtain ⟨rfl, rfl⟩ := h5
    refine ⟨[(n0, e0), (n1, e1), (n2, e2), (n3, e3), (n4, e4), (n5, e5)], rfl, rfl, ?_⟩
    intro r hr
    simp at hr
    rcases hr with rfl | rfl | rfl | rfl | rfl | rfl
    · exact ⟨a0, b0⟩
    · exact ⟨a1, b1⟩
    · exact ⟨a2, b2⟩
    · exact ⟨a3, b3⟩
    · exact ⟨a4, b4⟩
    · exact ⟨a5, b5⟩
set_option maxRecDepth 100000 in
theorem nthU_fourth {W : World} {a1 a2 a3 : String × DataW Unit} {r : List (String × DataW Unit)}
    (h : laidMet Tryz.prog (a1 :: a2 :: a3 :: ("jalousie/unit.nothing", Rows.laid_jalousie_unit_nothing) :: r) W) : NthU W := by
  obtain ⟨ps, hL, _⟩ := h
  obtain ⟨_, _, _, _, _, q1, _, _, _, _, hL, _⟩ := hL
  obtain ⟨_, _, _, _, _, q2, _, _, _, _, hL, _⟩ := hL
  obtain ⟨_, _, _, _, _, q3, _, _, _, _, hL, _⟩ := hL
  obtain ⟨g', t', cs, fuel, p, q, hg', ht', hvar, hd, _, _⟩ := hL
  have hg : Tryz.prog.globalNamed "jalousie/unit.nothing" = some 0 := by kernel_rfl
  have hty : (Tryz.prog.globals[0]?).map (·.type) = some 23 := by kernel_rfl
  obtain rfl := Option.some.inj (hg.symm.trans hg')
  obtain rfl := Option.some.inj (hty.symm.trans ht')
  have hd' : DataW.trod (fun _ => ()) Tryz.prog W 0 (fun _ => true) false fuel 23 cs.toList = some (Rows.laid_jalousie_unit_nothing, p) := hd
  obtain ⟨ys, m2, _, hy, hc, hl2, hq2⟩ := DataW.trod_struct Tryz.underlying23 hd'
  obtain ⟨n, e, hcs, -, -, -⟩ := rat_cells hd'
  match ys, hl2 with
  | [u0, u1], _ =>
    have r0' : DataW.trod (fun _ => ()) Tryz.prog W 0 (fun _ => true) false m2 2 ((cs.toList.drop 0).take (Tryz.prog.cellsOf 2)) = some u0 := hq2 0 _ rfl
    have r1' : DataW.trod (fun _ => ()) Tryz.prog W 0 (fun _ => true) false m2 2 ((cs.toList.drop 1).take (Tryz.prog.cellsOf 2)) = some u1 := hq2 1 _ rfl
    rw [cL, hcs] at r0' r1'
    obtain ⟨n', en, rfl, wn⟩ := DataW.trod_int Tryz.underlying2 r0'
    obtain ⟨e', ee, rfl, we⟩ := DataW.trod_int Tryz.underlying2 r1'
    simp at en ee
    subst en ee
    have hD : (Rows.laid_jalousie_unit_nothing : DataW Unit) = .agg [.lit (.int .i64 n), .lit (.int .i64 e)] := by simpa using congrArg Prod.fst hy
    simp [Rows.laid_jalousie_unit_nothing] at hD
    obtain ⟨rfl, rfl⟩ := hD
    have e0 := World.var?_cell hg hvar 0
    have e1 := World.var?_cell hg hvar 1
    have hca : cs = #[.int .i64 0, .int .i64 1] := by rw [← Array.toArray_toList (xs := cs), hcs]
    subst hca
    exact ⟨World.block_lt_of_cell? _ _ (show W.cell? ⟨0, 0, none⟩ = some (.int .i64 0) from e0), e0, e1⟩
end Go.Proofs.YtdnnidnghaifgaaGreatDoor.rowg
