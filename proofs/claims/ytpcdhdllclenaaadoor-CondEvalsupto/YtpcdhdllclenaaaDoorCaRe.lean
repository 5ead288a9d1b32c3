/-
  Expressions as a row reads them.
-/
import Derived.Test.YtpcdhdllclenaaaDoorRowG
import Derived.Test.YtpcdhdllclenaaaDoorCaA
set_option linter.unusedVariables false
set_option linter.unusedSimpArgs false
namespace Go.Proofs.YtpcdhdllclenaaaDoor.rowg
open Go.ChangeShapes Go.WideShapes Go.ChangeAt Go.RowKit Go.Joins
open Go.ChangeMaps (open_string shut_string)

instance : Inhabited Ex := ⟨.mk 0 0 0 0 []⟩
theorem cEx : Tryd.prog.cellsOf 35 = 5 := by kernel_rfl
theorem cEs : Tryd.prog.cellsOf 33 = 1 := by kernel_rfl
theorem arr5 {α : Type} {cs : Array α} (h : cs.size = 5) : ∃ c0 c1 c2 c3 c4, cs = #[c0, c1, c2, c3, c4] := by
  obtain ⟨l⟩ := cs
  match l, h with
  | [c0, c1, c2, c3, c4], _ => exact ⟨c0, c1, c2, c3, c4, rfl⟩
/-- Five cells that are an expression's. -/
theorem ex_cells {H : Type} {enc : TypeId × Value → H} {W : World} {held : Bool} {c0 c1 c2 c3 c4 : Value} {m N : Nat} {d : DataW H × List MemPlace} {X : Value → List Ex → Prop}
    (hf : DataW.trod enc Tryd.prog W 0 (fun _ => true) held m 35 [c0, c1, c2, c3, c4] = some d) (hN : Rows.uptoBulk d.1 ≤ N + 1)
    (hX : ∀ (c : Value) (fuel : Nat) (x : DataW H × List MemPlace), DataW.trod enc Tryd.prog W 0 (fun _ => true) held fuel 33 [c] = some x → Rows.uptoBulk x.1 ≤ N → ∃ l, X c l) :
    ∃ y : Ex, c0 = .int .i64 y.k ∧ c1 = .int .i64 y.n ∧ c2 = .int .i64 y.d ∧ c3 = .int .i64 y.u ∧ X c4 y.ks ∧ y.Ok := by
  obtain ⟨xs, k', _, hx', _, hl', hq⟩ := DataW.trod_struct Tryd.underlying35 hf
  match xs, hl' with
  | [y0, y1, y2, y3], _ =>
    have q0' : DataW.trod enc Tryd.prog W 0 (fun _ => true) held k' 3 (([c0, c1, c2, c3, c4].drop 0).take (Tryd.prog.cellsOf 3)) = some y0 := hq 0 _ rfl
    rw [cI] at q0'
    have q0 : DataW.trod enc Tryd.prog W 0 (fun _ => true) held k' 3 [c0] = some y0 := q0'
    have q1' : DataW.trod enc Tryd.prog W 0 (fun _ => true) held k' 29 (([c0, c1, c2, c3, c4].drop 1).take (Tryd.prog.cellsOf 29)) = some y1 := hq 1 _ rfl
    rw [cR] at q1'
    have q1 : DataW.trod enc Tryd.prog W 0 (fun _ => true) held k' 29 [c1, c2] = some y1 := q1'
    have q2' : DataW.trod enc Tryd.prog W 0 (fun _ => true) held k' 3 (([c0, c1, c2, c3, c4].drop 3).take (Tryd.prog.cellsOf 3)) = some y2 := hq 2 _ rfl
    rw [cI] at q2'
    have q2 : DataW.trod enc Tryd.prog W 0 (fun _ => true) held k' 3 [c3] = some y2 := q2'
    have q3' : DataW.trod enc Tryd.prog W 0 (fun _ => true) held k' 33 (([c0, c1, c2, c3, c4].drop 4).take (Tryd.prog.cellsOf 33)) = some y3 := hq 3 _ rfl
    rw [cEs] at q3'
    have q3 : DataW.trod enc Tryd.prog W 0 (fun _ => true) held k' 33 [c4] = some y3 := q3'
    obtain ⟨k, ek, rfl, wk⟩ := DataW.trod_int Tryd.underlying3 q0
    obtain ⟨u, eu, rfl, wu⟩ := DataW.trod_int Tryd.underlying3 q2
    obtain ⟨ys, m2, _, hy, _, hl2, hq2⟩ := DataW.trod_struct Tryd.underlying29 q1
    match ys, hl2 with
    | [u0, u1], _ =>
      have r0' : DataW.trod enc Tryd.prog W 0 (fun _ => true) held m2 2 (([c1, c2].drop 0).take (Tryd.prog.cellsOf 2)) = some u0 := hq2 0 _ rfl
      rw [cL] at r0'
      have r0 : DataW.trod enc Tryd.prog W 0 (fun _ => true) held m2 2 [c1] = some u0 := r0'
      have r1' : DataW.trod enc Tryd.prog W 0 (fun _ => true) held m2 2 (([c1, c2].drop 1).take (Tryd.prog.cellsOf 2)) = some u1 := hq2 1 _ rfl
      rw [cL] at r1'
      have r1 : DataW.trod enc Tryd.prog W 0 (fun _ => true) held m2 2 [c2] = some u1 := r1'
      obtain ⟨n, en, rfl, wn⟩ := DataW.trod_int Tryd.underlying2 r0
      obtain ⟨dd, ed, rfl, wd⟩ := DataW.trod_int Tryd.underlying2 r1
      simp at ek eu en ed
      subst ek eu en ed
      have hD : d.1 = .agg [.lit (.int .i64 k), y1.1, .lit (.int .i64 u), y3.1] := by simpa using congrArg Prod.fst hx'
      rw [hD] at hN
      simp only [Rows.uptoBulk, Rows.uptoBulkAll] at hN
      obtain ⟨l, hXl⟩ := hX c4 k' y3 q3 (by omega)
      exact ⟨.mk k n dd u l, rfl, rfl, rfl, rfl, hXl, bounds_i64 wk, bounds_i64 wn, bounds_i64 wd, bounds_i64 wu⟩
/-- A slice of expressions that comes in. -/
theorem exs_open {H : Type} {enc : TypeId × Value → H} {W : World} {held : Bool} (N : Nat) : ∀ (c : Value) (fuel : Nat) (x : DataW H × List MemPlace),
    DataW.trod enc Tryd.prog W 0 (fun _ => true) held fuel 33 [c] = some x → Rows.uptoBulk x.1 ≤ N → N ≤ 1048576 → ∃ l : List Ex, EM W c l := by
  induction N with
  | zero => intro c fuel x hf hb; have := one_le x.1; omega
  | succ N ih =>
    intro c fuel x hf hb hN
    obtain ⟨l, hr⟩ := row_open (α := Ex) Tryd.underlying33 cEx (by omega) (fun b o y => ∃ u, Fiv W b o y ∧ W.cell? ⟨b, o + 4, none⟩ = some u ∧ EM W u y.ks ∧ y.Ok) hf hb (by omega) (fun b o m cs d h1 h2 h3 h4 h5 => by
      match cs, h1 with
      | [c0, c1, c2, c3, c4], _ =>
        obtain ⟨y, rfl, rfl, rfl, rfl, hx, hk⟩ := ex_cells (N := N) (X := EM W) h4 (by omega) (fun c fuel x hx hbx => ih c fuel x hx hbx (by omega))
        exact ⟨y, c4, ⟨h2 0 (by omega), h2 1 (by omega), h2 2 (by omega), h2 3 (by omega)⟩, h2 4 (by omega), hx, hk⟩)
    refine ⟨l, ?_⟩
    rcases hr with ⟨a, cp, rfl, rfl⟩ | ⟨b, o, cp, rfl, h0, hb', hc, hn, hm, hr⟩
    · exact .nil a cp
    · have ch : ∀ i, ∃ u, ∀ y, l[i]? = some y → Fiv W b (o + i * 5) y ∧ W.cell? ⟨b, o + i * 5 + 4, none⟩ = some u ∧ EM W u y.ks ∧ y.Ok := fun i => by
        cases hi : l[i]? with
        | none => exact ⟨.bool false, fun y hy => by cases hy⟩
        | some y =>
          obtain ⟨u, h1, h2, h3, h4⟩ := hr i y hi
          exact ⟨u, fun y' hy => by cases hy; exact ⟨h1, h2, h3, h4⟩⟩
      exact .row b o cp l (fun i => Classical.choose (ch i)) h0 hb' hc hn hm (fun i v hi => (Classical.choose_spec (ch i) v hi).2.2.2) (fun i v hi => (Classical.choose_spec (ch i) v hi).1) (fun i v hi => (Classical.choose_spec (ch i) v hi).2.1) (fun i v hi => (Classical.choose_spec (ch i) v hi).2.2.1)
set_option maxRecDepth 100000 in
/-- An expression that comes in. -/
theorem ex_open {H : Type} {enc : TypeId × Value → H} {W : World} {base : Nat} {held : Bool} {v : Value} {x : DataW H} {p : List MemPlace} (hv : Value.okWide Tryd.prog W .any base 35 v) (h : DataW.Trod enc Tryd.prog W 0 (fun _ => true) held 35 v x p) (hb : Rows.uptoBulk x ≤ 1048576) :
    ∃ (y : Ex) (u : Value), v = exV y u ∧ y.Ok ∧ EM W u y.ks := by
  obtain ⟨cs, rfl, hsz⟩ := okWide_struct Tryd.underlying35 hv
  obtain ⟨c0, c1, c2, c3, c4, rfl⟩ := arr5 (hsz.trans cEx)
  obtain ⟨fuel, hf⟩ := h
  obtain ⟨y, rfl, rfl, rfl, rfl, hx, hk⟩ := ex_cells (c0 := c0) (c1 := c1) (c2 := c2) (c3 := c3) (c4 := c4) (m := fuel) (d := (x, p)) (N := 1048576) (X := EM W) (by simpa [Value.cells] using hf) (by show Rows.uptoBulk x ≤ _; omega) (fun c fuel x hx hbx => exs_open 1048576 c fuel x hx hbx (Nat.le_refl _))
  exact ⟨y, c4, rfl, hk, hx⟩
theorem arr2 {α : Type} {cs : Array α} (h : cs.size = 2) : ∃ c0 c1, cs = #[c0, c1] := by
  obtain ⟨l⟩ := cs
  match l, h with
  | [c0, c1], _ => exact ⟨c0, c1, rfl⟩
set_option maxRecDepth 100000 in
/-- A fraction that comes in. -/
theorem rat_open {H : Type} {enc : TypeId × Value → H} {W : World} {base : Nat} {held : Bool} {v : Value} {x : DataW H} {p : List MemPlace} (hv : Value.okWide Tryd.prog W .any base 29 v) (h : DataW.Trod enc Tryd.prog W 0 (fun _ => true) held 29 v x p) :
    ∃ n d, v = .agg #[.int .i64 n, .int .i64 d] ∧ i64 n ∧ i64 d := by
  obtain ⟨cs, rfl, hsz⟩ := okWide_struct Tryd.underlying29 hv
  obtain ⟨c1, c2, rfl⟩ := arr2 (hsz.trans cR)
  obtain ⟨fuel, hf⟩ := h
  obtain ⟨ys, m2, _, hy, _, hl2, hq2⟩ := DataW.trod_struct Tryd.underlying29 hf
  match ys, hl2 with
  | [u0, u1], _ =>
    have r0' : DataW.trod enc Tryd.prog W 0 (fun _ => true) held m2 2 (([c1, c2].drop 0).take (Tryd.prog.cellsOf 2)) = some u0 := hq2 0 _ rfl
    rw [cL] at r0'
    have r0 : DataW.trod enc Tryd.prog W 0 (fun _ => true) held m2 2 [c1] = some u0 := r0'
    have r1' : DataW.trod enc Tryd.prog W 0 (fun _ => true) held m2 2 (([c1, c2].drop 1).take (Tryd.prog.cellsOf 2)) = some u1 := hq2 1 _ rfl
    rw [cL] at r1'
    have r1 : DataW.trod enc Tryd.prog W 0 (fun _ => true) held m2 2 [c2] = some u1 := r1'
    obtain ⟨n, en, rfl, wn⟩ := DataW.trod_int Tryd.underlying2 r0
    obtain ⟨dd, ed, rfl, wd⟩ := DataW.trod_int Tryd.underlying2 r1
    simp at en ed
    subst en ed
    exact ⟨n, dd, rfl, bounds_i64 wn, bounds_i64 wd⟩
end Go.Proofs.YtpcdhdllclenaaaDoor.rowg
