/-
  A condition as a row reads it, and how great it is.
-/
import Derived.Test.YtpcdhdllclenaaaDoorRowD
import Derived.Test.YtpcdhdllclenaaaDoorRowG2
set_option linter.unusedVariables false
set_option linter.unusedSimpArgs false
namespace Go.Proofs.YtpcdhdllclenaaaDoor.rowg
open Go.ChangeShapes Go.WideShapes Go.ChangeAt Go.RowKit Go.Joins
open Go.ChangeMaps (open_string shut_string)
open Go.Proofs.YtpcdhdllclenaaaDoor.cd

theorem szCs_sum (l : List Cn) : szCs l = (l.map szC).sum := by
  induction l with
  | nil => rw [szCs_nil]; rfl
  | cons x r ih => rw [szCs_cons, ih, List.map_cons, List.sum_cons, szC_ks]
set_option maxRecDepth 100000 in
/-- Fourteen cells that are a condition's, and how great it is. -/
theorem cn_cells2 {H : Type} {enc : TypeId × Value → H} {W : World} {held : Bool} {c0 c1 c2 c3 c4 c5 c6 c7 c8 c9 c10 c11 c12 c13 : Value} {m N : Nat} {d : DataW H × List MemPlace} {X : Value → List Cn → Prop}
    (hf : DataW.trod enc Tryd.prog W 0 (fun _ => true) held m 39 [c0, c1, c2, c3, c4, c5, c6, c7, c8, c9, c10, c11, c12, c13] = some d) (hN : Rows.uptoBulk d.1 ≤ N + 1) (hN9 : N ≤ 1048576)
    (hX : ∀ (c : Value) (fuel : Nat) (x : DataW H × List MemPlace), DataW.trod enc Tryd.prog W 0 (fun _ => true) held fuel 32 [c] = some x → Rows.uptoBulk x.1 ≤ N → ∃ l, X c l ∧ szCs l ≤ Rows.uptoBulk x.1) :
    ∃ y : Cn, c0 = .int .i64 y.k ∧ X c1 y.ks ∧ (c2 = .int .i64 y.lf.k ∧ c3 = .int .i64 y.lf.t ∧ c4 = .string y.lf.nm ∧ c5 = .int .i64 y.lf.op ∧ c6 = .int .i64 y.lf.e.k ∧ c7 = .int .i64 y.lf.e.n ∧ c8 = .int .i64 y.lf.e.d ∧ c9 = .int .i64 y.lf.e.u ∧ EM W c10 y.lf.e.ks ∧ c11 = .string y.lf.wd ∧ c12 = .string y.lf.vl ∧ c13 = .bool y.lf.an) ∧ y.Ok ∧ szC y ≤ Rows.uptoBulk d.1 := by
  obtain ⟨xs, k', _, hx', _, hl', hq⟩ := DataW.trod_struct Tryd.underlying39 hf
  match xs, hl' with
  | [y0, y1, y2], _ =>
    have q0' : DataW.trod enc Tryd.prog W 0 (fun _ => true) held k' 3 (([c0, c1, c2, c3, c4, c5, c6, c7, c8, c9, c10, c11, c12, c13].drop 0).take (Tryd.prog.cellsOf 3)) = some y0 := hq 0 _ rfl
    rw [cI] at q0'
    have q0 : DataW.trod enc Tryd.prog W 0 (fun _ => true) held k' 3 [c0] = some y0 := q0'
    have q1' : DataW.trod enc Tryd.prog W 0 (fun _ => true) held k' 32 (([c0, c1, c2, c3, c4, c5, c6, c7, c8, c9, c10, c11, c12, c13].drop 1).take (Tryd.prog.cellsOf 32)) = some y1 := hq 1 _ rfl
    rw [cCs] at q1'
    have q1 : DataW.trod enc Tryd.prog W 0 (fun _ => true) held k' 32 [c1] = some y1 := q1'
    have q2' : DataW.trod enc Tryd.prog W 0 (fun _ => true) held k' 37 (([c0, c1, c2, c3, c4, c5, c6, c7, c8, c9, c10, c11, c12, c13].drop 2).take (Tryd.prog.cellsOf 37)) = some y2 := hq 2 _ rfl
    rw [cLf] at q2'
    have q2 : DataW.trod enc Tryd.prog W 0 (fun _ => true) held k' 37 [c2, c3, c4, c5, c6, c7, c8, c9, c10, c11, c12, c13] = some y2 := q2'
    obtain ⟨k, e0, rfl, w0⟩ := DataW.trod_int Tryd.underlying3 q0
    simp at e0
    subst e0
    have hD : d.1 = .agg [.lit (.int .i64 k), y1.1, y2.1] := by simpa using congrArg Prod.fst hx'
    rw [hD] at hN
    simp only [Rows.uptoBulk, Rows.uptoBulkAll] at hN
    obtain ⟨l, hl, hlz⟩ := hX c1 k' y1 q1 (by omega)
    obtain ⟨y, r1, r2, r3, r4, r5, r6, r7, r8, r9, ra, rb, rc, ok⟩ := lf_cells (N := N) q2 (by omega) hN9
    exact ⟨.mk k y l, rfl, hl, ⟨r1, r2, r3, r4, r5, r6, r7, r8, r9, ra, rb, rc⟩, ⟨bounds_i64 w0, ok⟩, by rw [hD, szC_ks]; simp only [Rows.uptoBulk, Rows.uptoBulkAll]; show szCs l + 1 ≤ _; omega⟩
set_option maxRecDepth 100000 in
/-- A slice of conditions that comes in, and how great it is. -/
theorem cns_open2 {H : Type} {enc : TypeId × Value → H} {W : World} {held : Bool} (N : Nat) : ∀ (c : Value) (fuel : Nat) (x : DataW H × List MemPlace),
    DataW.trod enc Tryd.prog W 0 (fun _ => true) held fuel 32 [c] = some x → Rows.uptoBulk x.1 ≤ N → N ≤ 1048576 → ∃ l : List Cn, CM W c l ∧ szCs l ≤ Rows.uptoBulk x.1 := by
  induction N with
  | zero => intro c fuel x hf hb; have := one_le x.1; omega
  | succ N ih =>
    intro c fuel x hf hb hN
    obtain ⟨l, hr, hsum⟩ := row_open2 (α := Cn) Tryd.underlying32 cCn (by omega) (fun b o y => ∃ p : Value × Value, Fou W b o y p.1 p.2 ∧ EM W p.2 y.lf.e.ks ∧ CM W p.1 y.ks ∧ y.Ok) szC hf hb (by omega) (fun b o m cs d h1 h2 h3 h4 h5 => by
      match cs, h1 with
      | [c0, c1, c2, c3, c4, c5, c6, c7, c8, c9, c10, c11, c12, c13], _ =>
        obtain ⟨y, rfl, hx, ⟨rfl, rfl, rfl, rfl, rfl, rfl, rfl, rfl, he, rfl, rfl, rfl⟩, hk, hsz⟩ := cn_cells2 (N := N) (X := CM W) h4 (by omega) (by omega) (fun c fuel x hx hbx => ih c fuel x hx hbx (by omega))
        exact ⟨y, ⟨(c1, c10), ⟨h2 0 (by omega), h2 1 (by omega), h2 2 (by omega), h2 3 (by omega), h2 4 (by omega), h2 5 (by omega), h2 6 (by omega), h2 7 (by omega), h2 8 (by omega), h2 9 (by omega), h2 10 (by omega), h2 11 (by omega), h2 12 (by omega), h2 13 (by omega)⟩, he, hx, hk⟩, hsz⟩)
    refine ⟨l, ?_, by rw [szCs_sum]; exact hsum⟩
    rcases hr with ⟨a, cp, rfl, rfl⟩ | ⟨b, o, cp, rfl, h0, hb', hc, hn, hm, hr⟩
    · exact .nil a cp
    · have ch : ∀ i, ∃ p : Value × Value, ∀ y, l[i]? = some y → Fou W b (o + i * 14) y p.1 p.2 ∧ EM W p.2 y.lf.e.ks ∧ CM W p.1 y.ks ∧ y.Ok := fun i => by
        cases hi : l[i]? with
        | none => exact ⟨(.bool false, .bool false), fun y hy => by cases hy⟩
        | some y =>
          obtain ⟨p, h1, h2, h3, h4⟩ := hr i y hi
          exact ⟨p, fun y' hy => by cases hy; exact ⟨h1, h2, h3, h4⟩⟩
      exact .row b o cp l (fun i => (Classical.choose (ch i)).1) (fun i => (Classical.choose (ch i)).2) h0 hb' hc hn hm (fun i v hi => (Classical.choose_spec (ch i) v hi).2.2.2) (fun i v hi => (Classical.choose_spec (ch i) v hi).1) (fun i v hi => (Classical.choose_spec (ch i) v hi).2.1) (fun i v hi => (Classical.choose_spec (ch i) v hi).2.2.1)
set_option maxRecDepth 100000 in
/-- A condition that comes in, and how great it is. -/
theorem cn_open2 {H : Type} {enc : TypeId × Value → H} {W : World} {base : Nat} {held : Bool} {v : Value} {x : DataW H} {p : List MemPlace} (hv : Value.okWide Tryd.prog W .any base 39 v) (h : DataW.Trod enc Tryd.prog W 0 (fun _ => true) held 39 v x p) (hb : Rows.uptoBulk x ≤ 1048576) :
    ∃ (y : Cn) (u z : Value), v = cnV y u z ∧ y.Ok ∧ CM W u y.ks ∧ EM W z y.lf.e.ks ∧ szC y ≤ 1000000000 := by
  obtain ⟨cs, rfl, hsz⟩ := okWide_struct Tryd.underlying39 hv
  obtain ⟨c0, c1, c2, c3, c4, c5, c6, c7, c8, c9, c10, c11, c12, c13, rfl⟩ := arr14 (hsz.trans cCn)
  obtain ⟨fuel, hf⟩ := h
  obtain ⟨y, rfl, hx, ⟨rfl, rfl, rfl, rfl, rfl, rfl, rfl, rfl, he, rfl, rfl, rfl⟩, hk, hsz⟩ := cn_cells2 (N := 1048576) (m := fuel) (d := (x, p)) (X := CM W) (by simpa [Value.cells] using hf) (by show Rows.uptoBulk x ≤ _; omega) (Nat.le_refl _) (fun c fuel x hx hbx => cns_open2 1048576 c fuel x hx hbx (Nat.le_refl _))
  exact ⟨y, c1, c10, rfl, hk, hx, he, by have : szC y ≤ Rows.uptoBulk x := hsz; omega⟩
end Go.Proofs.YtpcdhdllclenaaaDoor.rowg
