/-
  Conditions, and slices of texts, as a row reads them.
-/
import Derived.Test.YtpcdhdllclenaaaDoorRowC
import Derived.Test.YtpcdhdllclenaaaDoorCaRe
import Derived.Test.YtpcdhdllclenaaaDoorCdN
set_option linter.unusedVariables false
set_option linter.unusedSimpArgs false
namespace Go.Proofs.YtpcdhdllclenaaaDoor.rowg
open Go.ChangeShapes Go.WideShapes Go.ChangeAt Go.RowKit Go.Joins
open Go.ChangeMaps (open_string shut_string)
open Go.Proofs.YtpcdhdllclenaaaDoor.cd

instance : Inhabited Cn := ⟨.mk 0 ⟨0, 0, ⟨#[]⟩, 0, .mk 0 0 0 0 [], ⟨#[]⟩, ⟨#[]⟩, false⟩ []⟩
theorem cCn : Tryd.prog.cellsOf 39 = 14 := by kernel_rfl
theorem cCs : Tryd.prog.cellsOf 32 = 1 := by kernel_rfl
theorem cLf : Tryd.prog.cellsOf 37 = 12 := by kernel_rfl
/-- A slice of texts that comes in, however long. -/
theorem strs_open {H : Type} {enc : TypeId × Value → H} {W : World} {base : Nat} {held : Bool} {v : Value} {x : DataW H} {p : List MemPlace} (hv : Value.okWide Tryd.prog W .any base 45 v) (h : DataW.Trod enc Tryd.prog W 0 (fun _ => true) held 45 v x p) : ∃ l : List ByteArray, Strs W v l := by
  obtain ⟨fuel, hf⟩ := h
  obtain ⟨sa, sn, sc, rfl⟩ := okWide_slice Tryd.underlying45 hv
  have hf' : DataW.trod enc Tryd.prog W 0 (fun _ => true) held fuel 45 [.slice sa sn sc] = some (x, p) := by simpa [Value.cells] using hf
  rcases Go.Deep.open_slice1 Tryd.underlying45 cS hf' with ⟨hcs, hx⟩ | ⟨a, len, cap, m, n, V, D, Pl, hcs, _, hl, hm, hmm, hx, each⟩
  · simp at hcs
    obtain ⟨rfl, rfl, rfl⟩ := hcs
    exact ⟨[], .inl ⟨_, _, rfl, rfl⟩⟩
  · simp at hcs
    obtain ⟨rfl, rfl, rfl⟩ := hcs
    simp only [if_true] at hmm
    subst hmm
    by_cases hl0 : sn = 0
    · subst hl0; exact ⟨[], .inl ⟨_, _, rfl, rfl⟩⟩
    obtain ⟨b, off, spot⟩ := a
    have hspot : spot = none := by
      have c00 := (each 0 (by omega)).1
      simpa [Addr.add] using World.cell?_spot c00
    subst hspot
    have each2 : ∀ i, i < sn → ∃ y : ByteArray, W.cell? ⟨b, off + i, none⟩ = some (.string y) := by
      intro i hi
      obtain ⟨h1, h2⟩ := each i (by omega)
      obtain ⟨y, ey, _, _⟩ := DataW.trod_string Tryd.underlying9 h2
      simp at ey
      rw [Addr.add_lit, ey] at h1
      exact ⟨y, h1⟩
    obtain ⟨q, hq⟩ := Go.Deep.choose_lt each2
    refine ⟨(List.range sn).map q, .inr ⟨b, off, sn, m, rfl, by simp, by omega, World.block_lt_of_cell? _ _ (hq 0 (by omega)), hl, by unfold maxLen at hm; omega, fun i hi => ?_⟩⟩
    rw [hq i hi]
    have : st ((List.range sn).map q) i = q i := by
      rw [st_eq (by simpa using hi)]
      simp
    rw [this]
/-- How long a slice of numbers is that comes in. -/
theorem ints_small {H : Type} {enc : TypeId × Value → H} {W : World} {base : Nat} {held : Bool} {v : Value} {x : DataW H} {p : List MemPlace} (hv : Value.okWide Tryd.prog W .any base 22 v) (h : DataW.Trod enc Tryd.prog W 0 (fun _ => true) held 22 v x p) (hb : Rows.uptoBulk x ≤ 1048576) {l : List Int} (hl : NuW W v l) : l.length ≤ 1000000000 := by
  obtain ⟨fuel, hf⟩ := h
  obtain ⟨sa, sn, sc, rfl⟩ := okWide_slice Tryd.underlying22 hv
  have hf' : DataW.trod enc Tryd.prog W 0 (fun _ => true) held fuel 22 [.slice sa sn sc] = some (x, p) := by simpa [Value.cells] using hf
  obtain ⟨a', c', hs, -⟩ := hl.shape
  injection hs with e1 e2 e3
  rw [← e2]
  rcases Go.Deep.open_slice1 Tryd.underlying22 cI hf' with ⟨hcs, hx⟩ | ⟨a, len, cap, m, n, V, D, Pl, hcs, _, hl, hm, hmm, hx, each⟩
  · simp at hcs
    omega
  · simp at hcs
    obtain ⟨rfl, rfl, rfl⟩ := hcs
    have hx1 : x = _ := congrArg Prod.fst hx
    rw [hx1] at hb
    simp only [Rows.uptoBulk] at hb
    have hlen := length_le ((List.range sn).map D)
    rw [List.length_map, List.length_range] at hlen
    omega
theorem arr14 {α : Type} {cs : Array α} (h : cs.size = 14) : ∃ c0 c1 c2 c3 c4 c5 c6 c7 c8 c9 c10 c11 c12 c13, cs = #[c0, c1, c2, c3, c4, c5, c6, c7, c8, c9, c10, c11, c12, c13] := by
  obtain ⟨l⟩ := cs
  match l, h with
  | [c0, c1, c2, c3, c4, c5, c6, c7, c8, c9, c10, c11, c12, c13], _ => exact ⟨c0, c1, c2, c3, c4, c5, c6, c7, c8, c9, c10, c11, c12, c13, rfl⟩
set_option maxRecDepth 100000 in
/-- Twelve cells that are a leaf's. -/
theorem lf_cells {H : Type} {enc : TypeId × Value → H} {W : World} {held : Bool} {c2 c3 c4 c5 c6 c7 c8 c9 c10 c11 c12 c13 : Value} {m N : Nat} {d : DataW H × List MemPlace}
    (hf : DataW.trod enc Tryd.prog W 0 (fun _ => true) held m 37 [c2, c3, c4, c5, c6, c7, c8, c9, c10, c11, c12, c13] = some d) (hN : Rows.uptoBulk d.1 ≤ N) (hN9 : N ≤ 1048576) :
    ∃ y : Lf, c2 = .int .i64 y.k ∧ c3 = .int .i64 y.t ∧ c4 = .string y.nm ∧ c5 = .int .i64 y.op ∧ c6 = .int .i64 y.e.k ∧ c7 = .int .i64 y.e.n ∧ c8 = .int .i64 y.e.d ∧ c9 = .int .i64 y.e.u ∧ EM W c10 y.e.ks ∧ c11 = .string y.wd ∧ c12 = .string y.vl ∧ c13 = .bool y.an ∧ y.Ok := by
  obtain ⟨xs, k', _, hx', _, hl', hq⟩ := DataW.trod_struct Tryd.underlying37 hf
  match xs, hl' with
  | [y0, y1, y2, y3, y4, y5, y6, y7], _ =>
    have q0' : DataW.trod enc Tryd.prog W 0 (fun _ => true) held k' 3 (([c2, c3, c4, c5, c6, c7, c8, c9, c10, c11, c12, c13].drop 0).take (Tryd.prog.cellsOf 3)) = some y0 := hq 0 _ rfl
    rw [cI] at q0'
    have q0 : DataW.trod enc Tryd.prog W 0 (fun _ => true) held k' 3 [c2] = some y0 := q0'
    have q1' : DataW.trod enc Tryd.prog W 0 (fun _ => true) held k' 3 (([c2, c3, c4, c5, c6, c7, c8, c9, c10, c11, c12, c13].drop 1).take (Tryd.prog.cellsOf 3)) = some y1 := hq 1 _ rfl
    rw [cI] at q1'
    have q1 : DataW.trod enc Tryd.prog W 0 (fun _ => true) held k' 3 [c3] = some y1 := q1'
    have q2' : DataW.trod enc Tryd.prog W 0 (fun _ => true) held k' 9 (([c2, c3, c4, c5, c6, c7, c8, c9, c10, c11, c12, c13].drop 2).take (Tryd.prog.cellsOf 9)) = some y2 := hq 2 _ rfl
    rw [cS] at q2'
    have q2 : DataW.trod enc Tryd.prog W 0 (fun _ => true) held k' 9 [c4] = some y2 := q2'
    have q3' : DataW.trod enc Tryd.prog W 0 (fun _ => true) held k' 3 (([c2, c3, c4, c5, c6, c7, c8, c9, c10, c11, c12, c13].drop 3).take (Tryd.prog.cellsOf 3)) = some y3 := hq 3 _ rfl
    rw [cI] at q3'
    have q3 : DataW.trod enc Tryd.prog W 0 (fun _ => true) held k' 3 [c5] = some y3 := q3'
    have q4' : DataW.trod enc Tryd.prog W 0 (fun _ => true) held k' 35 (([c2, c3, c4, c5, c6, c7, c8, c9, c10, c11, c12, c13].drop 4).take (Tryd.prog.cellsOf 35)) = some y4 := hq 4 _ rfl
    rw [cEx] at q4'
    have q4 : DataW.trod enc Tryd.prog W 0 (fun _ => true) held k' 35 [c6, c7, c8, c9, c10] = some y4 := q4'
    have q5' : DataW.trod enc Tryd.prog W 0 (fun _ => true) held k' 9 (([c2, c3, c4, c5, c6, c7, c8, c9, c10, c11, c12, c13].drop 9).take (Tryd.prog.cellsOf 9)) = some y5 := hq 5 _ rfl
    rw [cS] at q5'
    have q5 : DataW.trod enc Tryd.prog W 0 (fun _ => true) held k' 9 [c11] = some y5 := q5'
    have q6' : DataW.trod enc Tryd.prog W 0 (fun _ => true) held k' 9 (([c2, c3, c4, c5, c6, c7, c8, c9, c10, c11, c12, c13].drop 10).take (Tryd.prog.cellsOf 9)) = some y6 := hq 6 _ rfl
    rw [cS] at q6'
    have q6 : DataW.trod enc Tryd.prog W 0 (fun _ => true) held k' 9 [c12] = some y6 := q6'
    have q7' : DataW.trod enc Tryd.prog W 0 (fun _ => true) held k' 4 (([c2, c3, c4, c5, c6, c7, c8, c9, c10, c11, c12, c13].drop 11).take (Tryd.prog.cellsOf 4)) = some y7 := hq 7 _ rfl
    rw [cB] at q7'
    have q7 : DataW.trod enc Tryd.prog W 0 (fun _ => true) held k' 4 [c13] = some y7 := q7'
    obtain ⟨k, e0, rfl, w0⟩ := DataW.trod_int Tryd.underlying3 q0
    obtain ⟨t, e1, rfl, w1⟩ := DataW.trod_int Tryd.underlying3 q1
    obtain ⟨s2, e2, _, _⟩ := DataW.trod_string Tryd.underlying9 q2
    obtain ⟨op, e3, rfl, w3⟩ := DataW.trod_int Tryd.underlying3 q3
    obtain ⟨s5, e5, _, _⟩ := DataW.trod_string Tryd.underlying9 q5
    obtain ⟨s6, e6, _, _⟩ := DataW.trod_string Tryd.underlying9 q6
    obtain ⟨b7, e7, rfl⟩ := DataW.trod_bool Tryd.underlying4 q7
    simp at e0 e1 e2 e3 e5 e6 e7
    subst e0 e1 e2 e3 e5 e6 e7
    have hD : d.1 = .agg [.lit (.int .i64 k), .lit (.int .i64 t), y2.1, .lit (.int .i64 op), y4.1, y5.1, y6.1, .lit (.bool b7)] := by simpa using congrArg Prod.fst hx'
    rw [hD] at hN
    simp only [Rows.uptoBulk, Rows.uptoBulkAll] at hN
    obtain ⟨y, rfl, rfl, rfl, rfl, hX, hk⟩ := ex_cells (N := N) (X := EM W) q4 (by omega) (fun c fuel x hx hbx => exs_open N c fuel x hx hbx hN9)
    exact ⟨⟨k, t, s2, op, y, s5, s6, b7⟩, rfl, rfl, rfl, rfl, rfl, rfl, rfl, rfl, hX, rfl, rfl, rfl, bounds_i64 w0, bounds_i64 w1, bounds_i64 w3, hk⟩
set_option maxRecDepth 100000 in
/-- Fourteen cells that are a condition's. -/
theorem cn_cells {H : Type} {enc : TypeId × Value → H} {W : World} {held : Bool} {c0 c1 c2 c3 c4 c5 c6 c7 c8 c9 c10 c11 c12 c13 : Value} {m N : Nat} {d : DataW H × List MemPlace} {X : Value → List Cn → Prop}
    (hf : DataW.trod enc Tryd.prog W 0 (fun _ => true) held m 39 [c0, c1, c2, c3, c4, c5, c6, c7, c8, c9, c10, c11, c12, c13] = some d) (hN : Rows.uptoBulk d.1 ≤ N + 1) (hN9 : N ≤ 1048576)
    (hX : ∀ (c : Value) (fuel : Nat) (x : DataW H × List MemPlace), DataW.trod enc Tryd.prog W 0 (fun _ => true) held fuel 32 [c] = some x → Rows.uptoBulk x.1 ≤ N → ∃ l, X c l) :
    ∃ y : Cn, c0 = .int .i64 y.k ∧ X c1 y.ks ∧ (c2 = .int .i64 y.lf.k ∧ c3 = .int .i64 y.lf.t ∧ c4 = .string y.lf.nm ∧ c5 = .int .i64 y.lf.op ∧ c6 = .int .i64 y.lf.e.k ∧ c7 = .int .i64 y.lf.e.n ∧ c8 = .int .i64 y.lf.e.d ∧ c9 = .int .i64 y.lf.e.u ∧ EM W c10 y.lf.e.ks ∧ c11 = .string y.lf.wd ∧ c12 = .string y.lf.vl ∧ c13 = .bool y.lf.an) ∧ y.Ok := by
  obtain ⟨xs, k', _, hx', _, hl', hq⟩ := DataW.trod_struct Tryd.underlying39 hf
  match xs, hl' with
  | [y0, y1, y2], _ =>
    have q0' : DataW.trod enc Tryd.prog W 0 (fun _ => true) held k' 3 (([c0, c1, c2, c3, c4, c5, c6, c7, c8, c9, c10, c11, c12, c13].drop 0).take (Tryd.prog.cellsOf 3)) = some y0 := hq 0 _ rfl
    rw [cI] at q0'
    have q0 : DataW.trod enc Tryd.prog W 0 (fun _ => true) held k' 3 [c0] = some y0 := q0'
    have q1' : DataW.trod enc Tryd.prog W 0 (fun _ => true) held k' 32 (([c0, c1, c2, c3, c4, c5, c6, c7, c8, c9, c10, c11, c12, c13].drop 1).take (Tryd.prog.cellsOf 32)) = some y1 := hq 1 _ rfl
    rw [cCs] at q1'
    have q1 : DataW.trod enc Tryd.prog W 0 (fun _ => true) held k' 32 [c1] = some y1 := q1'
    have q2' : DataW.trod enc Tryd.prog W 0 (fun _ => true) held k' 37 (([c0, c1, c2, c3, c4, c5, c6, c7, c8, c9, c10, c11, c12, c13].drop 2).take (Tryd.prog.cellsOf 37)) = some y2 := hq 2 _ rfl
    rw [cLf] at q2'
    have q2 : DataW.trod enc Tryd.prog W 0 (fun _ => true) held k' 37 [c2, c3, c4, c5, c6, c7, c8, c9, c10, c11, c12, c13] = some y2 := q2'
    obtain ⟨k, e0, rfl, w0⟩ := DataW.trod_int Tryd.underlying3 q0
    simp at e0
    subst e0
    have hD : d.1 = .agg [.lit (.int .i64 k), y1.1, y2.1] := by simpa using congrArg Prod.fst hx'
    rw [hD] at hN
    simp only [Rows.uptoBulk, Rows.uptoBulkAll] at hN
    obtain ⟨l, hl⟩ := hX c1 k' y1 q1 (by omega)
    obtain ⟨y, r1, r2, r3, r4, r5, r6, r7, r8, r9, ra, rb, rc, ok⟩ := lf_cells (N := N) q2 (by omega) hN9
    exact ⟨.mk k y l, rfl, hl, ⟨r1, r2, r3, r4, r5, r6, r7, r8, r9, ra, rb, rc⟩, bounds_i64 w0, ok⟩
set_option maxRecDepth 100000 in
/-- A slice of conditions that comes in. -/
theorem cns_open {H : Type} {enc : TypeId × Value → H} {W : World} {held : Bool} (N : Nat) : ∀ (c : Value) (fuel : Nat) (x : DataW H × List MemPlace),
    DataW.trod enc Tryd.prog W 0 (fun _ => true) held fuel 32 [c] = some x → Rows.uptoBulk x.1 ≤ N → N ≤ 1048576 → ∃ l : List Cn, CM W c l := by
  induction N with
  | zero => intro c fuel x hf hb; have := one_le x.1; omega
  | succ N ih =>
    intro c fuel x hf hb hN
    obtain ⟨l, hr⟩ := row_open (α := Cn) Tryd.underlying32 cCn (by omega) (fun b o y => ∃ p : Value × Value, Fou W b o y p.1 p.2 ∧ EM W p.2 y.lf.e.ks ∧ CM W p.1 y.ks ∧ y.Ok) hf hb (by omega) (fun b o m cs d h1 h2 h3 h4 h5 => by
      match cs, h1 with
      | [c0, c1, c2, c3, c4, c5, c6, c7, c8, c9, c10, c11, c12, c13], _ =>
        obtain ⟨y, rfl, hx, ⟨rfl, rfl, rfl, rfl, rfl, rfl, rfl, rfl, he, rfl, rfl, rfl⟩, hk⟩ := cn_cells (N := N) (X := CM W) h4 (by omega) (by omega) (fun c fuel x hx hbx => ih c fuel x hx hbx (by omega))
        exact ⟨y, (c1, c10), ⟨h2 0 (by omega), h2 1 (by omega), h2 2 (by omega), h2 3 (by omega), h2 4 (by omega), h2 5 (by omega), h2 6 (by omega), h2 7 (by omega), h2 8 (by omega), h2 9 (by omega), h2 10 (by omega), h2 11 (by omega), h2 12 (by omega), h2 13 (by omega)⟩, he, hx, hk⟩)
    refine ⟨l, ?_⟩
    rcases hr with ⟨a, cp, rfl, rfl⟩ | ⟨b, o, cp, rfl, h0, hb', hc, hn, hm, hr⟩
    · exact .nil a cp
    · have ch : ∀ i, ∃ p : Value × Value, ∀ y, l[i]? = some y → Fou W b (o + i * 14) y p.1 p.2 ∧ EM W p.2 y.lf.e.ks ∧ CM W p.1 y.ks ∧ y.Ok := fun i => by
        cases hi : l[i]? with
        | none => exact ⟨(.bool false, .bool false), fun y hy => by cases hy⟩
        | some y =>
          obtain ⟨p, h1, h2, h3, h4⟩ := hr i y hi
          exact ⟨p, fun y' hy => by cases hy; exact ⟨h1, h2, h3, h4⟩⟩
      exact .row b o cp l (fun i => (Classical.choose (ch i)).1) (fun i => (Classical.choose (ch i)).2) h0 hb' hc hn hm (fun i v hi => (Classical.choose_spec (ch i) v hi).2.2.2) (fun i v hi => (Classical.choose_spec (ch i) v hi).1) (fun i v hi => (Classical.choose_spec (ch i) v hi).2.1) (fun i v hi => (Classical.choose_spec (ch i) v hi).2.2.1)
set_option maxRecDepth 100000 in
/-- A condition that comes in. -/
theorem cn_open {H : Type} {enc : TypeId × Value → H} {W : World} {base : Nat} {held : Bool} {v : Value} {x : DataW H} {p : List MemPlace} (hv : Value.okWide Tryd.prog W .any base 39 v) (h : DataW.Trod enc Tryd.prog W 0 (fun _ => true) held 39 v x p) (hb : Rows.uptoBulk x ≤ 1048576) :
    ∃ (y : Cn) (u z : Value), v = cnV y u z ∧ y.Ok ∧ CM W u y.ks ∧ EM W z y.lf.e.ks := by
  obtain ⟨cs, rfl, hsz⟩ := okWide_struct Tryd.underlying39 hv
  obtain ⟨c0, c1, c2, c3, c4, c5, c6, c7, c8, c9, c10, c11, c12, c13, rfl⟩ := arr14 (hsz.trans cCn)
  obtain ⟨fuel, hf⟩ := h
  obtain ⟨y, rfl, hx, ⟨rfl, rfl, rfl, rfl, rfl, rfl, rfl, rfl, he, rfl, rfl, rfl⟩, hk⟩ := cn_cells (N := 1048576) (m := fuel) (d := (x, p)) (X := CM W) (by simpa [Value.cells] using hf) (by show Rows.uptoBulk x ≤ _; omega) (Nat.le_refl _) (fun c fuel x hx hbx => cns_open 1048576 c fuel x hx hbx (Nat.le_refl _))
  exact ⟨y, c1, c10, rfl, hk, hx, he⟩
end Go.Proofs.YtpcdhdllclenaaaDoor.rowg
