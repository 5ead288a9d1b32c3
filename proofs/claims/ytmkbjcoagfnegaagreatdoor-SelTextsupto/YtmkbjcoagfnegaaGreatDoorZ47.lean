/-
  Selectors as a row reads them.
  Selectors as a row reads them, and how long their text is.
-/
import Derived.Test.YtmkbjcoagfnegaaGreatDoorZ15
import Derived.Test.YtmkbjcoagfnegaaGreatDoorZ46
import Derived.Deep.DeepHandedRow
import Derived.Deep.DeepWitnessRowRef
import Derived.Deep.Slices
import Derived.Carry
import Derived.Test.YtmkbjcoagfnegaaGreatDoorZ20
set_option linter.unusedVariables false
namespace Go.Proofs.YtmkbjcoagfnegaaGreatDoor.sel9
open Go.ChangeShapes Go.WideShapes Go.ChangeAt Go.RowKit Go.Joins
open Go.ChangeMaps (open_string shut_string)

theorem one_le {H : Type} (d : DataW H) : 1 ≤ Rows.uptoBulk d := by
  cases d with
  | lit l => cases l <;> simp [Rows.uptoBulk]
  | nil => simp [Rows.uptoBulk]
  | ptr d => simp [Rows.uptoBulk]
  | slice elems spare => simp [Rows.uptoBulk]
  | agg parts => simp [Rows.uptoBulk]
  | iface t d => simp [Rows.uptoBulk]
  | map entries => simp [Rows.uptoBulk]
  | held h => simp [Rows.uptoBulk]
theorem length_le {H : Type} (l : List (DataW H)) : l.length ≤ Rows.uptoBulkAll l := by
  induction l with
  | nil => simp [Rows.uptoBulkAll]
  | cons x r ih => have := one_le x; simp only [Rows.uptoBulkAll, List.length_cons]; omega
theorem mem_le {H : Type} {l : List (DataW H)} {d : DataW H} (h : d ∈ l) : Rows.uptoBulk d ≤ Rows.uptoBulkAll l := by
  induction l with
  | nil => cases h
  | cons x r ih =>
    simp only [Rows.uptoBulkAll]
    rcases List.mem_cons.1 h with rfl | h
    · omega
    · have := ih h; omega
theorem str_le {H : Type} (s : ByteArray) : s.size ≤ Rows.uptoBulk (.lit (.string s.data.toList) : DataW H) := by
  simp only [Rows.uptoBulk]
  have e : s.data.toList.length = s.size := by rw [Array.length_toList]; rfl
  omega
instance : Inhabited Sl := ⟨.mk 0 0 0 0 ⟨#[]⟩ ⟨#[]⟩ false []⟩
theorem cCx : Tryz.prog.cellsOf 40 = 1 := by kernel_rfl
theorem cCp : Tryz.prog.cellsOf 67 = 2 := by kernel_rfl
theorem cSl : Tryz.prog.cellsOf 69 = 8 := by kernel_rfl
theorem cSl' : Tryz.prog.cellsOf 23 = 1 := by kernel_rfl
theorem cSs : Tryz.prog.cellsOf 65 = 1 := by kernel_rfl
theorem cPs : Tryz.prog.cellsOf 38 = 1 := by kernel_rfl
end Go.Proofs.YtmkbjcoagfnegaaGreatDoor.sel9
set_option linter.unusedVariables false
namespace Go.Proofs.YtmkbjcoagfnegaaGreatDoor.sel9
open Go.ChangeShapes Go.WideShapes Go.ChangeAt Go.RowKit Go.Joins
open Go.ChangeMaps (open_string shut_string)

theorem slB_le (r : List Cx → List Int) (s : Sl) (ok : SlOk s) : (slB r s).length ≤ 100 + 10 * s.nm.size + 10 * s.vl.size + (r s.ls).length := by
  have h1 := wId_len s.nm
  have h2 := quT_len s.vl
  have h3 := stT_len ok.a1 ok.a2 ok.b1 ok.b2
  have h4 := opS_size s.op
  unfold slB atT
  repeat' split
  all_goals
    (try simp only [List.length_append, bl_len, List.length_cons, List.length_nil])
    omega
theorem slT_le (r : List Cx → List Int) (s : Sl) (ok : SlOk s) : (slT r s).length ≤ 150 + 10 * s.nm.size + 10 * s.vl.size + (r s.ls).length := by
  have h1 := slB_le r s ok
  have h2 := frS_size s.k
  unfold slT
  rw [List.length_append, bl_len]
  omega
theorem fm_sum {α : Type} (f : α → List Int) (l : List α) : (l.flatMap f).length = (l.map fun x => (f x).length).sum := by
  induction l with
  | nil => rfl
  | cons x l ih => rw [List.flatMap_cons, List.length_append, List.map_cons, List.sum_cons, ih]
theorem joT_sum {α : Type} (f : α → List Int) (l : List α) : (joT f l).length ≤ (l.map fun x => (f x).length + 2).sum := by
  have h : ∀ k, (joT f (l.take k)).length ≤ ((l.take k).map fun x => (f x).length + 2).sum := by
    intro k
    induction k with
    | zero => simp [joT]
    | succ k ih =>
      by_cases hk : k < l.length
      · have hx : l[k]? = some l[k] := List.getElem?_eq_getElem hk
        rw [joT_take hx, List.take_succ_eq_append_getElem hk, List.length_append, List.map_append, List.sum_append]
        simp only [List.map_cons, List.map_nil, List.sum_cons, List.sum_nil]
        split
        · omega
        · rw [List.length_append]; simp only [List.length_cons, List.length_nil]; omega
      · rw [List.take_of_length_le (by omega)] at ih ⊢
        exact ih
  have := h l.length
  rwa [List.take_length] at this
theorem sum_bulkT {α H : Type} (L : List Nat) (q : Nat → α) (D : Nat → DataW H) (μ : α → Nat) (h : ∀ i ∈ L, μ (q i) ≤ 200 * Rows.uptoBulk (D i)) : ((L.map q).map μ).sum ≤ 200 * Rows.uptoBulkAll (L.map D) := by
  induction L with
  | nil => simp
  | cons x L ih =>
    have := h x (by simp)
    have := ih (fun i hi => h i (by simp [hi]))
    simp only [List.map_cons, List.sum_cons, Rows.uptoBulkAll]
    omega
/-- A slice that comes in, whatever its elements are, and how great it is. -/
theorem row_openT {α : Type} [Inhabited α] {H : Type} {enc : TypeId × Value → H} {W : World} {held : Bool} {T E : TypeId} {sz : Nat} (hT : Tryz.prog.underlying T = some (.slice E)) (hsz : Tryz.prog.cellsOf E = sz) (h0 : 0 < sz) (R : Nat → Nat → α → Prop) (μ : α → Nat)
    {c : Value} {fuel : Nat} {x : DataW H × List MemPlace} (hf : DataW.trod enc Tryz.prog W 0 (fun _ => true) held fuel T [c] = some x) {N : Nat} (hN : Rows.uptoBulk x.1 ≤ N + 1) (hN9 : N ≤ 1048576)
    (each : ∀ (b o m : Nat) (cs : List Value) (d : DataW H × List MemPlace), cs.length = sz → (∀ j, j < sz → W.cell? ⟨b, o + j, none⟩ = cs[j]?) → b < W.heap.size → DataW.trod enc Tryz.prog W 0 (fun _ => true) held m E cs = some d → Rows.uptoBulk d.1 ≤ N → ∃ y : α, R b o y ∧ μ y ≤ 200 * Rows.uptoBulk d.1) : ∃ l, RowOf W sz R c l ∧ (l.map μ).sum ≤ 200 * Rows.uptoBulk x.1 := by
  rcases Go.Deep.open_slice hT hf with ⟨hcs, hx⟩ | ⟨a1, len, cap, m, n, D, Pl, hcs, _, hl, hm, hmm, hx, each0⟩
  · simp at hcs
    subst hcs
    exact ⟨[], .inl ⟨_, _, rfl, rfl⟩, by simp⟩
  · simp at hcs
    subst hcs
    simp only [if_true] at hmm
    subst hmm
    rw [hx] at hN
    simp only [Rows.uptoBulk] at hN
    have hlen := length_le ((List.range len).map D)
    rw [List.length_map, List.length_range] at hlen
    by_cases hl0 : len = 0
    · subst hl0; exact ⟨[], .inl ⟨_, _, rfl, rfl⟩, by simp⟩
    obtain ⟨b, off, spot⟩ := a1
    have hspot : spot = none := by
      obtain ⟨cs, h1, h2⟩ := each0 0 (by omega)
      rw [hsz] at h1
      obtain ⟨_, hcl, hcell⟩ := World.cells?_some h1
      have c00 := hcell 0 h0
      rw [List.getElem?_eq_getElem (by omega)] at c00
      simpa [Addr.add] using World.cell?_spot c00
    subst hspot
    have each2 : ∀ i, i < len → ∃ y : α, R b (off + i * sz) y ∧ μ y ≤ 200 * Rows.uptoBulk (D i) := by
      intro i hi
      obtain ⟨cs, h1, h2⟩ := each0 i (by omega)
      rw [hsz] at h1
      obtain ⟨_, hcl, hcell⟩ := World.cells?_some h1
      have hm2 := mem_le (d := D i) (l := (List.range len).map D) (List.mem_map.2 ⟨i, List.mem_range.2 hi, rfl⟩)
      refine each b (off + i * sz) _ cs _ hcl (fun j hj => ?_) ?_ h2 (by show Rows.uptoBulk (D i) ≤ N; omega)
      · have := hcell j hj
        rwa [Addr.add_lit, Addr.add_lit] at this
      · have c00 := hcell 0 h0
        rw [List.getElem?_eq_getElem (by omega)] at c00
        have k := World.block_lt_of_cell? _ _ c00
        rwa [Addr.add_lit, Addr.add_lit] at k
    obtain ⟨q, hq⟩ := Go.Deep.choose_lt each2
    have hll : ((List.range len).map q).length = len := by simp
    refine ⟨(List.range len).map q, .inr ⟨b, off, m, by rw [hll], by rw [hll]; omega, ?_, by rw [hll]; exact hl, by rw [hll]; omega, by unfold maxLen at hm; omega, fun i y hi => ?_⟩, ?_⟩
    · obtain ⟨cs, h1, h2⟩ := each0 0 (by omega)
      rw [hsz] at h1
      obtain ⟨_, hcl, hcell⟩ := World.cells?_some h1
      have c00 := hcell 0 h0
      rw [List.getElem?_eq_getElem (by omega)] at c00
      have k := World.block_lt_of_cell? _ _ c00
      simpa [Addr.add] using k
    · have hil : i < len := by
        have := (List.getElem?_eq_some_iff.1 hi).1
        simpa using this
      rw [List.getElem?_map, List.getElem?_range hil] at hi
      have e : q i = y := by simpa using hi
      rw [← e]
      exact (hq i hil).1
    · have := sum_bulkT (List.range len) q D μ (fun i hi => (hq i (List.mem_range.1 hi)).2)
      rw [hx]
      simp only [Rows.uptoBulk]
      omega
/-- A simple selector that comes in. -/
theorem sl_openT {H : Type} {enc : TypeId × Value → H} {W : World} {held : Bool} {X : Value → List Cx → Prop} {r : List Cx → List Int} {b o m N : Nat} {cs : List Value} {d : DataW H × List MemPlace} (hl : cs.length = 8) (hc : ∀ j, j < 8 → W.cell? ⟨b, o + j, none⟩ = cs[j]?)
    (hf : DataW.trod enc Tryz.prog W 0 (fun _ => true) held m 69 cs = some d) (hN : Rows.uptoBulk d.1 ≤ N + 1) (hN9 : N ≤ 1048576)
    (hX : ∀ (c : Value) (fuel : Nat) (x : DataW H × List MemPlace), DataW.trod enc Tryz.prog W 0 (fun _ => true) held fuel 23 [c] = some x → Rows.uptoBulk x.1 ≤ N → ∃ l, X c l ∧ (r l).length ≤ 200 * Rows.uptoBulk x.1) : ∃ s, SlR W X b o s ∧ (slT r s).length ≤ 200 * Rows.uptoBulk d.1 := by
  match cs, hl with
  | [c0, c1, c2, c3, c4, c5, c6, c7], _ =>
    obtain ⟨xs, k', _, hx', _, hl', hq⟩ := DataW.trod_struct Tryz.underlying69 hf
    match xs, hl' with
    | [y0, y1, y2, y3, y4, y5, y6, y7], _ =>
      have q0' : DataW.trod enc Tryz.prog W 0 (fun _ => true) held k' 3 (([c0, c1, c2, c3, c4, c5, c6, c7].drop 0).take (Tryz.prog.cellsOf 3)) = some y0 := hq 0 _ rfl
      rw [cI] at q0'
      have q0 : DataW.trod enc Tryz.prog W 0 (fun _ => true) held k' 3 [c0] = some y0 := q0'
      have q1' : DataW.trod enc Tryz.prog W 0 (fun _ => true) held k' 9 (([c0, c1, c2, c3, c4, c5, c6, c7].drop 1).take (Tryz.prog.cellsOf 9)) = some y1 := hq 1 _ rfl
      rw [cS] at q1'
      have q1 : DataW.trod enc Tryz.prog W 0 (fun _ => true) held k' 9 [c1] = some y1 := q1'
      have q2' : DataW.trod enc Tryz.prog W 0 (fun _ => true) held k' 3 (([c0, c1, c2, c3, c4, c5, c6, c7].drop 2).take (Tryz.prog.cellsOf 3)) = some y2 := hq 2 _ rfl
      rw [cI] at q2'
      have q2 : DataW.trod enc Tryz.prog W 0 (fun _ => true) held k' 3 [c2] = some y2 := q2'
      have q3' : DataW.trod enc Tryz.prog W 0 (fun _ => true) held k' 9 (([c0, c1, c2, c3, c4, c5, c6, c7].drop 3).take (Tryz.prog.cellsOf 9)) = some y3 := hq 3 _ rfl
      rw [cS] at q3'
      have q3 : DataW.trod enc Tryz.prog W 0 (fun _ => true) held k' 9 [c3] = some y3 := q3'
      have q4' : DataW.trod enc Tryz.prog W 0 (fun _ => true) held k' 4 (([c0, c1, c2, c3, c4, c5, c6, c7].drop 4).take (Tryz.prog.cellsOf 4)) = some y4 := hq 4 _ rfl
      rw [cB] at q4'
      have q4 : DataW.trod enc Tryz.prog W 0 (fun _ => true) held k' 4 [c4] = some y4 := q4'
      have q5' : DataW.trod enc Tryz.prog W 0 (fun _ => true) held k' 23 (([c0, c1, c2, c3, c4, c5, c6, c7].drop 5).take (Tryz.prog.cellsOf 23)) = some y5 := hq 5 _ rfl
      rw [cSl'] at q5'
      have q5 : DataW.trod enc Tryz.prog W 0 (fun _ => true) held k' 23 [c5] = some y5 := q5'
      have q6' : DataW.trod enc Tryz.prog W 0 (fun _ => true) held k' 3 (([c0, c1, c2, c3, c4, c5, c6, c7].drop 6).take (Tryz.prog.cellsOf 3)) = some y6 := hq 6 _ rfl
      rw [cI] at q6'
      have q6 : DataW.trod enc Tryz.prog W 0 (fun _ => true) held k' 3 [c6] = some y6 := q6'
      have q7' : DataW.trod enc Tryz.prog W 0 (fun _ => true) held k' 3 (([c0, c1, c2, c3, c4, c5, c6, c7].drop 7).take (Tryz.prog.cellsOf 3)) = some y7 := hq 7 _ rfl
      rw [cI] at q7'
      have q7 : DataW.trod enc Tryz.prog W 0 (fun _ => true) held k' 3 [c7] = some y7 := q7'
      obtain ⟨k, ek, rfl, wk⟩ := DataW.trod_int Tryz.underlying3 q0
      obtain ⟨nm, en, rfl, wn⟩ := DataW.trod_string Tryz.underlying9 q1
      obtain ⟨op, eo, rfl, wo⟩ := DataW.trod_int Tryz.underlying3 q2
      obtain ⟨vl, ev, rfl, wv⟩ := DataW.trod_string Tryz.underlying9 q3
      obtain ⟨fo, ef, rfl⟩ := DataW.trod_bool Tryz.underlying4 q4
      obtain ⟨a, ea, rfl, wa⟩ := DataW.trod_int Tryz.underlying3 q6
      obtain ⟨b', eb, rfl, wb⟩ := DataW.trod_int Tryz.underlying3 q7
      simp at ek en eo ev ef ea eb
      subst ek en eo ev ef ea eb
      have hD : d.1 = .agg [.lit (.int .i64 k), .lit (.string nm.data.toList), .lit (.int .i64 op), .lit (.string vl.data.toList), .lit (.bool fo), y5.1, .lit (.int .i64 a), .lit (.int .i64 b')] := by simpa using congrArg Prod.fst hx'
      rw [hD] at hN ⊢
      simp only [Rows.uptoBulk, Rows.uptoBulkAll] at hN ⊢
      have e1 : nm.data.toList.length = nm.size := by rw [Array.length_toList]; rfl
      have e2 : vl.data.toList.length = vl.size := by rw [Array.length_toList]; rfl
      obtain ⟨l, hXl, hzl⟩ := hX c5 k' y5 q5 (by omega)
      obtain ⟨x1, x2⟩ := bounds_i64 wk
      obtain ⟨x3, x4⟩ := bounds_i64 wo
      obtain ⟨x5, x6⟩ := bounds_i64 wa
      obtain ⟨x7, x8⟩ := bounds_i64 wb
      have ok9 : SlOk (.mk k op a b' nm vl fo l) := ⟨x1, x2, x3, x4, x5, x6, x7, x8, by show nm.size ≤ _; omega, by show vl.size ≤ _; omega⟩
      exact ⟨.mk k op a b' nm vl fo l, ⟨c5, ⟨hc 0 (by omega), hc 1 (by omega), hc 2 (by omega), hc 3 (by omega), hc 4 (by omega), hc 5 (by omega), hc 6 (by omega), hc 7 (by omega)⟩, hXl, ok9⟩, by have h9 := slT_le r (.mk k op a b' nm vl fo l) ok9; simp only [Sl.nm, Sl.vl, Sl.ls] at h9; omega⟩
theorem cp_openT {H : Type} {enc : TypeId × Value → H} {W : World} {held : Bool} {X : Value → List Cx → Prop} {r : List Cx → List Int} {b o m N : Nat} {cs : List Value} {d : DataW H × List MemPlace} (hl : cs.length = 2) (hc : ∀ j, j < 2 → W.cell? ⟨b, o + j, none⟩ = cs[j]?)
    (hf : DataW.trod enc Tryz.prog W 0 (fun _ => true) held m 67 cs = some d) (hN : Rows.uptoBulk d.1 ≤ N + 1) (hN9 : N ≤ 1048576)
    (hX : ∀ (c : Value) (fuel : Nat) (x : DataW H × List MemPlace), DataW.trod enc Tryz.prog W 0 (fun _ => true) held fuel 23 [c] = some x → Rows.uptoBulk x.1 ≤ N → ∃ l, X c l ∧ (r l).length ≤ 200 * Rows.uptoBulk x.1) : ∃ p, CpR W X b o p ∧ (cpT r p).length ≤ 200 * Rows.uptoBulk d.1 := by
  match cs, hl with
  | [c0, c1], _ =>
    obtain ⟨xs, k', _, hx', _, hl', hq⟩ := DataW.trod_struct Tryz.underlying67 hf
    match xs, hl' with
    | [y0, y1], _ =>
      have q0' : DataW.trod enc Tryz.prog W 0 (fun _ => true) held k' 3 (([c0, c1].drop 0).take (Tryz.prog.cellsOf 3)) = some y0 := hq 0 _ rfl
      rw [cI] at q0'
      have q0 : DataW.trod enc Tryz.prog W 0 (fun _ => true) held k' 3 [c0] = some y0 := q0'
      have q1' : DataW.trod enc Tryz.prog W 0 (fun _ => true) held k' 65 (([c0, c1].drop 1).take (Tryz.prog.cellsOf 65)) = some y1 := hq 1 _ rfl
      rw [cSs] at q1'
      have q1 : DataW.trod enc Tryz.prog W 0 (fun _ => true) held k' 65 [c1] = some y1 := q1'
      obtain ⟨k, ek, rfl, wk⟩ := DataW.trod_int Tryz.underlying3 q0
      simp at ek
      subst ek
      have hD : d.1 = .agg [.lit (.int .i64 k), y1.1] := by simpa using congrArg Prod.fst hx'
      rw [hD] at hN ⊢
      simp only [Rows.uptoBulk, Rows.uptoBulkAll] at hN ⊢
      obtain ⟨x1, x2⟩ := bounds_i64 wk
      obtain ⟨ss, hss, hzs⟩ := row_openT Tryz.underlying65 cSl (by omega) (SlR W X) (fun s => (slT r s).length) q1 (N := N) (by omega) hN9 (fun b o m cs d h1 h2 h3 h4 h5 => sl_openT h1 h2 h4 (by omega) hN9 hX)
      exact ⟨(k, ss), ⟨c1, hc 0 (by omega), hc 1 (by omega), hss, x1, x2⟩, by have h9 := coS_size k; unfold cpT; rw [List.length_append, bl_len]; unfold ssT; rw [fm_sum]; simp only at h9 ⊢; omega⟩
theorem cx_openT {H : Type} {enc : TypeId × Value → H} {W : World} {held : Bool} {X : Value → List Cx → Prop} {r : List Cx → List Int} {b o m N : Nat} {cs : List Value} {d : DataW H × List MemPlace} (hl : cs.length = 1) (hc : ∀ j, j < 1 → W.cell? ⟨b, o + j, none⟩ = cs[j]?)
    (hf : DataW.trod enc Tryz.prog W 0 (fun _ => true) held m 40 cs = some d) (hN : Rows.uptoBulk d.1 ≤ N + 1) (hN9 : N ≤ 1048576)
    (hX : ∀ (c : Value) (fuel : Nat) (x : DataW H × List MemPlace), DataW.trod enc Tryz.prog W 0 (fun _ => true) held fuel 23 [c] = some x → Rows.uptoBulk x.1 ≤ N → ∃ l, X c l ∧ (r l).length ≤ 200 * Rows.uptoBulk x.1) : ∃ c, CxR W X b o c ∧ (cxT r c).length + 2 ≤ 200 * Rows.uptoBulk d.1 := by
  match cs, hl with
  | [c0], _ =>
    obtain ⟨xs, k', _, hx', _, hl', hq⟩ := DataW.trod_struct Tryz.underlying40 hf
    match xs, hl' with
    | [y0], _ =>
      have q0' : DataW.trod enc Tryz.prog W 0 (fun _ => true) held k' 38 (([c0].drop 0).take (Tryz.prog.cellsOf 38)) = some y0 := hq 0 _ rfl
      rw [cPs] at q0'
      have q0 : DataW.trod enc Tryz.prog W 0 (fun _ => true) held k' 38 [c0] = some y0 := q0'
      have hD : d.1 = .agg [y0.1] := by simpa using congrArg Prod.fst hx'
      rw [hD] at hN ⊢
      simp only [Rows.uptoBulk, Rows.uptoBulkAll] at hN ⊢
      obtain ⟨ps, hps, hzs⟩ := row_openT Tryz.underlying38 cCp (by omega) (CpR W X) (fun p => (cpT r p).length) q0 (N := N) (by omega) hN9 (fun b o m cs d h1 h2 h3 h4 h5 => cp_openT h1 h2 h4 (by omega) hN9 hX)
      exact ⟨ps, ⟨c0, hc 0 (by omega), hps⟩, by unfold cxT; rw [fm_sum]; omega⟩
/-- A slice of selectors that comes in. -/
theorem cxs_openT {H : Type} {enc : TypeId × Value → H} {W : World} {held : Bool} (N : Nat) : ∀ (c : Value) (fuel : Nat) (x : DataW H × List MemPlace),
    DataW.trod enc Tryz.prog W 0 (fun _ => true) held fuel 23 [c] = some x → Rows.uptoBulk x.1 ≤ N → N ≤ 1048576 → ∃ l : List Cx, CM W N c l ∧ (lsT N l).length ≤ 200 * Rows.uptoBulk x.1 := by
  induction N with
  | zero => intro c fuel x hf hb; have := one_le x.1; omega
  | succ N ih =>
    intro c fuel x hf hb hN
    obtain ⟨l, h1, h2⟩ := row_openT (α := Cx) Tryz.underlying23 cCx (by omega) (CxR W (CM W N)) (fun c => (cxT (lsT N) c).length + 2) hf hb (by omega) (fun b o m cs d h1 h2 h3 h4 h5 => cx_openT h1 h2 h4 (by omega) (by omega) (fun c fuel x hx hbx => ih c fuel x hx hbx (by omega)))
    exact ⟨l, h1, Nat.le_trans (joT_sum (cxT (lsT N)) l) h2⟩
end Go.Proofs.YtmkbjcoagfnegaaGreatDoor.sel9

