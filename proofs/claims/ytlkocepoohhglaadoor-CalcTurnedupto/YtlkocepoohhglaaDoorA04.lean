/-
  A struct in a block of its own: written whole, told whole.
  Component values over raw tokens: plain, and in memory.
  Levels of a path; the small functions on values, by the program and by the reference.
  May these component values be: by the program.
-/
import Derived.Test.YtlkocepoohhglaaDoorA03
import Derived.Deep.MidRow
import Derived.Laws.AppendOwn
import Derived.Outline
set_option linter.unusedVariables false
set_option linter.unusedSimpArgs false
namespace Go.Proofs.YtlkocepoohhglaaDoor
open Go.RowKit

theorem setCells_grown (b : Nat) : ∀ (vs : List Value) (o : Nat) (w : World), w.grownBy (w.setCells b o vs) (some b) := by
  intro vs
  induction vs with
  | nil => intro o w; exact ⟨rfl, rfl, rfl, Nat.le_refl _, fun _ _ _ => rfl⟩
  | cons x r ih =>
    intro o w
    have h := ih (o + 1) (w.setCell ⟨b, o, none⟩ x)
    refine ⟨h.os, h.tape, h.output, ?_, fun k hk hne => ?_⟩
    · exact Nat.le_trans (by simp [World.setCell]) h.size
    · exact (h.block k (by simpa [World.setCell] using hk) hne).trans (Below.heap_setCell _ _ _ _ (fun e => hne (by rw [e])))
theorem setCells_size (b : Nat) (vs : List Value) (o : Nat) (w : World) : w.heap.size ≤ (w.setCells b o vs).heap.size := (setCells_grown b vs o w).size
theorem range_blk {w : World} {b : Nat} {cs : List Value} {T : TypeId} {q : Nat × Nat} (h : w.heap[b]? = some (.cells cs.toArray T q)) : w.rangeAt b 0 cs := fun j v hv => by
  rw [Nat.zero_add, row_blk h]; simpa using hv
theorem there_blk {w : World} {b : Nat} {cs : Array Value} {T : TypeId} {n : Nat} (h : w.heap[b]? = some (.cells cs T)) (hn : cs.size = n) : w.there b 0 n := fun j hj => by
  rw [Nat.zero_add]
  refine ⟨?_, by simp [World.frozen?, h]⟩
  rw [row_blk h, Array.getElem?_eq_getElem (by omega)]; rfl
/-- Behind a call that tells a struct, which lies in a block of its own. -/
theorem ret_cell {P : Program} {fn : Func} {R : Ending → World → Prop} {a : Act} {w : World} {t : Tmp} {ty : TypeId} {b : Nat} {cs : List Value} {d : TypeDesc} (hf : fn.results = #[.cell t ty]) (ht : a.tmps.getD t undef = .pointer (some ⟨b, 0, none⟩)) (hc : w.rangeAt b 0 cs)
    (hu : P.underlying ty = some d) (hr : d.isRow = true) (hi : (P.info? ty).map (·.size) = some cs.length) (hd : a.defers = []) (h : R (.returned (.agg cs.toArray)) w) : bodyPost P fn R .ret a w := by
  refine bodyPost_ret (v := .agg cs.toArray) ?_ hd h
  have hl := run_loadVar_mid (P := P) w b 0 ty cs d hc hu hr hi
  rw [Array.getD_eq_getD_getElem?] at ht
  simp [results, hf, ht, asAddr, hl]
theorem ret_cell2 {P : Program} {fn : Func} {R : Ending → World → Prop} {a : Act} {w : World} {t u : Tmp} {ty : TypeId} {b : Nat} {cs : List Value} {d : TypeDesc} {v : Value} (hf : fn.results = #[.cell t ty, .tmp u]) (ht : a.tmps.getD t undef = .pointer (some ⟨b, 0, none⟩)) (hv : a.tmps.getD u undef = v) (hc : w.rangeAt b 0 cs)
    (hu : P.underlying ty = some d) (hr : d.isRow = true) (hi : (P.info? ty).map (·.size) = some cs.length) (hd : a.defers = []) (h : R (.returned (.tuple #[.agg cs.toArray, v])) w) : bodyPost P fn R .ret a w := by
  refine bodyPost_ret (v := .tuple #[.agg cs.toArray, v]) ?_ hd h
  have hl := run_loadVar_mid (P := P) w b 0 ty cs d hc hu hr hi
  rw [Array.getD_eq_getD_getElem?] at ht hv
  simp [results, hf, ht, hv, asAddr, hl]
end Go.Proofs.YtlkocepoohhglaaDoor
set_option linter.unusedVariables false
set_option linter.unusedSimpArgs false
namespace Go.Proofs.YtlkocepoohhglaaDoor
open Go.RowKit

/-- The kind that closes; 0 of what opens nothing. -/
def cKn (k : Int) : Int := if k = 2 ∨ k = 21 then 22 else if k = 19 then 20 else if k = 23 then 24 else 0
def zT (k : Int) : TS := ⟨k, ⟨#[]⟩, 0, 0, false, false⟩
def clT (c : Int) : List TS := if c = 0 then [] else [zT c]
/-- A component value. -/
inductive VT where
  | mk (t : TS) (kids : List VT)
def VT.t : VT → TS | .mk t _ => t
def VT.ks : VT → List VT | .mk _ ks => ks
mutual
/-- The tokens of a value. -/
def flV : VT → List TS
  | .mk t ks => t :: (flL ks ++ clT (cKn t.k))
def flL : List VT → List TS
  | [] => []
  | v :: vs => flV v ++ flL vs
end
theorem flL_cons (v : VT) (vs : List VT) : flL (v :: vs) = v.t :: (flL v.ks ++ (clT (cKn v.t.k) ++ flL vs)) := by
  cases v with | mk t ks => rw [flL, flV]; simp [VT.t, VT.ks]
theorem flL_nil : flL [] = [] := by rw [flL]
theorem flL_app (a b : List VT) : flL (a ++ b) = flL a ++ flL b := by
  induction a with
  | nil => rw [flL_nil]; rfl
  | cons v r ih => rw [List.cons_append, flL_cons, flL_cons, ih]; simp
mutual
/-- How many they are. -/
def szV : VT → Nat
  | .mk t ks => szL ks + 1
def szL : List VT → Nat
  | [] => 0
  | v :: vs => szV v + szL vs
end
theorem szL_cons (v : VT) (vs : List VT) : szL (v :: vs) = szL v.ks + 1 + szL vs := by
  cases v with | mk t ks => rw [szL, szV]; rfl
theorem szL_nil : szL [] = 0 := by rw [szL]
mutual
/-- May they be, at most so deep? -/
def myV : VT → Nat → Bool
  | .mk t ks, left => (decide (1 ≤ t.k) && decide (t.k ≤ 24)) && (if cKn t.k = 0 then ks.isEmpty else (decide (0 < left) && myL ks (left - 1)))
def myL : List VT → Nat → Bool
  | [], _ => true
  | v :: vs, left => myV v left && myL vs left
end
theorem myL_nil (n : Nat) : myL [] n = true := by rw [myL]
theorem myL_cons (v : VT) (vs : List VT) (n : Nat) : myL (v :: vs) n = (((decide (1 ≤ v.t.k) && decide (v.t.k ≤ 24)) && (if cKn v.t.k = 0 then v.ks.isEmpty else (decide (0 < n) && myL v.ks (n - 1)))) && myL vs n) := by
  cases v with | mk t ks => rw [myL, myV]; rfl
theorem fl_len (l : List VT) : (flL l).length ≤ 2 * szL l := by
  generalize hn : szL l = n
  induction n using Nat.strongRecOn generalizing l with
  | ind n ih =>
    cases l with
    | nil => rw [flL_nil]; simp
    | cons v r =>
      rw [szL_cons] at hn
      rw [flL_cons]
      have h1 := ih (szL v.ks) (by omega) v.ks rfl
      have h2 := ih (szL r) (by omega) r rfl
      have h3 : (clT (cKn v.t.k)).length ≤ 1 := by unfold clT; split <;> simp
      simp only [List.length_cons, List.length_append]
      omega
/-- A slice of values in memory. -/
inductive VM (w : World) : Value → List VT → Prop
  | nil (a : Option Addr) (c : Nat) : VM w (.slice a 0 c) []
  | row (b o c : Nat) (l : List VT) (u : Nat → Value) (h0 : 0 < l.length) (hb : b < w.heap.size) (hc : l.length ≤ c) (hn : l.length ≤ 1000000000) (hm : c ≤ 9223372036854775807)
      (ht : ∀ i v, l[i]? = some v → Six4 w b (o + i * 7) v.t) (hu : ∀ i v, l[i]? = some v → w.cell? ⟨b, o + i * 7 + 6, none⟩ = some (u i))
      (hk : ∀ i v, l[i]? = some v → VM w (u i) v.ks) : VM w (.slice (some ⟨b, o, none⟩) l.length c) l
theorem VM.low {w w' : World} {v : Value} {l : List VT} (h : VM w v l) (hw : Below w.heap.size w w') : VM w' v l := by
  induction h with
  | nil a c => exact .nil a c
  | row b o c l u h0 hb hc hn hm ht hu _ ih => exact .row b o c l u h0 (Nat.lt_of_lt_of_le hb hw.size) hc hn hm (fun i v hi => (ht i v hi).below hw hb) (fun i v hi => (hw.cell (p := ⟨b, o + i * 7 + 6, none⟩) hb).trans (hu i v hi)) ih
theorem VM.shape {w : World} {v : Value} {l : List VT} (h : VM w v l) : ∃ a c, v = .slice a l.length c ∧ l.length ≤ 1000000000 := by
  cases h with
  | nil a c => exact ⟨a, c, rfl, by simp⟩
  | row b o c l u h0 hb hc hn hm ht hu hk => exact ⟨_, _, rfl, hn⟩
/-- The first value of a slice, and the rest. -/
theorem VM.head {w : World} {v : Value} {x : VT} {l : List VT} (h : VM w v (x :: l)) : ∃ b o c u, v = .slice (some ⟨b, o, none⟩) (l.length + 1) c ∧ b < w.heap.size ∧ l.length + 1 ≤ c ∧ c ≤ 9223372036854775807 ∧ l.length + 1 ≤ 1000000000 ∧ Six4 w b o x.t ∧ w.cell? ⟨b, o + 6, none⟩ = some u ∧ VM w u x.ks ∧ VM w (.slice (some ⟨b, o + 7, none⟩) l.length (c - 1)) l := by
  cases h with
  | row b o c l' u h0 hb hc hn hm ht hu hk =>
    have t0 := ht 0 x rfl
    have u0 := hu 0 x rfl
    rw [Nat.zero_mul, Nat.add_zero] at t0 u0
    refine ⟨b, o, c, u 0, rfl, hb, hc, hm, hn, t0, u0, hk 0 x rfl, ?_⟩
    by_cases hl : l = []
    · subst hl; exact .nil _ _
    · have hl' : 0 < l.length := List.length_pos_iff.2 hl
      simp only [List.length_cons] at hc hn
      refine .row b (o + 7) (c - 1) l (fun i => u (i + 1)) hl' hb (by omega) (by omega) (by omega) (fun i v hi => ?_) (fun i v hi => ?_) (fun i v hi => hk (i + 1) v hi)
      · have := ht (i + 1) v hi; rwa [show o + (i + 1) * 7 = o + 7 + i * 7 by omega] at this
      · have := hu (i + 1) v hi; rwa [show o + (i + 1) * 7 + 6 = o + 7 + i * 7 + 6 by omega] at this
/-- One value of a slice. -/
theorem VM.at {w : World} {v : Value} {l : List VT} (h : VM w v l) {i : Nat} {x : VT} (hi : l[i]? = some x) : ∃ b o c u, v = .slice (some ⟨b, o, none⟩) l.length c ∧ b < w.heap.size ∧ Six4 w b (o + i * 7) x.t ∧ w.cell? ⟨b, o + i * 7 + 6, none⟩ = some u ∧ VM w u x.ks := by
  cases h with
  | nil a c => simp at hi
  | row b o c l u h0 hb hc hn hm ht hu hk => exact ⟨b, o, c, u i, rfl, hb, ht i x hi, hu i x hi, hk i x hi⟩
/-! ### Rows that a call owns -/
theorem ownsRow_blk {w : World} {base : Nat} {e : TypeId} {sz : Nat} {v : Value} {n : Nat} {xs : List Value} (h : w.ownsRow base e sz v n xs) (hn : 0 < n) : ∃ g cap cur, v = .slice (some ⟨g, 0, none⟩) n cap ∧ base ≤ g ∧ w.heap[g]? = some (.cells cur e (0, 0)) ∧ n ≤ cap ∧ cap ≤ maxLen ∧ cur.size = cap * sz ∧ cur.toList.take (n * sz) = xs := by
  rcases h.2 with ⟨_, h0⟩ | h1
  · omega
  · exact h1
/-- A shorter one. -/
theorem ownsRow_cut {w : World} {base : Nat} {e : TypeId} {sz g cap n : Nat} {xs ys : List Value} (h : w.ownsRow base e sz (.slice (some ⟨g, 0, none⟩) (n + 1) cap) (n + 1) (xs ++ ys)) (hx : xs.length = n * sz) : w.ownsRow base e sz (.slice (some ⟨g, 0, none⟩) n cap) n xs := by
  refine ⟨hx, ?_⟩
  rcases h.2 with ⟨h1, _⟩ | ⟨g', cap', cur, hv, hb, hg, hn, hm, hs, ht⟩
  · cases h1
  · cases hv
    refine .inr ⟨g, cap, cur, rfl, hb, hg, by omega, hm, hs, ?_⟩
    have := congrArg (List.take (n * sz)) ht
    rw [List.take_take, Nat.min_eq_left (Nat.mul_le_mul_right _ (by omega)), ← hx, List.take_left'] at this
    rwa [hx] at this
    rfl
theorem setCell_blk {w : World} {g j : Nat} {cur : Array Value} {e : TypeId} {q : Nat × Nat} (hg : w.heap[g]? = some (.cells cur e q)) (u : Value) : (w.setCell ⟨g, j, none⟩ u).heap[g]? = some (.cells (cur.set! j u) e q) := by
  obtain ⟨hlt, he⟩ := Array.getElem?_eq_some_iff.1 hg
  simp [World.setCell, hlt, Array.getElem_modify, he]
/-- One cell is put. -/
theorem ownsRow_set {w : World} {base : Nat} {e : TypeId} {sz g cap n : Nat} {xs : List Value} (h : w.ownsRow base e sz (.slice (some ⟨g, 0, none⟩) n cap) n xs) (j : Nat) (u : Value) : (w.setCell ⟨g, j, none⟩ u).ownsRow base e sz (.slice (some ⟨g, 0, none⟩) n cap) n (xs.set j u) := by
  refine ⟨by rw [List.length_set]; exact h.1, ?_⟩
  rcases h.2 with ⟨h1, _⟩ | ⟨g', cap', cur, hv, hb, hg, hn, hm, hs, ht⟩
  · cases h1
  · cases hv
    refine .inr ⟨g, cap, _, rfl, hb, setCell_blk hg u, hn, hm, by simp [hs], ?_⟩
    rw [← ht]
    simp [Array.set!_eq_setIfInBounds, List.take_set]
end Go.Proofs.YtlkocepoohhglaaDoor
set_option linter.unusedVariables false
set_option linter.unusedSimpArgs false
namespace Go.Proofs.YtlkocepoohhglaaDoor
open Go.RowKit

theorem ck_cases (k : Int) : k = 2 ∨ k = 21 ∨ k = 19 ∨ k = 23 ∨ (k ≠ 2 ∧ k ≠ 21 ∧ k ≠ 19 ∧ k ≠ 23 ∧ cKn k = 0) := by
  by_cases h1 : k = 2
  · exact .inl h1
  by_cases h2 : k = 21
  · exact .inr (.inl h2)
  by_cases h3 : k = 19
  · exact .inr (.inr (.inl h3))
  by_cases h4 : k = 23
  · exact .inr (.inr (.inr (.inl h4)))
  exact .inr (.inr (.inr (.inr ⟨h1, h2, h3, h4, by simp [cKn, h1, h2, h3, h4]⟩)))
theorem closerOf_any (k : Int) (w : World) : Calls Tryd.prog 42 #[.int .i64 k] w fun e w' => e = .returned (.int .i64 (cKn k)) ∧ w' = w := by
  rcases ck_cases k with rfl | rfl | rfl | rfl | ⟨h1, h2, h3, h4, h5⟩
  case inr.inr.inr.inr =>
    have H := hide h5
    have g1 : (k == 2) = false := by simpa using h1
    have g2 : (k == 21) = false := by simpa using h2
    have g3 : (k == 19) = false := by simpa using h3
    have g4 : (k == 23) = false := by simpa using h4
    clear h5
    go_enter Tryd.func42, Tryd.ntmps42
    go_wp2
    go_ret
    exact ⟨by rw [H.out]; rfl, rfl⟩
  all_goals
    go_enter Tryd.func42, Tryd.ntmps42
    go_wp2
    go_ret
    exact ⟨rfl, rfl⟩
theorem closer5_any (k : Int) (w : World) : Calls Tryd.prog 47 #[.int .i64 k] w fun e w' => e = .returned (.int .i64 (cKn k)) ∧ w' = w := by
  rcases ck_cases k with rfl | rfl | rfl | rfl | ⟨h1, h2, h3, h4, h5⟩
  case inr.inr.inr.inr =>
    have H := hide h5
    have g1 : (k == 2) = false := by simpa using h1
    have g2 : (k == 21) = false := by simpa using h2
    have g3 : (k == 19) = false := by simpa using h3
    have g4 : (k == 23) = false := by simpa using h4
    clear h5
    go_enter Tryd.func47, Tryd.ntmps47
    go_wp2
    go_ret
    exact ⟨by rw [H.out]; rfl, rfl⟩
  all_goals
    go_enter Tryd.func47, Tryd.ntmps47
    go_wp2
    go_ret
    exact ⟨rfl, rfl⟩
theorem isKind_any (k : Int) (w : World) : Calls Tryd.prog 41 #[.int .i64 k] w fun e w' => e = .returned (.bool (decide (1 ≤ k) && decide (k ≤ 24))) ∧ w' = w := by
  by_cases h1 : 1 ≤ k <;> by_cases h2 : k ≤ 24
  all_goals
    go_enter Tryd.func41, Tryd.ntmps41
    go_wp2
    go_ret
    exact ⟨ret_bool (by simp [h1, h2]), rfl⟩
def vtV (t : TS) (u : Value) : Value := .agg #[.int .i64 t.k, .string t.s, .int .i64 t.n, .int .i64 t.d, .bool t.i, .bool t.h, u]
def PostTk (g p b o c m : Nat) (t : TS) (u : Value) (w : World) (e : Ending) (w' : World) : Prop :=
  e = .returned (vtV t u) ∧ ∃ a o1 o2, (0 < m → a = some ⟨b, o + 7, none⟩) ∧ w' = ((w.setCell ⟨g, p, none⟩ (.slice a m (c - 1))).alloc o1).alloc o2
theorem PostTk.mk {g p b o c m : Nat} {t : TS} {u : Value} {w : World} {e : Ending} {w' : World} (h : e = .returned (vtV t u)) (a : Option Addr) (o1 o2 : Obj) (h1 : 0 < m → a = some ⟨b, o + 7, none⟩) (h2 : w' = ((w.setCell ⟨g, p, none⟩ (.slice a m (c - 1))).alloc o1).alloc o2) : PostTk g p b o c m t u w e w' := ⟨h, a, o1, o2, h1, h2⟩
set_option maxHeartbeats 1000000 in
/-- The first value of a level is taken. -/
theorem take_any (g p b o c m : Nat) (t : TS) (u : Value) (w : World) (hg : w.cell? ⟨g, p, none⟩ = some (.slice (some ⟨b, o, none⟩) (m + 1) c)) (hf : w.frozen? ⟨g, p, none⟩ = false) (hgb : g ≠ b) (hgs : g < w.heap.size) (hbs : b < w.heap.size)
    (hc : m + 1 ≤ c) (hc9 : c ≤ 9223372036854775807) (ht : Six4 w b o t) (hu : w.cell? ⟨b, o + 6, none⟩ = some u) (hs : ∃ a n c, u = .slice a n c) :
    Calls Tryd.prog 40 #[.pointer (some ⟨g, p, none⟩)] w fun e w' => PostTk g p b o c m t u w e w' := by
  obtain ⟨c0, c1, c2, c3, c4, c5⟩ := ht
  obtain ⟨ua, un, uc, rfl⟩ := hs
  have n1 : g ≠ w.heap.size := by omega
  have n2 : b ≠ w.heap.size := by omega
  have n3 : w.heap.size ≠ g := by omega
  have n4 : w.heap.size ≠ b := by omega
  have n5 : b ≠ g := by omega
  go_enter Tryd.func40, Tryd.ntmps40
  go_wp2
  all_goals
    refine bodyPost_ret (v := vtV t (.slice ua un uc)) (by simp [results, Tryd.results40, go_sem, vtV]) rfl ?_
    refine .mk rfl _ _ _ (fun h => ?_) (by first | rfl | (subst_vars; rfl))
    first | rfl | omega
end Go.Proofs.YtlkocepoohhglaaDoor
set_option linter.unusedVariables false
set_option linter.unusedSimpArgs false
namespace Go.Proofs.YtlkocepoohhglaaDoor
open Go.RowKit

/-- A level of the path: the slice, what it holds, what is to stand behind it. -/
structure Lv where
  u : Value
  r : List VT
  c : Int
def lvC (x : Lv) : List Value := [x.u, .int .i64 x.c]
def lvs (ps : List Lv) : List Value := ps.flatMap lvC
theorem lvs_len (ps : List Lv) : (lvs ps).length = ps.length * 2 := by
  induction ps with
  | nil => rfl
  | cons x r ih => unfold lvs at *; rw [List.flatMap_cons, List.length_append, ih]; simp [lvC]; omega
theorem lvs_snoc (ps : List Lv) (x : Lv) : lvs (ps ++ [x]) = lvs ps ++ lvC x := by simp [lvs]
theorem lvs_at0 (ps : List Lv) (x : Lv) : (lvs (ps ++ [x]))[ps.length * 2]? = some x.u := by
  rw [lvs_snoc, List.getElem?_append_right (by rw [lvs_len]; omega), lvs_len]; simp [lvC]
theorem lvs_at1 (ps : List Lv) (x : Lv) : (lvs (ps ++ [x]))[ps.length * 2 + 1]? = some (.int .i64 x.c) := by
  rw [lvs_snoc, List.getElem?_append_right (by rw [lvs_len]; omega), lvs_len]; simp [lvC]
theorem lvs_set (ps : List Lv) (x : Lv) (u : Value) (r : List VT) : (lvs (ps ++ [x])).set (ps.length * 2) u = lvs (ps ++ [⟨u, r, x.c⟩]) := by
  rw [lvs_snoc, lvs_snoc, List.set_append_right _ _ (by rw [lvs_len]; omega), lvs_len]; simp [lvC]
/-- A path in memory. -/
structure PathM (w wr : World) (v : Value) (ps : List Lv) : Prop where
  own : wr.ownsRow w.heap.size 62 2 v ps.length (lvs ps)
  vm : ∀ x ∈ ps, VM w x.u x.r
  bel : Below w.heap.size w wr
theorem PathM.top {w wr : World} {v : Value} {qs : List Lv} {x : Lv} (h : PathM w wr v (qs ++ [x])) : ∃ g cap, v = .slice (some ⟨g, 0, none⟩) (qs.length + 1) cap ∧ w.heap.size ≤ g ∧ g < wr.heap.size ∧ qs.length + 1 ≤ cap ∧ cap ≤ 9223372036854775807 ∧ wr.cell? ⟨g, qs.length * 2, none⟩ = some x.u ∧ wr.cell? ⟨g, qs.length * 2 + 1, none⟩ = some (.int .i64 x.c) ∧ wr.frozen? ⟨g, qs.length * 2, none⟩ = false := by
  have h1 := h.own
  rw [List.length_append, List.length_singleton] at h1
  obtain ⟨g, cap, cur, hv, hb, hg, hn, hm, hs, ht⟩ := ownsRow_blk h1 (by omega)
  have a0 := lvs_at0 qs x
  have a1 := lvs_at1 qs x
  rw [← ht] at a0 a1
  rw [List.getElem?_take_of_lt (by omega)] at a0 a1
  unfold maxLen at hm
  refine ⟨g, cap, hv, hb, (Array.getElem?_eq_some_iff.1 hg).1, hn, hm, ?_, ?_, ?_⟩
  · rw [row_blk hg, ← a0, Array.getElem?_toList]
  · rw [row_blk hg, ← a1, Array.getElem?_toList]
  · simp [World.frozen?, hg]
theorem PathM.pop {w wr : World} {g cap : Nat} {qs : List Lv} {x : Lv} (h : PathM w wr (.slice (some ⟨g, 0, none⟩) (qs.length + 1) cap) (qs ++ [x])) : PathM w wr (.slice (some ⟨g, 0, none⟩) qs.length cap) qs := by
  have h1 := h.own
  rw [List.length_append, List.length_singleton, lvs_snoc] at h1
  exact ⟨ownsRow_cut h1 (lvs_len qs), fun y hy => h.vm y (List.mem_append_left _ hy), h.bel⟩
theorem PathM.take {w wr : World} {g cap : Nat} {qs : List Lv} {x : Lv} (h : PathM w wr (.slice (some ⟨g, 0, none⟩) (qs.length + 1) cap) (qs ++ [x])) (hg : w.heap.size ≤ g) (u : Value) (r : List VT) (hu : VM w u r) (o1 o2 : Obj) :
    PathM w (((wr.setCell ⟨g, qs.length * 2, none⟩ u).alloc o1).alloc o2) (.slice (some ⟨g, 0, none⟩) (qs.length + 1) cap) (qs ++ [⟨u, r, x.c⟩]) := by
  have h1 := h.own
  rw [List.length_append, List.length_singleton] at h1
  have h2 := ownsRow_set h1 (qs.length * 2) u
  rw [lvs_set qs x u r] at h2
  refine ⟨by rw [List.length_append, List.length_singleton]; exact (h2.alloc o1).alloc o2, fun y hy => ?_, bplus (bplus (h.bel.setCell hg u) o1) o2⟩
  rw [List.mem_append, List.mem_singleton] at hy
  rcases hy with hy | rfl
  · exact h.vm y (List.mem_append_left _ hy)
  · exact hu
theorem PathM.alloc {w wr : World} {v : Value} {ps : List Lv} (h : PathM w wr v ps) (o : Obj) : PathM w (wr.alloc o) v ps := ⟨h.own.alloc o, h.vm, bplus h.bel o⟩
theorem PathM.push {w wr w1 : World} {v v' : Value} {ps : List Lv} {x : Lv} {o : Obj} (h : PathM w wr v ps) (hx : VM w x.u x.r)
    (h1 : w1.ownsRow w.heap.size 62 2 v' (ps.length + 1) (lvs ps ++ lvC x)) (hg : (wr.alloc o).grownBy w1 v.ownBlock) : PathM w w1 v' (ps ++ [x]) := by
  refine ⟨by rw [List.length_append, List.length_singleton, lvs_snoc]; exact h1, fun y hy => ?_, ?_⟩
  · rw [List.mem_append, List.mem_singleton] at hy
    rcases hy with hy | rfl
    · exact h.vm y hy
    · exact hx
  · exact (h.bel.alloc h.bel.size o).grown hg (by have := h.bel.size; simp; omega) (fun k hk => (h.own.lt k hk).1)
/-- How much is left. -/
def meP : List Lv → Nat
  | [] => 0
  | x :: r => 2 * szL x.r + 1 + meP r
theorem meP_snoc (ps : List Lv) (x : Lv) : meP (ps ++ [x]) = meP ps + (2 * szL x.r + 1) := by
  induction ps with
  | nil => simp [meP]
  | cons y r ih => rw [List.cons_append, meP, meP, ih]; omega
/-- May all that is left be? -/
def myP : List Lv → Nat → Bool
  | [], _ => true
  | x :: r, n => myL x.r (64 - n) && myP r (n + 1)
theorem myP_snoc (ps : List Lv) (x : Lv) (n : Nat) : myP (ps ++ [x]) n = (myP ps n && myL x.r (64 - (n + ps.length))) := by
  induction ps generalizing n with
  | nil => simp [myP]
  | cons y r ih => rw [List.cons_append, myP, myP, ih, List.length_cons, Bool.and_assoc]; congr 3; omega
def RelMy (w : World) (l : List VT) (g : Nat) (v : Value) (wr : World) : Prop := ∃ ps, PathM w wr v ps ∧ meP ps ≤ g ∧ ps.length ≤ 65 ∧ Hid (myL l 64 = myP ps 0)
theorem RelMy.mk {w : World} {l : List VT} {g : Nat} {v : Value} {wr : World} (ps : List Lv) (h1 : PathM w wr v ps) (h2 : meP ps ≤ g) (h3 : ps.length ≤ 65) (h4 : myL l 64 = myP ps 0) : RelMy w l g v wr := ⟨ps, h1, h2, h3, h4⟩
theorem infoL : (Tryd.prog.info? 62).map (fun i => (i.zero, i.size, i.bytes)) = some (some (.agg #[.slice none 0 0, .int .i64 0]), 2, 32) := by kernel_rfl
theorem PathM.one (w : World) (u : Value) (l : List VT) (h : VM w u l) : PathM w (w.alloc (.cells #[u, .int .i64 0] 62)) (.slice (some ⟨w.heap.size, 0, none⟩) 1 1) [⟨u, l, 0⟩] :=
  ⟨⟨by simp [lvs, lvC], .inr ⟨w.heap.size, 1, #[u, .int .i64 0], rfl, Nat.le_refl _, heap_alloc_new w _, Nat.le_refl _, by decide, by simp, by simp [lvs, lvC]⟩⟩, fun y hy => by rw [List.mem_singleton] at hy; subst hy; exact h, bplus (Below.refl _ _) _⟩
theorem news2 (w : World) (g : Nat) (u0 u1 : Value) (t : TypeId) (hg : g = w.heap.size) : ∀ j x, [u0, u1][j]? = some x → (w.alloc (.cells #[u0, u1] t)).cell? ((⟨g, 0, none⟩ : Addr).add j) = some x := fun j x hx => by
  subst hg
  match j, hx with
  | 0, hx => simp at hx; subst hx; simp [Addr.add]
  | 1, hx => simp at hx; subst hx; simp [Addr.add]
theorem PathM.taken {w wr w1 : World} {g cap b o c : Nat} {qs : List Lv} {x : Lv} {y : VT} {r : List VT} {u : Value} {e : Ending} (h : PathM w wr (.slice (some ⟨g, 0, none⟩) (qs.length + 1) cap) (qs ++ [x])) (hg : w.heap.size ≤ g)
    (ht : VM w (.slice (some ⟨b, o + 7, none⟩) r.length (c - 1)) r) (T : PostTk g (qs.length * 2) b o c r.length y.t u wr e w1) : e = .returned (vtV y.t u) ∧ ∃ z, PathM w w1 (.slice (some ⟨g, 0, none⟩) (qs.length + 1) cap) (qs ++ [⟨z, r, x.c⟩]) := by
  obtain ⟨he, a, o1, o2, ha, rfl⟩ := T
  refine ⟨he, _, h.take hg _ r ?_ o1 o2⟩
  by_cases hr : r = []
  · subst hr; exact .nil _ _
  · rw [ha (List.length_pos_iff.2 hr)]; exact ht
theorem last_cases {α : Type} (l : List α) : l = [] ∨ ∃ qs x, l = qs ++ [x] := by
  cases l with
  | nil => exact .inl rfl
  | cons a r => exact .inr ⟨(a :: r).dropLast, (a :: r).getLast (by simp), (List.dropLast_concat_getLast (by simp)).symm⟩
theorem my_bad {b : Bool} {x y : Bool} (h : b = (x && y)) (g : y = false) : b = false := by rw [h, g]; simp
set_option maxRecDepth 100000 in
set_option maxHeartbeats 1000000 in
theorem may5_any (l : List VT) (v : Value) (w : World) (hv : VM w v l) :
    Calls Tryd.prog 29 #[v] w fun e w' => e = .returned (.bool (myL l 64)) ∧ Below w.heap.size w w' := by
  obtain ⟨i0, hi, hz0, hz1, hz2⟩ := info_parts infoL
  obtain ⟨a, c, rfl, hl9⟩ := hv.shape
  have P0 := hide (PathM.one w _ l hv)
  clear hv
  go_enter Tryd.func29, Tryd.ntmps29
  go_wp2
  go_loopg [3] (2 * szL l + 1) (fun g tv wr => RelMy w l g tv wr)
  case atStart => exact .mk _ P0.out (by simp [meP]) (by simp) (by simp [myP])
  case round =>
    clear P0
    obtain ⟨ps, PM, hm, h65, R⟩ := hrel
    rcases last_cases ps with rfl | ⟨qs, x, rfl⟩
    · have E := hide (show myL l 64 = true from R.out)
      have B := hide PM.bel
      obtain ⟨ga, gn, gc, hv⟩ : ∃ a n c, u3 = .slice a n c := by
        rcases PM.own.2 with ⟨h, _⟩ | ⟨g, cap, cur, h, _⟩
        · exact ⟨_, _, _, h⟩
        · exact ⟨_, _, _, h⟩
      have hn0 : gn = 0 := by
        rcases PM.own.2 with ⟨h, _⟩ | ⟨g, cap, cur, h, _⟩
        · rw [h] at hv; cases hv; rfl
        · rw [h] at hv; cases hv; rfl
      subst hv hn0
      clear PM
      go_wp2
      go_ret
      exact ⟨ret_bool E.out.symm, B.out⟩
    obtain ⟨g, cap, hv, hg1, hg2, hcap, hcap9, k0, k1, kf⟩ := PM.top
    subst hv
    rw [List.length_append, List.length_singleton] at h65
    have P := hide PM
    have HX := hide (PM.vm x (List.mem_append_right _ (List.mem_singleton.2 rfl)))
    have BE := hide PM.bel
    have R2 := hide (R.out.trans (myP_snoc qs x 0))
    rw [meP_snoc] at hm
    obtain ⟨xu, xr, xc⟩ := x
    simp only at k0 k1 HX hm R2
    clear PM R
    have q9 : qs.length ≤ 64 := by omega
    cases xr with
    | nil =>
      obtain ⟨a1, c1, hu, _⟩ := HX.out.shape
      subst hu
      have E := hide (show myL l 64 = myP qs 0 by rw [R2.out, myL_nil]; simp)
      have PP := hide P.out.pop
      have HL := hide (show qs.length ≤ 65 by omega)
      clear P R2 HX
      generalize qs.length = m at k0 k1 kf h65 hcap q9 PP ⊢
      go_wp2
      go_roundg (gk - 1)
      case measure => omega
      case rel => exact .mk qs PP.out (by omega) HL.out E.out
    | cons y r =>
      obtain ⟨b, o, cc, u, hu, hb, hcc, hcc9, hr9, t6, hk, hku, htl⟩ := HX.out.head
      subst hu
      obtain ⟨ua, uc, hus, hks9⟩ := hku.shape
      have T6 := hide (t6.below BE.out hb)
      have U6 := hide ((BE.out.cell (p := ⟨b, o + 6, none⟩) hb).trans hk)
      have TL := hide htl
      have KU := hide hku
      have US := hide hus
      rw [szL_cons] at hm
      rw [myL_cons, Nat.zero_add] at R2
      clear hk hku htl t6 HX
      have hgb : g ≠ b := by omega
      have hbw : b < wr.heap.size := by have := BE.out.size; omega
      have TK := hide (take_any g (qs.length * 2) b o cc r.length y.t u wr k0 kf hgb hg2 hbw hcc hcc9 T6.out U6.out ⟨_, _, _, US.out⟩)
      have TP := hide (fun (e : Ending) (w1 : World) (h : PostTk g (qs.length * 2) b o cc r.length y.t u wr e w1) => P.out.taken (y := y) hg1 TL.out h)
      have HL := hide (show qs.length ≤ 64 by omega)
      clear P T6 U6
      obtain ⟨⟨k, ts, tn, td, ti, th⟩, yk⟩ := y
      simp only [VT.t, VT.ks] at *
      unfold vtV at TP
      subst hus
      obtain ⟨m, hml⟩ : ∃ m, qs.length = m := ⟨_, rfl⟩
      have ML := hide hml
      rw [hml] at k0 k1 kf h65 hcap q9 TK TP R2 ⊢
      clear hml
      replace R2 := hide (show myL l 64 = (myP qs 0 && (((decide (1 ≤ k) && decide (k ≤ 24)) && if cKn k = 0 then yk.isEmpty else (decide (0 < 64 - m) && myL yk (64 - m - 1))) && myL r (64 - m))) from R2.out)
      by_cases hk12 : 1 ≤ k ∧ k ≤ 24
      case neg =>
        have K1 := hide (show (decide (1 ≤ k) && decide (k ≤ 24)) = false by rw [Bool.eq_false_iff]; intro h; simp at h; exact hk12 h)
        have F := hide (my_bad R2.out (by rw [K1.out]; simp))
        clear hk12
        go_wp2_with (first
          | (go_at_call 40; refine TK.out.mono ?_; rintro e w1 h1; obtain ⟨he, z, PZ⟩ := TP.out e w1 h1; subst he; replace PZ := hide PZ; clear h1)
          | (go_at_call 41; refine (isKind_any _ _).mono ?_; rintro e w2 ⟨rfl, rfl⟩; rw [K1.out]))
        go_ret
        exact ⟨ret_bool F.out.symm, by first | exact PZ.out.bel | exact bplus PZ.out.bel _ | exact bplus (bplus PZ.out.bel _) _⟩
      have K1 := hide (show (decide (1 ≤ k) && decide (k ≤ 24)) = true by simp [hk12])
      clear hk12
      rw [K1.out, Bool.true_and] at R2
      by_cases hc0 : cKn k = 0
      · have K2 := hide hc0
        rw [if_pos hc0] at R2
        clear hc0
        by_cases hy : yk = []
        · subst hy
          have E := hide (show myL l 64 = (myP qs 0 && myL r (64 - m)) by rw [R2.out]; simp)
          clear R2
          go_wp2_with (first
            | (go_at_call 40; refine TK.out.mono ?_; rintro e w1 h1; obtain ⟨he, z, PZ⟩ := TP.out e w1 h1; subst he; replace PZ := hide PZ; clear h1)
            | (go_at_call 41; refine (isKind_any _ _).mono ?_; rintro e w2 ⟨rfl, rfl⟩; rw [K1.out])
            | (go_at_call 42; refine (closerOf_any _ _).mono ?_; rintro e w3 ⟨rfl, rfl⟩; (try rw [K2.out])))
          go_roundg (gk - 1)
          case measure => omega
          case rel => exact .mk _ (by first | exact PZ.out | exact PZ.out.alloc _ | exact (PZ.out.alloc _).alloc _) (by rw [meP_snoc]; simp only; omega) (by rw [List.length_append, List.length_singleton]; have := HL.out; omega) (by rw [E.out, myP_snoc, Nat.zero_add, ML.out])
        · have hy0 : 0 < yk.length := List.length_pos_iff.2 hy
          have F := hide (my_bad R2.out (by cases yk with | nil => exact absurd rfl hy | cons _ _ => simp))
          have hy1 : (0 : Int) < yk.length := by omega
          clear hy
          go_wp2_with (first
            | (go_at_call 40; refine TK.out.mono ?_; rintro e w1 h1; obtain ⟨he, z, PZ⟩ := TP.out e w1 h1; subst he; replace PZ := hide PZ; clear h1)
            | (go_at_call 41; refine (isKind_any _ _).mono ?_; rintro e w2 ⟨rfl, rfl⟩; rw [K1.out])
            | (go_at_call 42; refine (closerOf_any _ _).mono ?_; rintro e w3 ⟨rfl, rfl⟩; (try rw [K2.out])))
          go_ret
          exact ⟨ret_bool F.out.symm, by first | exact PZ.out.bel | exact bplus PZ.out.bel _ | exact bplus (bplus PZ.out.bel _) _⟩
      · have hc1 : ¬ cKn k = 0 := hc0
        have hc2 : (cKn k == 0) = false := by simpa using hc0
        rw [if_neg hc0] at R2
        clear hc0
        have K2 := hide (show True from trivial)
        by_cases h64 : m < 64
        · have hd : decide (0 < 64 - m) = true := by simp; omega
          have E := hide (show myL l 64 = (myP qs 0 && (myL yk (64 - m - 1) && myL r (64 - m))) by rw [R2.out, hd]; simp)
          clear R2 hd
          have hm1 : (m : Int) + 1 ≤ 64 := by omega
          go_wp2_with (first
            | (go_at_call 40; refine TK.out.mono ?_; rintro e w1 h1; obtain ⟨he, z, PZ⟩ := TP.out e w1 h1; subst he; replace PZ := hide PZ; clear h1)
            | (go_at_call 41; refine (isKind_any _ _).mono ?_; rintro e w2 ⟨rfl, rfl⟩; rw [K1.out])
            | (go_at_call 42; refine (closerOf_any _ _).mono ?_; rintro e w3 ⟨rfl, rfl⟩; (try rw [K2.out]))
            | (at_builtin; refine wpList_append_own _ rfl _ _ 63 rfl w.heap.size 62 i0 _ 2 32 Tryd.underlying63 hi hz0 hz1 hz2 rfl (by decide) _ _ _ rfl ((PZ.out.alloc _).own.alloc _) ⟨_, 0, none⟩ 1 1 (lvC ⟨.slice ua yk.length uc, yk, 0⟩) rfl rfl (news2 _ _ _ _ _ (by simp)) (by intro u hu; simp [lvC] at hu; rcases hu with rfl | rfl <;> rfl) (by rw [List.length_append, List.length_singleton, ML.out]; unfold maxLen; omega) (by rw [List.length_append, List.length_singleton, ML.out]; omega) (by have := PZ.out.bel.size; simp; omega) ?_; intro v' w5 hown' hgrow _; replace PZ := hide ((PZ.out.alloc _).push (x := ⟨.slice ua yk.length uc, yk, 0⟩) KU.out hown' hgrow); clear hown' hgrow))
          go_roundg (gk - 1)
          case measure => omega
          case rel => exact .mk _ PZ.out (by rw [meP_snoc, meP_snoc]; simp only; omega) (by rw [List.length_append, List.length_append, List.length_singleton, List.length_singleton, ML.out]; omega) (by rw [E.out, myP_snoc, myP_snoc, List.length_append, List.length_singleton, ML.out]; simp only [Nat.zero_add]; rw [show 64 - m - 1 = 64 - (m + 1) by omega, Bool.and_assoc, Bool.and_comm (myL yk _)])
        · have F := hide (my_bad R2.out (by rw [show decide (0 < 64 - m) = false by simp; omega]; simp))
          have hm1 : (64 : Int) < (m : Int) + 1 := by omega
          go_wp2_with (first
            | (go_at_call 40; refine TK.out.mono ?_; rintro e w1 h1; obtain ⟨he, z, PZ⟩ := TP.out e w1 h1; subst he; replace PZ := hide PZ; clear h1)
            | (go_at_call 41; refine (isKind_any _ _).mono ?_; rintro e w2 ⟨rfl, rfl⟩; rw [K1.out])
            | (go_at_call 42; refine (closerOf_any _ _).mono ?_; rintro e w3 ⟨rfl, rfl⟩; (try rw [K2.out])))
          go_ret
          exact ⟨ret_bool F.out.symm, by first | exact PZ.out.bel | exact bplus PZ.out.bel _ | exact bplus (bplus PZ.out.bel _) _⟩
end Go.Proofs.YtlkocepoohhglaaDoor
