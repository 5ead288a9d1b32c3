/-
  Component values over raw tokens: plain, and in memory.
  Levels of a path; the small functions on values, by the program and by the reference.
  Characters by places: the program's looks.
  Where a name, a number, an escape begins, by the program.
-/
import Derived.Test.YtmkbjcoagfnegaaGreatDoorZ12
import Derived.Laws.AppendOwn
import Derived.Test.YtmkbjcoagfnegaaGreatDoorZ02
import Derived.Test.YtmkbjcoagfnegaaGreatDoorZ05
import Derived.Shelf.Abstract
set_option linter.unusedVariables false
set_option linter.unusedSimpArgs false
namespace Go.Proofs.YtmkbjcoagfnegaaGreatDoor
open Go.RowKit

/-- The kind that closes; 0 of what opens nothing. -/
def cKn (k : Int) : Int := if k = 2 ∨ k = 21 then 22 else if k = 19 then 20 else if k = 23 then 24 else 0
def zT (k : Int) : TS := ⟨k, ⟨#[]⟩, 0, 0, false, false⟩
def clT (c : Int) : List TS := if c = 0 then [] else [zT c]
/-- A component value. -/
inductive VT where
  | mk (t : TS) (kids : List VT)
def VT.t : VT → TS | .mk t _ => t
def VT.ks : VT → List VT | .mk _ ks => ks
mutual
/-- The tokens of a value. -/
def flV : VT → List TS
  | .mk t ks => t :: (flL ks ++ clT (cKn t.k))
def flL : List VT → List TS
  | [] => []
  | v :: vs => flV v ++ flL vs
end
mutual
/-- How many they are. -/
def szV : VT → Nat
  | .mk t ks => szL ks + 1
def szL : List VT → Nat
  | [] => 0
  | v :: vs => szV v + szL vs
end
theorem szL_cons (v : VT) (vs : List VT) : szL (v :: vs) = szL v.ks + 1 + szL vs := by
  cases v with | mk t ks => rw [szL, szV]; rfl
mutual
/-- May they be, at most so deep? -/
def myV : VT → Nat → Bool
  | .mk t ks, left => (decide (1 ≤ t.k) && decide (t.k ≤ 24)) && (if cKn t.k = 0 then ks.isEmpty else (decide (0 < left) && myL ks (left - 1)))
def myL : List VT → Nat → Bool
  | [], _ => true
  | v :: vs, left => myV v left && myL vs left
end
theorem myL_nil (n : Nat) : myL [] n = true := by rw [myL]
theorem myL_cons (v : VT) (vs : List VT) (n : Nat) : myL (v :: vs) n = (((decide (1 ≤ v.t.k) && decide (v.t.k ≤ 24)) && (if cKn v.t.k = 0 then v.ks.isEmpty else (decide (0 < n) && myL v.ks (n - 1)))) && myL vs n) := by
  cases v with | mk t ks => rw [myL, myV]; rfl
/-- A slice of values in memory. -/
inductive VM (w : World) : Value → List VT → Prop
  | nil (a : Option Addr) (c : Nat) : VM w (.slice a 0 c) []
  | row (b o c : Nat) (l : List VT) (u : Nat → Value) (h0 : 0 < l.length) (hb : b < w.heap.size) (hc : l.length ≤ c) (hn : l.length ≤ 1000000000) (hm : c ≤ 9223372036854775807)
      (ht : ∀ i v, l[i]? = some v → Six4 w b (o + i * 7) v.t) (hu : ∀ i v, l[i]? = some v → w.cell? ⟨b, o + i * 7 + 6, none⟩ = some (u i))
      (hk : ∀ i v, l[i]? = some v → VM w (u i) v.ks) : VM w (.slice (some ⟨b, o, none⟩) l.length c) l
theorem VM.low {w w' : World} {v : Value} {l : List VT} (h : VM w v l) (hw : Below w.heap.size w w') : VM w' v l := by
  induction h with
  | nil a c => exact .nil a c
  | row b o c l u h0 hb hc hn hm ht hu _ ih => exact .row b o c l u h0 (Nat.lt_of_lt_of_le hb hw.size) hc hn hm (fun i v hi => (ht i v hi).below hw hb) (fun i v hi => (hw.cell (p := ⟨b, o + i * 7 + 6, none⟩) hb).trans (hu i v hi)) ih
theorem VM.shape {w : World} {v : Value} {l : List VT} (h : VM w v l) : ∃ a c, v = .slice a l.length c ∧ l.length ≤ 1000000000 := by
  cases h with
  | nil a c => exact ⟨a, c, rfl, by simp⟩
  | row b o c l u h0 hb hc hn hm ht hu hk => exact ⟨_, _, rfl, hn⟩
/-- The first value of a slice, and the rest. -/
theorem VM.head {w : World} {v : Value} {x : VT} {l : List VT} (h : VM w v (x :: l)) : ∃ b o c u, v = .slice (some ⟨b, o, none⟩) (l.length + 1) c ∧ b < w.heap.size ∧ l.length + 1 ≤ c ∧ c ≤ 9223372036854775807 ∧ l.length + 1 ≤ 1000000000 ∧ Six4 w b o x.t ∧ w.cell? ⟨b, o + 6, none⟩ = some u ∧ VM w u x.ks ∧ VM w (.slice (some ⟨b, o + 7, none⟩) l.length (c - 1)) l := by
  cases h with
  | row b o c l' u h0 hb hc hn hm ht hu hk =>
    have t0 := ht 0 x rfl
    have u0 := hu 0 x rfl
    rw [Nat.zero_mul, Nat.add_zero] at t0 u0
    refine ⟨b, o, c, u 0, rfl, hb, hc, hm, hn, t0, u0, hk 0 x rfl, ?_⟩
    by_cases hl : l = []
    · subst hl; exact .nil _ _
    · have hl' : 0 < l.length := List.length_pos_iff.2 hl
      simp only [List.length_cons] at hc hn
      refine .row b (o + 7) (c - 1) l (fun i => u (i + 1)) hl' hb (by omega) (by omega) (by omega) (fun i v hi => ?_) (fun i v hi => ?_) (fun i v hi => hk (i + 1) v hi)
      · have := ht (i + 1) v hi; rwa [show o + (i + 1) * 7 = o + 7 + i * 7 by omega] at this
      · have := hu (i + 1) v hi; rwa [show o + (i + 1) * 7 + 6 = o + 7 + i * 7 + 6 by omega] at this
/-- One value of a slice. -/
theorem VM.at {w : World} {v : Value} {l : List VT} (h : VM w v l) {i : Nat} {x : VT} (hi : l[i]? = some x) : ∃ b o c u, v = .slice (some ⟨b, o, none⟩) l.length c ∧ b < w.heap.size ∧ Six4 w b (o + i * 7) x.t ∧ w.cell? ⟨b, o + i * 7 + 6, none⟩ = some u ∧ VM w u x.ks := by
  cases h with
  | nil a c => simp at hi
  | row b o c l u h0 hb hc hn hm ht hu hk => exact ⟨b, o, c, u i, rfl, hb, ht i x hi, hu i x hi, hk i x hi⟩
/-! ### Rows that a call owns -/
theorem ownsRow_blk {w : World} {base : Nat} {e : TypeId} {sz : Nat} {v : Value} {n : Nat} {xs : List Value} (h : w.ownsRow base e sz v n xs) (hn : 0 < n) : ∃ g cap cur, v = .slice (some ⟨g, 0, none⟩) n cap ∧ base ≤ g ∧ w.heap[g]? = some (.cells cur e (0, 0)) ∧ n ≤ cap ∧ cap ≤ maxLen ∧ cur.size = cap * sz ∧ cur.toList.take (n * sz) = xs := by
  rcases h.2 with ⟨_, h0⟩ | h1
  · omega
  · exact h1
/-- A shorter one. -/
theorem ownsRow_cut {w : World} {base : Nat} {e : TypeId} {sz g cap n : Nat} {xs ys : List Value} (h : w.ownsRow base e sz (.slice (some ⟨g, 0, none⟩) (n + 1) cap) (n + 1) (xs ++ ys)) (hx : xs.length = n * sz) : w.ownsRow base e sz (.slice (some ⟨g, 0, none⟩) n cap) n xs := by
  refine ⟨hx, ?_⟩
  rcases h.2 with ⟨h1, _⟩ | ⟨g', cap', cur, hv, hb, hg, hn, hm, hs, ht⟩
  · cases h1
  · cases hv
    refine .inr ⟨g, cap, cur, rfl, hb, hg, by omega, hm, hs, ?_⟩
    have := congrArg (List.take (n * sz)) ht
    rw [List.take_take, Nat.min_eq_left (Nat.mul_le_mul_right _ (by omega)), ← hx, List.take_left'] at this
    rwa [hx] at this
    rfl
theorem setCell_blk {w : World} {g j : Nat} {cur : Array Value} {e : TypeId} {q : Nat × Nat} (hg : w.heap[g]? = some (.cells cur e q)) (u : Value) : (w.setCell ⟨g, j, none⟩ u).heap[g]? = some (.cells (cur.set! j u) e q) := by
  obtain ⟨hlt, he⟩ := Array.getElem?_eq_some_iff.1 hg
  simp [World.setCell, hlt, Array.getElem_modify, he]
/-- One cell is put. -/
theorem ownsRow_set {w : World} {base : Nat} {e : TypeId} {sz g cap n : Nat} {xs : List Value} (h : w.ownsRow base e sz (.slice (some ⟨g, 0, none⟩) n cap) n xs) (j : Nat) (u : Value) : (w.setCell ⟨g, j, none⟩ u).ownsRow base e sz (.slice (some ⟨g, 0, none⟩) n cap) n (xs.set j u) := by
  refine ⟨by rw [List.length_set]; exact h.1, ?_⟩
  rcases h.2 with ⟨h1, _⟩ | ⟨g', cap', cur, hv, hb, hg, hn, hm, hs, ht⟩
  · cases h1
  · cases hv
    refine .inr ⟨g, cap, _, rfl, hb, setCell_blk hg u, hn, hm, by simp [hs], ?_⟩
    rw [← ht]
    simp [Array.set!_eq_setIfInBounds, List.take_set]
end Go.Proofs.YtmkbjcoagfnegaaGreatDoor
set_option linter.unusedVariables false
set_option linter.unusedSimpArgs false
namespace Go.Proofs.YtmkbjcoagfnegaaGreatDoor
open Go.RowKit

theorem ck_cases (k : Int) : k = 2 ∨ k = 21 ∨ k = 19 ∨ k = 23 ∨ (k ≠ 2 ∧ k ≠ 21 ∧ k ≠ 19 ∧ k ≠ 23 ∧ cKn k = 0) := by
  by_cases h1 : k = 2
  · exact .inl h1
  by_cases h2 : k = 21
  · exact .inr (.inl h2)
  by_cases h3 : k = 19
  · exact .inr (.inr (.inl h3))
  by_cases h4 : k = 23
  · exact .inr (.inr (.inr (.inl h4)))
  exact .inr (.inr (.inr (.inr ⟨h1, h2, h3, h4, by simp [cKn, h1, h2, h3, h4]⟩)))
theorem closerOf_any (k : Int) (w : World) : Calls Tryz.prog 42 #[.int .i64 k] w fun e w' => e = .returned (.int .i64 (cKn k)) ∧ w' = w := by
  rcases ck_cases k with rfl | rfl | rfl | rfl | ⟨h1, h2, h3, h4, h5⟩
  case inr.inr.inr.inr =>
    have H := hide h5
    have g1 : (k == 2) = false := by simpa using h1
    have g2 : (k == 21) = false := by simpa using h2
    have g3 : (k == 19) = false := by simpa using h3
    have g4 : (k == 23) = false := by simpa using h4
    clear h5
    go_enter Tryz.func42, Tryz.ntmps42
    go_wp2
    go_ret
    exact ⟨by rw [H.out]; rfl, rfl⟩
  all_goals
    go_enter Tryz.func42, Tryz.ntmps42
    go_wp2
    go_ret
    exact ⟨rfl, rfl⟩
theorem closer5_any (k : Int) (w : World) : Calls Tryz.prog 30 #[.int .i64 k] w fun e w' => e = .returned (.int .i64 (cKn k)) ∧ w' = w := by
  rcases ck_cases k with rfl | rfl | rfl | rfl | ⟨h1, h2, h3, h4, h5⟩
  case inr.inr.inr.inr =>
    have H := hide h5
    have g1 : (k == 2) = false := by simpa using h1
    have g2 : (k == 21) = false := by simpa using h2
    have g3 : (k == 19) = false := by simpa using h3
    have g4 : (k == 23) = false := by simpa using h4
    clear h5
    go_enter Tryz.func30, Tryz.ntmps30
    go_wp2
    go_ret
    exact ⟨by rw [H.out]; rfl, rfl⟩
  all_goals
    go_enter Tryz.func30, Tryz.ntmps30
    go_wp2
    go_ret
    exact ⟨rfl, rfl⟩
theorem isKind_any (k : Int) (w : World) : Calls Tryz.prog 41 #[.int .i64 k] w fun e w' => e = .returned (.bool (decide (1 ≤ k) && decide (k ≤ 24))) ∧ w' = w := by
  by_cases h1 : 1 ≤ k <;> by_cases h2 : k ≤ 24
  all_goals
    go_enter Tryz.func41, Tryz.ntmps41
    go_wp2
    go_ret
    exact ⟨ret_bool (by simp [h1, h2]), rfl⟩
def vtV (t : TS) (u : Value) : Value := .agg #[.int .i64 t.k, .string t.s, .int .i64 t.n, .int .i64 t.d, .bool t.i, .bool t.h, u]
def PostTk (g p b o c m : Nat) (t : TS) (u : Value) (w : World) (e : Ending) (w' : World) : Prop :=
  e = .returned (vtV t u) ∧ ∃ a o1 o2, (0 < m → a = some ⟨b, o + 7, none⟩) ∧ w' = ((w.setCell ⟨g, p, none⟩ (.slice a m (c - 1))).alloc o1).alloc o2
theorem PostTk.mk {g p b o c m : Nat} {t : TS} {u : Value} {w : World} {e : Ending} {w' : World} (h : e = .returned (vtV t u)) (a : Option Addr) (o1 o2 : Obj) (h1 : 0 < m → a = some ⟨b, o + 7, none⟩) (h2 : w' = ((w.setCell ⟨g, p, none⟩ (.slice a m (c - 1))).alloc o1).alloc o2) : PostTk g p b o c m t u w e w' := ⟨h, a, o1, o2, h1, h2⟩
set_option maxHeartbeats 1000000 in
/-- The first value of a level is taken. -/
theorem take_any (g p b o c m : Nat) (t : TS) (u : Value) (w : World) (hg : w.cell? ⟨g, p, none⟩ = some (.slice (some ⟨b, o, none⟩) (m + 1) c)) (hf : w.frozen? ⟨g, p, none⟩ = false) (hgb : g ≠ b) (hgs : g < w.heap.size) (hbs : b < w.heap.size)
    (hc : m + 1 ≤ c) (hc9 : c ≤ 9223372036854775807) (ht : Six4 w b o t) (hu : w.cell? ⟨b, o + 6, none⟩ = some u) (hs : ∃ a n c, u = .slice a n c) :
    Calls Tryz.prog 40 #[.pointer (some ⟨g, p, none⟩)] w fun e w' => PostTk g p b o c m t u w e w' := by
  obtain ⟨c0, c1, c2, c3, c4, c5⟩ := ht
  obtain ⟨ua, un, uc, rfl⟩ := hs
  have n1 : g ≠ w.heap.size := by omega
  have n2 : b ≠ w.heap.size := by omega
  have n3 : w.heap.size ≠ g := by omega
  have n4 : w.heap.size ≠ b := by omega
  have n5 : b ≠ g := by omega
  go_enter Tryz.func40, Tryz.ntmps40
  go_wp2
  all_goals
    refine bodyPost_ret (v := vtV t (.slice ua un uc)) (by simp [results, Tryz.results40, go_sem, vtV]) rfl ?_
    refine .mk rfl _ _ _ (fun h => ?_) (by first | rfl | (subst_vars; rfl))
    first | rfl | omega
end Go.Proofs.YtmkbjcoagfnegaaGreatDoor
set_option linter.unusedVariables false
set_option linter.unusedSimpArgs false
namespace Go.Proofs.YtmkbjcoagfnegaaGreatDoor
open Go.RowKit

theorem isC5 (x : Int) : (x < 0 ∧ isC x = false) ∨ (1114111 < x ∧ isC x = false) ∨ (55296 ≤ x ∧ x ≤ 57343 ∧ isC x = false) ∨ (0 ≤ x ∧ x < 55296 ∧ isC x = true) ∨ (57343 < x ∧ x ≤ 1114111 ∧ isC x = true) := by
  have := isC_iff x
  by_cases h : isC x = true
  · have := this.1 h; rcases this with ⟨h1, h2, h3 | h3⟩
    · right; right; right; left; exact ⟨h1, h3, h⟩
    · right; right; right; right; exact ⟨h3, h2, h⟩
  · have h' : isC x = false := by simpa using h
    have : ¬ (0 ≤ x ∧ x ≤ 1114111 ∧ (x < 55296 ∨ 57343 < x)) := fun k => h (this.2 k)
    simp only [h', and_true]; omega
theorem chrT {x : Int} (h : isC x = true) : chr x = x := by unfold chr; rw [if_pos h]
theorem chrF {x : Int} (h : isC x = false) : chr x = 65533 := by unfold chr; rw [h]; rfl
/-- The characters of some numbers. -/
def chs (l : List Int) : List Int := l.map chr
theorem chs_len (l : List Int) : (chs l).length = l.length := by simp [chs]
theorem nx_in {l : List Int} {p k : Nat} (h : p + k < l.length) : nx ((chs l).drop p) k = chr (gt l (p + k)) := by
  rw [nx_drop]
  simp [nx, chs, gt, List.getD_eq_getElem?_getD, List.getElem?_map, List.getElem?_eq_getElem h]
theorem nx_out {l : List Int} {p k : Nat} (h : l.length ≤ p + k) : nx ((chs l).drop p) k = -1 := by
  rw [nx_drop]
  simp [nx, chs, List.getD_eq_getElem?_getD, List.getElem?_map, List.getElem?_eq_none h]
/-- A function that tells what stands so many places on, in every later world. -/
def Look (d : Nat) (w : World) (v : Value) (s : List Int) : Prop :=
  ∃ (g : Nat) (lb : Array Value), v = .func (.func g) #[] lb ∧ (∀ args w, (callFunc g args).run Tryz.prog w = .ok (.enter g args) w) ∧
    ∀ (k : Int) (W : World), 0 ≤ k → k ≤ d → Below w.heap.size w W → Calls Tryz.prog g (#[.int .i64 k] ++ lb) W fun e W' => e = .returned (.int .i32 (nx s k.toNat)) ∧ Below W.heap.size W W'
theorem Look.below {d : Nat} {w w' : World} {v : Value} {s : List Int} (h : Look d w v s) (hw : Below w.heap.size w w') : Look d w' v s := by
  obtain ⟨g, lb, h1, h2, h3⟩ := h
  exact ⟨g, lb, h1, h2, fun k W h0 hk hW => h3 k W h0 hk (bto hw hW)⟩
theorem Nums.shape {k : IntKind} {w : World} {v : Value} {bs : List Int} (h : Nums k w v bs) : ∃ a n c, v = .slice a n c := by
  rcases h with ⟨a, c, rfl, rfl⟩ | ⟨b, o, n, c, rfl, _⟩
  · exact ⟨_, _, _, rfl⟩
  · exact ⟨_, _, _, rfl⟩
end Go.Proofs.YtmkbjcoagfnegaaGreatDoor
set_option linter.unusedVariables false
set_option linter.unusedSimpArgs false
namespace Go.Proofs.YtmkbjcoagfnegaaGreatDoor
open Go.RowKit

theorem fst_cases (c : Int) : (c < 65 ∧ isFst c = false) ∨ (65 ≤ c ∧ c ≤ 90 ∧ isFst c = true) ∨ (90 < c ∧ c < 95 ∧ isFst c = false) ∨ (c = 95 ∧ isFst c = true) ∨ (c = 96 ∧ isFst c = false) ∨ (97 ≤ c ∧ c ≤ 122 ∧ isFst c = true) ∨ (122 < c ∧ c < 128 ∧ isFst c = false) ∨ (128 ≤ c ∧ isFst c = true) := by
  have : isFst c = true ↔ (97 ≤ c ∧ c ≤ 122) ∨ (65 ≤ c ∧ c ≤ 90) ∨ c = 95 ∨ 128 ≤ c := by simp [isFst]; omega
  by_cases h : isFst c = true
  · have := this.1 h; simp only [h, and_true]; simp; omega
  · have h' : isFst c = false := by simpa using h
    have : ¬ ((97 ≤ c ∧ c ≤ 122) ∨ (65 ≤ c ∧ c ≤ 90) ∨ c = 95 ∨ 128 ≤ c) := fun k => h (this.2 k)
    simp only [h', and_true]; simp; omega
theorem Look.shape {d : Nat} {w : World} {v : Value} {s : List Int} (h : Look d w v s) : ∃ g lb, v = .func (.func g) #[] lb := by
  obtain ⟨g, lb, h1, _⟩ := h; exact ⟨g, lb, h1⟩
theorem Look.le {d e : Nat} {w : World} {v : Value} {s : List Int} (h : Look d w v s) (hd : e ≤ d) : Look e w v s := by
  obtain ⟨g, lb, h1, h2, h3⟩ := h
  exact ⟨g, lb, h1, h2, fun k W h0 hk hW => h3 k W h0 (by omega) hW⟩
end Go.Proofs.YtmkbjcoagfnegaaGreatDoor

