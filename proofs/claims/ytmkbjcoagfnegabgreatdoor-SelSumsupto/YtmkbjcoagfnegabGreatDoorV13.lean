/-
  Tokens that must stand apart: by the program and by the reference.
  Selectors: plain, and in memory; which may be.
  Which selectors may be: the small functions, by the program.
  The reader: white space, a character, what begins a simple selector: by the program.
-/
import Derived.Test.YtmkbjcoagfnegabGreatDoorV12
import Derived.Test.YtmkbjcoagfnegabGreatDoorV03
import Derived.Deep.DeepCutAuto
set_option linter.unusedVariables false
set_option linter.unusedSimpArgs false
namespace Go.Proofs.YtmkbjcoagfnegabGreatDoor
open Go.RowKit

theorem ap_ways (a b : Int) : ((a == 13) = true ∧ (b == 13) = true ∧ apB a b = true) ∨ ((a == 13) = true ∧ (b == 13) = false ∧ ro a = false ∧ apB a b = false) ∨ ((a == 13) = false ∧ ro a = false ∧ apB a b = false) ∨ ((a == 13) = false ∧ ro a = true ∧ apB a b = jo b) := by
  unfold apB
  by_cases h : a = 13
  · subst h
    cases (b == 13)
    · right; left; exact ⟨rfl, rfl, rfl, rfl⟩
    · left; exact ⟨rfl, rfl, rfl⟩
  · have h' : (a == 13) = false := by simpa using h
    rw [h']
    cases ro a
    · right; right; left; exact ⟨rfl, rfl, rfl⟩
    · right; right; right; exact ⟨rfl, rfl, by simp⟩
theorem ro_ways (a : Int) : (ro a = false ∧ (a == 1) = false ∧ (a == 3) = false ∧ (a == 4) = false ∧ (a == 10) = false ∧ (a == 12) = false ∧ (a == 9) = false) ∨ (ro a = true ∧ (a = 1 ∨ a = 3 ∨ a = 4 ∨ a = 10 ∨ a = 12 ∨ a = 9)) := by
  by_cases h : a = 1 ∨ a = 3 ∨ a = 4 ∨ a = 10 ∨ a = 12 ∨ a = 9
  · right; refine ⟨?_, h⟩; rcases h with rfl | rfl | rfl | rfl | rfl | rfl <;> rfl
  · left; simp [ro]; omega
theorem jo_ways (a : Int) : (jo a = false ∧ (a == 1) = false ∧ (a == 2) = false ∧ (a == 7) = false ∧ (a == 8) = false ∧ (a == 10) = false ∧ (a == 11) = false ∧ (a == 12) = false ∧ (a == 15) = false ∧ (a == 21) = false ∧ (a == 9) = false) ∨ (jo a = true ∧ (a = 1 ∨ a = 2 ∨ a = 7 ∨ a = 8 ∨ a = 10 ∨ a = 11 ∨ a = 12 ∨ a = 15 ∨ a = 21 ∨ a = 9)) := by
  by_cases h : a = 1 ∨ a = 2 ∨ a = 7 ∨ a = 8 ∨ a = 10 ∨ a = 11 ∨ a = 12 ∨ a = 15 ∨ a = 21 ∨ a = 9
  · right; refine ⟨?_, h⟩; rcases h with rfl | rfl | rfl | rfl | rfl | rfl | rfl | rfl | rfl | rfl <;> rfl
  · left; simp [jo]; omega
end Go.Proofs.YtmkbjcoagfnegabGreatDoor
set_option linter.unusedVariables false
set_option linter.unusedSimpArgs false
namespace Go.Proofs.YtmkbjcoagfnegabGreatDoor
open Go.RowKit

/-- A simple selector; a complex one is its compounds, each with its combinator. -/
inductive Sl where
  | mk (k op a b : Int) (nm vl : ByteArray) (fo : Bool) (ls : List (List (Int × List Sl)))
abbrev Cp := Int × List Sl
abbrev Cx := List Cp
def Sl.k : Sl → Int | .mk k _ _ _ _ _ _ _ => k
def Sl.op : Sl → Int | .mk _ o _ _ _ _ _ _ => o
def Sl.a : Sl → Int | .mk _ _ a _ _ _ _ _ => a
def Sl.b : Sl → Int | .mk _ _ _ b _ _ _ _ => b
def Sl.nm : Sl → ByteArray | .mk _ _ _ _ n _ _ _ => n
def Sl.vl : Sl → ByteArray | .mk _ _ _ _ _ v _ _ => v
def Sl.fo : Sl → Bool | .mk _ _ _ _ _ _ f _ => f
def Sl.ls : Sl → List Cx | .mk _ _ _ _ _ _ _ l => l
/-- Does it hold of each, by its place? -/
def allI {α : Type} (f : Nat → α → Bool) (l : List α) : Bool := (List.range l.length).all fun j => match l[j]? with | none => true | some x => f j x
theorem allI_iff {α : Type} {f : Nat → α → Bool} {l : List α} : allI f l = true ↔ ∀ j x, l[j]? = some x → f j x = true := by
  unfold allI
  rw [List.all_eq_true]
  constructor
  · intro h j x hj
    have := h j (List.mem_range.2 (List.getElem?_eq_some_iff.1 hj).1)
    rw [hj] at this
    exact this
  · intro h j hj
    rw [List.mem_range] at hj
    rw [List.getElem?_eq_getElem hj]
    exact h j _ (List.getElem?_eq_getElem hj)
theorem allI_no {α : Type} {f : Nat → α → Bool} {l : List α} {j : Nat} {x : α} (h : l[j]? = some x) (g : f j x = false) : allI f l = false := by
  cases e : allI f l with
  | false => rfl
  | true => rw [allI_iff.1 e j x h] at g; cases g
theorem allI_snoc {α : Type} {f : Nat → α → Bool} {l : List α} {k : Nat} {x : α} (h : ∀ j y, j < k → l[j]? = some y → f j y = true) (hk : l[k]? = some x) (g : f k x = true) : ∀ j y, j < k + 1 → l[j]? = some y → f j y = true := by
  intro j y hj hy
  by_cases e : j = k
  · subst e; rw [hk] at hy; cases hy; exact g
  · exact h j y (by omega) hy
theorem allI_end {α : Type} {f : Nat → α → Bool} {l : List α} {k : Nat} (h : ∀ j y, j < k → l[j]? = some y → f j y = true) (hk : l.length ≤ k) : allI f l = true :=
  allI_iff.2 fun j x hj => h j x (by have := (List.getElem?_eq_some_iff.1 hj).1; omega) hj
def nmS9 (s : ByteArray) : Bool := !(bl s).isEmpty && chB (bl s)
def stS9 (x : Int) : Bool := decide (-1073741824 ≤ x) && decide (x ≤ 1073741824)
def opS9 (op : Int) (vl : ByteArray) (fo : Bool) : Bool := (decide (0 ≤ op) && decide (op ≤ 6)) && (chB (bl vl) && !((op == 0) && (!(bl vl).isEmpty || fo)))
def noF9 (op : Int) (vl : ByteArray) (fo : Bool) : Bool := (op == 0) && ((bl vl).isEmpty && !fo)
/-- May a simple selector be? It may stand in so many more lists; what of the list in it. -/
def slM (left : Nat) (r : List Cx → Bool) (s : Sl) : Bool :=
  if s.k = 1 ∨ (9 ≤ s.k ∧ s.k ≤ 13) then (bl s.nm).isEmpty && (noF9 s.op s.vl s.fo && (s.ls.isEmpty && ((s.a == 0) && (s.b == 0))))
  else if 2 ≤ s.k ∧ s.k ≤ 4 then nmS9 s.nm && (noF9 s.op s.vl s.fo && (s.ls.isEmpty && ((s.a == 0) && (s.b == 0))))
  else if s.k = 5 then decide (1 < left) && (nmS9 s.nm && (opS9 s.op s.vl s.fo && (s.ls.isEmpty && ((s.a == 0) && (s.b == 0)))))
  else if 6 ≤ s.k ∧ s.k ≤ 8 then (bl s.nm).isEmpty && (noF9 s.op s.vl s.fo && (r s.ls && ((s.a == 0) && (s.b == 0))))
  else if s.k = 14 ∨ s.k = 15 then decide (1 < left) && ((bl s.nm).isEmpty && (noF9 s.op s.vl s.fo && (s.ls.isEmpty && (stS9 s.a && stS9 s.b))))
  else false
def cpF (left : Nat) (r : List Cx → Bool) (j : Nat) (s : Sl) : Bool := ((j == 0) || !((s.k == 1) || (s.k == 2))) && slM left r s
def cpM (left : Nat) (r : List Cx → Bool) (ss : List Sl) : Bool := !ss.isEmpty && allI (cpF left r) ss
def coB (i : Nat) (c : Int) : Bool := if i = 0 then c == 0 else decide (1 ≤ c) && decide (c ≤ 4)
def cxF (left : Nat) (r : List Cx → Bool) (i : Nat) (p : Cp) : Bool := coB i p.1 && cpM left r p.2
def cxM (left : Nat) (r : List Cx → Bool) (c : Cx) : Bool := !c.isEmpty && allI (cxF left r) c
/-- May a list be that may stand in so many lists, itself counted? -/
def lsM : Nat → List Cx → Bool
  | 0, _ => false
  | n + 1, l => !l.isEmpty && allI (fun _ c => cxM (n + 1) (lsM n) c) l
/-! ### In memory -/
def RowOf {α : Type} (w : World) (sz : Nat) (R : Nat → Nat → α → Prop) (v : Value) (l : List α) : Prop :=
  (∃ a c, v = .slice a 0 c ∧ l = []) ∨
  ∃ b o c, v = .slice (some ⟨b, o, none⟩) l.length c ∧ 0 < l.length ∧ b < w.heap.size ∧ l.length ≤ c ∧ l.length ≤ 1000000000 ∧ c ≤ 9223372036854775807 ∧ ∀ i x, l[i]? = some x → R b (o + i * sz) x
theorem RowOf.shape {α : Type} {w : World} {sz : Nat} {R : Nat → Nat → α → Prop} {v : Value} {l : List α} (h : RowOf w sz R v l) : ∃ a c, v = .slice a l.length c ∧ l.length ≤ 1000000000 := by
  rcases h with ⟨a, c, rfl, rfl⟩ | ⟨b, o, c, rfl, h0, hb, hc, hn, hm, hr⟩
  · exact ⟨a, c, rfl, by simp⟩
  · exact ⟨_, _, rfl, hn⟩
theorem RowOf.at {α : Type} {w : World} {sz : Nat} {R : Nat → Nat → α → Prop} {v : Value} {l : List α} (h : RowOf w sz R v l) {i : Nat} {x : α} (hi : l[i]? = some x) : ∃ b o c, v = .slice (some ⟨b, o, none⟩) l.length c ∧ b < w.heap.size ∧ l.length ≤ c ∧ c ≤ 9223372036854775807 ∧ R b (o + i * sz) x := by
  rcases h with ⟨a, c, rfl, rfl⟩ | ⟨b, o, c, rfl, h0, hb, hc, hn, hm, hr⟩
  · cases hi
  · exact ⟨b, o, c, rfl, hb, hc, hm, hr i x hi⟩
theorem RowOf.mono {α : Type} {w w' : World} {sz : Nat} {R S : Nat → Nat → α → Prop} {v : Value} {l : List α} (h : RowOf w sz R v l) (hs : w.heap.size ≤ w'.heap.size) (hr : ∀ b o x, b < w.heap.size → x ∈ l → R b o x → S b o x) : RowOf w' sz S v l := by
  rcases h with h | ⟨b, o, c, rfl, h0, hb, hc, hn, hm, h1⟩
  · exact .inl h
  · exact .inr ⟨b, o, c, rfl, h0, Nat.lt_of_lt_of_le hb hs, hc, hn, hm, fun i x hi => hr b _ x hb (List.mem_of_getElem? hi) (h1 i x hi)⟩
/-- The cells of a simple selector. -/
structure Eig (w : World) (b o : Nat) (s : Sl) (u : Value) : Prop where
  c0 : w.cell? ⟨b, o, none⟩ = some (.int .i64 s.k)
  c1 : w.cell? ⟨b, o + 1, none⟩ = some (.string s.nm)
  c2 : w.cell? ⟨b, o + 2, none⟩ = some (.int .i64 s.op)
  c3 : w.cell? ⟨b, o + 3, none⟩ = some (.string s.vl)
  c4 : w.cell? ⟨b, o + 4, none⟩ = some (.bool s.fo)
  c5 : w.cell? ⟨b, o + 5, none⟩ = some u
  c6 : w.cell? ⟨b, o + 6, none⟩ = some (.int .i64 s.a)
  c7 : w.cell? ⟨b, o + 7, none⟩ = some (.int .i64 s.b)
theorem Eig.low {w w' : World} {b o : Nat} {s : Sl} {u : Value} (h : Eig w b o s u) (hb : Below w.heap.size w w') (hl : b < w.heap.size) : Eig w' b o s u := by
  have C : ∀ j, w'.cell? ⟨b, j, none⟩ = w.cell? ⟨b, j, none⟩ := fun j => hb.cell (p := ⟨b, j, none⟩) hl
  exact ⟨(C _).trans h.c0, (C _).trans h.c1, (C _).trans h.c2, (C _).trans h.c3, (C _).trans h.c4, (C _).trans h.c5, (C _).trans h.c6, (C _).trans h.c7⟩
structure SlOk (s : Sl) : Prop where
  k1 : -9223372036854775808 ≤ s.k
  k2 : s.k ≤ 9223372036854775807
  o1 : -9223372036854775808 ≤ s.op
  o2 : s.op ≤ 9223372036854775807
  a1 : -9223372036854775808 ≤ s.a
  a2 : s.a ≤ 9223372036854775807
  b1 : -9223372036854775808 ≤ s.b
  b2 : s.b ≤ 9223372036854775807
  hn : s.nm.size ≤ 1048576
  hv : s.vl.size ≤ 1048576
def SlR (w : World) (X : Value → List Cx → Prop) (b o : Nat) (s : Sl) : Prop := ∃ u, Eig w b o s u ∧ X u s.ls ∧ SlOk s
def CpR (w : World) (X : Value → List Cx → Prop) (b o : Nat) (p : Cp) : Prop := ∃ u, w.cell? ⟨b, o, none⟩ = some (.int .i64 p.1) ∧ w.cell? ⟨b, o + 1, none⟩ = some u ∧ RowOf w 8 (SlR w X) u p.2 ∧ -9223372036854775808 ≤ p.1 ∧ p.1 ≤ 9223372036854775807
def CxR (w : World) (X : Value → List Cx → Prop) (b o : Nat) (c : Cx) : Prop := ∃ u, w.cell? ⟨b, o, none⟩ = some u ∧ RowOf w 2 (CpR w X) u c
/-- A slice of selectors, at most so deep. -/
def CM (w : World) : Nat → Value → List Cx → Prop
  | 0 => fun v l => l = [] ∧ ∃ a c, v = .slice a 0 c
  | n + 1 => RowOf w 1 (CxR w (CM w n))
theorem CM.shape {w : World} {n : Nat} {v : Value} {l : List Cx} (h : CM w n v l) : ∃ a c, v = .slice a l.length c ∧ l.length ≤ 1000000000 := by
  cases n with
  | zero => obtain ⟨rfl, a, c, rfl⟩ := h; exact ⟨a, c, rfl, by simp⟩
  | succ n => exact RowOf.shape h
theorem SlR.low {w w' : World} {X Y : Value → List Cx → Prop} (hw : Below w.heap.size w w') (hX : ∀ v l, X v l → Y v l) {b o : Nat} {s : Sl} (hb : b < w.heap.size) (h : SlR w X b o s) : SlR w' Y b o s := by
  obtain ⟨u, h1, h2, h3⟩ := h
  exact ⟨u, h1.low hw hb, hX _ _ h2, h3⟩
theorem CpR.low {w w' : World} {X Y : Value → List Cx → Prop} (hw : Below w.heap.size w w') (hX : ∀ v l, X v l → Y v l) {b o : Nat} {p : Cp} (hb : b < w.heap.size) (h : CpR w X b o p) : CpR w' Y b o p := by
  obtain ⟨u, h1, h2, h3, h4⟩ := h
  exact ⟨u, (hw.cell (p := ⟨b, o, none⟩) hb).trans h1, (hw.cell (p := ⟨b, o + 1, none⟩) hb).trans h2, h3.mono hw.size (fun b o x hb _ hx => hx.low hw hX hb), h4⟩
theorem CxR.low {w w' : World} {X Y : Value → List Cx → Prop} (hw : Below w.heap.size w w') (hX : ∀ v l, X v l → Y v l) {b o : Nat} {c : Cx} (hb : b < w.heap.size) (h : CxR w X b o c) : CxR w' Y b o c := by
  obtain ⟨u, h1, h2⟩ := h
  exact ⟨u, (hw.cell (p := ⟨b, o, none⟩) hb).trans h1, h2.mono hw.size (fun b o x hb _ hx => hx.low hw hX hb)⟩
theorem CM.low {w w' : World} (hw : Below w.heap.size w w') {n : Nat} : ∀ {v : Value} {l : List Cx}, CM w n v l → CM w' n v l := by
  induction n with
  | zero => intro v l h; exact h
  | succ n ih => intro v l h; exact RowOf.mono h hw.size (fun b o x hb _ hx => hx.low hw (fun v l => ih) hb)
/-- The compounds of a selector, the simple selectors of a compound. -/
def PsM (w : World) (n : Nat) : Value → Cx → Prop := RowOf w 2 (CpR w (CM w n))
def SsM (w : World) (n : Nat) : Value → List Sl → Prop := RowOf w 8 (SlR w (CM w n))
theorem PsM.low {w w' : World} (hw : Below w.heap.size w w') {n : Nat} {v : Value} {c : Cx} (h : PsM w n v c) : PsM w' n v c := RowOf.mono h hw.size (fun b o x hb _ hx => hx.low hw (fun v l => CM.low hw) hb)
theorem SsM.low {w w' : World} (hw : Below w.heap.size w w') {n : Nat} {v : Value} {c : List Sl} (h : SsM w n v c) : SsM w' n v c := RowOf.mono h hw.size (fun b o x hb _ hx => hx.low hw (fun v l => CM.low hw) hb)
end Go.Proofs.YtmkbjcoagfnegabGreatDoor
set_option linter.unusedVariables false
set_option linter.unusedSimpArgs false
namespace Go.Proofs.YtmkbjcoagfnegabGreatDoor
open Go.RowKit

theorem mayT_name (s : ByteArray) : mayT 1 (bl s) 0 0 false false = nmS9 s := by
  unfold mayT fdB txB nuB1 nmS9 tx nm nu
  cases h : bl s with
  | nil => rfl
  | cons x r => simp
theorem mayT_text (s : ByteArray) : mayT 5 (bl s) 0 0 false false = chB (bl s) := by
  unfold mayT fdB txB nuB1 tx nm nu
  simp
theorem isName9_any (s : ByteArray) (w : World) (hs : s.size ≤ 140737488355328) (hK : KT w) (hT : Tabs w) : Calls Tryz.prog 70 #[.string s] w fun e w' => e = .returned (.bool (nmS9 s)) ∧ Below w.heap.size w w' := by
  have C := hide (mayS_any 1 s 0 0 false false w (by decide) (by decide) hs (by decide) (by decide) (by decide) (by decide) hK hT)
  rw [mayT_name] at C
  unfold tokV at C
  clear hK hT
  go_enter Tryz.func70, Tryz.ntmps70
  go_wp2_with (go_at_call 86; refine C.out.mono ?_; rintro e w1 ⟨rfl, B⟩; replace B := hide B)
  go_ret
  exact ⟨rfl, B.out⟩
theorem isText9_any (s : ByteArray) (w : World) (hs : s.size ≤ 140737488355328) (hK : KT w) (hT : Tabs w) : Calls Tryz.prog 94 #[.string s] w fun e w' => e = .returned (.bool (chB (bl s))) ∧ Below w.heap.size w w' := by
  have C := hide (mayS_any 5 s 0 0 false false w (by decide) (by decide) hs (by decide) (by decide) (by decide) (by decide) hK hT)
  rw [mayT_text] at C
  unfold tokV at C
  clear hK hT
  go_enter Tryz.func94, Tryz.ntmps94
  go_wp2_with (go_at_call 86; refine C.out.mono ?_; rintro e w1 ⟨rfl, B⟩; replace B := hide B)
  go_ret
  exact ⟨rfl, B.out⟩
theorem isStep9_any (x : Int) (w : World) : Calls Tryz.prog 76 #[.int .i64 x] w fun e w' => e = .returned (.bool (stS9 x)) ∧ w' = w := by
  by_cases h1 : -1073741824 ≤ x <;> by_cases h2 : x ≤ 1073741824
  all_goals
    go_enter Tryz.func76, Tryz.ntmps76
    go_wp2
    go_ret
    exact ⟨ret_bool (by simp [stS9, h1, h2]), rfl⟩
theorem holdsBlock9_any (d : Int) (w : World) : Calls Tryz.prog 74 #[.int .i64 d] w fun e w' => e = .returned (.bool (decide (d ≤ 64))) ∧ w' = w := by
  by_cases h1 : d ≤ 64
  all_goals
    go_enter Tryz.func74, Tryz.ntmps74
    go_wp2
    go_ret
    exact ⟨ret_bool (by simp [h1]), rfl⟩
theorem combMay9_any (c : Int) (i : Nat) (w : World) : Calls Tryz.prog 44 #[.int .i64 c, .bool (i == 0)] w fun e w' => e = .returned (.bool (coB i c)) ∧ w' = w := by
  cases hi : (i == 0)
  · have h0 : ¬ i = 0 := by simpa using hi
    have E := hide (show coB i c = (decide (1 ≤ c) && decide (c ≤ 4)) by unfold coB; rw [if_neg h0])
    by_cases h1 : 1 ≤ c <;> by_cases h2 : c ≤ 4
    all_goals
      go_enter Tryz.func44, Tryz.ntmps44
      go_wp2
      go_ret
      exact ⟨ret_bool (by rw [E.out]; simp [h1, h2]), rfl⟩
  · have h0 : i = 0 := by simpa using hi
    have E := hide (show coB i c = (c == 0) by unfold coB; rw [if_pos h0])
    go_enter Tryz.func44, Tryz.ntmps44
    go_wp2
    go_ret
    exact ⟨ret_bool (by rw [E.out]), rfl⟩
/-- A simple selector's cells as a value. -/
def slV (k op a b : Int) (nm vl : ByteArray) (fo : Bool) (u : Value) : Value := .agg #[.int .i64 k, .string nm, .int .i64 op, .string vl, .bool fo, u, .int .i64 a, .int .i64 b]
def oifB (k op a b : Int) (nm vl : ByteArray) (fo : Bool) (ln : Nat) : Bool :=
  ((decide (2 ≤ k) && decide (k ≤ 5)) || (bl nm).isEmpty) && (((k == 5) || noF9 op vl fo) && (((decide (6 ≤ k) && decide (k ≤ 8)) || (ln == 0)) && (((k == 14) || (k == 15)) || ((a == 0) && (b == 0)))))
end Go.Proofs.YtmkbjcoagfnegabGreatDoor
set_option linter.unusedVariables false
set_option linter.unusedSimpArgs false
namespace Go.Proofs.YtmkbjcoagfnegabGreatDoor
open Go.RowKit

theorem fldV (u0 u1 u2 u3 u4 u5 u6 : Value) (w : World) : (Instr.field 64 (.agg #[u0, u1, u2, u3, u4, u5, u6]) 0).run Tryz.prog w = .ok (.agg #[u0, u1, u2, u3, u4, u5]) w := by kernel_rfl
theorem fldT (u0 u1 u2 u3 u4 u5 : Value) (w : World) : (Instr.field 62 (.agg #[u0, u1, u2, u3, u4, u5]) 0).run Tryz.prog w = .ok u0 w := by kernel_rfl
def sp9 (v : VT) : Bool := v.t.k == 13
def spL (l : List VT) : List VT := l.dropWhile sp9
theorem spL_yes {t : TS} {ks r : List VT} (h : t.k = 13) : spL (.mk t ks :: r) = spL r := List.dropWhile_cons_of_pos (by show (t.k == 13) = true; simpa using h)
theorem spL_no {t : TS} {ks r : List VT} (h : ¬ t.k = 13) : spL (.mk t ks :: r) = .mk t ks :: r := List.dropWhile_cons_of_neg (by show ¬ (t.k == 13) = true; simpa using h)
theorem Cu.mod {W wr w1 : World} {g : Nat} {l : List VT} (h : Cu W wr g l) (hb : Below wr.heap.size wr w1) : Cu W w1 g l ∧ wr.grownBy w1 (some g) := ⟨h.low hb, Mod.of g hb⟩
def RelSp9 (W w0 : World) (g : Nat) (l : List VT) (m : Nat) (b : Value) (wr : World) : Prop := ∃ q, Cu W wr g q ∧ w0.grownBy wr (some g) ∧ q.length ≤ m ∧ q.length ≤ l.length ∧ Hid (spL l = spL q) ∧ b = .bool (decide (q.length < l.length))
theorem RelSp9.mk {W w0 : World} {g : Nat} {l : List VT} {m : Nat} {b : Value} {wr : World} (q : List VT) (h1 : Cu W wr g q) (h2 : w0.grownBy wr (some g)) (h3 : q.length ≤ m) (h4 : q.length ≤ l.length) (h5 : spL l = spL q) (h6 : b = .bool (decide (q.length < l.length))) : RelSp9 W w0 g l m b wr := ⟨q, h1, h2, h3, h4, h5, h6⟩
set_option maxRecDepth 100000 in
set_option maxHeartbeats 2000000 in
theorem spaces9_any (W w0 : World) (g : Nat) (l : List VT) (h : Cu W w0 g l) : Calls Tryz.prog 30 #[.pointer (some ⟨g, 0, none⟩)] w0 fun e w' => e = .returned (.bool (decide ((spL l).length < l.length))) ∧ Cu W w' g (spL l) ∧ w0.grownBy w' (some g) := by
  have HC := hide h
  have q1 := fun (u0 u1 u2 u3 u4 u5 u6 : Value) (w : World) => fldV u0 u1 u2 u3 u4 u5 u6 w
  have q2 := fun (u0 u1 u2 u3 u4 u5 : Value) (w : World) => fldT u0 u1 u2 u3 u4 u5 w
  clear h
  go_enter Tryz.func30, Tryz.ntmps30
  go_wp2
  go_loopg [3] l.length (fun m b wr => RelSp9 W w0 g l m b wr)
  case atStart => exact .mk l HC.out (Mod.refl _ _) (Nat.le_refl _) (Nat.le_refl _) rfl (by simp)
  case round =>
    clear HC
    obtain ⟨q, CU, MO, hm, hl, R, hb⟩ := hrel
    subst hb
    cases q with
    | nil =>
      have E := hide (show spL l = [] by rw [R.out]; rfl)
      have CN := hide (next9_nil W wr g CU)
      have HC := hide CU
      have HM := hide MO
      clear R CU MO
      go_wp2_with (go_at_call 41; refine CN.out.mono ?_; rintro e w1 ⟨rfl, B1⟩; replace HC := hide (HC.out.low B1); replace HM := hide (Mod.trans HM.out (Mod.of g B1)); clear B1)
      go_ret
      exact ⟨ret_bool (by rw [E.out]; first | rfl | (simp; done)), by rw [E.out]; exact HC.out, HM.out⟩
    | cons x r =>
      obtain ⟨t, ks⟩ := x
      have CN := hide (next9_cons W wr g t ks r CU)
      have HC := hide CU
      have HM := hide MO
      clear CU MO
      by_cases hk : t.k = 13
      · have E := hide (show spL l = spL r by rw [R.out, spL_yes hk])
        simp only [List.length_cons] at hm hl
        have CT := hide (fun (w1 : World) (h : Cu W w1 g (.mk t ks :: r)) => take9_cons W w1 g t ks r h)
        rw [hk] at CN
        clear R hk
        go_wp2_with (first
          | (go_at_call 41; refine CN.out.mono ?_; rintro e w1 ⟨ka, kn, kc, rfl, -, B1⟩; replace HC := hide (HC.out.low B1); replace HM := hide (Mod.trans HM.out (Mod.of g B1)); clear B1)
          | (go_at_call 33; refine (CT.out _ HC.out).mono ?_; rintro e w2 ⟨ka2, kn2, kc2, rfl, -, C2, M2⟩; replace HC := hide C2; replace HM := hide (Mod.trans HM.out M2); clear C2 M2))
        go_roundg (gk - 1)
        case measure => omega
        case rel => exact .mk r HC.out HM.out (by omega) (by omega) E.out (by rw [show decide (r.length < l.length) = true by simp; omega])
      · have E := hide (show spL l = .mk t ks :: r by rw [R.out, spL_no hk])
        have h1 : (t.k == 13) = false := by simpa using hk
        clear R
        go_wp2_with (go_at_call 41; refine CN.out.mono ?_; rintro e w1 ⟨ka, kn, kc, rfl, -, B1⟩; replace HC := hide (HC.out.low B1); replace HM := hide (Mod.trans HM.out (Mod.of g B1)); clear B1)
        go_ret
        exact ⟨ret_bool (by rw [E.out]; first | rfl | (simp; done)), by rw [E.out]; exact HC.out, HM.out⟩
/-- The character that is asked for stands there. -/
theorem delim9_yes (W w0 : World) (g : Nat) (s : ByteArray) (n d : Int) (i h' : Bool) (ks r : List VT) (h : Cu W w0 g (.mk ⟨9, s, n, d, i, h'⟩ ks :: r)) : Calls Tryz.prog 52 #[.pointer (some ⟨g, 0, none⟩), .string s] w0 fun e w' => e = .returned (.bool true) ∧ Cu W w' g r ∧ w0.grownBy w' (some g) := by
  have HC := hide h
  have q1 := fun (u0 u1 u2 u3 u4 u5 u6 : Value) (w : World) => fldV u0 u1 u2 u3 u4 u5 u6 w
  have CN := hide (next9_cons W w0 g _ ks r h)
  have CT := hide (fun (w1 : World) (h : Cu W w1 g (.mk ⟨9, s, n, d, i, h'⟩ ks :: r)) => take9_cons W w1 g _ ks r h)
  have HM := hide (Mod.refl w0 g)
  clear h
  simp only at CN CT
  go_enter Tryz.func52, Tryz.ntmps52
  go_wp2_with (first
    | (go_at_call 41; refine CN.out.mono ?_; rintro e w1 ⟨ka, kn, kc, rfl, -, B1⟩; replace HC := hide (HC.out.low (bplus B1 (.cells #[.int .i64 9, .string s, .int .i64 n, .int .i64 d, .bool i, .bool h'] 62))); replace HM := hide (Mod.trans HM.out (Mod.of g (bplus B1 (.cells #[.int .i64 9, .string s, .int .i64 n, .int .i64 d, .bool i, .bool h'] 62)))); clear B1)
    | (go_at_call 33; refine (CT.out _ HC.out).mono ?_; rintro e w2 ⟨ka2, kn2, kc2, rfl, -, C2, M2⟩; replace HC := hide C2; replace HM := hide (Mod.trans HM.out M2); clear C2 M2))
  go_ret
  exact ⟨rfl, HC.out, HM.out⟩
/-- A point is no star. -/
theorem delim9_star (W w0 : World) (g : Nat) (n d : Int) (i h' : Bool) (ks r : List VT) (h : Cu W w0 g (.mk ⟨9, ⟨#[46]⟩, n, d, i, h'⟩ ks :: r)) : Calls Tryz.prog 52 #[.pointer (some ⟨g, 0, none⟩), .string ⟨#[42]⟩] w0 fun e w' => e = .returned (.bool false) ∧ Below w0.heap.size w0 w' := by
  have q1 := fun (u0 u1 u2 u3 u4 u5 u6 : Value) (w : World) => fldV u0 u1 u2 u3 u4 u5 u6 w
  have CN := hide (next9_cons W w0 g _ ks r h)
  clear h
  simp only at CN
  go_enter Tryz.func52, Tryz.ntmps52
  go_wp2_with (go_at_call 41; refine CN.out.mono ?_; rintro e w1 ⟨ka, kn, kc, rfl, -, B1⟩; replace B1 := hide B1)
  go_ret
  exact ⟨rfl, bplus B1.out _⟩
theorem begins9_dot (n d : Int) (i h' : Bool) (w : World) : Calls Tryz.prog 53 #[.agg #[.int .i64 9, .string ⟨#[46]⟩, .int .i64 n, .int .i64 d, .bool i, .bool h']] w fun e w' => e = .returned (.bool true) ∧ Below w.heap.size w w' := by
  go_enter Tryz.func53, Tryz.ntmps53
  go_wp2
  go_ret
  exact ⟨rfl, bplus (Below.refl _ _) _⟩
theorem begins9_no (k : Int) (s : ByteArray) (n d : Int) (i h' : Bool) (w : World) (hk : k = 0 ∨ k = 13) : Calls Tryz.prog 53 #[.agg #[.int .i64 k, .string s, .int .i64 n, .int .i64 d, .bool i, .bool h']] w fun e w' => e = .returned (.bool false) ∧ Below w.heap.size w w' := by
  rcases hk with rfl | rfl
  all_goals
    go_enter Tryz.func53, Tryz.ntmps53
    go_wp2
    go_ret
    exact ⟨rfl, bplus (Below.refl _ _) _⟩
def S0 : Obj := .cells #[.int .i64 0, .string ⟨#[]⟩, .int .i64 0, .string ⟨#[]⟩, .bool false, .slice none 0 0, .int .i64 0, .int .i64 0] 37
end Go.Proofs.YtmkbjcoagfnegabGreatDoor
