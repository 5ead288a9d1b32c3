/-
  Forms: plain, and in memory.
  Seven fractions held against seven.
-/
import Derived.Test.YtlhmecagijdinaaDoorN17
import Derived.ChangeKeysEq
set_option linter.unusedVariables false
set_option linter.unusedSimpArgs false
namespace Go.Proofs.YtlhmecagijdinaaDoor.nm
open Go.RowKit

/-- A form: so much of each unit, and parts. -/
inductive Fo where
  | mk (us : List (Int × Int)) (ps : List (Bool × List Fo))
abbrev Pa := Bool × List Fo
def Fo.us : Fo → List (Int × Int) | .mk us _ => us
def Fo.ps : Fo → List Pa | .mk _ ps => ps
/-- Two lists, place by place, of one length. -/
def al2 {α : Type} (f : α → α → Bool) : List α → List α → Bool
  | [], [] => true
  | x :: r, y :: s => f x y && al2 f r s
  | _, _ => false
theorem al2_len {α : Type} {f : α → α → Bool} : ∀ {x y : List α}, x.length ≠ y.length → al2 f x y = false := by
  intro x
  induction x with
  | nil => intro y h; cases y with | nil => simp at h | cons => rfl
  | cons a r ih =>
    intro y h
    cases y with
    | nil => rfl
    | cons b s => rw [al2, ih (by simpa using h), Bool.and_false]
theorem al2_drop {α : Type} {f : α → α → Bool} {x y : List α} {k : Nat} {a b : α} (ha : x[k]? = some a) (hb : y[k]? = some b) : al2 f (x.drop k) (y.drop k) = (f a b && al2 f (x.drop (k + 1)) (y.drop (k + 1))) := by
  obtain ⟨h1, rfl⟩ := List.getElem?_eq_some_iff.1 ha
  obtain ⟨h2, rfl⟩ := List.getElem?_eq_some_iff.1 hb
  rw [List.drop_eq_getElem_cons h1, List.drop_eq_getElem_cons h2, al2]
theorem al2_refl {α : Type} {f : α → α → Bool} {x : List α} (h : ∀ a ∈ x, f a a = true) : al2 f x x = true := by
  induction x with
  | nil => rfl
  | cons a r ih => rw [al2, h a (by simp), ih (fun b hb => h b (by simp [hb]))]; rfl
/-- May it be, at most so deep? -/
def maF : Nat → Fo → Bool
  | 0, _ => false
  | j + 1, f => f.us.all (fun r => mayB r.1 r.2) && f.ps.all (fun p => !p.2.isEmpty && p.2.all (maF j))
/-- Are they the same, as deep as is said? -/
def saX : Nat → List Fo → List Fo → Bool
  | 0, x, y => decide (x.length = y.length)
  | n + 1, x, y => al2 (fun a b => decide (a.us = b.us) && al2 (fun p q => (p.1 == q.1) && saX n p.2 q.2) a.ps b.ps) x y
def saP (n : Nat) (p q : Pa) : Bool := (p.1 == q.1) && saX n p.2 q.2
def saF (n : Nat) (a b : Fo) : Bool := decide (a.us = b.us) && al2 (saP n) a.ps b.ps
theorem saX_succ (n : Nat) (x y : List Fo) : saX (n + 1) x y = al2 (saF n) x y := rfl
theorem saX_len {n : Nat} {x y : List Fo} (h : x.length ≠ y.length) : saX n x y = false := by
  cases n with
  | zero => rw [saX]; simpa using h
  | succ n => rw [saX_succ]; exact al2_len h
theorem saX_refl (n : Nat) : ∀ x, saX n x x = true := by
  induction n with
  | zero => intro x; rw [saX]; simp
  | succ n ih =>
    intro x
    rw [saX_succ]
    refine al2_refl fun a _ => ?_
    rw [saF, al2_refl fun p _ => ?_]
    · simp
    · rw [saP, ih]; simp
theorem saF_refl (n : Nat) (a : Fo) : saF n a a = true := by
  rw [saF, al2_refl fun p _ => ?_]
  · simp
  · rw [saP, saX_refl]; simp
/-! ### In memory -/
def RowOf {α : Type} (w : World) (sz : Nat) (R : Nat → Nat → α → Prop) (v : Value) (l : List α) : Prop :=
  (∃ a c, v = .slice a 0 c ∧ l = []) ∨
  ∃ b o c, v = .slice (some ⟨b, o, none⟩) l.length c ∧ 0 < l.length ∧ b < w.heap.size ∧ l.length ≤ c ∧ l.length ≤ 1000000000 ∧ c ≤ 9223372036854775807 ∧ ∀ i x, l[i]? = some x → R b (o + i * sz) x
theorem RowOf.shape {α : Type} {w : World} {sz : Nat} {R : Nat → Nat → α → Prop} {v : Value} {l : List α} (h : RowOf w sz R v l) : ∃ a c, v = .slice a l.length c ∧ l.length ≤ 1000000000 := by
  rcases h with ⟨a, c, rfl, rfl⟩ | ⟨b, o, c, rfl, h0, hb, hc, hn, hm, hr⟩
  · exact ⟨a, c, rfl, by simp⟩
  · exact ⟨_, _, rfl, hn⟩
theorem RowOf.at {α : Type} {w : World} {sz : Nat} {R : Nat → Nat → α → Prop} {v : Value} {l : List α} (h : RowOf w sz R v l) {i : Nat} {x : α} (hi : l[i]? = some x) : ∃ b o c, v = .slice (some ⟨b, o, none⟩) l.length c ∧ b < w.heap.size ∧ l.length ≤ c ∧ c ≤ 9223372036854775807 ∧ R b (o + i * sz) x := by
  rcases h with ⟨a, c, rfl, rfl⟩ | ⟨b, o, c, rfl, h0, hb, hc, hn, hm, hr⟩
  · cases hi
  · exact ⟨b, o, c, rfl, hb, hc, hm, hr i x hi⟩
theorem RowOf.mono {α : Type} {w w' : World} {sz : Nat} {R S : Nat → Nat → α → Prop} {v : Value} {l : List α} (h : RowOf w sz R v l) (hs : w.heap.size ≤ w'.heap.size) (hr : ∀ b o x, b < w.heap.size → x ∈ l → R b o x → S b o x) : RowOf w' sz S v l := by
  rcases h with h | ⟨b, o, c, rfl, h0, hb, hc, hn, hm, h1⟩
  · exact .inl h
  · exact .inr ⟨b, o, c, rfl, h0, Nat.lt_of_lt_of_le hb hs, hc, hn, hm, fun i x hi => hr b _ x hb (List.mem_of_getElem? hi) (h1 i x hi)⟩
/-- Seven fractions. -/
def Us (us : List (Int × Int)) : Prop := us.length = 7 ∧ ∀ r ∈ us, i64 r.1 ∧ i64 r.2
/-- Seven fractions, as they lie. -/
def Un (w : World) (b o : Nat) (us : List (Int × Int)) : Prop := Us us ∧ ∀ i r, us[i]? = some r → w.cell? ⟨b, o + i * 2, none⟩ = some (.int .i64 r.1) ∧ w.cell? ⟨b, o + i * 2 + 1, none⟩ = some (.int .i64 r.2)
theorem Un.below {w w' : World} {b o m : Nat} {us : List (Int × Int)} (h : Un w b o us) (hw : Below m w w') (hb : b < m) : Un w' b o us :=
  ⟨h.1, fun i r hi => ⟨(hw.cell (p := ⟨b, o + i * 2, none⟩) hb).trans (h.2 i r hi).1, (hw.cell (p := ⟨b, o + i * 2 + 1, none⟩) hb).trans (h.2 i r hi).2⟩⟩
def PaR (w : World) (X : Value → List Fo → Prop) (b o : Nat) (p : Pa) : Prop := ∃ u, w.cell? ⟨b, o, none⟩ = some (.bool p.1) ∧ w.cell? ⟨b, o + 1, none⟩ = some u ∧ X u p.2
def FoR (w : World) (X : Value → List Fo → Prop) (b o : Nat) (f : Fo) : Prop := ∃ u, Un w b o f.us ∧ w.cell? ⟨b, o + 14, none⟩ = some u ∧ RowOf w 2 (PaR w X) u f.ps
/-- A slice of forms, at most so deep. -/
def FM (w : World) : Nat → Value → List Fo → Prop
  | 0 => fun v l => l = [] ∧ ∃ a c, v = .slice a 0 c
  | n + 1 => RowOf w 15 (FoR w (FM w n))
/-- A slice of parts whose forms are at most so deep. -/
def PM (w : World) (n : Nat) : Value → List Pa → Prop := RowOf w 2 (PaR w (FM w n))
theorem FM.shape {w : World} {n : Nat} {v : Value} {l : List Fo} (h : FM w n v l) : ∃ a c, v = .slice a l.length c ∧ l.length ≤ 1000000000 := by
  cases n with
  | zero => obtain ⟨rfl, a, c, rfl⟩ := h; exact ⟨a, c, rfl, by simp⟩
  | succ n => exact RowOf.shape h
theorem PM.shape {w : World} {n : Nat} {v : Value} {l : List Pa} (h : PM w n v l) : ∃ a c, v = .slice a l.length c ∧ l.length ≤ 1000000000 := RowOf.shape h
theorem PaR.low {w w' : World} {X Y : Value → List Fo → Prop} (hw : Below w.heap.size w w') (hX : ∀ v l, X v l → Y v l) {b o : Nat} {p : Pa} (hb : b < w.heap.size) (h : PaR w X b o p) : PaR w' Y b o p := by
  obtain ⟨u, h1, h2, h3⟩ := h
  exact ⟨u, (hw.cell (p := ⟨b, o, none⟩) hb).trans h1, (hw.cell (p := ⟨b, o + 1, none⟩) hb).trans h2, hX _ _ h3⟩
theorem FoR.low {w w' : World} {X Y : Value → List Fo → Prop} (hw : Below w.heap.size w w') (hX : ∀ v l, X v l → Y v l) {b o : Nat} {f : Fo} (hb : b < w.heap.size) (h : FoR w X b o f) : FoR w' Y b o f := by
  obtain ⟨u, h1, h2, h3⟩ := h
  exact ⟨u, h1.below hw hb, (hw.cell (p := ⟨b, o + 14, none⟩) hb).trans h2, h3.mono hw.size (fun b o x hb _ hx => hx.low hw hX hb)⟩
theorem FM.low {w w' : World} (hw : Below w.heap.size w w') {n : Nat} : ∀ {v : Value} {l : List Fo}, FM w n v l → FM w' n v l := by
  induction n with
  | zero => intro v l h; exact h
  | succ n ih => intro v l h; exact RowOf.mono h hw.size (fun b o x hb _ hx => hx.low hw (fun v l => ih) hb)
theorem PM.low {w w' : World} (hw : Below w.heap.size w w') {n : Nat} {v : Value} {l : List Pa} (h : PM w n v l) : PM w' n v l := RowOf.mono h hw.size (fun b o x hb _ hx => hx.low hw (fun v l => FM.low hw) hb)
theorem FM.up {w : World} {n : Nat} : ∀ {v : Value} {l : List Fo}, FM w n v l → FM w (n + 1) v l := by
  induction n with
  | zero => rintro v l ⟨rfl, a, c, rfl⟩; exact .inl ⟨a, c, rfl, rfl⟩
  | succ n ih =>
    intro v l h
    refine RowOf.mono h (Nat.le_refl _) (fun b o x hb _ hx => ?_)
    obtain ⟨u, h1, h2, h3⟩ := hx
    exact ⟨u, h1, h2, h3.mono (Nat.le_refl _) (fun b o x hb _ hy => by obtain ⟨v, k1, k2, k3⟩ := hy; exact ⟨v, k1, k2, ih k3⟩)⟩
/-- One form of a slice. -/
theorem FM.at {w : World} {n : Nat} {v : Value} {l : List Fo} (h : FM w n v l) {i : Nat} {x : Fo} (hi : l[i]? = some x) : ∃ m, n = m + 1 ∧ ∃ b o c u, v = .slice (some ⟨b, o, none⟩) l.length c ∧ b < w.heap.size ∧ l.length ≤ c ∧ c ≤ 9223372036854775807 ∧ Un w b (o + i * 15) x.us ∧ w.cell? ⟨b, o + i * 15 + 14, none⟩ = some u ∧ PM w m u x.ps := by
  cases n with
  | zero => obtain ⟨rfl, _⟩ := h; simp at hi
  | succ n =>
    obtain ⟨b, o, c, rfl, hb, hc, hm, u, h1, h2, h3⟩ := RowOf.at h hi
    exact ⟨n, rfl, b, o, c, u, rfl, hb, hc, hm, h1, h2, h3⟩
/-- One part of a slice. -/
theorem PM.at {w : World} {n : Nat} {v : Value} {l : List Pa} (h : PM w n v l) {i : Nat} {x : Pa} (hi : l[i]? = some x) : ∃ b o c u, v = .slice (some ⟨b, o, none⟩) l.length c ∧ b < w.heap.size ∧ l.length ≤ c ∧ c ≤ 9223372036854775807 ∧ w.cell? ⟨b, o + i * 2, none⟩ = some (.bool x.1) ∧ w.cell? ⟨b, o + i * 2 + 1, none⟩ = some u ∧ FM w n u x.2 := by
  obtain ⟨b, o, c, rfl, hb, hc, hm, u, h1, h2, h3⟩ := RowOf.at h hi
  exact ⟨b, o, c, u, rfl, hb, hc, hm, h1, h2, h3⟩
/-! ### Seven fractions as letters -/
theorem us7 {us : List (Int × Int)} (h : Us us) : ∃ n0 d0 n1 d1 n2 d2 n3 d3 n4 d4 n5 d5 n6 d6 : Int, us = [(n0, d0), (n1, d1), (n2, d2), (n3, d3), (n4, d4), (n5, d5), (n6, d6)] := by
  match us, h.1 with
  | [(n0, d0), (n1, d1), (n2, d2), (n3, d3), (n4, d4), (n5, d5), (n6, d6)], _ => exact ⟨n0, d0, n1, d1, n2, d2, n3, d3, n4, d4, n5, d5, n6, d6, rfl⟩
/-- Their values. -/
def usL (us : List (Int × Int)) : List Value := us.flatMap fun r => [.int .i64 r.1, .int .i64 r.2]
/-- The value that is seven fractions; a form's. -/
def usV (us : List (Int × Int)) : Value := .agg (usL us).toArray
def foV (us : List (Int × Int)) (u : Value) : Value := .agg (usL us ++ [u]).toArray
theorem us_at {us : List (Int × Int)} (h : Us us) {k : Nat} (hk : k < 7) : ∃ n d, us[k]? = some (n, d) ∧ i64 n ∧ i64 d := by
  have hl : k < us.length := by rw [h.1]; exact hk
  exact ⟨us[k].1, us[k].2, List.getElem?_eq_getElem hl, h.2 _ (List.getElem_mem hl)⟩
theorem ix7 {n0 d0 n1 d1 n2 d2 n3 d3 n4 d4 n5 d5 n6 d6 : Int} {k : Nat} (h : k < 7) (T : TypeId) (hT : T = 27 ∨ T = 67) {n d : Int} (hr : [(n0, d0), (n1, d1), (n2, d2), (n3, d3), (n4, d4), (n5, d5), (n6, d6)][k]? = some (n, d)) (W : World) :
    (Instr.index T (.agg #[.int .i64 n0, .int .i64 d0, .int .i64 n1, .int .i64 d1, .int .i64 n2, .int .i64 d2, .int .i64 n3, .int .i64 d3, .int .i64 n4, .int .i64 d4, .int .i64 n5, .int .i64 d5, .int .i64 n6, .int .i64 d6]) (.int .i64 k)).run Tryd.prog W = .ok (.agg #[.int .i64 n, .int .i64 d]) W := by
  rcases hT with rfl | rfl <;> rcases (show k = 0 ∨ k = 1 ∨ k = 2 ∨ k = 3 ∨ k = 4 ∨ k = 5 ∨ k = 6 by omega) with rfl | rfl | rfl | rfl | rfl | rfl | rfl <;> (simp at hr; obtain ⟨rfl, rfl⟩ := hr; kernel_rfl)
end Go.Proofs.YtlhmecagijdinaaDoor.nm
set_option linter.unusedVariables false
set_option linter.unusedSimpArgs false
namespace Go.Proofs.YtlhmecagijdinaaDoor.nm
open Go.RowKit

def eq7 (a b : List (Int × Int)) : Bool := decide (a = b)
theorem eqI (d : Nat) (a b : Int) (W : World) : (Op.equalIn (d + 1) 2 (.int .i64 a) (.int .i64 b)).run Tryd.prog W = .ok (a == b) W := run_equalIn_int W d 2 .i64 .i64 a b Tryd.underlying2
theorem ptR (x y : Value) (W : World) : (part 2 #[x, y] 0).run Tryd.prog W = .ok x W ∧ (part 2 #[x, y] 1).run Tryd.prog W = .ok y W := by
  refine ⟨?_, ?_⟩ <;> simp [part, go_sem]
theorem eqR (d : Nat) (a b c e : Int) (W : World) : (Op.equalIn (d + 2) 23 (.agg #[.int .i64 a, .int .i64 b]) (.agg #[.int .i64 c, .int .i64 e])).run Tryd.prog W = .ok ((a == c) && (b == e)) W := by
  have hf : (Tryd.prog.fieldsOf 23).toList = [{ name := "Num", type := 2, offset := 0, embedded := false, tag := "", pkgPath := "", byteOffset := 0 }, { name := "Den", type := 2, offset := 1, embedded := false, tag := "", pkgPath := "", byteOffset := 8 }] := by kernel_rfl
  have p0 := fun (x y : Value) W => (ptR x y W).1
  have p1 := fun (x y : Value) W => (ptR x y W).2
  rw [run_equalIn_struct W (d + 1) 23 _ _ (by kernel_rfl) (by kernel_rfl), hf]
  have s0 : ¬ ("Num" = "_") := by decide
  have s1 : ¬ ("Den" = "_") := by decide
  simp only [Op.eqFields, ne_eq, s0, s1, not_false_eq_true, if_true, Sem.run_bind, p0, p1, Result.andThen_ok, eqI]
  generalize (a == c) = x
  cases x
  · simp
  · simp only [Bool.not_true, Bool.false_eq_true, if_false, Op.eqFields, ne_eq, s0, s1, not_false_eq_true, if_true, Sem.run_bind, p0, p1, Result.andThen_ok, eqI]
    generalize (b == e) = y
    cases y <;> simp
theorem prt (n0 d0 n1 d1 n2 d2 n3 d3 n4 d4 n5 d5 n6 d6 : Int) (W : World) : (part 23 #[.int .i64 n0, .int .i64 d0, .int .i64 n1, .int .i64 d1, .int .i64 n2, .int .i64 d2, .int .i64 n3, .int .i64 d3, .int .i64 n4, .int .i64 d4, .int .i64 n5, .int .i64 d5, .int .i64 n6, .int .i64 d6] (0 * 2)).run Tryd.prog W = .ok (.agg #[.int .i64 n0, .int .i64 d0]) W ∧ (part 23 #[.int .i64 n0, .int .i64 d0, .int .i64 n1, .int .i64 d1, .int .i64 n2, .int .i64 d2, .int .i64 n3, .int .i64 d3, .int .i64 n4, .int .i64 d4, .int .i64 n5, .int .i64 d5, .int .i64 n6, .int .i64 d6] (1 * 2)).run Tryd.prog W = .ok (.agg #[.int .i64 n1, .int .i64 d1]) W ∧ (part 23 #[.int .i64 n0, .int .i64 d0, .int .i64 n1, .int .i64 d1, .int .i64 n2, .int .i64 d2, .int .i64 n3, .int .i64 d3, .int .i64 n4, .int .i64 d4, .int .i64 n5, .int .i64 d5, .int .i64 n6, .int .i64 d6] (2 * 2)).run Tryd.prog W = .ok (.agg #[.int .i64 n2, .int .i64 d2]) W ∧ (part 23 #[.int .i64 n0, .int .i64 d0, .int .i64 n1, .int .i64 d1, .int .i64 n2, .int .i64 d2, .int .i64 n3, .int .i64 d3, .int .i64 n4, .int .i64 d4, .int .i64 n5, .int .i64 d5, .int .i64 n6, .int .i64 d6] (3 * 2)).run Tryd.prog W = .ok (.agg #[.int .i64 n3, .int .i64 d3]) W ∧ (part 23 #[.int .i64 n0, .int .i64 d0, .int .i64 n1, .int .i64 d1, .int .i64 n2, .int .i64 d2, .int .i64 n3, .int .i64 d3, .int .i64 n4, .int .i64 d4, .int .i64 n5, .int .i64 d5, .int .i64 n6, .int .i64 d6] (4 * 2)).run Tryd.prog W = .ok (.agg #[.int .i64 n4, .int .i64 d4]) W ∧ (part 23 #[.int .i64 n0, .int .i64 d0, .int .i64 n1, .int .i64 d1, .int .i64 n2, .int .i64 d2, .int .i64 n3, .int .i64 d3, .int .i64 n4, .int .i64 d4, .int .i64 n5, .int .i64 d5, .int .i64 n6, .int .i64 d6] (5 * 2)).run Tryd.prog W = .ok (.agg #[.int .i64 n5, .int .i64 d5]) W ∧ (part 23 #[.int .i64 n0, .int .i64 d0, .int .i64 n1, .int .i64 d1, .int .i64 n2, .int .i64 d2, .int .i64 n3, .int .i64 d3, .int .i64 n4, .int .i64 d4, .int .i64 n5, .int .i64 d5, .int .i64 n6, .int .i64 d6] (6 * 2)).run Tryd.prog W = .ok (.agg #[.int .i64 n6, .int .i64 d6]) W := by
  refine ⟨?_, ?_, ?_, ?_, ?_, ?_, ?_⟩ <;> kernel_rfl
theorem run_eq7 (d : Nat) (n0 d0 n1 d1 n2 d2 n3 d3 n4 d4 n5 d5 n6 d6 m0 e0 m1 e1 m2 e2 m3 e3 m4 e4 m5 e5 m6 e6 : Int) (W : World) : (Op.equalIn (d + 3) 27 (.agg #[.int .i64 n0, .int .i64 d0, .int .i64 n1, .int .i64 d1, .int .i64 n2, .int .i64 d2, .int .i64 n3, .int .i64 d3, .int .i64 n4, .int .i64 d4, .int .i64 n5, .int .i64 d5, .int .i64 n6, .int .i64 d6]) (.agg #[.int .i64 m0, .int .i64 e0, .int .i64 m1, .int .i64 e1, .int .i64 m2, .int .i64 e2, .int .i64 m3, .int .i64 e3, .int .i64 m4, .int .i64 e4, .int .i64 m5, .int .i64 e5, .int .i64 m6, .int .i64 e6])).run Tryd.prog W = .ok (eq7 [(n0, d0), (n1, d1), (n2, d2), (n3, d3), (n4, d4), (n5, d5), (n6, d6)] [(m0, e0), (m1, e1), (m2, e2), (m3, e3), (m4, e4), (m5, e5), (m6, e6)]) W := by
  have hu : Tryd.prog.underlying 27 = some (.array 7 23) := by kernel_rfl
  have hc : Tryd.prog.cellsOf 23 = 2 := by kernel_rfl
  have hI : (Tryd.prog.info? 23).isSome = true := by kernel_rfl
  obtain ⟨i, hi⟩ := Option.isSome_iff_exists.1 hI
  rw [run_equalIn_array W (d + 2) _ _ hu hi, hc, show List.range 7 = [0, 1, 2, 3, 4, 5, 6] from rfl]
  have pa0 := fun W => (prt n0 d0 n1 d1 n2 d2 n3 d3 n4 d4 n5 d5 n6 d6 W).1
  have pa1 := fun W => (prt n0 d0 n1 d1 n2 d2 n3 d3 n4 d4 n5 d5 n6 d6 W).2.1
  have pa2 := fun W => (prt n0 d0 n1 d1 n2 d2 n3 d3 n4 d4 n5 d5 n6 d6 W).2.2.1
  have pa3 := fun W => (prt n0 d0 n1 d1 n2 d2 n3 d3 n4 d4 n5 d5 n6 d6 W).2.2.2.1
  have pa4 := fun W => (prt n0 d0 n1 d1 n2 d2 n3 d3 n4 d4 n5 d5 n6 d6 W).2.2.2.2.1
  have pa5 := fun W => (prt n0 d0 n1 d1 n2 d2 n3 d3 n4 d4 n5 d5 n6 d6 W).2.2.2.2.2.1
  have pa6 := fun W => (prt n0 d0 n1 d1 n2 d2 n3 d3 n4 d4 n5 d5 n6 d6 W).2.2.2.2.2.2
  have pb0 := fun W => (prt m0 e0 m1 e1 m2 e2 m3 e3 m4 e4 m5 e5 m6 e6 W).1
  have pb1 := fun W => (prt m0 e0 m1 e1 m2 e2 m3 e3 m4 e4 m5 e5 m6 e6 W).2.1
  have pb2 := fun W => (prt m0 e0 m1 e1 m2 e2 m3 e3 m4 e4 m5 e5 m6 e6 W).2.2.1
  have pb3 := fun W => (prt m0 e0 m1 e1 m2 e2 m3 e3 m4 e4 m5 e5 m6 e6 W).2.2.2.1
  have pb4 := fun W => (prt m0 e0 m1 e1 m2 e2 m3 e3 m4 e4 m5 e5 m6 e6 W).2.2.2.2.1
  have pb5 := fun W => (prt m0 e0 m1 e1 m2 e2 m3 e3 m4 e4 m5 e5 m6 e6 W).2.2.2.2.2.1
  have pb6 := fun W => (prt m0 e0 m1 e1 m2 e2 m3 e3 m4 e4 m5 e5 m6 e6 W).2.2.2.2.2.2
  have E : eq7 [(n0, d0), (n1, d1), (n2, d2), (n3, d3), (n4, d4), (n5, d5), (n6, d6)] [(m0, e0), (m1, e1), (m2, e2), (m3, e3), (m4, e4), (m5, e5), (m6, e6)] = (((n0 == m0) && (d0 == e0)) && (((n1 == m1) && (d1 == e1)) && (((n2 == m2) && (d2 == e2)) && (((n3 == m3) && (d3 == e3)) && (((n4 == m4) && (d4 == e4)) && (((n5 == m5) && (d5 == e5)) && ((n6 == m6) && (d6 == e6)))))))) := by
    rw [Bool.eq_iff_iff]; simp [eq7]
  rw [E]
  simp only [Op.eqItems, Sem.run_bind, pa0, pa1, pa2, pa3, pa4, pa5, pa6, pb0, pb1, pb2, pb3, pb4, pb5, pb6, Result.andThen_ok, eqR]
  generalize ((n0 == m0) && (d0 == e0)) = x0
  cases x0
  · simp
  simp only [Bool.not_true, Bool.false_eq_true, if_false, Op.eqItems, Sem.run_bind, pa0, pa1, pa2, pa3, pa4, pa5, pa6, pb0, pb1, pb2, pb3, pb4, pb5, pb6, Result.andThen_ok, eqR]
  generalize ((n1 == m1) && (d1 == e1)) = x1
  cases x1
  · simp
  simp only [Bool.not_true, Bool.false_eq_true, if_false, Op.eqItems, Sem.run_bind, pa0, pa1, pa2, pa3, pa4, pa5, pa6, pb0, pb1, pb2, pb3, pb4, pb5, pb6, Result.andThen_ok, eqR]
  generalize ((n2 == m2) && (d2 == e2)) = x2
  cases x2
  · simp
  simp only [Bool.not_true, Bool.false_eq_true, if_false, Op.eqItems, Sem.run_bind, pa0, pa1, pa2, pa3, pa4, pa5, pa6, pb0, pb1, pb2, pb3, pb4, pb5, pb6, Result.andThen_ok, eqR]
  generalize ((n3 == m3) && (d3 == e3)) = x3
  cases x3
  · simp
  simp only [Bool.not_true, Bool.false_eq_true, if_false, Op.eqItems, Sem.run_bind, pa0, pa1, pa2, pa3, pa4, pa5, pa6, pb0, pb1, pb2, pb3, pb4, pb5, pb6, Result.andThen_ok, eqR]
  generalize ((n4 == m4) && (d4 == e4)) = x4
  cases x4
  · simp
  simp only [Bool.not_true, Bool.false_eq_true, if_false, Op.eqItems, Sem.run_bind, pa0, pa1, pa2, pa3, pa4, pa5, pa6, pb0, pb1, pb2, pb3, pb4, pb5, pb6, Result.andThen_ok, eqR]
  generalize ((n5 == m5) && (d5 == e5)) = x5
  cases x5
  · simp
  simp only [Bool.not_true, Bool.false_eq_true, if_false, Op.eqItems, Sem.run_bind, pa0, pa1, pa2, pa3, pa4, pa5, pa6, pb0, pb1, pb2, pb3, pb4, pb5, pb6, Result.andThen_ok, eqR]
  generalize ((n6 == m6) && (d6 == e6)) = x6
  cases x6
  · simp
  · simp [Op.eqItems]
@[go_sem] theorem eq7_sem (n0 d0 n1 d1 n2 d2 n3 d3 n4 d4 n5 d5 n6 d6 m0 e0 m1 e1 m2 e2 m3 e3 m4 e4 m5 e5 m6 e6 : Int) (W : World) : (Op.equalIn 10000 27 (.agg #[.int .i64 n0, .int .i64 d0, .int .i64 n1, .int .i64 d1, .int .i64 n2, .int .i64 d2, .int .i64 n3, .int .i64 d3, .int .i64 n4, .int .i64 d4, .int .i64 n5, .int .i64 d5, .int .i64 n6, .int .i64 d6]) (.agg #[.int .i64 m0, .int .i64 e0, .int .i64 m1, .int .i64 e1, .int .i64 m2, .int .i64 e2, .int .i64 m3, .int .i64 e3, .int .i64 m4, .int .i64 e4, .int .i64 m5, .int .i64 e5, .int .i64 m6, .int .i64 e6])).run Tryd.prog W = .ok (eq7 [(n0, d0), (n1, d1), (n2, d2), (n3, d3), (n4, d4), (n5, d5), (n6, d6)] [(m0, e0), (m1, e1), (m2, e2), (m3, e3), (m4, e4), (m5, e5), (m6, e6)]) W := run_eq7 9997 n0 d0 n1 d1 n2 d2 n3 d3 n4 d4 n5 d5 n6 d6 m0 e0 m1 e1 m2 e2 m3 e3 m4 e4 m5 e5 m6 e6 W
end Go.Proofs.YtlhmecagijdinaaDoor.nm
