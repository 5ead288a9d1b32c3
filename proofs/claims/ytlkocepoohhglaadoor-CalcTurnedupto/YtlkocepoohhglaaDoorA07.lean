/-
  Plain: component values as trees; a list of tokens, and places in it.
-/
import Derived.Test.YtlkocepoohhglaaDoorA04
set_option linter.unusedVariables false
set_option linter.unusedSimpArgs false
namespace Go.Proofs.YtlkocepoohhglaaDoor

/-- What is open: its token, what stands in it so far; the innermost first, the outermost is none itself. -/
abbrev Fr := TS × List VT
def shF : List Fr → List Fr
  | (τ, ks) :: (σ, ls) :: r => (σ, ls ++ [.mk τ ks]) :: r
  | st => st
def adF (v : VT) : List Fr → List Fr
  | (τ, ks) :: r => (τ, ks ++ [v]) :: r
  | [] => []
/-- Does it close the innermost? -/
def shBv (t : TS) : List Fr → Bool
  | (τ, _) :: _ :: _ => t.k == cKn τ.k
  | _ => false
def stF (st : List Fr) (t : TS) : List Fr := if shBv t st then shF st else if cKn t.k ≠ 0 then (t, []) :: st else adF (.mk t []) st
def fiF : List Fr → List VT
  | [] => []
  | [(_, ks)] => ks
  | (τ, ks) :: (σ, ls) :: r => fiF ((σ, ls ++ [.mk τ ks]) :: r)
termination_by st => st.length
/-- All component values, as the reference finds them. -/
def valsF (l : List TS) : List VT := fiF (l.foldl stF [(zT 0, [])])
/-! How deep a value nests. -/
mutual
def dV : VT → Nat
  | .mk t ks => if cKn t.k = 0 then 0 else dL ks + 1
def dL : List VT → Nat
  | [] => 0
  | v :: vs => max (dV v) (dL vs)
end
theorem dL_cons (v : VT) (vs : List VT) : dL (v :: vs) = max (dV v) (dL vs) := by rw [dL]
theorem dL_snoc (vs : List VT) (v : VT) : dL (vs ++ [v]) = max (dL vs) (dV v) := by
  induction vs with
  | nil =>
    have e : dL [] = 0 := by rw [dL]
    show dL [v] = max (dL []) (dV v)
    rw [dL_cons, e]; omega
  | cons x r ih =>
    have e : ∀ q, dL (x :: q) = max (dV x) (dL q) := fun q => by rw [dL]
    show dL (x :: (r ++ [v])) = max (dL (x :: r)) (dV v)
    rw [e, e, ih]; omega
theorem dV_leaf {t : TS} (ks : List VT) (h : cKn t.k = 0) : dV (.mk t ks) = 0 := by rw [dV, if_pos h]
theorem dV_opn {t : TS} (ks : List VT) (h : cKn t.k ≠ 0) : dV (.mk t ks) = dL ks + 1 := by rw [dV, if_neg h]
/-- What is told of each place: an opener's end, how deep it nests. -/
structure ED where
  E : Nat → Nat
  D : Nat → Nat
/-- The places from a up to b hold these values, all closed ahead of b. -/
inductive Cl (l : List TS) (x : ED) : Nat → Nat → List VT → Prop
  | nil (a : Nat) : Cl l x a a []
  | leaf {a b : Nat} {t : TS} {vs : List VT} (ht : l[a]? = some t) (hc : cKn t.k = 0) (he : x.E a = a) (hd : x.D a = 0) (g : Cl l x (a + 1) b vs) : Cl l x a b (.mk t [] :: vs)
  | opn {a b e : Nat} {t : TS} {ks vs : List VT} (h : a < e) (ht : l[a]? = some t) (hc : cKn t.k ≠ 0) (he : x.E a = e) (hd : x.D a = dL ks + 1) (k : Cl l x (a + 1) e ks) (g : Cl l x (e + 1) b vs) : Cl l x a b (.mk t ks :: vs)
/-- Or the last one is open up to b. -/
inductive Rg (l : List TS) (x : ED) (b : Nat) : Nat → List VT → Prop
  | cl {a : Nat} {vs : List VT} (h : Cl l x a b vs) : Rg l x b a vs
  | un {a p : Nat} {t : TS} {vs ks : List VT} (h : Cl l x a p vs) (ht : l[p]? = some t) (hc : cKn t.k ≠ 0) (hp : p < b) (he : x.E p = b) (hd : x.D p = dL ks + 1) (k : Rg l x b (p + 1) ks) : Rg l x b a (vs ++ [.mk t ks])
theorem Cl.le {l : List TS} {x : ED} {a b : Nat} {vs : List VT} (h : Cl l x a b vs) : a ≤ b := by
  induction h with
  | nil a => exact Nat.le_refl _
  | leaf _ _ _ _ _ ih => omega
  | opn h _ _ _ _ _ _ _ ih => omega
theorem Rg.le {l : List TS} {x : ED} {a b : Nat} {vs : List VT} (h : Rg l x b a vs) : a ≤ b := by
  cases h with
  | cl h => exact h.le
  | un h _ _ hp _ _ _ => have := h.le; omega
/-- What is told of other places may change. -/
theorem Cl.cong {l : List TS} {x y : ED} {a b : Nat} {vs : List VT} (h : Cl l x a b vs) (e : ∀ i, a ≤ i → i < b → x.E i = y.E i ∧ x.D i = y.D i) : Cl l y a b vs := by
  induction h with
  | nil a => exact .nil a
  | leaf ht hc he hd g ih =>
    have := g.le
    obtain ⟨e1, e2⟩ := e _ (Nat.le_refl _) (by omega)
    exact .leaf ht hc (by rw [← e1]; exact he) (by rw [← e2]; exact hd) (ih fun i h1 h2 => e i (by omega) h2)
  | opn h ht hc he hd k g ihk ihg =>
    have gl := g.le
    obtain ⟨e1, e2⟩ := e _ (Nat.le_refl _) (by omega)
    exact .opn h ht hc (by rw [← e1]; exact he) (by rw [← e2]; exact hd) (ihk fun i h1 h2 => e i (by omega) (by omega)) (ihg fun i h1 h2 => e i (by omega) h2)
theorem Rg.cong {l : List TS} {x y : ED} {a b : Nat} {vs : List VT} (h : Rg l x b a vs) (e : ∀ i, a ≤ i → i < b → x.E i = y.E i ∧ x.D i = y.D i) : Rg l y b a vs := by
  induction h with
  | cl h => exact .cl (h.cong e)
  | un h ht hc hp he hd k ih =>
    have := h.le
    obtain ⟨e1, e2⟩ := e _ this hp
    exact .un (h.cong fun i h1 h2 => e i h1 (by omega)) ht hc hp (by rw [← e1]; exact he) (by rw [← e2]; exact hd) (ih fun i h1 h2 => e i (by omega) h2)
/-- Two parts, one behind the other. -/
theorem Cl.snoc {l : List TS} {x : ED} {a b c : Nat} {vs ws : List VT} (h : Cl l x a b vs) (g : Cl l x b c ws) : Cl l x a c (vs ++ ws) := by
  induction h with
  | nil a => exact g
  | leaf ht hc he hd k ih => exact .leaf ht hc he hd (ih g)
  | opn h ht hc he hd k k2 _ ih => exact .opn h ht hc he hd k (ih g)
end Go.Proofs.YtlkocepoohhglaaDoor
