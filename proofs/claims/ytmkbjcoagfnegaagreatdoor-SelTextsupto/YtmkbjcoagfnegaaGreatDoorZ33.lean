/-
  Plain: component values as trees; a list of tokens, and places in it.
-/
import Derived.Test.YtmkbjcoagfnegaaGreatDoorZ26
set_option linter.unusedVariables false
set_option linter.unusedSimpArgs false
namespace Go.Proofs.YtmkbjcoagfnegaaGreatDoor

/-- What is open: its token, what stands in it so far; the innermost first, the outermost is none itself. -/
abbrev Fr := TS × List VT
def shF : List Fr → List Fr
  | (τ, ks) :: (σ, ls) :: r => (σ, ls ++ [.mk τ ks]) :: r
  | st => st
def adF (v : VT) : List Fr → List Fr
  | (τ, ks) :: r => (τ, ks ++ [v]) :: r
  | [] => []
/-- Does it close the innermost? -/
def shBv (t : TS) : List Fr → Bool
  | (τ, _) :: _ :: _ => t.k == cKn τ.k
  | _ => false
def stF (st : List Fr) (t : TS) : List Fr := if shBv t st then shF st else if cKn t.k ≠ 0 then (t, []) :: st else adF (.mk t []) st
def fiF : List Fr → List VT
  | [] => []
  | [(_, ks)] => ks
  | (τ, ks) :: (σ, ls) :: r => fiF ((σ, ls ++ [.mk τ ks]) :: r)
termination_by st => st.length
/-- All component values, as the reference finds them. -/
def valsF (l : List TS) : List VT := fiF (l.foldl stF [(zT 0, [])])
/-! How deep a value nests. -/
mutual
def dV : VT → Nat
  | .mk t ks => if cKn t.k = 0 then 0 else dL ks + 1
def dL : List VT → Nat
  | [] => 0
  | v :: vs => max (dV v) (dL vs)
end
/-- What is told of each place: an opener's end, how deep it nests. -/
structure ED where
  E : Nat → Nat
  D : Nat → Nat
/-- The places from a up to b hold these values, all closed ahead of b. -/
inductive Cl (l : List TS) (x : ED) : Nat → Nat → List VT → Prop
  | nil (a : Nat) : Cl l x a a []
  | leaf {a b : Nat} {t : TS} {vs : List VT} (ht : l[a]? = some t) (hc : cKn t.k = 0) (he : x.E a = a) (hd : x.D a = 0) (g : Cl l x (a + 1) b vs) : Cl l x a b (.mk t [] :: vs)
  | opn {a b e : Nat} {t : TS} {ks vs : List VT} (h : a < e) (ht : l[a]? = some t) (hc : cKn t.k ≠ 0) (he : x.E a = e) (hd : x.D a = dL ks + 1) (k : Cl l x (a + 1) e ks) (g : Cl l x (e + 1) b vs) : Cl l x a b (.mk t ks :: vs)
/-- Or the last one is open up to b. -/
inductive Rg (l : List TS) (x : ED) (b : Nat) : Nat → List VT → Prop
  | cl {a : Nat} {vs : List VT} (h : Cl l x a b vs) : Rg l x b a vs
  | un {a p : Nat} {t : TS} {vs ks : List VT} (h : Cl l x a p vs) (ht : l[p]? = some t) (hc : cKn t.k ≠ 0) (hp : p < b) (he : x.E p = b) (hd : x.D p = dL ks + 1) (k : Rg l x b (p + 1) ks) : Rg l x b a (vs ++ [.mk t ks])
theorem Cl.le {l : List TS} {x : ED} {a b : Nat} {vs : List VT} (h : Cl l x a b vs) : a ≤ b := by
  induction h with
  | nil a => exact Nat.le_refl _
  | leaf _ _ _ _ _ ih => omega
  | opn h _ _ _ _ _ _ _ ih => omega
theorem Rg.le {l : List TS} {x : ED} {a b : Nat} {vs : List VT} (h : Rg l x b a vs) : a ≤ b := by
  cases h with
  | cl h => exact h.le
  | un h _ _ hp _ _ _ => have := h.le; omega
end Go.Proofs.YtmkbjcoagfnegaaGreatDoor

