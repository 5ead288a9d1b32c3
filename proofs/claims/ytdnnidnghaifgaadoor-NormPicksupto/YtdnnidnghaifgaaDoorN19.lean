/-
  May an expression be: by the reference.
  The kind of an expression: plain; by the program.
-/
import Derived.Test.YtdnnidnghaifgaaDoorN18
import Derived.Deep.DeepCutAuto
set_option linter.unusedVariables false
set_option linter.unusedSimpArgs false
namespace Go.Proofs.YtdnnidnghaifgaaDoor
open Go.RowKit

theorem cnt_true {k : Int} {n : Nat} (h : cntM k n = true) : ((k = 2 ∨ k = 4 ∨ k = 6 ∨ k = 7) ∧ 1 ≤ n) ∨ (k = 3 ∧ n = 1) ∨ (k = 5 ∧ n = 1) ∨ (k = 8 ∧ n = 3) := by
  unfold cntM at h
  split at h
  · rename_i g; exact .inl ⟨g, by simpa using h⟩
  split at h
  · rename_i g; rcases g with g | g
    · exact .inr (.inl ⟨g, by simpa using h⟩)
    · exact .inr (.inr (.inl ⟨g, by simpa using h⟩))
  split at h
  · rename_i g; exact .inr (.inr (.inr ⟨g, by simpa using h⟩))
  · cases h
theorem cnt_false {k : Int} {n : Nat} (h : cntM k n = false) (h1 : 1 < k) (h2 : k ≤ 8) : n = 0 ∨ (k = 3 ∧ ¬ n = 1) ∨ (k = 5 ∧ ¬ n = 1) ∨ (k = 8 ∧ ¬ n = 3) := by
  unfold cntM at h
  split at h
  · left; have : ¬ 1 ≤ n := by simpa using h
    omega
  split at h
  · rename_i g
    have : ¬ n = 1 := by simpa using h
    rcases g with g | g
    · exact .inr (.inl ⟨g, this⟩)
    · exact .inr (.inr (.inl ⟨g, this⟩))
  split at h
  · rename_i g; exact .inr (.inr (.inr ⟨g, by simpa using h⟩))
  · exfalso; omega
theorem cnt_out {k : Int} {n : Nat} (h : k < 1 ∨ 8 < k) : cntM k n = false := by
  unfold cntM; rw [if_neg (by omega), if_neg (by omega), if_neg (by omega)]
end Go.Proofs.YtdnnidnghaifgaaDoor
set_option linter.unusedVariables false
set_option linter.unusedSimpArgs false
namespace Go.Proofs.YtdnnidnghaifgaaDoor.cc
open Go.RowKit

/-- A product's kind: its kids' kinds are given. -/
def prK : List Nat → Nat → Nat
  | [], p => p
  | k :: r, p => if k = 1 then prK r p else if k = 2 ∧ p = 1 then prK r 2 else 0
/-- The kind that all have. -/
def coK : List Nat → Nat
  | [] => 0
  | k :: r => if r.all (fun x => x == k) then k else 0
mutual
/-- The kind of an expression: 1 a number, 2 a length, 0 none. -/
def kdE : Ex → Nat
  | .mk k n d u ks => if k = 1 then (if u = 0 then 1 else 2) else if k = 4 then prK (kdEs ks) 1 else if k = 5 then (if (kdEs ks).head? = some 1 then 1 else 0) else coK (kdEs ks)
def kdEs : List Ex → List Nat
  | [] => []
  | e :: es => kdE e :: kdEs es
end
theorem kdEs_nil : kdEs [] = [] := by rw [kdEs]
theorem kdEs_cons (e : Ex) (es : List Ex) : kdEs (e :: es) = kdE e :: kdEs es := by rw [kdEs]
theorem kdEs_map (l : List Ex) : kdEs l = l.map kdE := by
  induction l with
  | nil => exact kdEs_nil
  | cons e r ih => rw [kdEs_cons, ih]; rfl
theorem kdE_eq (e : Ex) : kdE e = if e.k = 1 then (if e.u = 0 then 1 else 2) else if e.k = 4 then prK (e.ks.map kdE) 1 else if e.k = 5 then (if (e.ks.map kdE).head? = some 1 then 1 else 0) else coK (e.ks.map kdE) := by
  cases e with | mk k n d u ks => rw [kdE, kdEs_map]; rfl
theorem prK_le (l : List Nat) : ∀ p, p ≤ 2 → prK l p ≤ 2 := by
  induction l with
  | nil => intro p h; exact h
  | cons k r ih => intro p h; rw [prK]; split; exact ih p h; split; exact ih 2 (by omega); omega
theorem kdE_le (N : Nat) : ∀ e, szE e ≤ N → kdE e ≤ 2 := by
  induction N with
  | zero => intro e h; rw [szE_ks] at h; omega
  | succ N ih =>
    intro e h
    rw [szE_ks] at h
    rw [kdE_eq]
    split
    · split <;> omega
    split
    · exact prK_le _ _ (by omega)
    split
    · split <;> omega
    · cases hk : e.ks with
      | nil => simp [coK]
      | cons x r =>
        simp only [List.map_cons, coK]
        split
        · exact ih x (by have := szEs_at (l := e.ks) (k := 0) (x := x) (by rw [hk]; rfl); omega)
        · omega
/-! ### By the program -/
def RelPk (w : World) (l : List Ex) (i p : Value) (wr : World) : Prop := ∃ (k q : Nat), i = .int .i64 k ∧ p = .int .i64 q ∧ k ≤ l.length ∧ (q = 1 ∨ q = 2) ∧ Below w.heap.size w wr ∧ Hid (prK (l.map kdE) 1 = prK ((l.drop k).map kdE) q)
theorem RelPk.mk {w : World} {l : List Ex} {i p : Value} {wr : World} (k q : Nat) (h1 : i = .int .i64 k) (h2 : p = .int .i64 q) (h3 : k ≤ l.length) (h4 : q = 1 ∨ q = 2) (h5 : Below w.heap.size w wr) (h6 : prK (l.map kdE) 1 = prK ((l.drop k).map kdE) q) : RelPk w l i p wr := ⟨k, q, h1, h2, h3, h4, h5, h6⟩
def KdC (N : Nat) : Prop := ∀ (x : Ex) (j : Nat) (u : Value) (w : World), szE x ≤ N → exM x j = true → EM w u x.ks → Calls Tryd.prog 34 #[exV x u] w fun e w' => e = .returned (.int .i64 (kdE x)) ∧ Below w.heap.size w w'
theorem exMs_at {l : List Ex} {n k : Nat} {x : Ex} (h : exMs l n = true) (hx : l[k]? = some x) : exM x n = true := by
  induction l generalizing k with
  | nil => simp at hx
  | cons y r ih =>
    rw [exMs_cons, Bool.and_eq_true] at h
    cases k with
    | zero => cases hx; exact h.1
    | succ k => exact ih h.2 hx
set_option maxRecDepth 100000 in
set_option maxHeartbeats 4000000 in
theorem productKind_of (N : Nat) (hN : KdC N) (l : List Ex) (j : Nat) (v : Value) (w : World) (hz : szEs l ≤ N) (hm : exMs l j = true) (hv : EM w v l) :
    Calls Tryd.prog 58 #[v] w fun e w' => e = .returned (.int .i64 (prK (l.map kdE) 1)) ∧ Below w.heap.size w w' := by
  obtain ⟨a, c, rfl, hl9⟩ := hv.shape
  have HV := hide hv
  have HN := hide hN
  have HM := hide hm
  clear hv hN hm
  go_enter Tryd.func58, Tryd.ntmps58
  go_wp2
  go_loopw [9, 3] (fun i p wr => RelPk w l i p wr) (fun i _ _ => l.length - (intOf i).toNat)
  case atStart => exact .mk 0 1 rfl rfl (by omega) (.inl rfl) (Below.refl _ _) rfl
  case round =>
    obtain ⟨m, q, rfl, rfl, hm, hq, BE, R⟩ := hrel
    replace BE := hide BE
    by_cases hlt : m < l.length
    · obtain ⟨x, hx⟩ : ∃ x, l[m]? = some x := ⟨_, List.getElem?_eq_getElem hlt⟩
      obtain ⟨b, o, c', u, hv', hb, -, -, xo, t5, hu5, hku⟩ := HV.out.at hx
      obtain ⟨rfl, rfl⟩ : a = some ⟨b, o, none⟩ ∧ c = c' := by cases hv'; exact ⟨rfl, rfl⟩
      obtain ⟨ua, uc, hus, hks9⟩ := hku.shape
      have SZ := hide (show szE x ≤ N by have := szEs_at hx; omega)
      have KU := hide hku
      have MX := hide (exMs_at HM.out hx)
      have R2 := hide (show prK (l.map kdE) 1 = prK (kdE x :: (l.drop (m + 1)).map kdE) q by rw [R.out, drop_atE hx]; rfl)
      have hlt' : (m : Int) < l.length := by omega
      obtain ⟨c0, c1, c2, c3⟩ := t5.below BE.out hb
      have c4 := (BE.out.cell (p := ⟨b, o + m * 5 + 4, none⟩) hb).trans hu5
      have hbw : b < wr.heap.size := by have := BE.out.size; omega
      have nb : b ≠ wr.heap.size := by omega
      have KL := kdE_le _ x (Nat.le_refl _)
      clear hx hv' t5 hu5 hku R xo
      subst hus
      have CI := hide (fun (W : World) (h : Below w.heap.size w W) => HN.out x j (.slice ua x.ks.length uc) W SZ.out MX.out (KU.out.low h))
      unfold exV at CI
      generalize x.k = xk at *
      generalize x.n = xn at *
      generalize x.d = xd at *
      generalize x.u = xu at *
      rcases (show kdE x = 0 ∨ kdE x = 1 ∨ kdE x = 2 by omega) with hk | hk | hk
      · have F := hide (show (prK (l.map kdE) 1 : Int) = 0 by rw [R2.out, hk]; rfl)
        rw [hk] at CI
        clear R2 hk KL
        rcases hq with rfl | rfl
        all_goals
          go_wp2_with (go_at_call 34; refine (CI.out _ (bplus BE.out _)).mono ?_; rintro e w4 ⟨rfl, B4⟩; replace B4 := hide (bto (bplus BE.out _) B4))
          go_ret
          exact ⟨ret_int F.out.symm, B4.out⟩
      · have E := hide (show prK (l.map kdE) 1 = prK ((l.drop (m + 1)).map kdE) q by rw [R2.out, hk]; rfl)
        rw [hk] at CI
        clear R2 hk KL
        go_wp2_with (go_at_call 34; refine (CI.out _ (bplus BE.out _)).mono ?_; rintro e w4 ⟨rfl, B4⟩; replace B4 := hide (bto (bplus BE.out _) B4))
        go_roundw
        case rel => exact .mk (m + 1) q (by go_num) rfl (by omega) hq B4.out E.out
        case measure => simp [intOf]; omega
      · rw [hk] at CI
        rcases hq with rfl | rfl
        · have E := hide (show prK (l.map kdE) 1 = prK ((l.drop (m + 1)).map kdE) 2 by rw [R2.out, hk]; rfl)
          clear R2 hk KL
          go_wp2_with (go_at_call 34; refine (CI.out _ (bplus BE.out _)).mono ?_; rintro e w4 ⟨rfl, B4⟩; replace B4 := hide (bto (bplus BE.out _) B4))
          go_roundw
          case rel => exact .mk (m + 1) 2 (by go_num) rfl (by omega) (.inr rfl) B4.out E.out
          case measure => simp [intOf]; omega
        · have F := hide (show (prK (l.map kdE) 1 : Int) = 0 by rw [R2.out, hk]; rfl)
          clear R2 hk KL
          go_wp2_with (go_at_call 34; refine (CI.out _ (bplus BE.out _)).mono ?_; rintro e w4 ⟨rfl, B4⟩; replace B4 := hide (bto (bplus BE.out _) B4))
          go_ret
          exact ⟨ret_int F.out.symm, B4.out⟩
    · have F := hide (show (prK (l.map kdE) 1 : Int) = q by rw [R.out, List.drop_of_length_le (by omega)]; rfl)
      have hlt' : ¬ (m : Int) < l.length := by omega
      go_wp2
      go_ret
      exact ⟨ret_int F.out.symm, BE.out⟩
end Go.Proofs.YtdnnidnghaifgaaDoor.cc
