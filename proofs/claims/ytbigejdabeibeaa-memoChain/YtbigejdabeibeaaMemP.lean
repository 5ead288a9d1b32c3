/-
  Cells that ask the cells ahead of them: what they are in memory; each is asked, and runs once.
-/
import Derived.Test.YtbigejdabeibeaaMemC
import Derived.Outline
set_option linter.unusedVariables false
set_option linter.unusedSimpArgs false
namespace Go.Proofs.Ytbigejdabeibeaa
open Go.RowKit

/-- Where all stands: runs (the variable r, its row rb), cells (the variable c, its row cb), the cells bs, their numbers ks; m of each. -/
structure Lay where
  m : Nat
  r : Nat
  c : Nat
  rb : Nat
  cb : Nat
  bs : Nat → Nat
  ks : Nat → Nat
/-- A cell's state: 0 fresh, 1 running, 2 done. -/
def StAt (L : Lay) (w : World) (j : Nat) : Nat → Prop
  | 0 => CellAt w (L.bs j) 0 0 (.func (.func 32) #[] #[.pointer (some ⟨L.r, 0, none⟩), .pointer (some ⟨L.ks j, 0, none⟩), .pointer (some ⟨L.c, 0, none⟩)]) (.int .i64 0) 0 0
  | 1 => CellAt w (L.bs j) 0 1 .nilFunc (.int .i64 0) 1 0
  | _ => CellAt w (L.bs j) 1 0 .nilFunc (.int .i64 (j + 1)) 1 1
theorem StAt.lt {L : Lay} {w : World} {j s : Nat} (h : StAt L w j s) : L.bs j < w.heap.size := by
  match s, h with
  | 0, h => exact CellAt.lt h
  | 1, h => exact CellAt.lt h
  | _ + 2, h => exact CellAt.lt h
theorem StAt.ch {S : Nat → Prop} {L : Lay} {w w' : World} {j s : Nat} (h : StAt L w j s) (k : Ch S w w') (hb : ¬ S (L.bs j)) : StAt L w' j s := by
  match s, h with
  | 0, h => exact CellAt.ch h k hb
  | 1, h => exact CellAt.ch h k hb
  | _ + 2, h => exact CellAt.ch h k hb
/-- p cells are there. -/
structure Chain (L : Lay) (p : Nat) (w : World) (st : Nat → Nat) (rho : Nat → Int) : Prop where
  rl : L.r < w.heap.size
  r0 : w.cell? ⟨L.r, 0, none⟩ = some (.slice (some ⟨L.rb, 0, none⟩) L.m L.m)
  cl : L.c < w.heap.size
  c0 : w.cell? ⟨L.c, 0, none⟩ = some (.slice (some ⟨L.cb, 0, none⟩) L.m L.m)
  rbl : L.rb < w.heap.size
  ra : ∀ j, j < L.m → w.cell? ⟨L.rb, j, none⟩ = some (.int .i64 (rho j))
  rz : ∀ j, w.frozen? ⟨L.rb, j, none⟩ = false
  cbl : L.cb < w.heap.size
  cv : ∀ j, j < L.m → ∃ v, w.cell? ⟨L.cb, j, none⟩ = some v
  cz : ∀ j, w.frozen? ⟨L.cb, j, none⟩ = false
  ca : ∀ j, j < p → w.cell? ⟨L.cb, j, none⟩ = some (.pointer (some ⟨L.bs j, 0, none⟩))
  kl : ∀ j, j < p → L.ks j < w.heap.size
  ka : ∀ j, j < p → w.cell? ⟨L.ks j, 0, none⟩ = some (.int .i64 j)
  ce : ∀ j, j < p → StAt L w j (st j)
/-- What stands apart. -/
structure Apart (L : Lay) (p : Nat) : Prop where
  inj : ∀ i j, i < p → j < p → L.bs i = L.bs j → i = j
  br : ∀ j, j < p → L.bs j ≠ L.r
  bc : ∀ j, j < p → L.bs j ≠ L.c
  brb : ∀ j, j < p → L.bs j ≠ L.rb
  bcb : ∀ j, j < p → L.bs j ≠ L.cb
  bk : ∀ i j, i < p → j < p → L.bs i ≠ L.ks j
  rk : ∀ j, j < p → L.rb ≠ L.ks j
  r1 : L.rb ≠ L.r
  r2 : L.rb ≠ L.c
  r3 : L.rb ≠ L.cb
  c1 : L.cb ≠ L.r
  c2 : L.cb ≠ L.c
  ck : ∀ j, j < p → L.cb ≠ L.ks j
/-- Cell k has turned, nothing else. -/
theorem Chain.turn {L : Lay} {p : Nat} {w w' : World} {st : Nat → Nat} {rho : Nat → Int} (h : Chain L p w st rho) (A : Apart L p) {k : Nat} (hk : k < p) (c : Ch (fun i => i = L.bs k) w w') {s : Nat} (hs : StAt L w' k s) {st' : Nat → Nat} (e1 : st' k = s) (e2 : ∀ j, j ≠ k → st' j = st j) : Chain L p w' st' rho :=
  ⟨Nat.lt_of_lt_of_le h.rl c.size, (c.cell h.rl (fun e => A.br k hk e.symm) _).trans h.r0, Nat.lt_of_lt_of_le h.cl c.size, (c.cell h.cl (fun e => A.bc k hk e.symm) _).trans h.c0,
    Nat.lt_of_lt_of_le h.rbl c.size, fun j hj => (c.cell h.rbl (fun e => A.brb k hk e.symm) _).trans (h.ra j hj), fun j => (c.frozen h.rbl (fun e => A.brb k hk e.symm) _).trans (h.rz j),
    Nat.lt_of_lt_of_le h.cbl c.size, fun j hj => by obtain ⟨v, hv⟩ := h.cv j hj; exact ⟨v, (c.cell h.cbl (fun e => A.bcb k hk e.symm) _).trans hv⟩, fun j => (c.frozen h.cbl (fun e => A.bcb k hk e.symm) _).trans (h.cz j),
    fun j hj => (c.cell h.cbl (fun e => A.bcb k hk e.symm) _).trans (h.ca j hj), fun j hj => Nat.lt_of_lt_of_le (h.kl j hj) c.size, fun j hj => (c.cell (h.kl j hj) (fun e => A.bk k j hk hj e.symm) _).trans (h.ka j hj),
    fun j hj => by
      by_cases e : j = k
      · subst e; rw [e1]; exact hs
      · rw [e2 j e]; exact (h.ce j hj).ch c (fun g => e (A.inj j k hj hk g))⟩
/-- A run is counted. -/
theorem Chain.count {L : Lay} {p : Nat} {w : World} {st : Nat → Nat} {rho : Nat → Int} (h : Chain L p w st rho) (A : Apart L p) {k : Nat} (hk : k < L.m) (x : Int) {rho' : Nat → Int} (e1 : rho' k = x) (e2 : ∀ j, j ≠ k → rho' j = rho j) : Chain L p (w.setCell ⟨L.rb, k, none⟩ (.int .i64 x)) st rho' := by
  have c : Ch (fun i => i = L.rb) w (w.setCell ⟨L.rb, k, none⟩ (.int .i64 x)) := (Ch.refl _ _).setb _
  exact ⟨Nat.lt_of_lt_of_le h.rl c.size, (c.cell h.rl (fun e => A.r1 e.symm) _).trans h.r0, Nat.lt_of_lt_of_le h.cl c.size, (c.cell h.cl (fun e => A.r2 e.symm) _).trans h.c0,
    Nat.lt_of_lt_of_le h.rbl c.size, fun j hj => by
      by_cases e : j = k
      · subst e; rw [e1]; exact set_s (h.ra j hj)
      · rw [e2 j e]; exact set_o (h.ra j hj) (fun g => e g.symm),
    fun j => set_z (h.rz j),
    Nat.lt_of_lt_of_le h.cbl c.size, fun j hj => by obtain ⟨v, hv⟩ := h.cv j hj; exact ⟨v, (c.cell h.cbl (fun e => A.r3 e.symm) _).trans hv⟩, fun j => (c.frozen h.cbl (fun e => A.r3 e.symm) _).trans (h.cz j),
    fun j hj => (c.cell h.cbl (fun e => A.r3 e.symm) _).trans (h.ca j hj), fun j hj => Nat.lt_of_lt_of_le (h.kl j hj) c.size, fun j hj => (c.cell (h.kl j hj) (fun e => A.rk j hj e.symm) _).trans (h.ka j hj),
    fun j hj => (h.ce j hj).ch c (A.brb j hj)⟩
/-- The blocks that are the cells' own. -/
def Own (L : Lay) (i : Nat) : Prop := i = L.rb ∨ ∃ j, j < L.m ∧ i = L.bs j
def upTo (k : Nat) (st : Nat → Nat) (j : Nat) : Nat := if j ≤ k then 2 else st j
def cnt (st : Nat → Nat) (j : Nat) : Int := if st j = 0 then 0 else 1
def PostC (L : Lay) (k : Nat) (w : World) (st : Nat → Nat) (e : Ending) (w' : World) : Prop := e = .returned (.int .i64 (k + 1)) ∧ Chain L L.m w' (upTo k st) (cnt (upTo k st)) ∧ Ch (Own L) w w'
/-- What the function of cell k does: it is counted, and asks the cell ahead. -/
def PostF (L : Lay) (k : Nat) (w : World) (st : Nat → Nat) (x : Int) (w' : World) : Prop := x = k + 1 ∧ (∃ st', (∀ j, st' j = if j < k then 2 else if j = k then 1 else st j) ∧ Chain L L.m w' st' (cnt st')) ∧ Ch (Own L) w w'
def GetC (L : Lay) (k : Nat) : Prop := ∀ (w : World) (st : Nat → Nat), Chain L L.m w st (cnt st) → (∀ j, j ≤ k → st j ≠ 1 ∧ st j ≤ 2) → (∀ i j, i ≤ j → j ≤ k → st j = 2 → st i = 2) →
  Calls Try.prog 11 #[.pointer (some ⟨L.bs k, 0, none⟩)] w fun e w' => PostC L k w st e w'
set_option maxRecDepth 100000 in
set_option maxHeartbeats 1600000 in
/-- The function of the first cell. -/
theorem fun_zero (L : Lay) (hm : 0 < L.m) (h9 : L.m ≤ 20) (A : Apart L L.m) (w : World) (st st' : Nat → Nat) (h : Chain L L.m w st' (cnt st)) (h0 : st 0 = 0) (e1 : st' 0 = 1) (e2 : ∀ j, j ≠ 0 → st' j = st j) :
    Calls Try.prog 32 #[.pointer (some ⟨L.r, 0, none⟩), .pointer (some ⟨L.ks 0, 0, none⟩), .pointer (some ⟨L.c, 0, none⟩)] w fun e w' => ∃ x, e = .returned (.int .i64 x) ∧ PostF L 0 w st x w' := by
  have r0 := h.r0
  have k0 := h.ka 0 hm
  have a0 := h.ra 0 hm
  have z0 := h.rz 0
  have ec : cnt st 0 = 0 := by unfold cnt; rw [h0]; rfl
  rw [ec] at a0
  have ej : ∀ j, st' j = if j < 0 then 2 else if j = 0 then 1 else st j := fun j => by
    by_cases e : j = 0
    · subst e; simpa using e1
    · simpa [e] using e2 j e
  have FIN := hide (show PostF L 0 w st 1 (w.setCell ⟨L.rb, 0, none⟩ (.int .i64 1)) from
    ⟨rfl, ⟨st', ej, h.count A hm 1 (by unfold cnt; rw [e1]; rfl) (fun j hj => by unfold cnt; rw [e2 j hj])⟩, (Ch.refl _ _).set (p := ⟨L.rb, 0, none⟩) (fun _ => .inl rfl) _⟩)
  clear ej
  obtain ⟨m, hm'⟩ : ∃ m, L.m = m := ⟨_, rfl⟩
  have k1 : w.cell? ⟨L.ks 0, 0, none⟩ = some (.int .i64 0) := k0
  have kk : (w.setCell ⟨L.rb, 0, none⟩ (.int .i64 1)).cell? ⟨L.ks 0, 0, none⟩ = some (.int .i64 0) := (World.cell?_setCell_other w ⟨L.rb, 0, none⟩ ⟨L.ks 0, 0, none⟩ _ (by have := A.rk 0 hm; simp [this])).trans k1
  rw [hm'] at r0 hm
  have hm2 : (0 : Int) < m := by omega
  clear h A k0 ec hm' h9 h0 e1 e2
  go_enter Try.func32, Try.ntmps32
  go_wp2
  go_ret
  exact ⟨_, rfl, FIN.out⟩
set_option maxRecDepth 100000 in
set_option maxHeartbeats 1600000 in
/-- The function of a cell that has one ahead. -/
theorem fun_succ (L : Lay) (k : Nat) (hk : k + 1 < L.m) (h9 : L.m ≤ 20) (A : Apart L L.m) (IH : GetC L k) (w : World) (st st' : Nat → Nat) (h : Chain L L.m w st' (cnt st)) (h0 : st (k + 1) = 0) (e1 : st' (k + 1) = 1) (e2 : ∀ j, j ≠ k + 1 → st' j = st j)
    (g1 : ∀ j, j ≤ k + 1 → st j ≠ 1 ∧ st j ≤ 2) (g2 : ∀ i j, i ≤ j → j ≤ k + 1 → st j = 2 → st i = 2) :
    Calls Try.prog 32 #[.pointer (some ⟨L.r, 0, none⟩), .pointer (some ⟨L.ks (k + 1), 0, none⟩), .pointer (some ⟨L.c, 0, none⟩)] w fun e w' => ∃ x, e = .returned (.int .i64 x) ∧ PostF L (k + 1) w st x w' := by
  have r0 := h.r0
  have k0 := h.ka (k + 1) hk
  have a0 := h.ra (k + 1) hk
  have z0 := h.rz (k + 1)
  have ec : cnt st (k + 1) = 0 := by unfold cnt; rw [h0]; rfl
  rw [ec] at a0
  have C1 : Chain L L.m (w.setCell ⟨L.rb, k + 1, none⟩ (.int .i64 1)) st' (cnt st') := h.count A hk 1 (by unfold cnt; rw [e1]; rfl) (fun j hj => by unfold cnt; rw [e2 j hj])
  have H1 : Ch (Own L) w (w.setCell ⟨L.rb, k + 1, none⟩ (.int .i64 1)) := (Ch.refl _ _).set (p := ⟨L.rb, k + 1, none⟩) (fun _ => .inl rfl) _
  have CG := hide (IH _ st' C1 (fun j hj => by rw [e2 j (by omega)]; exact g1 j (by omega)) (fun i j hij hj e => by rw [e2 j (by omega)] at e; rw [e2 i (by omega)]; exact g2 i j hij (by omega) e))
  have kk := C1.ka (k + 1) hk
  have cc := C1.c0
  have pp := C1.ca k (by omega)
  have FIN := hide (fun (e : Ending) (w' : World) (q : PostC L k (w.setCell ⟨L.rb, k + 1, none⟩ (.int .i64 1)) st' e w') => show PostF L (k + 1) w st (k + 1 + 1) w' from
    ⟨by push_cast; rfl, ⟨upTo k st', fun j => (by
      unfold upTo
      by_cases hj : j ≤ k
      · rw [if_pos hj, if_pos (by omega)]
      · rw [if_neg hj, if_neg (by omega)]
        by_cases e : j = k + 1
        · subst e; rw [if_pos rfl]; exact e1
        · rw [if_neg e]; exact e2 j e), q.2.1⟩, H1.trans q.2.2⟩)
  obtain ⟨m, hm'⟩ : ∃ m, L.m = m := ⟨_, rfl⟩
  rw [hm'] at r0 hk cc h9
  have i1 : ((k : Int) + 1) < m := by omega
  have i2 : (0 : Int) ≤ (k : Int) + 1 := by omega
  have i3 : ((k : Int) + 1 == 0) = false := by simp; omega
  have i4 : (k : Int) < m := by omega
  have i5 : ((k + 1 : Nat) : Int) = (k : Int) + 1 := by push_cast; rfl
  rw [i5] at k0 kk
  clear h A ec hm' h0 e1 e2 g1 g2 C1 H1 IH i5
  go_enter Try.func32, Try.ntmps32
  go_wp2_with (go_at_call 11; refine CG.out.mono ?_; intro e w2 q; have F2 := hide (FIN.out e w2 q); obtain ⟨rfl, q2⟩ := q; clear q2)
  go_ret
  exact ⟨_, rfl, F2.out⟩
def FunC (L : Lay) (k : Nat) : Prop := ∀ (w : World) (st st' : Nat → Nat), Chain L L.m w st' (cnt st) → st k = 0 → st' k = 1 → (∀ j, j ≠ k → st' j = st j) → (∀ j, j ≤ k → st j ≠ 1 ∧ st j ≤ 2) → (∀ i j, i ≤ j → j ≤ k → st j = 2 → st i = 2) →
  Calls Try.prog 32 #[.pointer (some ⟨L.r, 0, none⟩), .pointer (some ⟨L.ks k, 0, none⟩), .pointer (some ⟨L.c, 0, none⟩)] w fun e w' => ∃ x, e = .returned (.int .i64 x) ∧ PostF L k w st x w'
theorem call_chain (x y z : Value) (w : World) : (callFunc 32 #[x, y, z]).run Try.prog w = .ok (.enter 32 #[x, y, z]) w := by kernel_rfl
theorem get_of_fun (L : Lay) (k : Nat) (hk : k < L.m) (A : Apart L L.m) (F : FunC L k) : GetC L k := by
  intro w st h g1 g2
  by_cases h2 : st k = 2
  · have e : upTo k st = st := funext fun j => by
      unfold upTo
      by_cases hj : j ≤ k
      · rw [if_pos hj, g2 j k hj (Nat.le_refl _) h2]
      · rw [if_neg hj]
    have c := h.ce k hk
    rw [h2] at c
    refine (get_again (L.bs k) _ _ _ _ w c).mono ?_
    rintro e' w' ⟨rfl, rfl⟩
    exact ⟨rfl, by rw [e]; exact h, Ch.refl _ _⟩
  · have h0 : st k = 0 := by have := g1 k (Nat.le_refl _); omega
    have c := h.ce k hk
    rw [h0] at c
    refine (get_first (L.bs k) _ _ (.int .i64 0) w (fun x w2 => PostF L k w st x w2) (call_chain _ _ _) c (fun w1 A1 C1 => ?_) (fun x w2 q => ?_)).mono ?_
    · have t1 : Chain L L.m w1 (fun j => if j = k then 1 else st j) (cnt st) := h.turn A hk C1 (s := 1) A1 (by simp) (fun j hj => by simp [hj])
      refine (F w1 st _ t1 h0 (by simp) (fun j hj => by simp [hj]) g1 g2).mono ?_
      rintro e w2 ⟨x, rfl, q1, q2, q3⟩
      exact ⟨x, rfl, q1, q2, (C1.mono (fun i _ e => .inr ⟨k, hk, e⟩)).trans q3⟩
    · obtain ⟨_, ⟨st', e, q⟩, _⟩ := q
      have := q.ce k hk
      rw [e k, if_neg (by omega), if_pos rfl] at this
      exact this
    · rintro e w' ⟨x, w2, ⟨rfl, ⟨st', e, q⟩, C2⟩, rfl, A2, C3⟩
      have ec : cnt st' = cnt (upTo k st) := funext fun j => by
        unfold cnt upTo
        rw [e j]
        by_cases h1 : j < k
        · rw [if_pos h1, if_pos (show j ≤ k by omega)]
        · by_cases h2 : j = k
          · subst h2; simp
          · rw [if_neg h1, if_neg h2, if_neg (show ¬ j ≤ k by omega)]
      refine ⟨rfl, ?_, C2.trans (C3.mono (fun i _ e => .inr ⟨k, hk, e⟩))⟩
      rw [← ec]
      refine q.turn A hk C3 (s := 2) A2 (by simp [upTo]) (fun j hj => ?_)
      unfold upTo
      rw [e j]
      by_cases h1 : j < k
      · rw [if_pos h1, if_pos (show j ≤ k by omega)]
      · rw [if_neg h1, if_neg hj, if_neg (show ¬ j ≤ k by omega)]
theorem get_chain (L : Lay) (h9 : L.m ≤ 20) (A : Apart L L.m) : ∀ k, k < L.m → GetC L k := by
  intro k
  induction k with
  | zero => exact fun hk => get_of_fun L 0 hk A (fun w st st' h h0 e1 e2 _ _ => fun_zero L hk h9 A w st st' h h0 e1 e2)
  | succ k ih => exact fun hk => get_of_fun L (k + 1) hk A (fun w st st' h h0 e1 e2 g1 g2 => fun_succ L k hk h9 A (ih (by omega)) w st st' h h0 e1 e2 g1 g2)
end Go.Proofs.Ytbigejdabeibeaa
