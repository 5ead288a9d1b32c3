/-
  Regions that end in an append to an own row of fractions.
  A form in px: plain.
  Parts of forms, cell by cell; an own row of parts; what is appended to it.
  The sum of forms, with their parts: by the program.
  What lies from one block on; forms, cell by cell; rows that are copied.
-/
import Derived.Test.YtdnnidnghaifgaaGreatDoorG05
import Derived.Test.YtdnnidnghaifgaaGreatDoorMNuF
import Derived.Test.YtdnnidnghaifgaaGreatDoorG06
import Derived.Test.YtdnnidnghaifgaaGreatDoorG04
import Derived.Laws.AppendOwnNone
import Derived.OwnWalk
import Derived.Laws.IdiomCopy
set_option linter.unusedVariables false
set_option linter.unusedSimpArgs false
namespace Go.Proofs.YtdnnidnghaifgaaGreatDoor.be
open Go.RowKit nm

section
variable {P : Program} {ops : Array Oper} {Q : Exit → Act → World → Prop}
theorem wp_region_tm {id : Nat} {a0 : Act} {w0 : World} (hm : P.follows .mixedOrders = true) (kd : Nat → Kd) (m : Nat) (hmn : m ≤ ops.size) (S : Stat ops.size kd (slotOf ops) a0)
    (hacy : ∀ (i : Nat) (o : Oper), ops[i]? = some o → ∀ e ∈ o.after, e.on < i) (hsuc : sucOk ops m = true)
    (step : ∀ (Q' : Exit → Act → World → Prop) i o, i < m → ops[i]? = some o → ∀ blk listed a w, Inv ops.size kd (slotOf ops) a0 w0 blk listed a w → (∀ e ∈ o.after, Region.binds .any e = true → Ls listed e.on) → (∀ i s, m ≤ i → i < ops.size → slotOf ops i = some s → a.tmps.getD s undef = a0.tmps.getD s undef) → wpOp P ops Q' i (fun a' w' => NextK kd blk listed i o.dst a w a' w') a w)
    (tail : ∀ blk listed a w, Inv ops.size kd (slotOf ops) a0 w0 blk listed a w → (∀ i, i < m → Ls listed i) → (∀ i s, m ≤ i → i < ops.size → slotOf ops i = some s → a.tmps.getD s undef = a0.tmps.getD s undef) → wpOps P ops Q (List.range' m (ops.size - m)) a w) : (Code.region id ops true).wp P Q a0 w0 := by
  have go : ∀ (k : Nat), k < ops.size → ∀ (listed : Array Bool) a w, listed.size = ops.size → m ≤ k → (∀ i, i < k → Ls listed i) → (∀ i, k ≤ i → ¬ Ls listed i) → wpOps P ops Q (List.range' k (ops.size - k)) a w → wpOp P ops Q k (fun a' w' => (listed.setIfInBounds k true).size = ops.size ∧ ∃ q, m ≤ q ∧ q ≤ ops.size ∧ (∀ i, i < q → Ls (listed.setIfInBounds k true) i) ∧ (∀ i, q ≤ i → ¬ Ls (listed.setIfInBounds k true) i) ∧ wpOps P ops Q (List.range' q (ops.size - q)) a' w') a w := by
    intro k hk listed a w hsz hmk h1 h2 h3
    rw [show ops.size - k = (ops.size - (k + 1)) + 1 by omega, List.range'_succ, wpOps_cons] at h3
    refine wpOp_mono (fun a' w' hN => ⟨by simpa using hsz, k + 1, by omega, by omega, fun i hi => ?_, fun i hi hl => ?_, hN⟩) h3
    · by_cases e : i = k
      · subst e; exact Ls.self (by omega)
      · exact (h1 i (by omega)).mono
    · rcases hl.set with e | hl'
      · omega
      · exact h2 i (by omega) hl'
  refine wp_region_inv hm (fun listed a w => listed.size = ops.size ∧ ((Clos ops listed ∧ (∀ i, m ≤ i → ¬ Ls listed i) ∧ (∀ i s, m ≤ i → i < ops.size → slotOf ops i = some s → a.tmps.getD s undef = a0.tmps.getD s undef) ∧ ∃ blk, Inv ops.size kd (slotOf ops) a0 w0 blk listed a w) ∨ (∃ q, m ≤ q ∧ q ≤ ops.size ∧ (∀ i, i < q → Ls listed i) ∧ (∀ i, q ≤ i → ¬ Ls listed i) ∧ wpOps P ops Q (List.range' q (ops.size - q)) a w))) ?_ ?_ ?_
  · have no : ∀ i, ¬ Ls (Array.replicate ops.size false) i := fun i h => by
      unfold Ls at h
      simp only [Array.getD_eq_getD_getElem?, Array.getElem?_replicate] at h
      split at h <;> cases h
    refine ⟨by simp, .inl ⟨fun s o _ hl => absurd hl (no s), fun i _ => no i, fun i s _ _ _ => rfl, fun _ => 0, ?_⟩⟩
    exact ⟨(Up.refl w0).drew, rfl, rfl, fun _ _ => rfl, fun i _ h => absurd h (no i), fun i j _ _ h => absurd h (no i), fun i _ h => absurd h (no i)⟩
  · intro listed a w i hI hi
    obtain ⟨hsz, hI⟩ := hI
    obtain ⟨hi', hl⟩ := ready_false hi
    have hnl := ls_not hl
    have ho : ops[i]? = some ops[i] := Array.getElem?_eq_getElem hi'
    have hs : slotOf ops i = ops[i].dst := by unfold slotOf; rw [ho]; rfl
    rcases hI with ⟨hc, hn, hsl, blk, I⟩ | ⟨q, hmq, hq, h1, h2, h3⟩
    · by_cases him : i < m
      · refine wpOp_mono (fun a' w' hN => ⟨by simpa using hsz, .inl ⟨?_, ?_, ?_, ?_⟩⟩) (step Q i _ him ho blk listed a w I (ready_dep hi ho) hsl)
        · intro s o hso hls e he hb
          rcases hls.set with rfl | hls
          · rw [ho] at hso
            obtain rfl := Option.some.inj hso
            exact (ready_dep hi ho e he hb).mono
          · exact (hc s o hso hls e he hb).mono
        · intro j hj hlj
          rcases hlj.set with e | hlj
          · omega
          · exact hn j hj hlj
        · intro j s hj hjn hjs
          obtain ⟨v, rfl⟩ := hN.put
          rw [← hs, put_other S I.sz hi' hjn (by omega) hjs v]
          exact hsl j s hj hjn hjs
        · rw [← hs] at hN
          exact hN.inv S I hi' hnl
      · have ha := suc_all hsuc hc hi' (by omega) (fun o h => by rw [ho] at h; obtain rfl := Option.some.inj h; exact ready_dep hi ho)
        have e : i = m := by
          refine Nat.le_antisymm (Nat.le_of_not_lt fun hlt => hn m (Nat.le_refl _) (ha m hlt)) (by omega)
        subst e
        exact wpOp_mono (fun a' w' h => ⟨h.1, .inr h.2⟩) (go i hi' listed a w hsz (Nat.le_refl _) ha hn (tail blk listed a w I ha hsl))
    · have hqi : q ≤ i := Nat.le_of_not_lt fun hlt => hnl (h1 i hlt)
      have hc : Clos ops listed := by
        intro s o hso hls e he hb
        have hsq : s < q := Nat.lt_of_not_le fun hle => h2 s hle hls
        exact h1 _ (Nat.lt_trans (hacy s o hso e he) hsq)
      have ha := suc_all hsuc hc hi' (by omega) (fun o h => by rw [ho] at h; obtain rfl := Option.some.inj h; exact ready_dep hi ho)
      have e : i = q := by
        refine Nat.le_antisymm (Nat.le_of_not_lt fun hlt => h2 q (Nat.le_refl _) (ha q hlt)) hqi
      subst e
      exact wpOp_mono (fun a' w' h => ⟨h.1, .inr h.2⟩) (go i hi' listed a w hsz hmq h1 h2 h3)
  · intro listed a w hI hr
    obtain ⟨hsz, hI⟩ := hI
    have all := all_listed hacy hsz hr
    rcases hI with ⟨hc, hn, hsl, blk, I⟩ | ⟨q, hmq, hq, h1, h2, h3⟩
    · have e : m = ops.size := Nat.le_antisymm hmn (Nat.le_of_not_lt fun hlt => hn m (Nat.le_refl _) (all m hlt))
      have h := tail blk listed a w I (fun i hi => all i (by omega)) hsl
      rw [e, Nat.sub_self] at h
      exact h
    · have e : q = ops.size := Nat.le_antisymm hq (Nat.le_of_not_lt fun hlt => h2 q (Nat.le_refl _) (all q hlt))
      rw [e, Nat.sub_self] at h3
      exact h3
/-- Two operations behind all others. -/
theorem wp_region_tm2 {id : Nat} {a0 : Act} {w0 : World} (hm : P.follows .mixedOrders = true) (kd : Nat → Kd) (m : Nat) (hmn : ops.size = m + 2) (S : Stat ops.size kd (slotOf ops) a0)
    (hacy : ∀ (i : Nat) (o : Oper), ops[i]? = some o → ∀ e ∈ o.after, e.on < i) (hsuc : sucOk ops m = true)
    (step : ∀ (Q' : Exit → Act → World → Prop) i o, i < m → ops[i]? = some o → ∀ blk listed a w, Inv ops.size kd (slotOf ops) a0 w0 blk listed a w → (∀ e ∈ o.after, Region.binds .any e = true → Ls listed e.on) → (∀ i s, m ≤ i → i < ops.size → slotOf ops i = some s → a.tmps.getD s undef = a0.tmps.getD s undef) → wpOp P ops Q' i (fun a' w' => NextK kd blk listed i o.dst a w a' w') a w)
    (tail : ∀ blk listed a w, Inv ops.size kd (slotOf ops) a0 w0 blk listed a w → (∀ i, i < m → Ls listed i) → (∀ i s, m ≤ i → i < ops.size → slotOf ops i = some s → a.tmps.getD s undef = a0.tmps.getD s undef) → wpOp P ops Q m (fun a' w' => wpOp P ops Q (m + 1) (fun a'' w'' => Q .normal a'' w'') a' w') a w) : (Code.region id ops true).wp P Q a0 w0 := by
  refine wp_region_tm hm kd m (by omega) S hacy hsuc step (fun blk listed a w I h hs => ?_)
  rw [show ops.size - m = 0 + 1 + 1 by omega, List.range'_succ, wpOps_cons]
  refine wpOp_mono (fun a' w' h2 => ?_) (tail blk listed a w I h hs)
  rw [List.range'_succ, wpOps_cons]
  exact h2
end
theorem wpOp_apR {ops : Array Oper} {Q : Exit → Act → World → Prop} {i : Nat} {o : Oper} {a : Act} {w : World} {K : Act → World → Prop} {s x : Operand} (ho : ops[i]? = some o) (hg : o.guard = none) (hop : o.op = .call { callee := .builtin .append, args := #[s, x], argTypes := #[71, 71] })
    (base : Nat) (v : Value) (rs : List (Int × Int)) (r : Int × Int) (hs : a.eval s = v) (hown : w.ownsRow base 23 2 v rs.length (usL rs)) (bb : Nat) (hx : a.eval x = .slice (some ⟨bb, 0, none⟩) 1 1) (hb : w.heap[bb]? = some (.cells #[.int .i64 r.1, .int .i64 r.2] 23)) (h9 : rs.length ≤ 1000000100) (hbase : base ≤ w.heap.size)
    (h : ∀ v' w', w'.ownsRow base 23 2 v' (rs ++ [r]).length (usL (rs ++ [r])) → w.grownBy w' v.ownBlock → K (a.put o.dst v') w') : wpOp Tryz.prog ops Q i K a w := by
  unfold wpOp
  rw [ho]
  simp only [Region.wanted, hg, if_true]
  left
  obtain ⟨i0, hj, hy0, hy1, hy2⟩ := info_parts infoRat
  refine wp_append_own w s x 71 hop base 23 i0 _ 2 16 Tryz.underlying71 hj hy0 hy1 hy2 rfl (by decide) v rs.length _ hs hown ⟨bb, 0, none⟩ 1 1 [.int .i64 r.1, .int .i64 r.2] hx rfl ?_ ?_ (by unfold maxLen; omega) (by omega) hbase (fun v' w' h1 h2 _ => h v' w' ?_ h2)
  · intro j u hj
    match j, hj with
    | 0, hj => obtain rfl := Option.some.inj hj; rw [Addr.add_mid, row_blk hb]; rfl
    | 1, hj => obtain rfl := Option.some.inj hj; rw [Addr.add_mid, row_blk hb]; rfl
  · intro u hu
    simp at hu
    rcases hu with rfl | rfl <;> rfl
  · rw [List.length_append, List.length_singleton, usL_snoc]
    exact h1
theorem own_rowA {w : World} {base : Nat} {v : Value} {rs : List (Int × Int)} (h : w.ownsRow base 23 2 v rs.length (usL rs)) (h9 : rs.length ≤ 1000000100) : wk.Row w v rs := by
  have h' := h
  obtain ⟨h1, ⟨rfl, h2⟩ | ⟨g, cap, cur, rfl, hb, hg, hr⟩⟩ := h
  · refine .inl ⟨none, 0, rfl, ?_⟩
    exact List.eq_nil_of_length_eq_zero (by first | exact h2 | exact h2.1 | (simp at h2; omega))
  · refine .inr ⟨g, 0, cap, rfl, (Array.getElem?_eq_some_iff.1 hg).1, by omega, fun i hi => ?_⟩
    obtain ⟨e1, e2⟩ := usL_at (us := rs) (k := i) (n := rs[i].1) (d := rs[i].2) (List.getElem?_eq_getElem hi)
    rw [Nat.zero_add]
    exact ⟨own_cell h' e1, own_cell h' e2⟩
theorem run_neR {ρ : Operand → Value} {w : World} {o : Oper} {x y : Operand} {p q : Int × Int} {z : Bool} (ho : o.op = .binOp .neq 23 x y 23) (hx : ρ x = .agg #[.int .i64 p.1, .int .i64 p.2]) (hy : ρ y = .agg #[.int .i64 q.1, .int .i64 q.2]) (hz : decide (p = q) = !z) : (execOp ρ o).run Tryz.prog w = .ok (.value (.bool z)) w := by
  unfold execOp
  rw [ho]
  obtain ⟨p1, p2⟩ := p
  obtain ⟨q1, q2⟩ := q
  by_cases h1 : p1 = q1
  · subst h1
    by_cases h2 : p2 = q2
    · subst h2
      have : z = false := by simpa using hz
      subst this
      simp [go_sem, hx, hy]
    · have : z = true := by simpa [h2] using hz
      subst this
      simp [go_sem, hx, hy, h2]
  · have : z = true := by simpa [h1] using hz
    subst this
    simp [go_sem, hx, hy, h1]
theorem run_inc {ρ : Operand → Value} {w : World} {o : Oper} {x : Operand} {n m : Int} (ho : o.op = .binOp .add 3 x (.const (.int .i64 1)) 3) (h0 : ρ (.const (.int .i64 1)) = .int .i64 1) (hx : ρ x = .int .i64 n) (hm : IntKind.i64.wrap (n + 1) = m) : (execOp ρ o).run Tryz.prog w = .ok (.value (.int .i64 m)) w := by
  subst hm
  unfold execOp
  rw [ho]
  simp [go_sem, hx, h0]
theorem run_ldA {ρ : Operand → Value} {w : World} {o : Oper} {x : Operand} {b off : Nat} {p q : Int} (ho : o.op = .load 23 x) (hx : ρ x = .pointer (some ⟨b, off, none⟩)) (c0 : w.cell? ⟨b, off, none⟩ = some (.int .i64 p)) (c1 : w.cell? ⟨b, off + 1, none⟩ = some (.int .i64 q)) :
    (execOp ρ o).run Tryz.prog w = .ok (.value (.agg #[.int .i64 p, .int .i64 q])) w := by
  unfold execOp
  rw [ho]
  simp [go_sem, hx, c0, c1]
theorem run_bs1R {ρ : Operand → Value} {w : World} {o : Oper} {x : Operand} {p q : Int} (ho : o.op = .buildSlice 71 1 #[(0, x)]) (hx : ρ x = .agg #[.int .i64 p, .int .i64 q]) :
    (execOp ρ o).run Tryz.prog w = .ok (.value (.slice (some ⟨w.heap.size, 0, none⟩) 1 1)) (w.alloc (.cells #[.int .i64 p, .int .i64 q] 23)) := by
  unfold execOp
  rw [ho]
  simp [go_sem, hx]
theorem run_ix8 {ρ : Operand → Value} {w : World} {o : Oper} {x y : Operand} {b k : Nat} (ho : o.op = .indexAddr 63 x y) (hx : ρ x = .pointer (some ⟨b, 0, none⟩)) (hy : ρ y = .int .i64 k) (hk : (k : Int) < 8) : (execOp ρ o).run Tryz.prog w = .ok (.value (.pointer (some ⟨b, k * 2, none⟩))) w := by
  have hk0 : ¬ (k : Int) < 0 := by omega
  have hk1 : 0 ≤ (k : Int) := by omega
  unfold execOp
  rw [ho]
  simp [go_sem, hx, hy, hk, hk0, hk1]
end Go.Proofs.YtdnnidnghaifgaaGreatDoor.be
set_option linter.unusedVariables false
set_option linter.unusedSimpArgs false
namespace Go.Proofs.YtdnnidnghaifgaaGreatDoor.nm
open Go.RowKit cc

/-- What the units come to, from the unit i on: nothing stays out. -/
def unT (sz : Int → Int × Int) : Int → List (Int × Int) → List (Int × Int)
  | _, [] => []
  | i, r :: l => if r = (0, 1) then unT sz (i + 1) l else wk.mulAll [r, sz i] :: unT sz (i + 1) l
theorem unT_snoc (sz : Int → Int × Int) : ∀ (l : List (Int × Int)) (i : Int) (r : Int × Int), unT sz i (l ++ [r]) = unT sz i l ++ (if r = (0, 1) then [] else [wk.mulAll [r, sz (i + l.length)]]) := by
  intro l
  induction l with
  | nil => intro i r; simp only [List.nil_append, unT, List.length_nil]; rw [show i + ((0 : Nat) : Int) = i by omega]
  | cons x l ih =>
    intro i r
    have e : i + 1 + (l.length : Int) = i + ((x :: l).length : Nat) := by rw [List.length_cons]; omega
    rw [List.cons_append, unT, unT, ih, e]
    split
    · rfl
    · rfl
theorem unT_len (sz : Int → Int × Int) : ∀ (l : List (Int × Int)) (i : Int), (unT sz i l).length ≤ l.length := by
  intro l
  induction l with
  | nil => intro i; exact Nat.le_refl _
  | cons x l ih =>
    intro i
    rw [unT]
    split
    · have := ih (i + 1); rw [List.length_cons]; omega
    · have := ih (i + 1); rw [List.length_cons, List.length_cons]; omega
theorem unT_64 (sz : Int → Int × Int) : ∀ (l : List (Int × Int)) (i : Int), ∀ r ∈ unT sz i l, R64 r := by
  intro l
  induction l with
  | nil => intro i r hr; cases hr
  | cons x l ih =>
    intro i r hr
    rw [unT] at hr
    split at hr
    · exact ih _ r hr
    · rcases List.mem_cons.1 hr with rfl | hr
      · exact wk.mulAll_I64 _
      · exact ih _ r hr
theorem unT_step {sz : Int → Int × Int} {us : List (Int × Int)} {k : Nat} {r : Int × Int} (h : us[k]? = some r) : unT sz 1 (us.take (k + 1)) = unT sz 1 (us.take k) ++ (if r = (0, 1) then [] else [wk.mulAll [r, sz ((k + 1 : Nat) : Int)]]) := by
  have hk := (List.getElem?_eq_some_iff.1 h).1
  rw [List.take_add_one, h]
  show unT sz 1 (us.take k ++ [r]) = _
  rw [unT_snoc, List.length_take, Nat.min_eq_left (by omega), show (1 : Int) + (k : Int) = ((k + 1 : Nat) : Int) by omega]
def ptR (X : Fo → Int × Int) (p : Pa) : Int × Int := wk.utAll (if p.1 then 1 else -1) (p.2.map X)
def pxG (sz : Int → Int × Int) (X : Fo → Int × Int) (f : Fo) : Int × Int := wk.addAll (unT sz 1 f.us ++ f.ps.map (ptR X))
/-- A form in px, its parts' forms at most so deep. -/
def pxN (sz : Int → Int × Int) : Nat → Fo → Int × Int
  | 0, _ => (0, 0)
  | n + 1, f => pxG sz (pxN sz n) f
theorem pxN_succ (sz : Int → Int × Int) (n : Nat) (f : Fo) : pxN sz (n + 1) f = wk.addAll (unT sz 1 f.us ++ f.ps.map (ptR (pxN sz n))) := rfl
theorem pxN_64 (sz : Int → Int × Int) (n : Nat) (f : Fo) : R64 (pxN sz n f) := by
  cases n with
  | zero => exact r64_zero
  | succ n => exact wk.addAll_I64 _
theorem ptR_64 (sz : Int → Int × Int) (n : Nat) (p : Pa) : R64 (ptR (pxN sz n) p) := by
  unfold ptR
  exact ut_64 _ (fun r hr => by obtain ⟨y, _, rfl⟩ := List.mem_map.1 hr; exact pxN_64 sz n y)
theorem terms_64 (sz : Int → Int × Int) (n : Nat) (us : List (Int × Int)) (ps : List Pa) : ∀ r ∈ unT sz 1 us ++ ps.map (ptR (pxN sz n)), R64 r := by
  intro r hr
  rcases List.mem_append.1 hr with hr | hr
  · exact unT_64 sz us 1 r hr
  · obtain ⟨p, _, rfl⟩ := List.mem_map.1 hr; exact ptR_64 sz n p
/-- The variable that is nothing, of package unit. -/
def NthU (w : World) : Prop := 0 < w.heap.size ∧ w.cell? ⟨0, 0, none⟩ = some (.int .i64 0) ∧ w.cell? ⟨0, 1, none⟩ = some (.int .i64 1)
theorem NthU.low {w w' : World} (h : NthU w) (hw : Below w.heap.size w w') : NthU w' := ⟨Nat.lt_of_lt_of_le h.1 hw.size, (hw.cell (p := ⟨0, 0, none⟩) h.1).trans h.2.1, (hw.cell (p := ⟨0, 1, none⟩) h.1).trans h.2.2⟩
/-- A form's fractions on their way into px: by the program. -/
def RelPx (w : World) (sl fl : List Value) (rs : Nat → List (Int × Int)) (n : Nat) (lv i : Value) (wr : World) : Prop := ∃ (k : Nat) (l : Value), l = lv ∧ i = .int .i64 k ∧ k ≤ n ∧ Hid (wr.ownsRow (w.heap.size + 3) 23 2 lv (rs k).length (usL (rs k)) ∧ Bk wr (w.heap.size + 2) 23 [.int .i64 0, .int .i64 0] ∧ Bk wr (w.heap.size + 1) 36 fl ∧ Bk wr w.heap.size 63 sl ∧ Below w.heap.size w wr)
theorem RelPx.mk {w : World} {sl fl : List Value} {rs : Nat → List (Int × Int)} {n : Nat} {lv i : Value} {wr : World} (k : Nat) (h1 : i = .int .i64 k) (h2 : k ≤ n) (h3 : wr.ownsRow (w.heap.size + 3) 23 2 lv (rs k).length (usL (rs k))) (h4 : Bk wr (w.heap.size + 2) 23 [.int .i64 0, .int .i64 0]) (h5 : Bk wr (w.heap.size + 1) 36 fl) (h6 : Bk wr w.heap.size 63 sl) (h7 : Below w.heap.size w wr) : RelPx w sl fl rs n lv i wr := ⟨k, lv, rfl, h1, h2, h3, h4, h5, h6, h7⟩
def PxC (sz : Int → Int × Int) (sl : List (Int × Int)) (n : Nat) : Prop := ∀ (us : List (Int × Int)) (ps : List Pa) (u : Value) (w : World), NthU w → Us us → PM w n u ps → Calls Tryz.prog 46 #[.agg (usL sl).toArray, foV us u] w fun e w' => e = .returned (ratV (pxN sz (n + 1) (.mk us ps))) ∧ Below w.heap.size w w'
def PtC (sz : Int → Int × Int) (sl : List (Int × Int)) (n : Nat) : Prop := ∀ (p : Pa) (u : Value) (w : World), NthU w → FM w n u p.2 → Calls Tryz.prog 71 #[.agg (usL sl).toArray, .agg #[.bool p.1, u]] w fun e w' => e = .returned (ratV (ptR (pxN sz n) p)) ∧ Below w.heap.size w w'
end Go.Proofs.YtdnnidnghaifgaaGreatDoor.nm
set_option linter.unusedVariables false
set_option linter.unusedSimpArgs false
namespace Go.Proofs.YtdnnidnghaifgaaGreatDoor.nm
open Go.RowKit

/-- The cells of parts. -/
inductive PaC (w : World) (n : Nat) : List Pa → List Value → Prop
  | nil : PaC w n [] []
  | cons (p : Pa) (l : List Pa) (xs : List Value) (u : Value) (hu : FM w n u p.2) (g : PaC w n l xs) : PaC w n (p :: l) ([.bool p.1, u] ++ xs)
theorem PaC.app {w : World} {n : Nat} {l1 l2 : List Pa} {xs1 xs2 : List Value} (h : PaC w n l1 xs1) (k : PaC w n l2 xs2) : PaC w n (l1 ++ l2) (xs1 ++ xs2) := by
  induction h with
  | nil => exact k
  | cons p l xs u hu g ih => rw [List.append_assoc]; exact .cons p _ _ u hu ih
theorem PaC.len {w : World} {n : Nat} {l : List Pa} {xs : List Value} (h : PaC w n l xs) : xs.length = l.length * 2 := by
  induction h with
  | nil => rfl
  | cons p l xs u hu g ih => rw [List.length_append, ih, List.length_cons]; simp only [List.length_cons, List.length_nil]; omega
theorem PaC.low {w w' : World} {n : Nat} {l : List Pa} {xs : List Value} (h : PaC w n l xs) (hb : Below w.heap.size w w') : PaC w' n l xs := by
  induction h with
  | nil => exact .nil
  | cons p l xs u hu g ih => exact .cons p l xs u (FM.low hb hu) ih
theorem PaC.le {w : World} {n : Nat} {l : List Pa} {xs : List Value} (h : PaC w n l xs) : PaC w (n + 1) l xs := by
  induction h with
  | nil => exact .nil
  | cons p l xs u hu g ih => exact .cons p l xs u hu.up ih
theorem PaC.one {w : World} {n : Nat} {l : List Pa} {xs : List Value} (h : PaC w n l xs) : ∀ u ∈ xs, u.oneCell' = true := by
  induction h with
  | nil => intro u hu; cases hu
  | cons p l xs u hu g ih =>
    intro v hv
    rw [List.mem_append] at hv
    rcases hv with hv | hv
    · obtain ⟨_, _, rfl, _⟩ := hu.shape
      simp only [List.mem_cons, List.not_mem_nil, or_false] at hv
      rcases hv with rfl | rfl <;> rfl
    · exact ih v hv
theorem PaC.get {w : World} {n : Nat} {l : List Pa} {xs : List Value} (h : PaC w n l xs) : ∀ i p, l[i]? = some p → ∃ u, xs[i * 2]? = some (.bool p.1) ∧ xs[i * 2 + 1]? = some u ∧ FM w n u p.2 := by
  induction h with
  | nil => intro i r h; simp at h
  | cons x l xs u hu g ih =>
    intro i p hi
    cases i with
    | zero => cases hi; exact ⟨u, rfl, rfl, hu⟩
    | succ i =>
      obtain ⟨a, h1, h2, h3⟩ := ih i p hi
      refine ⟨a, ?_, ?_, h3⟩
      · rw [List.getElem?_append_right (by simp; omega), ← h1]
        congr 1
        simp only [List.length_cons, List.length_nil]
        omega
      · rw [List.getElem?_append_right (by simp; omega), ← h2]
        congr 1
        simp only [List.length_cons, List.length_nil]
        omega
theorem PM.cells {w : World} {b o c n m : Nat} {l : List Pa} (h : PM w n (.slice (some ⟨b, o, none⟩) m c) l) (hn : m = l.length) : ∀ d k, k + d = l.length → ∃ xs, PaC w n (l.drop k) xs ∧ ∀ j u, xs[j]? = some u → w.cell? ⟨b, o + k * 2 + j, none⟩ = some u := by
  intro d
  induction d with
  | zero =>
    intro k hk
    rw [List.drop_of_length_le (by omega)]
    exact ⟨[], .nil, fun j u h => by simp at h⟩
  | succ d ih =>
    intro k hk
    obtain ⟨xs, h1, h2⟩ := ih (k + 1) (by omega)
    obtain ⟨r, hr⟩ : ∃ r, l[k]? = some r := ⟨_, List.getElem?_eq_getElem (by omega)⟩
    obtain ⟨b', o', c', u, hv, _, _, _, g0, g1, gx⟩ := PM.at h hr
    obtain ⟨rfl, rfl⟩ : b = b' ∧ o = o' := by simp at hv; exact ⟨hv.1.1, hv.1.2⟩
    rw [drop_atE hr]
    refine ⟨_, .cons r _ xs u gx h1, fun j u hj => ?_⟩
    match j, hj with
    | 0, hj => simp at hj; subst hj; exact g0
    | 1, hj => simp at hj; subst hj; exact g1
    | j + 2, hj =>
      have := h2 j u (by simpa using hj)
      rwa [show o + (k + 1) * 2 + j = o + k * 2 + (j + 2) by omega] at this
theorem own_keep {w w' : World} {base : Nat} {e : TypeId} {size : Nat} {v : Value} {n : Nat} {xs : List Value} (h : w.ownsRow base e size v n xs) (hk : ∀ g, base ≤ g → g < w.heap.size → w'.heap[g]? = w.heap[g]?) : w'.ownsRow base e size v n xs := by
  obtain ⟨h1, h2 | ⟨g, cap, cur, rfl, hb, hg, hr⟩⟩ := h
  · exact ⟨h1, .inl h2⟩
  · exact ⟨h1, .inr ⟨g, cap, cur, rfl, hb, (hk g hb (Array.getElem?_eq_some_iff.1 hg).1).trans hg, hr⟩⟩
/-- An own row of parts, not below B; what its parts hold lies in w. -/
def PO (w : World) (B n : Nat) (wr : World) (v : Value) (l : List Pa) : Prop := ∃ xs, wr.ownsRow B 74 2 v l.length xs ∧ PaC w n l xs
theorem PO.nil (w wr : World) (B n : Nat) : PO w B n wr (.slice none 0 0) [] := ⟨[], World.ownsRow_nil _ _ _ _, .nil⟩
theorem PO.keep {w wr w' : World} {B n : Nat} {v : Value} {l : List Pa} (h : PO w B n wr v l) (hk : ∀ g, B ≤ g → g < wr.heap.size → w'.heap[g]? = wr.heap[g]?) : PO w B n w' v l := by
  obtain ⟨xs, h1, h2⟩ := h
  exact ⟨xs, own_keep h1 hk, h2⟩
theorem PO.up {w wr w' : World} {B n : Nat} {v : Value} {l : List Pa} (h : PO w B n wr v l) (hw : Below wr.heap.size wr w') : PO w B n w' v l := h.keep fun g _ hg => hw.block g hg
theorem PO.shape {w wr : World} {B n : Nat} {v : Value} {l : List Pa} (h : PO w B n wr v l) : ∃ a c, v = .slice a l.length c := by
  obtain ⟨xs, ⟨_, ⟨rfl, h0⟩ | ⟨g, cap, cur, rfl, _⟩⟩, _⟩ := h
  · rw [h0]; exact ⟨_, _, rfl⟩
  · exact ⟨_, _, rfl⟩
theorem PO.pm {w wr : World} {B n : Nat} {v : Value} {l : List Pa} (h : PO w B n wr v l) (hbl : Below w.heap.size w wr) (hl : l.length ≤ 1000000000) : PM wr n v l := by
  obtain ⟨xs, ho, hr0⟩ := h
  have hr := hr0.low hbl
  rcases ho.2 with ⟨rfl, h0⟩ | ⟨g, cap, cur, rfl, hb, hg, hn, hm, hs, ht⟩
  · exact .inl ⟨_, _, rfl, List.eq_nil_of_length_eq_zero h0⟩
  · by_cases h0 : l.length = 0
    · obtain rfl := List.eq_nil_of_length_eq_zero h0
      exact .inl ⟨_, _, rfl, rfl⟩
    · have C : ∀ j, j < l.length * 2 → wr.cell? ⟨g, 0 + j, none⟩ = xs[j]? := fun j hj => by
        rw [← ht, List.getElem?_take_of_lt (by omega), row_blk hg, Nat.zero_add, Array.getElem?_toList]
      refine .inr ⟨g, 0, cap, rfl, by omega, (Array.getElem?_eq_some_iff.1 hg).1, hn, hl, by unfold maxLen at hm; exact hm, fun i p hi => ?_⟩
      have hil := (List.getElem?_eq_some_iff.1 hi).1
      obtain ⟨u, h1, h2, h3⟩ := hr.get i p hi
      exact ⟨u, by rw [C _ (by omega), h1], by rw [Nat.add_assoc, C _ (by omega), h2], h3⟩
/-- A nil slice, whatever its third word, adds nothing. -/
theorem run_append_nil {w : World} (base : Nat) (t ty e : TypeId) (i : TypeInfo) (size c : Nat) (ht : Tryz.prog.underlying t = some (.slice e)) (hi : Tryz.prog.info? e = some i)
    (v : Value) (n : Nat) (xs : List Value) (hown : w.ownsRow base e size v n xs) : (Builtin.append_ #[t, t] ty #[v, .slice none 0 c]).run Tryz.prog w = .ok v w := by
  rcases hown.2 with ⟨rfl, rfl⟩ | ⟨g, cap, cur, rfl, _, _, hnc, _⟩
  · simp [Builtin.append_, run_underlying ht, sizeOf, typeInfo, hi, Builtin.lenOf, Builtin.firstCells]
  · simp [Builtin.append_, run_underlying ht, sizeOf, typeInfo, hi, Builtin.lenOf, Builtin.firstCells, hnc, storeCells]
theorem wpList_append_nil {w : World} {ops : Array Oper} {rest : List Oper} {o : Oper} {a : Act} {Q : Exit → Act → World → Prop} (hgd : o.guard = none) (s x : Operand) (t : TypeId)
    (ho : o.op = .call { callee := .builtin .append, args := #[s, x], argTypes := #[t, t] })
    (base : Nat) (e : TypeId) (i : TypeInfo) (size c : Nat) (ht : Tryz.prog.underlying t = some (.slice e)) (hi : Tryz.prog.info? e = some i)
    (v : Value) (n : Nat) (xs : List Value) (hs : a.eval s = v) (hown : w.ownsRow base e size v n xs) (hx : a.eval x = .slice none 0 c)
    (h : wpList Tryz.prog ops Q rest (a.put o.dst v) w) : wpList Tryz.prog ops Q (o :: rest) a w := by
  refine wpList_plain hgd fun K hK => ?_
  have hrun := run_append_nil (w := w) base t o.type e i size c ht hi v n xs hown
  unfold Oper.wp
  simp [execOp, ho, resolve, invoke, builtin, hs, hx, hrun, Result.andThen]
  exact hK _ _ h
theorem infoPa : (Tryz.prog.info? 74).map (fun i => (i.zero, i.size, i.bytes)) = some (some (.agg #[.bool false, .slice none 0 0]), 2, 32) := by kernel_rfl
/-- 'append(own, l...)', l a slice of parts that came in. -/
theorem wpList_append_parts {w wr : World} {B n : Nat} {ops : Array Oper} {rest : List Oper} {o : Oper} {a : Act} {Q : Exit → Act → World → Prop} (hgd : o.guard = none) (s x : Operand)
    (ho : o.op = .call { callee := .builtin .append, args := #[s, x], argTypes := #[34, 34] })
    (v : Value) (l : List Pa) (hs : a.eval s = v) (hown : PO w B n wr v l) (hbl : Below w.heap.size w wr) (hB : B ≤ wr.heap.size) (u : Value) (l2 : List Pa) (hx : a.eval x = u) (hu : PM w n u l2) (hl : l.length + l2.length ≤ 1000000000)
    (h : ∀ v' w', PO w B n w' v' (l ++ l2) → Below B wr w' → wpList Tryz.prog ops Q rest (a.put o.dst v') w') : wpList Tryz.prog ops Q (o :: rest) a wr := by
  obtain ⟨i1, hj, hy0, hy1, hy2⟩ := info_parts infoPa
  obtain ⟨xs, ho1, hr1⟩ := hown
  obtain ⟨ad, c, rfl, _⟩ := hu.shape
  have grow : ∀ (ys : List Value), PaC w n l2 ys → ∀ v' w', w'.ownsRow B 74 2 v' (l.length + l2.length) (xs ++ ys) → wr.grownBy w' v.ownBlock → PO w B n w' v' (l ++ l2) ∧ Below B wr w' := fun ys hys v' w' h1 h2 =>
    ⟨⟨xs ++ ys, by rw [List.length_append]; exact h1, hr1.app hys⟩, (Below.refl B wr).grown h2 hB (fun k hk => (ho1.lt k hk).1)⟩
  cases ad with
  | none =>
    have h0 : l2 = [] := by
      rcases hu with ⟨_, _, _, h⟩ | ⟨b, o', c', hv, _⟩
      · exact h
      · cases hv
    subst h0
    exact wpList_append_nil hgd s x 34 ho B 74 i1 2 c Tryz.underlying34 hj v l.length xs hs ho1 hx (h v wr (by rw [List.append_nil]; exact ⟨xs, ho1, hr1⟩) (Below.refl _ _))
  | some ad =>
    by_cases h0 : l2 = []
    · subst h0
      refine wpList_append_own wr hgd s x 34 ho B 74 i1 _ 2 32 Tryz.underlying34 hj hy0 hy1 hy2 rfl (by decide) v l.length xs hs ho1 ad 0 c [] hx rfl (by intro j u h; simp at h) (by intro u h; cases h) (by unfold maxLen; simp at hl; omega) (by simp at hl; omega) hB ?_
      intro v' w' h1 h2 _
      obtain ⟨g1, g2⟩ := grow [] .nil v' w' (by simpa using h1) h2
      exact h v' w' g1 g2
    · obtain ⟨b, o', spot⟩ := ad
      obtain ⟨r0, hr0⟩ : ∃ r, l2[0]? = some r := by
        cases l2 with
        | nil => exact absurd rfl h0
        | cons y q => exact ⟨y, rfl⟩
      obtain ⟨b', o'', c', _, hv, hbb', _⟩ := PM.at hu hr0
      simp only [Value.slice.injEq, Option.some.injEq, Addr.mk.injEq, true_and] at hv
      obtain ⟨⟨rfl, rfl, rfl⟩, rfl⟩ := hv
      have hbb : b < w.heap.size := hbb'
      obtain ⟨ys, hys, hcell⟩ := PM.cells hu rfl l2.length 0 (by omega)
      rw [List.drop_zero] at hys
      refine wpList_append_own wr hgd s x 34 ho B 74 i1 _ 2 32 Tryz.underlying34 hj hy0 hy1 hy2 rfl (by decide) v l.length xs hs ho1 ⟨b, o', none⟩ l2.length c ys hx hys.len (fun j u hj' => ?_) hys.one (by unfold maxLen; omega) (by omega) hB ?_
      · rw [Addr.add_lit]
        have := hcell j u hj'
        rw [Nat.zero_mul, Nat.add_zero] at this
        exact (hbl.cell (p := ⟨b, o' + j, none⟩) hbb).trans this
      · intro v' w' h1 h2 _
        obtain ⟨g1, g2⟩ := grow ys hys v' w' h1 h2
        exact h v' w' g1 g2
end Go.Proofs.YtdnnidnghaifgaaGreatDoor.nm
set_option linter.unusedVariables false
set_option linter.unusedSimpArgs false
namespace Go.Proofs.YtdnnidnghaifgaaGreatDoor.nm
open Go.RowKit

/-- So much of each unit, of all of them; all their parts. -/
def ssU (l : List Fo) : List (Int × Int) := sumU (l.map Fo.us)
def ssP (l : List Fo) : List Pa := l.flatMap Fo.ps
theorem ssU_us {l : List Fo} (h : ∀ x ∈ l, Us x.us) : Us (ssU l) := sumU_us (fun y hy => by
  obtain ⟨x, hx, rfl⟩ := List.mem_map.1 hy
  exact h x hx) _ zus
theorem ssU_step {l : List Fo} {k : Nat} {x : Fo} (h : l[k]? = some x) : ssU (l.take (k + 1)) = plU (ssU (l.take k)) x.us := by
  unfold ssU
  rw [List.map_take, List.map_take]
  exact sumU_step (by rw [List.getElem?_map, h]; rfl)
theorem ssP_step {l : List Fo} {k : Nat} {x : Fo} (h : l[k]? = some x) : ssP (l.take (k + 1)) = ssP (l.take k) ++ x.ps := by
  unfold ssP
  rw [List.take_add_one, h, List.flatMap_append]
  simp
theorem ssP_take (l : List Fo) (k : Nat) : (ssP (l.take k)).length ≤ (ssP l).length := by
  have : ssP l = ssP (l.take k) ++ ssP (l.drop k) := by unfold ssP; rw [← List.flatMap_append, List.take_append_drop]
  rw [this, List.length_append]; omega
def RelSv (w : World) (tb n : Nat) (l : List Fo) (i : Value) (wr : World) : Prop := ∃ (k : Nat) (pv : Value), i = .int .i64 k ∧ k ≤ l.length ∧ Hid (BF wr w.heap.size z00 nilS ∧ BF wr tb (ssU (l.take k)) pv ∧ PO w (tb + 1) n wr pv (ssP (l.take k)) ∧ Below w.heap.size w wr)
theorem RelSv.mk {w : World} {tb n : Nat} {l : List Fo} {i : Value} {wr : World} (k : Nat) (pv : Value) (h1 : i = .int .i64 k) (h2 : k ≤ l.length) (h3 : BF wr w.heap.size z00 nilS) (h4 : BF wr tb (ssU (l.take k)) pv) (h5 : PO w (tb + 1) n wr pv (ssP (l.take k))) (h6 : Below w.heap.size w wr) : RelSv w tb n l i wr := ⟨k, pv, h1, h2, h3, h4, h5, h6⟩
set_option maxRecDepth 100000 in
set_option maxHeartbeats 8000000 in
theorem sum_any (n : Nat) (l : List Fo) (v : Value) (w : World) (hN : Nth w) (hv : FM w (n + 1) v l) (hpl : (ssP l).length ≤ 1000000000) : Calls Tryz.prog 91 #[v] w fun e w' => ∃ u, e = .returned (foV (ssU l) u) ∧ PM w' n u (ssP l) ∧ Below w.heap.size w w' := by
  have CZ := hide (fun (W : World) (h : Below w.heap.size w W) => zero_any W (hN.low h))
  rw [show foV z01 nilS = .agg #[.int .i64 0, .int .i64 1, .int .i64 0, .int .i64 1, .int .i64 0, .int .i64 1, .int .i64 0, .int .i64 1, .int .i64 0, .int .i64 1, .int .i64 0, .int .i64 1, .int .i64 0, .int .i64 1, .slice none 0 0] from rfl] at CZ
  have HV := hide hv
  have AU := hide (show ∀ k, Us (ssU (l.take k)) from fun k => ssU_us (fun x hx => by
    obtain ⟨i, hi, rfl⟩ := List.mem_iff_getElem.1 hx
    have hi2 : i < l.length := by rw [List.length_take] at hi; omega
    obtain ⟨_, _, _, _, _, _, _, _, _, _, hu, _⟩ := FM.at hv (i := i) (x := l[i]) (List.getElem?_eq_getElem hi2)
    rw [List.getElem_take]; exact hu.1))
  have PL := hide (show ∀ k, (ssP (l.take (k + 1))).length ≤ 1000000000 from fun k => Nat.le_trans (ssP_take l (k + 1)) hpl)
  obtain ⟨a, c, rfl, h9⟩ := FM.shape hv
  clear hv hN
  obtain ⟨W1, hW1⟩ : ∃ W1, w.alloc (.cells #[.int .i64 0, .int .i64 0, .int .i64 0, .int .i64 0, .int .i64 0, .int .i64 0, .int .i64 0, .int .i64 0, .int .i64 0, .int .i64 0, .int .i64 0, .int .i64 0, .int .i64 0, .int .i64 0, .slice none 0 0] 36) = W1 := ⟨_, rfl⟩
  have B0 := hide (show Below w.heap.size w W1 by rw [← hW1]; exact bplus (Below.refl _ _) _)
  have P1 := hide (show BF W1 w.heap.size z00 nilS by rw [← hW1]; exact Bk.new w _ _)
  have HW1 := hide hW1
  obtain ⟨SU, hSU⟩ : ∃ x, ssU l = x := ⟨_, rfl⟩
  obtain ⟨SP, hSP⟩ : ∃ x, ssP l = x := ⟨_, rfl⟩
  rw [hSP] at hpl
  rw [hSU, hSP]
  have HSU := hide hSU
  have HSP := hide hSP
  have HPL := hide hpl
  clear hW1 hSU hSP hpl
  go_enter Tryz.func91, Tryz.ntmps91
  go_upto_region 1 with fail
  rw [HW1.out]
  clear HW1
  go_upto_region 2 with (go_at_call 60; refine (CZ.out _ B0.out).mono ?_; rintro e wz ⟨rfl, BZ⟩; replace BZ := hide BZ; clear CZ)
  have hz : w.heap.size < wz.heap.size := Nat.lt_of_lt_of_le (Bk.lt P1.out) BZ.out.size
  have B2 := hide (show Below w.heap.size w (wz.alloc (.cells #[.int .i64 0, .int .i64 1, .int .i64 0, .int .i64 1, .int .i64 0, .int .i64 1, .int .i64 0, .int .i64 1, .int .i64 0, .int .i64 1, .int .i64 0, .int .i64 1, .int .i64 0, .int .i64 1, .slice none 0 0] 36)) from bplus (bto B0.out BZ.out) _)
  have F0 := hide (show BF (wz.alloc (.cells #[.int .i64 0, .int .i64 1, .int .i64 0, .int .i64 1, .int .i64 0, .int .i64 1, .int .i64 0, .int .i64 1, .int .i64 0, .int .i64 1, .int .i64 0, .int .i64 1, .int .i64 0, .int .i64 1, .slice none 0 0] 36)) wz.heap.size z01 nilS from Bk.new wz _ _)
  have F1 := hide (show BF (wz.alloc (.cells #[.int .i64 0, .int .i64 1, .int .i64 0, .int .i64 1, .int .i64 0, .int .i64 1, .int .i64 0, .int .i64 1, .int .i64 0, .int .i64 1, .int .i64 0, .int .i64 1, .int .i64 0, .int .i64 1, .slice none 0 0] 36)) w.heap.size z00 nilS from (Bk.up P1.out BZ.out).more _)
  clear P1 B0 BZ
  generalize wz.alloc (.cells #[.int .i64 0, .int .i64 1, .int .i64 0, .int .i64 1, .int .i64 0, .int .i64 1, .int .i64 0, .int .i64 1, .int .i64 0, .int .i64 1, .int .i64 0, .int .i64 1, .int .i64 0, .int .i64 1, .slice none 0 0] 36) = W2 at *
  generalize wz.heap.size = tb at *
  have hB0 : tb + 1 ≤ W2.heap.size := Bk.lt F0.out
  have HTB := hide hz
  go_wp2_with fail
  go_loopw [9] (fun i wr => RelSv w tb n l i wr) (fun i _ => l.length - (intOf i).toNat)
  case atStart => exact .mk 0 (.slice none 0 0) rfl (by omega) F1.out F0.out (PO.nil _ _ _ _) B2.out
  case round =>
    obtain ⟨k, pv, rfl, hk, R⟩ := hrel
    have Q0 := hide R.out.1
    have Q1 := hide R.out.2.1
    have QP := hide R.out.2.2.1
    have BW := hide R.out.2.2.2
    clear R F0 F1 B2 hB0
    by_cases hlt : k < l.length
    · have hlt' : (k : Int) < l.length := by omega
      obtain ⟨x, hx⟩ : ∃ x, l[k]? = some x := ⟨_, List.getElem?_eq_getElem hlt⟩
      obtain ⟨n', hn', b, o, c', xu, hv', hb, -, -, hu, hu14, hpm⟩ := FM.at HV.out hx
      obtain rfl : n = n' := by omega
      obtain ⟨rfl, rfl⟩ : a = some ⟨b, o, none⟩ ∧ c = c' := by cases hv'; exact ⟨rfl, rfl⟩
      have HPM := hide hpm
      have f14 : wr.cell? ⟨b, o + k * 15 + 14, none⟩ = some xu := (BW.out.cell (p := ⟨b, o + k * 15 + 14, none⟩) hb).trans hu14
      obtain ⟨pa, pc, hpv⟩ := PO.shape QP.out
      obtain ⟨xa, xc, hxu, hx9⟩ := PM.shape hpm
      have hbw : b < wr.heap.size := by have := BW.out.size; omega
      have nb : b ≠ wr.heap.size := by omega
      have htb : tb < wr.heap.size := Bk.lt Q1.out
      have ntb : tb ≠ wr.heap.size := by omega
      have XU := hide hu.1
      have ST := hide (ssU_step hx)
      have SPs := hide (ssP_step hx)
      have A7 : (ssU (l.take k)).length = 7 := (AU.out k).1
      have A8 := hide (AU.out k)
      have A9 : (ssU (l.take (k + 1))).length = 7 := (AU.out (k + 1)).1
      obtain ⟨S1, hS1⟩ : ∃ S1, ssU (l.take (k + 1)) = S1 := ⟨_, rfl⟩
      obtain ⟨S0, hS0⟩ : ∃ S0, ssU (l.take k) = S0 := ⟨_, rfl⟩
      rw [hS1] at ST A9
      rw [hS0] at ST A7 A8 Q1
      have CP := hide (fun (W : World) => plus_any S0 x.us W A8.out XU.out)
      rw [← ST.out] at CP
      obtain ⟨xus, hxus⟩ : ∃ y, x.us = y := ⟨_, rfl⟩
      obtain ⟨xps, hxps⟩ : ∃ y, x.ps = y := ⟨_, rfl⟩
      rw [hxus] at CP XU hu ST
      rw [hxps] at SPs HPM hxu
      clear hxus hxps hpm
      (try clear hn')
      obtain ⟨n0, d0, n1, d1, n2, d2, n3, d3, n4, d4, n5, d5, n6, d6, rfl⟩ := us7 XU.out
      obtain ⟨f0, f1, f2, f3, f4, f5, f6, f7, f8, f9, f10, f11, f12, f13⟩ := (hu.below BW.out hb).fa
      rw [usV_eq] at CP
      unfold usV at CP
      have HS1 := hide hS1
      clear hS1 hS0 hx hu hu14
      (try clear hv')
      subst hxu
      obtain ⟨W4, hW4⟩ : ∃ W4, wr.alloc (.cells #[.int .i64 n0, .int .i64 d0, .int .i64 n1, .int .i64 d1, .int .i64 n2, .int .i64 d2, .int .i64 n3, .int .i64 d3, .int .i64 n4, .int .i64 d4, .int .i64 n5, .int .i64 d5, .int .i64 n6, .int .i64 d6, .slice xa xps.length xc] 36) = W4 := ⟨_, rfl⟩
      have HW4 := hide hW4
      have R1 := hide (show BF W4 tb S0 pv by rw [← hW4]; exact Bk.more Q1.out _)
      have R0 := hide (show BF W4 w.heap.size z00 nilS by rw [← hW4]; exact Bk.more Q0.out _)
      have R2 := hide (show BF W4 wr.heap.size [(n0, d0), (n1, d1), (n2, d2), (n3, d3), (n4, d4), (n5, d5), (n6, d6)] (.slice xa xps.length xc) by rw [← hW4]; exact Bk.new wr _ _)
      have RB := hide (show Below w.heap.size w W4 by rw [← hW4]; exact bplus BW.out _)
      have RP := hide (show PO w (tb + 1) n W4 pv (ssP (l.take k)) by rw [← hW4]; exact QP.out.up (bplus (Below.refl _ _) _))
      have hs4 : wr.heap.size < W4.heap.size := Bk.lt R2.out
      clear hW4 Q0 Q1 QP BW
      go_upto_region 5 with fail
      rw [show wr.alloc (.cells #[.int .i64 n0, .int .i64 d0, .int .i64 n1, .int .i64 d1, .int .i64 n2, .int .i64 d2, .int .i64 n3, .int .i64 d3, .int .i64 n4, .int .i64 d4, .int .i64 n5, .int .i64 d5, .int .i64 n6, .int .i64 d6, .slice xa xps.length xc] 36) = W4 from HW4.out]
      clear HW4 f0 f1 f2 f3 f4 f5 f6 f7 f8 f9 f10 f11 f12 f13 f14
      have H7 : (Tryz.prog.info? 33).map (·.size) = some (usL S0).length := by rw [usL_len, A7]; kernel_rfl
      have H8 : (Tryz.prog.info? 33).map (·.size) = some (usL [(n0, d0), (n1, d1), (n2, d2), (n3, d3), (n4, d4), (n5, d5), (n6, d6)]).length := by kernel_rfl
      have H9 : (Tryz.prog.info? 33).map (·.size) = some (usL S1).toArray.size := by rw [List.size_toArray, usL_len, A9]; kernel_rfl
      replace H7 := hide H7
      replace H8 := hide H8
      replace H9 := hide H9
      have OC := hide (show (usL S1).toArray.all (·.oneCell') = true from all_oneCell_toArray (fun v hv => us_one (u := nilS) rfl v (List.mem_append_left _ hv)))
      have TH := hide (fun (W : World) (h : Below W4.heap.size W4 W) => show W.there tb 0 (usL S1).toArray.size by rw [List.size_toArray, usL_len, A9]; exact BF.there (Bk.up R1.out h) A7)
      generalize wr.heap.size = xb at *
      go_upto_region 6 with (first
        | (refine wpList_load_mid rfl 33 (.tmp 13) rfl tb 0 rfl (usL S0) _ (BF.pre R1.out) Tryz.underlying33 rfl H7.out ?_)
        | (refine wpList_load_mid rfl 33 (.tmp 15) rfl xb 0 rfl (usL [(n0, d0), (n1, d1), (n2, d2), (n3, d3), (n4, d4), (n5, d5), (n6, d6)]) _ (BF.pre R2.out) Tryz.underlying33 rfl H8.out ?_)
        | (go_at_call 115; refine (CP.out _).mono ?_; rintro e w5 ⟨rfl, B5⟩; replace B5 := hide B5)
        | (refine wpList_store_mid rfl 33 (.tmp 18) (.tmp 17) rfl tb 0 (usL S1).toArray rfl rfl (TH.out _ B5.out) H9.out OC.out ?_))
      have G1 := hide (show BF (w5.setCells tb 0 (usL S1)) tb S1 pv from BF.all (Bk.up R1.out B5.out) A7 A9)
      have G0 := hide (show BF (w5.setCells tb 0 (usL S1)) w.heap.size z00 nilS from (setCells_far _ _ 0 (by omega) _ _ _).trans (Bk.up R0.out B5.out))
      have G2 := hide (show BF (w5.setCells tb 0 (usL S1)) xb [(n0, d0), (n1, d1), (n2, d2), (n3, d3), (n4, d4), (n5, d5), (n6, d6)] (.slice xa xps.length xc) from (setCells_far _ _ 0 (by omega) _ _ _).trans (Bk.up R2.out B5.out))
      have GB := hide (show Below w.heap.size w (w5.setCells tb 0 (usL S1)) from (bto RB.out B5.out).grown (setCells_grown _ _ _ _) (bto RB.out B5.out).size (fun k hk => by cases hk; omega))
      have GP := hide (show PO w (tb + 1) n (w5.setCells tb 0 (usL S1)) pv (ssP (l.take k)) from (RP.out.up B5.out).keep (fun g hg hl => setCells_far _ _ 0 (by omega) _ _ _))
      have hs6 : tb + 1 ≤ (w5.setCells tb 0 (usL S1)).heap.size := Bk.lt G1.out
      (try rw [show (usL S1).toArray.toList = usL S1 from rfl])
      clear R1 R0 R2 RB RP B5 CP TH OC H7 H8 H9
      generalize w5.setCells tb 0 (usL S1) = W6 at *
      subst hpv
      have e1 : W6.cell? ⟨tb, 14, none⟩ = some (.slice pa (ssP (l.take k)).length pc) := BF.last G1.out A9
      have e2 : W6.cell? ⟨xb, 14, none⟩ = some (.slice xa xps.length xc) := BF.last G2.out rfl
      have NX := hide (fun (v' : Value) (w' : World) (h : Below (tb + 1) W6 w') => show BF (w'.setCell ⟨tb, 14, none⟩ v') tb S1 v' by
        have := Bk.put (Bk.low G1.out h (by omega)) 14 v'
        rw [List.set_append_right _ _ (by rw [usL_len, A9]; omega), usL_len, A9] at this
        exact this)
      have NT := hide (fun (w' : World) (h : Below (tb + 1) W6 w') => show (w'.cell? ⟨tb, 14, none⟩ = some (.slice pa (ssP (l.take k)).length pc)) ∧ w'.frozen? ⟨tb, 14, none⟩ = false from ⟨BF.last (Bk.low G1.out h (by omega)) A9, Bk.fz (Bk.low G1.out h (by omega)) 14⟩)
      have N0 := hide (fun (v' : Value) (w' : World) (h : Below (tb + 1) W6 w') => show BF (w'.setCell ⟨tb, 14, none⟩ v') w.heap.size z00 nilS from Bk.far (Bk.low G0.out h (by omega)) (by omega) _ _)
      have NB := hide (fun (v' : Value) (w' : World) (h : Below (tb + 1) W6 w') => show Below w.heap.size w (w'.setCell ⟨tb, 14, none⟩ v') from (GB.out.trans (h.mono (by omega))).setCell (by simp; omega) _)
      have NP := hide (fun (v' : Value) (w' : World) (h : PO w (tb + 1) n w' v' (ssP (l.take k) ++ xps)) => show PO w (tb + 1) n (w'.setCell ⟨tb, 14, none⟩ v') v' (ssP (l.take (k + 1))) by rw [SPs.out]; exact h.keep (fun g hg hl => Below.heap_setCell w' ⟨tb, 14, none⟩ v' g (by show g ≠ tb; omega)))
      have PK := hide (show (ssP (l.take k)).length + xps.length ≤ 1000000000 by have := PL.out k; rw [SPs.out, List.length_append] at this; exact this)
      rw [← HS1.out] at NX
      clear G0 G1 G2 HS1 A9
      go_wp2_with (at_builtin; refine wpList_append_parts rfl (.tmp 20) (.tmp 22) rfl _ (ssP (l.take k)) rfl GP.out GB.out hs6 _ xps rfl HPM.out PK.out ?_; intro v' w' HO HB; obtain ⟨va, vc, hv2⟩ := PO.shape HO; subst hv2; rw [List.length_append] at HO; obtain ⟨t0, t1⟩ := NT.out w' HB; replace HO := hide HO; replace HB := hide HB; clear NT)
      go_roundw
      case rel => exact .mk (k + 1) _ (by go_num) (by omega) (N0.out _ w' HB.out) (NX.out _ w' HB.out) (NP.out _ w' HO.out) (NB.out _ w' HB.out)
      case measure => simp [intOf]; omega
    · obtain rfl : k = l.length := by omega
      have hlt' : ¬ ((l.length : Nat) : Int) < l.length := by omega
      have EQ : ssU (l.take l.length) = SU := by rw [List.take_length]; exact HSU.out
      have EP : ssP (l.take l.length) = SP := by rw [List.take_length]; exact HSP.out
      rw [EQ] at Q1
      rw [EP] at QP
      have A7 : SU.length = 7 := by rw [← EQ]; exact (AU.out _).1
      have q0 := hide (show wr.heap[tb]? = some (.cells (usL SU ++ [pv]).toArray 36) from Q1.out)
      have q2 := hide (show wr.heap[w.heap.size]? = some (.cells (usL z00 ++ [nilS]).toArray 36) from Q0.out)
      have l3 : (usL SU ++ [pv]).length = 15 := by rw [List.length_append, usL_len, A7]; rfl
      obtain ⟨pa, pc, hpv⟩ := PO.shape QP.out
      have OV : pv.oneCell' = true := by rw [hpv]; rfl
      have FB := hide (show Below w.heap.size w (wr.setCells w.heap.size 0 (usL SU ++ [pv])) from BW.out.grown (setCells_grown _ _ _ _) BW.out.size (fun k hk => by cases hk; simp))
      have htw : w.heap.size < tb := by have := HTB.out; omega
      have FP := hide (show PO w (tb + 1) n (wr.setCells w.heap.size 0 (usL SU ++ [pv])) pv SP from QP.out.keep (fun g hg hl => setCells_far _ _ 0 (by omega) _ _ _))
      have FF := hide (FP.out.pm FB.out HPL.out)
      clear Q0 Q1 EQ EP QP hpv
      go_upto_region 8 with fail
      refine wp_region_list ?_
      refine wpList_load_mid rfl 36 (.tmp 3) rfl tb 0 rfl (usL SU ++ [pv]) _ (range_blk q0.out) Tryz.underlying36 rfl (by rw [l3]; kernel_rfl) ?_
      refine wpList_store_mid rfl 36 (.tmp 2) (.tmp 26) rfl w.heap.size 0 (usL SU ++ [pv]).toArray rfl rfl (there_blk q2.out (by simp only [List.size_toArray, l3]; rfl)) (by rw [List.size_toArray, l3]; kernel_rfl) (all_oneCell_toArray (us_one OV)) ?_
      go_wp2_with fail
      refine ret_cell (b := w.heap.size) (cs := usL SU ++ [pv]) Tryz.results91 rfl (World.rangeAt_setCells_same _ _ _ _ (there_blk q2.out (by simp only [List.size_toArray, l3]; rfl))) Tryz.underlying36 rfl (by rw [l3]; kernel_rfl) rfl ?_
      exact ⟨pv, rfl, FF.out, FB.out⟩
end Go.Proofs.YtdnnidnghaifgaaGreatDoor.nm
set_option linter.unusedVariables false
set_option linter.unusedSimpArgs false
namespace Go.Proofs.YtdnnidnghaifgaaGreatDoor.nm
open Go.RowKit

/-- The world without what lies below B. -/
def cutW (B : Nat) (w : World) : World := { w with heap := w.heap.mapIdx fun i o => if i < B then .cells #[] 0 else o }
theorem cut_size (B : Nat) (w : World) : (cutW B w).heap.size = w.heap.size := by simp [cutW]
theorem cut_blk {B b : Nat} (w : World) (h : B ≤ b) : (cutW B w).heap[b]? = w.heap[b]? := by
  simp only [cutW, Array.getElem?_mapIdx]
  cases w.heap[b]? with
  | none => rfl
  | some o => simp [show ¬ b < B by omega]
theorem cut_low {B b : Nat} (w : World) (h : b < B) (o : Nat) : (cutW B w).cell? ⟨b, o, none⟩ = none := by
  unfold World.cell?
  simp only [cutW, Array.getElem?_mapIdx]
  cases w.heap[b]? with
  | none => rfl
  | some x => simp [h]
theorem cell_blk {w w' : World} {b : Nat} (h : w'.heap[b]? = w.heap[b]?) (o : Nat) : w'.cell? ⟨b, o, none⟩ = w.cell? ⟨b, o, none⟩ := by
  unfold World.cell?
  simp only [h]
/-- What is seen stays seen. -/
def Sees (w w' : World) : Prop := w.heap.size ≤ w'.heap.size ∧ ∀ b o v, w.cell? ⟨b, o, none⟩ = some v → w'.cell? ⟨b, o, none⟩ = some v
theorem un_sees {w w' : World} (h : Sees w w') {b o : Nat} {us : List (Int × Int)} (k : Un w b o us) : Un w' b o us := ⟨k.1, fun i r hi => ⟨h.2 _ _ _ (k.2 i r hi).1, h.2 _ _ _ (k.2 i r hi).2⟩⟩
theorem fm_sees {w w' : World} (h : Sees w w') {n : Nat} : ∀ {v : Value} {l : List Fo}, FM w n v l → FM w' n v l := by
  induction n with
  | zero => intro v l k; exact k
  | succ n ih =>
    intro v l k
    refine RowOf.mono k h.1 (fun b o x _ _ hx => ?_)
    obtain ⟨u, h1, h2, h3⟩ := hx
    refine ⟨u, un_sees h h1, h.2 _ _ _ h2, h3.mono h.1 (fun b o p _ _ hp => ?_)⟩
    obtain ⟨v, k1, k2, k3⟩ := hp
    exact ⟨v, h.2 _ _ _ k1, h.2 _ _ _ k2, ih k3⟩
theorem pm_sees {w w' : World} (h : Sees w w') {n : Nat} {v : Value} {l : List Pa} (k : PM w n v l) : PM w' n v l :=
  RowOf.mono k h.1 (fun b o p _ _ hp => by
    obtain ⟨v, k1, k2, k3⟩ := hp
    exact ⟨v, h.2 _ _ _ k1, h.2 _ _ _ k2, fm_sees h k3⟩)
theorem cut_sees (B : Nat) (w : World) : Sees (cutW B w) w := ⟨Nat.le_of_eq (cut_size B w), fun b o v h => by
  by_cases hb : b < B
  · rw [cut_low w hb] at h; cases h
  · rw [cell_blk (cut_blk w (by omega)) o] at h; exact h⟩
/-- What lies from B on stays, where these blocks do. -/
theorem cut_keep {B C : Nat} {w w' : World} (hC : C ≤ B) (hs : w.heap.size ≤ w'.heap.size) (hk : ∀ b, B ≤ b → b < w.heap.size → w'.heap[b]? = w.heap[b]?) : Sees (cutW B w) (cutW C w') := ⟨by rw [cut_size, cut_size]; exact hs, fun b o v h => by
  by_cases hb : b < B
  · rw [cut_low w hb] at h; cases h
  · rw [cell_blk (cut_blk w (by omega)) o] at h
    rw [cell_blk (cut_blk w' (by omega)) o, cell_blk (hk b (by omega) (World.block_lt_of_cell? _ _ h)) o]
    exact h⟩
/-- The cells of forms. -/
inductive FoC (w : World) (n : Nat) : List Fo → List Value → Prop
  | nil : FoC w n [] []
  | cons (f : Fo) (l : List Fo) (xs : List Value) (u : Value) (hus : Us f.us) (hu : PM w n u f.ps) (g : FoC w n l xs) : FoC w n (f :: l) ((usL f.us ++ [u]) ++ xs)
theorem fo_len {us : List (Int × Int)} (h : Us us) (u : Value) : (usL us ++ [u]).length = 15 := by rw [List.length_append, usL_len, h.1]; rfl
theorem FoC.app {w : World} {n : Nat} {l1 l2 : List Fo} {xs1 xs2 : List Value} (h : FoC w n l1 xs1) (k : FoC w n l2 xs2) : FoC w n (l1 ++ l2) (xs1 ++ xs2) := by
  induction h with
  | nil => exact k
  | cons f l xs u hus hu g ih => rw [List.append_assoc]; exact .cons f _ _ u hus hu ih
theorem FoC.len {w : World} {n : Nat} {l : List Fo} {xs : List Value} (h : FoC w n l xs) : xs.length = l.length * 15 := by
  induction h with
  | nil => rfl
  | cons f l xs u hus hu g ih => rw [List.length_append, fo_len hus, ih, List.length_cons]; omega
theorem FoC.sees {w w' : World} {n : Nat} {l : List Fo} {xs : List Value} (h : FoC w n l xs) (k : Sees w w') : FoC w' n l xs := by
  induction h with
  | nil => exact .nil
  | cons f l xs u hus hu g ih => exact .cons f l xs u hus (pm_sees k hu) ih
theorem PaC.sees {w w' : World} {n : Nat} {l : List Pa} {xs : List Value} (h : PaC w n l xs) (k : Sees w w') : PaC w' n l xs := by
  induction h with
  | nil => exact .nil
  | cons p l xs u hu g ih => exact .cons p l xs u (fm_sees k hu) ih
theorem pm_one {w : World} {n : Nat} {u : Value} {l : List Pa} (h : PM w n u l) : u.oneCell' = true := by
  obtain ⟨a, c, rfl, -⟩ := PM.shape h
  rfl
theorem FoC.one {w : World} {n : Nat} {l : List Fo} {xs : List Value} (h : FoC w n l xs) : ∀ u ∈ xs, u.oneCell' = true := by
  induction h with
  | nil => intro u hu; cases hu
  | cons f l xs u hus hu g ih =>
    intro v hv
    rw [List.mem_append] at hv
    rcases hv with hv | hv
    · exact us_one (pm_one hu) v hv
    · exact ih v hv
theorem un_cell {w : World} {b o : Nat} {us : List (Int × Int)} (h : Un w b o us) {j : Nat} {u : Value} (hj : (usL us)[j]? = some u) : w.cell? ⟨b, o + j, none⟩ = some u := by
  have hl := usL_len us
  have hj2 := (List.getElem?_eq_some_iff.1 hj).1
  have h7 := h.1.1
  obtain ⟨r, hr⟩ : ∃ r, us[j / 2]? = some r := ⟨_, List.getElem?_eq_getElem (by omega)⟩
  obtain ⟨rn, rd⟩ := r
  obtain ⟨e1, e2⟩ := usL_at hr
  obtain ⟨k1, k2⟩ := h.2 _ _ hr
  rcases Nat.mod_two_eq_zero_or_one j with hm | hm
  · have e : j / 2 * 2 = j := by omega
    rw [e] at e1 k1
    rw [e1] at hj
    rw [k1]; exact hj
  · have e : j / 2 * 2 + 1 = j := by omega
    rw [e] at e2
    rw [show o + j / 2 * 2 + 1 = o + j by omega] at k2
    rw [e2] at hj
    rw [k2]; exact hj
theorem FM.cells {w : World} {b o c n m : Nat} {l : List Fo} (h : FM w (n + 1) (.slice (some ⟨b, o, none⟩) m c) l) (hn : m = l.length) : ∀ d k, k + d = l.length → ∃ xs, FoC w n (l.drop k) xs ∧ ∀ j u, xs[j]? = some u → w.cell? ⟨b, o + k * 15 + j, none⟩ = some u := by
  intro d
  induction d with
  | zero =>
    intro k hk
    rw [List.drop_of_length_le (by omega)]
    exact ⟨[], .nil, fun j u h => by simp at h⟩
  | succ d ih =>
    intro k hk
    obtain ⟨xs, h1, h2⟩ := ih (k + 1) (by omega)
    obtain ⟨f, hf⟩ : ∃ f, l[k]? = some f := ⟨_, List.getElem?_eq_getElem (by omega)⟩
    obtain ⟨m', hm', b', o', c', u, hv, _, _, _, gu, g14, gp⟩ := FM.at h hf
    obtain rfl : n = m' := by omega
    obtain ⟨rfl, rfl⟩ : b = b' ∧ o = o' := by simp at hv; exact ⟨hv.1.1, hv.1.2⟩
    rw [drop_atE hf]
    refine ⟨_, .cons f _ xs u gu.1 gp h1, fun j v hj => ?_⟩
    have l15 := fo_len gu.1 u
    have l14 := usL_len f.us
    have l7 := gu.1.1
    by_cases hj15 : j < 15
    · rw [List.getElem?_append_left (by omega)] at hj
      by_cases hj14 : j < 14
      · rw [List.getElem?_append_left (by omega)] at hj
        exact un_cell gu hj
      · obtain rfl : j = 14 := by omega
        rw [List.getElem?_append_right (by omega), show 14 - (usL f.us).length = 0 by omega] at hj
        simp at hj
        subst hj
        exact g14
    · rw [List.getElem?_append_right (by omega), l15] at hj
      have := h2 (j - 15) v hj
      rwa [show o + (k + 1) * 15 + (j - 15) = o + k * 15 + j by omega] at this
/-- Forms in a block of their own are a slice of forms. -/
theorem FoC.get {w : World} {n : Nat} {l : List Fo} {xs : List Value} (h : FoC w n l xs) : ∀ i f, l[i]? = some f → ∃ u, Us f.us ∧ PM w n u f.ps ∧ ∀ j, j < 15 → xs[i * 15 + j]? = (usL f.us ++ [u])[j]? := by
  induction h with
  | nil => intro i f h; simp at h
  | cons x l xs u hus hu g ih =>
    intro i f hi
    have l15 := fo_len hus u
    cases i with
    | zero =>
      cases hi
      refine ⟨u, hus, hu, fun j hj => ?_⟩
      rw [Nat.zero_mul, Nat.zero_add, List.getElem?_append_left (by omega)]
    | succ i =>
      obtain ⟨a, h1, h2, h3⟩ := ih i f hi
      refine ⟨a, h1, h2, fun j hj => ?_⟩
      rw [List.getElem?_append_right (by omega), l15, show (i + 1) * 15 + j - 15 = i * 15 + j by omega]
      exact h3 j hj
theorem foc_fm {w : World} {n g : Nat} {T : TypeId} {l : List Fo} {xs : List Value} (h : FoC w n l xs) (hb : Bk w g T xs) (h9 : l.length ≤ 1000000000) : FM w (n + 1) (.slice (some ⟨g, 0, none⟩) l.length l.length) l := by
  by_cases h0 : l.length = 0
  · obtain rfl := List.eq_nil_of_length_eq_zero h0
    exact .inl ⟨_, _, rfl, rfl⟩
  · refine .inr ⟨g, 0, l.length, rfl, by omega, Bk.lt hb, Nat.le_refl _, h9, by omega, fun i f hi => ?_⟩
    obtain ⟨u, h1, h2, h3⟩ := h.get i f hi
    have l14 := usL_len f.us
    have l7 := h1.1
    refine ⟨u, ⟨h1, fun j r hj => ?_⟩, ?_, h2⟩
    · obtain ⟨rn, rd⟩ := r
      obtain ⟨e1, e2⟩ := usL_at hj
      have hj7 := (List.getElem?_eq_some_iff.1 hj).1
      refine ⟨?_, ?_⟩
      · rw [Bk.cell hb, show 0 + i * 15 + j * 2 = i * 15 + j * 2 by omega, h3 _ (by omega), List.getElem?_append_left (by omega), e1]
      · rw [Bk.cell hb, show 0 + i * 15 + j * 2 + 1 = i * 15 + (j * 2 + 1) by omega, h3 _ (by omega), List.getElem?_append_left (by omega), e2]
    · rw [Bk.cell hb, show 0 + i * 15 + 14 = i * 15 + 14 by omega, h3 _ (by omega), List.getElem?_append_right (by omega), show 14 - (usL f.us).length = 0 by omega]; rfl
/-- Parts at the head of a block of their own are a slice of parts. -/
theorem pac_pm {w : World} {n g cap : Nat} {T : TypeId} {l : List Pa} {xs tl : List Value} (h : PaC w n l xs) (hb : Bk w g T (xs ++ tl)) (h9 : l.length ≤ 1000000000) (hc : l.length ≤ cap) (hc9 : cap ≤ 9223372036854775807) : PM w n (.slice (some ⟨g, 0, none⟩) l.length cap) l := by
  by_cases h0 : l.length = 0
  · obtain rfl := List.eq_nil_of_length_eq_zero h0
    exact .inl ⟨_, _, rfl, rfl⟩
  · refine .inr ⟨g, 0, cap, rfl, by omega, Bk.lt hb, hc, h9, hc9, fun i p hi => ?_⟩
    obtain ⟨u, h1, h2, h3⟩ := h.get i p hi
    have hl := h.len
    have hi2 := (List.getElem?_eq_some_iff.1 hi).1
    exact ⟨u, by rw [Bk.cell hb, show 0 + i * 2 = i * 2 by omega, List.getElem?_append_left (by omega), h1], by rw [Bk.cell hb, show 0 + i * 2 + 1 = i * 2 + 1 by omega, List.getElem?_append_left (by omega), h2], h3⟩
/-- Rows of elements of any size are copied. -/
theorem run_copy_rows (w : World) (dT sT ty elem : TypeId) (b o dLen dCap : Nat) (a : Addr) (sLen sCap sz : Nat) (cs : List Value)
    (hu : Tryz.prog.underlying dT = some (.slice elem)) (hs : (Tryz.prog.info? elem).map (·.size) = some sz) (hn : cs.length = Nat.min sLen dLen * sz)
    (hsrc : ∀ j v, cs[j]? = some v → w.cell? (a.add j) = some v) (hc : ∀ j, j < cs.length → (w.cell? ⟨b, o + j, none⟩).isSome = true) (hf : ∀ j, j < cs.length → w.frozen? ⟨b, o + j, none⟩ = false) (h1 : ∀ v ∈ cs, v.oneCell' = true) :
    (Builtin.copy_ #[dT, sT] ty #[.slice (some ⟨b, o, none⟩) dLen dCap, .slice (some a) sLen sCap]).run Tryz.prog w = .ok (goInt (Nat.min sLen dLen)) (w.setCells b o cs) := by
  have hl := run_loadCells_list (P := Tryz.prog) w a cs hsrc
  have hst := run_storeCells_cells (P := Tryz.prog) b o cs 0 w (by simpa using hc) (by simpa using hf) h1
  cases hq : Tryz.prog.info? elem with
  | none => simp [hq] at hs
  | some i =>
    have hi : i.size = sz := by simpa [hq] using hs
    simp [Builtin.copy_, run_underlying hu, Builtin.lenOf, Builtin.firstCells, sizeOf, typeInfo, hq, hi, ← hn, hl, hst]
theorem run_copy_zero (w : World) (dT sT ty elem : TypeId) (d a : Option Addr) (dCap sCap sz : Nat) (hu : Tryz.prog.underlying dT = some (.slice elem)) (hs : (Tryz.prog.info? elem).map (·.size) = some sz) :
    (Builtin.copy_ #[dT, sT] ty #[.slice d 0 dCap, .slice a 0 sCap]).run Tryz.prog w = .ok (goInt 0) w := by
  cases hq : Tryz.prog.info? elem with
  | none => simp [hq] at hs
  | some i =>
    have hl : ∀ (x : Addr), (loadCells x 0).run Tryz.prog w = .ok #[] w := fun x => by simpa using run_loadCells_list (P := Tryz.prog) w x [] (by simp)
    cases d <;> cases a <;> simp [Builtin.copy_, run_underlying hu, Builtin.lenOf, Builtin.firstCells, sizeOf, typeInfo, hq, storeCells, hl]
/-- 'copy(args, l)' of slices of forms of one length: the one is a block of its own. -/
theorem wpList_copy_forms {w : World} {ops : Array Oper} {rest : List Oper} {o : Oper} {a : Act} {Q : Exit → Act → World → Prop} (hgd : o.guard = none) (d s : Operand)
    (ho : o.op = .call { callee := .builtin .copy, args := #[d, s], argTypes := #[72, 72] }) {T : TypeId}
    (g m : Nat) (sa : Option Addr) (sc : Nat) (hd : a.eval d = .slice (some ⟨g, 0, none⟩) m m) (hs : a.eval s = .slice sa m sc)
    (cur cs : List Value) (hg : Bk w g T cur) (hc : cur.length = m * 15) (hn : cs.length = m * 15) (h1 : ∀ v ∈ cs, v.oneCell' = true)
    (hsrc : 0 < m → ∃ b o, sa = some ⟨b, o, none⟩ ∧ ∀ j v, cs[j]? = some v → w.cell? ⟨b, o + j, none⟩ = some v)
    (h : ∀ w', Bk w' g T cs → (∀ k, k ≠ g → w'.heap[k]? = w.heap[k]?) → Below g w w' → w.heap.size = w'.heap.size → wpList Tryz.prog ops Q rest (a.put o.dst (goInt m)) w') : wpList Tryz.prog ops Q (o :: rest) a w := by
  refine wpList_plain hgd fun K hK => ?_
  have hsz : (Tryz.prog.info? 36).map (·.size) = some 15 := by kernel_rfl
  by_cases h0 : m = 0
  · subst h0
    have hrun := run_copy_zero w 72 72 o.type 36 (some ⟨g, 0, none⟩) sa 0 sc 15 Tryz.underlying72 hsz
    unfold Oper.wp
    simp [execOp, ho, resolve, invoke, builtin, hd, hs, hrun, Result.andThen]
    have e1 : cur = [] := List.eq_nil_of_length_eq_zero (by omega)
    have e2 : cs = [] := List.eq_nil_of_length_eq_zero (by omega)
    rw [e2] at h
    rw [e1] at hg
    exact hK _ _ (h w hg (fun _ _ => rfl) (Below.refl _ _) rfl)
  · obtain ⟨b, o', rfl, hcell⟩ := hsrc (by omega)
    have hrun := run_copy_rows w 72 72 o.type 36 g 0 m m ⟨b, o', none⟩ m sc 15 cs Tryz.underlying72 hsz (by rw [hn]; simp) (fun j v hj => by rw [Addr.add_lit]; exact hcell j v hj) (fun j hj => by rw [Nat.zero_add, Bk.cell hg, List.getElem?_eq_getElem (by omega)]; rfl) (fun j hj => Bk.fz hg _) h1
    have hmin : Nat.min m m = m := Nat.min_self m
    rw [hmin] at hrun
    unfold Oper.wp
    simp [execOp, ho, resolve, invoke, builtin, hd, hs, hrun, Result.andThen]
    have hB := Bk.puts cs 0 w cur hg (by omega)
    rw [List.take_zero, List.nil_append, Nat.zero_add, List.drop_of_length_le (by omega), List.append_nil] at hB
    refine hK _ _ (h _ hB (fun k hk => setCells_far k g 0 hk _ _ _) ?_ ?_)
    · exact (Below.refl g w).grown (setCells_grown _ _ _ _) (Nat.le_of_lt (Bk.lt hg)) (fun k hk => by cases hk; simp)
    · have : ∀ (xs : List Value) (o : Nat) (w : World), (w.setCells g o xs).heap.size = w.heap.size := by
        intro xs
        induction xs with
        | nil => intro o w; rfl
        | cons x xs ih => intro o w; simp only [World.setCells]; rw [ih]; simp
      exact (this _ _ _).symm
end Go.Proofs.YtdnnidnghaifgaaGreatDoor.nm
