/-
  Regions that end in an append to an own row of fractions.
-/
import Derived.Test.YtlhmecagijdinaaDoorH14
import Derived.Test.YtlhmecagijdinaaDoorK11
set_option linter.unusedVariables false
set_option linter.unusedSimpArgs false
namespace Go.Proofs.YtlhmecagijdinaaDoor.be
open Go.RowKit nm

section
variable {P : Program} {ops : Array Oper} {Q : Exit → Act → World → Prop}
theorem wp_region_tm {id : Nat} {a0 : Act} {w0 : World} (hm : P.follows .mixedOrders = true) (kd : Nat → Kd) (m : Nat) (hmn : m ≤ ops.size) (S : Stat ops.size kd (slotOf ops) a0)
    (hacy : ∀ (i : Nat) (o : Oper), ops[i]? = some o → ∀ e ∈ o.after, e.on < i) (hsuc : sucOk ops m = true)
    (step : ∀ (Q' : Exit → Act → World → Prop) i o, i < m → ops[i]? = some o → ∀ blk listed a w, Inv ops.size kd (slotOf ops) a0 w0 blk listed a w → (∀ e ∈ o.after, Region.binds .any e = true → Ls listed e.on) → (∀ i s, m ≤ i → i < ops.size → slotOf ops i = some s → a.tmps.getD s undef = a0.tmps.getD s undef) → wpOp P ops Q' i (fun a' w' => NextK kd blk listed i o.dst a w a' w') a w)
    (tail : ∀ blk listed a w, Inv ops.size kd (slotOf ops) a0 w0 blk listed a w → (∀ i, i < m → Ls listed i) → (∀ i s, m ≤ i → i < ops.size → slotOf ops i = some s → a.tmps.getD s undef = a0.tmps.getD s undef) → wpOps P ops Q (List.range' m (ops.size - m)) a w) : (Code.region id ops true).wp P Q a0 w0 := by
  have go : ∀ (k : Nat), k < ops.size → ∀ (listed : Array Bool) a w, listed.size = ops.size → m ≤ k → (∀ i, i < k → Ls listed i) → (∀ i, k ≤ i → ¬ Ls listed i) → wpOps P ops Q (List.range' k (ops.size - k)) a w → wpOp P ops Q k (fun a' w' => (listed.setIfInBounds k true).size = ops.size ∧ ∃ q, m ≤ q ∧ q ≤ ops.size ∧ (∀ i, i < q → Ls (listed.setIfInBounds k true) i) ∧ (∀ i, q ≤ i → ¬ Ls (listed.setIfInBounds k true) i) ∧ wpOps P ops Q (List.range' q (ops.size - q)) a' w') a w := by
    intro k hk listed a w hsz hmk h1 h2 h3
    rw [show ops.size - k = (ops.size - (k + 1)) + 1 by omega, List.range'_succ, wpOps_cons] at h3
    refine wpOp_mono (fun a' w' hN => ⟨by simpa using hsz, k + 1, by omega, by omega, fun i hi => ?_, fun i hi hl => ?_, hN⟩) h3
    · by_cases e : i = k
      · subst e; exact Ls.self (by omega)
      · exact (h1 i (by omega)).mono
    · rcases hl.set with e | hl'
      · omega
      · exact h2 i (by omega) hl'
  refine wp_region_inv hm (fun listed a w => listed.size = ops.size ∧ ((Clos ops listed ∧ (∀ i, m ≤ i → ¬ Ls listed i) ∧ (∀ i s, m ≤ i → i < ops.size → slotOf ops i = some s → a.tmps.getD s undef = a0.tmps.getD s undef) ∧ ∃ blk, Inv ops.size kd (slotOf ops) a0 w0 blk listed a w) ∨ (∃ q, m ≤ q ∧ q ≤ ops.size ∧ (∀ i, i < q → Ls listed i) ∧ (∀ i, q ≤ i → ¬ Ls listed i) ∧ wpOps P ops Q (List.range' q (ops.size - q)) a w))) ?_ ?_ ?_
  · have no : ∀ i, ¬ Ls (Array.replicate ops.size false) i := fun i h => by
      unfold Ls at h
      simp only [Array.getD_eq_getD_getElem?, Array.getElem?_replicate] at h
      split at h <;> cases h
    refine ⟨by simp, .inl ⟨fun s o _ hl => absurd hl (no s), fun i _ => no i, fun i s _ _ _ => rfl, fun _ => 0, ?_⟩⟩
    exact ⟨(Up.refl w0).drew, rfl, rfl, fun _ _ => rfl, fun i _ h => absurd h (no i), fun i j _ _ h => absurd h (no i), fun i _ h => absurd h (no i)⟩
  · intro listed a w i hI hi
    obtain ⟨hsz, hI⟩ := hI
    obtain ⟨hi', hl⟩ := ready_false hi
    have hnl := ls_not hl
    have ho : ops[i]? = some ops[i] := Array.getElem?_eq_getElem hi'
    have hs : slotOf ops i = ops[i].dst := by unfold slotOf; rw [ho]; rfl
    rcases hI with ⟨hc, hn, hsl, blk, I⟩ | ⟨q, hmq, hq, h1, h2, h3⟩
    · by_cases him : i < m
      · refine wpOp_mono (fun a' w' hN => ⟨by simpa using hsz, .inl ⟨?_, ?_, ?_, ?_⟩⟩) (step Q i _ him ho blk listed a w I (ready_dep hi ho) hsl)
        · intro s o hso hls e he hb
          rcases hls.set with rfl | hls
          · rw [ho] at hso
            obtain rfl := Option.some.inj hso
            exact (ready_dep hi ho e he hb).mono
          · exact (hc s o hso hls e he hb).mono
        · intro j hj hlj
          rcases hlj.set with e | hlj
          · omega
          · exact hn j hj hlj
        · intro j s hj hjn hjs
          obtain ⟨v, rfl⟩ := hN.put
          rw [← hs, put_other S I.sz hi' hjn (by omega) hjs v]
          exact hsl j s hj hjn hjs
        · rw [← hs] at hN
          exact hN.inv S I hi' hnl
      · have ha := suc_all hsuc hc hi' (by omega) (fun o h => by rw [ho] at h; obtain rfl := Option.some.inj h; exact ready_dep hi ho)
        have e : i = m := by
          refine Nat.le_antisymm (Nat.le_of_not_lt fun hlt => hn m (Nat.le_refl _) (ha m hlt)) (by omega)
        subst e
        exact wpOp_mono (fun a' w' h => ⟨h.1, .inr h.2⟩) (go i hi' listed a w hsz (Nat.le_refl _) ha hn (tail blk listed a w I ha hsl))
    · have hqi : q ≤ i := Nat.le_of_not_lt fun hlt => hnl (h1 i hlt)
      have hc : Clos ops listed := by
        intro s o hso hls e he hb
        have hsq : s < q := Nat.lt_of_not_le fun hle => h2 s hle hls
        exact h1 _ (Nat.lt_trans (hacy s o hso e he) hsq)
      have ha := suc_all hsuc hc hi' (by omega) (fun o h => by rw [ho] at h; obtain rfl := Option.some.inj h; exact ready_dep hi ho)
      have e : i = q := by
        refine Nat.le_antisymm (Nat.le_of_not_lt fun hlt => h2 q (Nat.le_refl _) (ha q hlt)) hqi
      subst e
      exact wpOp_mono (fun a' w' h => ⟨h.1, .inr h.2⟩) (go i hi' listed a w hsz hmq h1 h2 h3)
  · intro listed a w hI hr
    obtain ⟨hsz, hI⟩ := hI
    have all := all_listed hacy hsz hr
    rcases hI with ⟨hc, hn, hsl, blk, I⟩ | ⟨q, hmq, hq, h1, h2, h3⟩
    · have e : m = ops.size := Nat.le_antisymm hmn (Nat.le_of_not_lt fun hlt => hn m (Nat.le_refl _) (all m hlt))
      have h := tail blk listed a w I (fun i hi => all i (by omega)) hsl
      rw [e, Nat.sub_self] at h
      exact h
    · have e : q = ops.size := Nat.le_antisymm hq (Nat.le_of_not_lt fun hlt => h2 q (Nat.le_refl _) (all q hlt))
      rw [e, Nat.sub_self] at h3
      exact h3
/-- Two operations behind all others. -/
theorem wp_region_tm2 {id : Nat} {a0 : Act} {w0 : World} (hm : P.follows .mixedOrders = true) (kd : Nat → Kd) (m : Nat) (hmn : ops.size = m + 2) (S : Stat ops.size kd (slotOf ops) a0)
    (hacy : ∀ (i : Nat) (o : Oper), ops[i]? = some o → ∀ e ∈ o.after, e.on < i) (hsuc : sucOk ops m = true)
    (step : ∀ (Q' : Exit → Act → World → Prop) i o, i < m → ops[i]? = some o → ∀ blk listed a w, Inv ops.size kd (slotOf ops) a0 w0 blk listed a w → (∀ e ∈ o.after, Region.binds .any e = true → Ls listed e.on) → (∀ i s, m ≤ i → i < ops.size → slotOf ops i = some s → a.tmps.getD s undef = a0.tmps.getD s undef) → wpOp P ops Q' i (fun a' w' => NextK kd blk listed i o.dst a w a' w') a w)
    (tail : ∀ blk listed a w, Inv ops.size kd (slotOf ops) a0 w0 blk listed a w → (∀ i, i < m → Ls listed i) → (∀ i s, m ≤ i → i < ops.size → slotOf ops i = some s → a.tmps.getD s undef = a0.tmps.getD s undef) → wpOp P ops Q m (fun a' w' => wpOp P ops Q (m + 1) (fun a'' w'' => Q .normal a'' w'') a' w') a w) : (Code.region id ops true).wp P Q a0 w0 := by
  refine wp_region_tm hm kd m (by omega) S hacy hsuc step (fun blk listed a w I h hs => ?_)
  rw [show ops.size - m = 0 + 1 + 1 by omega, List.range'_succ, wpOps_cons]
  refine wpOp_mono (fun a' w' h2 => ?_) (tail blk listed a w I h hs)
  rw [List.range'_succ, wpOps_cons]
  exact h2
end
theorem wpOp_apR {ops : Array Oper} {Q : Exit → Act → World → Prop} {i : Nat} {o : Oper} {a : Act} {w : World} {K : Act → World → Prop} {s x : Operand} (ho : ops[i]? = some o) (hg : o.guard = none) (hop : o.op = .call { callee := .builtin .append, args := #[s, x], argTypes := #[55, 55] })
    (base : Nat) (v : Value) (rs : List (Int × Int)) (r : Int × Int) (hs : a.eval s = v) (hown : w.ownsRow base 23 2 v rs.length (usL rs)) (bb : Nat) (hx : a.eval x = .slice (some ⟨bb, 0, none⟩) 1 1) (hb : w.heap[bb]? = some (.cells #[.int .i64 r.1, .int .i64 r.2] 23)) (h9 : rs.length ≤ 1000000100) (hbase : base ≤ w.heap.size)
    (h : ∀ v' w', w'.ownsRow base 23 2 v' (rs ++ [r]).length (usL (rs ++ [r])) → w.grownBy w' v.ownBlock → K (a.put o.dst v') w') : wpOp Tryd.prog ops Q i K a w := by
  unfold wpOp
  rw [ho]
  simp only [Region.wanted, hg, if_true]
  left
  obtain ⟨i0, hj, hy0, hy1, hy2⟩ := info_parts infoRat
  refine wp_append_own w s x 55 hop base 23 i0 _ 2 16 Tryd.underlying55 hj hy0 hy1 hy2 rfl (by decide) v rs.length _ hs hown ⟨bb, 0, none⟩ 1 1 [.int .i64 r.1, .int .i64 r.2] hx rfl ?_ ?_ (by unfold maxLen; omega) (by omega) hbase (fun v' w' h1 h2 _ => h v' w' ?_ h2)
  · intro j u hj
    match j, hj with
    | 0, hj => obtain rfl := Option.some.inj hj; rw [Addr.add_mid, row_blk hb]; rfl
    | 1, hj => obtain rfl := Option.some.inj hj; rw [Addr.add_mid, row_blk hb]; rfl
  · intro u hu
    simp at hu
    rcases hu with rfl | rfl <;> rfl
  · rw [List.length_append, List.length_singleton, usL_snoc]
    exact h1
theorem own_rowA {w : World} {base : Nat} {v : Value} {rs : List (Int × Int)} (h : w.ownsRow base 23 2 v rs.length (usL rs)) (h9 : rs.length ≤ 1000000100) : wk.Row w v rs := by
  have h' := h
  obtain ⟨h1, ⟨rfl, h2⟩ | ⟨g, cap, cur, rfl, hb, hg, hr⟩⟩ := h
  · refine .inl ⟨none, 0, rfl, ?_⟩
    exact List.eq_nil_of_length_eq_zero (by first | exact h2 | exact h2.1 | (simp at h2; omega))
  · refine .inr ⟨g, 0, cap, rfl, (Array.getElem?_eq_some_iff.1 hg).1, by omega, fun i hi => ?_⟩
    obtain ⟨e1, e2⟩ := usL_at (us := rs) (k := i) (n := rs[i].1) (d := rs[i].2) (List.getElem?_eq_getElem hi)
    rw [Nat.zero_add]
    exact ⟨own_cell h' e1, own_cell h' e2⟩
theorem run_neR {ρ : Operand → Value} {w : World} {o : Oper} {x y : Operand} {p q : Int × Int} {z : Bool} (ho : o.op = .binOp .neq 23 x y 23) (hx : ρ x = .agg #[.int .i64 p.1, .int .i64 p.2]) (hy : ρ y = .agg #[.int .i64 q.1, .int .i64 q.2]) (hz : decide (p = q) = !z) : (execOp ρ o).run Tryd.prog w = .ok (.value (.bool z)) w := by
  unfold execOp
  rw [ho]
  obtain ⟨p1, p2⟩ := p
  obtain ⟨q1, q2⟩ := q
  by_cases h1 : p1 = q1
  · subst h1
    by_cases h2 : p2 = q2
    · subst h2
      have : z = false := by simpa using hz
      subst this
      simp [go_sem, hx, hy]
    · have : z = true := by simpa [h2] using hz
      subst this
      simp [go_sem, hx, hy, h2]
  · have : z = true := by simpa [h1] using hz
    subst this
    simp [go_sem, hx, hy, h1]
theorem run_inc {ρ : Operand → Value} {w : World} {o : Oper} {x : Operand} {n m : Int} (ho : o.op = .binOp .add 3 x (.const (.int .i64 1)) 3) (h0 : ρ (.const (.int .i64 1)) = .int .i64 1) (hx : ρ x = .int .i64 n) (hm : IntKind.i64.wrap (n + 1) = m) : (execOp ρ o).run Tryd.prog w = .ok (.value (.int .i64 m)) w := by
  subst hm
  unfold execOp
  rw [ho]
  simp [go_sem, hx, h0]
theorem run_ldA {ρ : Operand → Value} {w : World} {o : Oper} {x : Operand} {b off : Nat} {p q : Int} (ho : o.op = .load 23 x) (hx : ρ x = .pointer (some ⟨b, off, none⟩)) (c0 : w.cell? ⟨b, off, none⟩ = some (.int .i64 p)) (c1 : w.cell? ⟨b, off + 1, none⟩ = some (.int .i64 q)) :
    (execOp ρ o).run Tryd.prog w = .ok (.value (.agg #[.int .i64 p, .int .i64 q])) w := by
  unfold execOp
  rw [ho]
  simp [go_sem, hx, c0, c1]
theorem run_bs1R {ρ : Operand → Value} {w : World} {o : Oper} {x : Operand} {p q : Int} (ho : o.op = .buildSlice 55 1 #[(0, x)]) (hx : ρ x = .agg #[.int .i64 p, .int .i64 q]) :
    (execOp ρ o).run Tryd.prog w = .ok (.value (.slice (some ⟨w.heap.size, 0, none⟩) 1 1)) (w.alloc (.cells #[.int .i64 p, .int .i64 q] 23)) := by
  unfold execOp
  rw [ho]
  simp [go_sem, hx]
end Go.Proofs.YtlhmecagijdinaaDoor.be
