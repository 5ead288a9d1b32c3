/-
  A region that draws its order: a chain of operations, one behind the other, and beside it operations that only read, whose values are known.
  The form of a product that is a length: by the program, given the forms of its kids.
-/
import Derived.Test.YtlhmecagijdinaaGreatDoorH17
import Derived.Test.YtlhmecagijdinaaGreatDoorMBeE
import Derived.Great.BuildSlice
import Derived.Test.YtlhmecagijdinaaGreatDoorJ01
import Derived.Test.YtlhmecagijdinaaGreatDoorQ02
import Derived.Test.YtlhmecagijdinaaGreatDoorMNuD
set_option linter.unusedVariables false
set_option linter.unusedSimpArgs false
namespace Go.Proofs.YtlhmecagijdinaaGreatDoor.be
open Go.RowKit nm

section
variable {P : Program} {ops : Array Oper} {Q : Exit → Act → World → Prop}
/-- Each operation is an early one or in the chain; each of the chain wants the one ahead of it. -/
def chOk (ops : Array Oper) (E : Nat → Bool) (tl : Nat → Nat) (k : Nat) : Bool :=
  ((List.range ops.size).all fun i => E i || (List.range k).any fun q => tl q == i) &&
  ((List.range k).all fun q => !E (tl q) && decide (tl q < ops.size) && ((List.range k).all fun r => r == q || tl r != tl q)) &&
  ((List.range k).all fun q => q == 0 || (match ops[tl q]? with
    | none => false
    | some o => o.after.any fun e => (e.on == tl (q - 1)) && Region.binds .any e))
/-- The value of the chain's last operation. -/
def lastV (ops : Array Oper) (tl : Nat → Nat) (a : Act) (q : Nat) : Value := if q = 0 then undef else match slotOf ops (tl (q - 1)) with
  | none => undef
  | some s => a.tmps.getD s undef
structure Fr (ops : Array Oper) (E : Nat → Option Value) (a0 : Act) (listed : Array Bool) (a : Act) : Prop where
  sz : a.tmps.size = a0.tmps.size
  df : a.defers = a0.defers
  val : ∀ i v s, i < ops.size → Ls listed i → E i = some v → slotOf ops i = some s → a.tmps.getD s undef = v
  oth : ∀ j, (∀ i, i < ops.size → slotOf ops i ≠ some j) → a.tmps.getD j undef = a0.tmps.getD j undef
theorem Fr.oth_at {E : Nat → Option Value} {a0 a : Act} {listed : Array Bool} (h : Fr ops E a0 listed a) {j : Nat} (hj : noSlot ops j = true) : a.tmps.getD j undef = a0.tmps.getD j undef := by
  refine h.oth j fun i hi e => ?_
  unfold noSlot at hj
  rw [List.all_eq_true] at hj
  have := hj i (List.mem_range.2 hi)
  rw [e] at this
  simp at this
theorem Fr.put {E : Nat → Option Value} {kd : Nat → Kd} {a0 a : Act} {listed : Array Bool} (S : Stat ops.size kd (slotOf ops) a0) (h : Fr ops E a0 listed a) {i : Nat} (hi : i < ops.size) {v : Value} (hE : ∀ u, E i = some u → u = v) : Fr ops E a0 (listed.setIfInBounds i true) (a.put (slotOf ops i) v) where
  sz := (put_sz v _).trans h.sz
  df := (put_df v _).trans h.df
  val := fun j u s hj hl he hs => by
    by_cases e : j = i
    · subst e
      rw [put_self S h.sz hj hs v]
      exact (hE u he).symm
    · rw [put_other S h.sz hi hj e hs v]
      exact h.val j u s hj (hl.set.resolve_left e) he hs
  oth := fun j hj => by
    cases hs : slotOf ops i with
    | none => exact h.oth j hj
    | some s =>
      rw [getD_put (by rw [h.sz]; exact S.inb i s hi hs), if_neg (fun e => hj i hi (by rw [hs, e]))]
      exact h.oth j hj
theorem wp_region_ch {id : Nat} {a0 : Act} {w0 : World} (hm : P.follows .mixedOrders = true) (E : Nat → Option Value) (tl : Nat → Nat) (k : Nat) (S : Stat ops.size (fun _ => .val undef) (slotOf ops) a0)
    (hacy : ∀ (i : Nat) (o : Oper), ops[i]? = some o → ∀ e ∈ o.after, e.on < i) (hch : chOk ops (fun i => (E i).isSome) tl k = true) (hsuc : sucOk ops ops.size = true) (hk0 : 0 < k) (hlast : tl (k - 1) + 1 = ops.size) (T : Nat → Value → World → Prop)
    (h0 : T 0 undef { w0 with drawn := w0.drawn + 1 })
    (early : ∀ i o v, i < ops.size → ops[i]? = some o → E i = some v → ∀ listed a w q u, q < k → T q u w → Fr ops E a0 listed a → (∀ e ∈ o.after, Region.binds .any e = true → Ls listed e.on) → o.guard = none ∧ (execOp a.eval o).run P w = .ok (.value v) w)
    (tail : ∀ (Q' : Exit → Act → World → Prop) q o, q < k → ops[tl q]? = some o → ∀ listed a w, Fr ops E a0 listed a → (∀ e ∈ o.after, Region.binds .any e = true → Ls listed e.on) → T q (lastV ops tl a q) w → wpOp P ops Q' (tl q) (fun a' w' => ∃ v, a' = a.put o.dst v ∧ (o.dst = none → v = undef) ∧ T (q + 1) v w') a w)
    (hend : ∀ a w, (a.tmps.size = a0.tmps.size ∧ ∀ j, noSlot ops j = true → a.tmps.getD j undef = a0.tmps.getD j undef) → a.defers = a0.defers → T k (lastV ops tl a k) w → Q .normal a w) : (Code.region id ops true).wp P Q a0 w0 := by
  unfold chOk at hch
  rw [Bool.and_eq_true, Bool.and_eq_true] at hch
  obtain ⟨⟨c1, c2⟩, c3⟩ := hch
  rw [List.all_eq_true] at c1 c2 c3
  have C2 : ∀ q, q < k → (E (tl q)).isSome = false ∧ tl q < ops.size ∧ ∀ r, r < k → tl r = tl q → r = q := by
    intro q hq
    have := c2 q (List.mem_range.2 hq)
    simp only [Bool.and_eq_true, Bool.not_eq_true', decide_eq_true_eq] at this
    obtain ⟨⟨x1, x2⟩, x3⟩ := this
    refine ⟨x1, x2, fun r hr he => ?_⟩
    rw [List.all_eq_true] at x3
    have := x3 r (List.mem_range.2 hr)
    simp only [Bool.or_eq_true, beq_iff_eq, bne_iff_ne] at this
    rcases this with h | h
    · exact h
    · exact absurd he h
  have no : ∀ i, ¬ Ls (Array.replicate ops.size false) i := fun i h => by
    unfold Ls at h
    simp only [Array.getD_eq_getD_getElem?, Array.getElem?_replicate] at h
    split at h <;> cases h
  refine wp_region_inv hm (fun listed a w => listed.size = ops.size ∧ Fr ops E a0 listed a ∧ Clos ops listed ∧ ∃ q, q ≤ k ∧ (∀ r, r < k → (Ls listed (tl r) ↔ r < q)) ∧ T q (lastV ops tl a q) w) ?_ ?_ ?_
  · exact ⟨by simp, ⟨rfl, rfl, fun i v s _ h => absurd h (no i), fun _ _ => rfl⟩, fun s o _ hl => absurd hl (no s), 0, Nat.zero_le _, fun r _ => ⟨fun h => absurd h (no _), fun h => by omega⟩, h0⟩
  · intro listed a w i ⟨hsz, hF, hC, q, hqk, hl, hT⟩ hi
    have clos2 : ∀ {j : Nat} {o : Oper}, ops[j]? = some o → j ∈ Region.ready .any ops listed → Clos ops (listed.setIfInBounds j true) := by
      intro j o ho hj s o' hso hls e he hb
      rcases hls.set with rfl | hls
      · rw [ho] at hso
        obtain rfl := Option.some.inj hso
        exact (ready_dep hj ho e he hb).mono
      · exact (hC s o' hso hls e he hb).mono
    have full : q = k → ∀ j, j < ops.size → Ls listed j := by
      intro hqk2
      have key : ∀ d j, ops.size - j = d → j < ops.size → Ls listed j := by
        intro d
        induction d using Nat.strongRecOn with
        | _ d ih =>
          intro j hd hj
          have hx := c1 j (List.mem_range.2 hj)
          cases hE : E j with
          | none =>
            simp only [hE, Option.isSome_none, Bool.false_or, List.any_eq_true, beq_iff_eq] at hx
            obtain ⟨r, hr, rfl⟩ := hx
            have hrk := List.mem_range.1 hr
            exact (hl r hrk).2 (by omega)
          | some v =>
            have hne : j ≠ tl (k - 1) := fun e => by
              have := (C2 (k - 1) (by omega)).1
              rw [← e, hE] at this
              cases this
            unfold sucOk at hsuc
            rw [List.all_eq_true] at hsuc
            have hy := hsuc j (List.mem_range.2 (by omega))
            rw [List.any_eq_true] at hy
            obtain ⟨s, hs, h3⟩ := hy
            simp only [Bool.and_eq_true, decide_eq_true_eq] at h3
            obtain ⟨⟨h1, -⟩, h3⟩ := h3
            have hs' := List.mem_range.1 hs
            cases ho : ops[s]? with
            | none => rw [ho] at h3; cases h3
            | some o =>
              rw [ho] at h3
              simp only [Array.any_eq_true', Bool.and_eq_true, beq_iff_eq] at h3
              obtain ⟨e, he, hb1, hb2⟩ := h3
              rw [← hb1]
              exact hC s o ho (ih (ops.size - s) (by omega) s rfl hs') e he hb2
      exact fun j hj => key _ j rfl hj
    obtain ⟨hi', hli⟩ := ready_false hi
    have hnl := ls_not hli
    have ho : ops[i]? = some ops[i] := Array.getElem?_eq_getElem hi'
    have hs : slotOf ops i = ops[i].dst := by unfold slotOf; rw [ho]; rfl
    cases hE : E i with
    | some v =>
      obtain ⟨g1, g2⟩ := early i _ v hi' ho hE listed a w q _ (Nat.lt_of_le_of_ne hqk fun e => hnl (full e i hi')) hT hF (ready_dep hi ho)
      refine wpOp_valW ho (wn g1) g2 ⟨by simpa using hsz, ?_, clos2 ho hi, q, hqk, fun r hr => ?_, ?_⟩
      · rw [← hs]
        exact hF.put S hi' (fun u hu => by rw [hE] at hu; exact (Option.some.inj hu).symm)
      · rw [← hl r hr]
        constructor
        · intro h
          rcases h.set with e | h
          · have := (C2 r hr).1
            rw [e, hE] at this
            cases this
          · exact h
        · exact fun h => h.mono
      · have e : lastV ops tl (a.put ops[i].dst v) q = lastV ops tl a q := by
          unfold lastV
          by_cases q0 : q = 0
          · rw [if_pos q0, if_pos q0]
          · rw [if_neg q0, if_neg q0]
            cases hq : slotOf ops (tl (q - 1)) with
            | none => rfl
            | some s =>
              have hr := C2 (q - 1) (by omega)
              show (a.put ops[i].dst v).tmps.getD s undef = _
              rw [← hs]
              exact put_other S hF.sz hi' hr.2.1 (fun e => by have := hr.1; rw [e, hE] at this; cases this) hq v
        rw [e]
        exact hT
    | none =>
      have hx := c1 i (List.mem_range.2 hi')
      simp only [hE, Option.isSome_none, Bool.false_or, List.any_eq_true, beq_iff_eq] at hx
      obtain ⟨r, hr, rfl⟩ := hx
      have hrk := List.mem_range.1 hr
      have hqr : q ≤ r := Nat.le_of_not_lt fun h => hnl ((hl r hrk).2 h)
      have e : r = q := by
        refine Nat.le_antisymm (Nat.le_of_not_lt fun hlt => ?_) hqr
        have hy := c3 r hr
        rw [ho] at hy
        simp only [Bool.or_eq_true, beq_iff_eq, Array.any_eq_true', Bool.and_eq_true] at hy
        rcases hy with h | ⟨e, he, h1, h2⟩
        · omega
        · have := ready_dep hi ho e he h2
          rw [h1] at this
          have := (hl (r - 1) (by omega)).1 this
          omega
      subst e
      refine wpOp_mono (fun a' w' hN => ?_) (tail Q r _ hrk ho listed a w hF (ready_dep hi ho) hT)
      obtain ⟨v, rfl, hv, hT'⟩ := hN
      refine ⟨by simpa using hsz, ?_, clos2 ho hi, r + 1, by omega, fun s hsk => ?_, ?_⟩
      · rw [← hs]
        exact hF.put S hi' (fun u hu => by rw [hE] at hu; cases hu)
      · constructor
        · intro h
          rcases h.set with e | h
          · have := (C2 r hrk).2.2 s hsk e; omega
          · have := (hl s hsk).1 h; omega
        · intro h
          by_cases e : s = r
          · subst e; exact Ls.self (by omega)
          · exact ((hl s hsk).2 (by omega)).mono
      · have e : lastV ops tl (a.put ops[tl r].dst v) (r + 1) = v := by
          unfold lastV
          rw [if_neg (by omega), Nat.add_sub_cancel]
          cases hq : slotOf ops (tl r) with
          | none => exact (hv (by rw [← hs]; exact hq)).symm
          | some s =>
            show (a.put ops[tl r].dst v).tmps.getD s undef = v
            rw [← hs]
            exact put_self S hF.sz hi' hq v
        rw [e]
        exact hT'
  · intro listed a w ⟨hsz, hF, hC, q, hqk, hl, hT⟩ hr
    have all := all_listed hacy hsz hr
    have e : q = k := by
      refine Nat.le_antisymm hqk (Nat.le_of_not_lt fun hlt => ?_)
      have := (hl q hlt).1 (all _ (C2 q hlt).2.1)
      omega
    subst e
    exact hend a w ⟨hF.sz, fun j hj => hF.oth_at hj⟩ hF.df hT
end
/-- The frame behind it. -/
theorem fr_frame {ops : Array Oper} {t0 : List Value} {d0 : List _} {a : Act} (w : World) (hsz : a.tmps.size = t0.toArray.size) (hoth : ∀ j, noSlot ops j = true → a.tmps.getD j undef = t0.toArray.getD j undef) (hdf : a.defers = d0) (l : List (Nat × Value))
    (h : ∀ p ∈ l, p.1 < t0.toArray.size ∧ a.tmps.getD p.1 undef = p.2) (hc : (List.range ops.size).all (fun i => match slotOf ops i with | none => true | some s => l.any (fun p => p.1 == s)) = true) : a = ⟨(setsL t0 l).toArray, d0⟩ := by
  have no : ∀ i, ¬ Ls #[] i := fun i h => by unfold Ls at h; simp at h
  have I : Inv ops.size (fun _ => .val undef) (slotOf ops) ⟨t0.toArray, d0⟩ w (fun _ => 0) #[] a w := {
    up := Up.refl w
    df := hdf
    sz := hsz
    oth := fun j hj => hoth j (by
      unfold noSlot
      rw [List.all_eq_true]
      intro i hi
      have := hj i (List.mem_range.1 hi)
      simpa using this)
    low := fun i _ h => absurd h (no i)
    dis := fun i j _ _ h => absurd h (no i)
    fct := fun i _ h => absurd h (no i) }
  exact I.frameL l h hc
theorem list15 {A : List Value} (h : A.length = 15) : ∃ a0 a1 a2 a3 a4 a5 a6 a7 a8 a9 b0 b1 b2 b3 b4, A = [a0, a1, a2, a3, a4, a5, a6, a7, a8, a9, b0, b1, b2, b3, b4] := by
  match A, h with
  | [a0, a1, a2, a3, a4, a5, a6, a7, a8, a9, b0, b1, b2, b3, b4], _ => exact ⟨a0, a1, a2, a3, a4, a5, a6, a7, a8, a9, b0, b1, b2, b3, b4, rfl⟩
/-- A slice of two forms. -/
theorem run_bs2F {ρ : Operand → Value} {w : World} {o : Oper} {x y : Operand} {A B : List Value} (ho : o.op = .buildSlice 58 2 #[(0, x), (1, y)]) (hx : ρ x = .agg A.toArray) (hy : ρ y = .agg B.toArray) (hA : A.length = 15) (hB : B.length = 15) :
    (execOp ρ o).run Tryz.prog w = .ok (.value (.slice (some ⟨w.heap.size, 0, none⟩) 2 2)) (w.alloc (.cells (A ++ B).toArray 30)) := by
  obtain ⟨ie, hie, hz0, hz1, hz2⟩ := info_parts infoFo
  have hf : Instr.fill (fun i => some (i * ie.size, ie.size)) ((Array.range (2 * ie.size)).map ((Value.agg #[.int .i64 0, .int .i64 0, .int .i64 0, .int .i64 0, .int .i64 0, .int .i64 0, .int .i64 0, .int .i64 0, .int .i64 0, .int .i64 0, .int .i64 0, .int .i64 0, .int .i64 0, .int .i64 0, .slice none 0 0]).cells[· % (Value.agg #[.int .i64 0, .int .i64 0, .int .i64 0, .int .i64 0, .int .i64 0, .int .i64 0, .int .i64 0, .int .i64 0, .int .i64 0, .int .i64 0, .int .i64 0, .int .i64 0, .int .i64 0, .int .i64 0, .slice none 0 0]).cells.size]!)) (#[(0, x), (1, y)].map fun (i, x) => (i, ρ x)).toList = some (A ++ B).toArray := by
    rw [hz1, show (#[((0 : Nat), x), (1, y)].map fun (i, x) => (i, ρ x)).toList = [(0, .agg A.toArray), (1, .agg B.toArray)] by simp [hx, hy]]
    obtain ⟨a0, a1, a2, a3, a4, a5, a6, a7, a8, a9, b0, b1, b2, b3, b4, rfl⟩ := list15 hA
    obtain ⟨c0, c1, c2, c3, c4, c5, c6, c7, c8, c9, d0, d1, d2, d3, d4, rfl⟩ := list15 hB
    kernel_rfl
  unfold execOp
  rw [ho]
  simp only [Sem.run_bind, run_buildSlice w 58 30 2 _ _ ie _ Tryz.underlying58 hie hz0 (by rw [hz1]; decide) (by rw [hz1]; decide) hf, Result.andThen_ok]
  rfl
end Go.Proofs.YtlhmecagijdinaaGreatDoor.be
set_option linter.unusedVariables false
set_option linter.unusedSimpArgs false
namespace Go.Proofs.YtlhmecagijdinaaGreatDoor.nm
open Go.RowKit cc be

/-- What form tells lies in new memory. -/
def FpC (N : Nat) : Prop := ∀ (x : Ex) (j : Nat) (u : Value) (w : World), szE x ≤ N → szE x ≤ 200000000 → OkX x → exM x j = true → kdE x = 2 → Nth w → TabD w → EM w u x.ks → Calls Tryz.prog 26 #[exV x u] w fun e w' => ∃ v, e = .returned (foV (fmE x j).us v) ∧ Us (fmE x j).us ∧ PM (cutW w.heap.size w') (2 * j) v (fmE x j).ps ∧ Below w.heap.size w w'
/-- 'append(own, fraction)'; what lies elsewhere stays. -/
theorem wpList_append_ratH {wr : World} {B : Nat} {ops : Array Oper} {rest : List Oper} {o : Oper} {a : Act} {Q : Exit → Act → World → Prop} (hgd : o.guard = none) (s x : Operand)
    (ho : o.op = .call { callee := .builtin .append, args := #[s, x], argTypes := #[72, 72] })
    (v : Value) (l : List (Int × Int)) (hs : a.eval s = v) (hown : wr.ownsRow B 23 2 v l.length (usL l)) (hB : B ≤ wr.heap.size) (g : Nat) (r : Int × Int) (hx : a.eval x = .slice (some ⟨g, 0, none⟩) 1 1) (hg : Bk wr g 23 [.int .i64 r.1, .int .i64 r.2]) (hl : l.length + 1 ≤ 1000000000)
    (h : ∀ la lc w', w'.ownsRow B 23 2 (.slice la (l ++ [r]).length lc) (l ++ [r]).length (usL (l ++ [r])) → Sees (hidW B v wr) (hidW B (.slice la (l ++ [r]).length lc) w') → Below B wr w' → wpList Tryz.prog ops Q rest (a.put o.dst (.slice la (l ++ [r]).length lc)) w') : wpList Tryz.prog ops Q (o :: rest) a wr := by
  obtain ⟨i1, hj, hy0, hy1, hy2⟩ := info_parts infoRat
  have hv : ∀ g, v.ownBlock = some g → B ≤ g ∧ g < wr.heap.size := hown.lt
  refine wpList_append_lies wr hgd s x 72 ho B 23 i1 _ 2 16 Tryz.underlying72 hj hy0 hy1 hy2 rfl (by decide) v l.length (usL l) hs hown ⟨g, 0, none⟩ 1 1 [.int .i64 r.1, .int .i64 r.2] hx rfl (fun j y hj' => ?_) (fun u hu => by simp at hu; rcases hu with rfl | rfl <;> rfl) (by decide) (by unfold maxLen; omega) (by omega) hB _ rfl ?_
  · rw [Addr.add_lit, Nat.zero_add, Bk.cell hg]
    exact hj'
  · intro g' cap w' h1 h2 h3 h4
    have e : (l ++ [r]).length = l.length + 1 := by simp
    have k : Sees (hidW B v wr) (hidW B (.slice (some ⟨g', 0, none⟩) (l.length + 1) cap) w') := hid_keep h2.size (fun b b1 b2 b3 => ⟨h2.block b b2 b3, fun e => by
      have e' : b = g' := by simpa [Value.ownBlock] using e
      rcases h3 with h3 | h3
      · exact b3 (by rw [h3, e'])
      · omega⟩)
    have q := h (some ⟨g', 0, none⟩) cap w' (by rw [e, usL_snoc]; exact h1) (by rw [e]; exact k) ((Below.refl B wr).grown h2 hB (fun q hq => (hv q hq).1))
    rwa [e] at q
/-- Fifteen cells of nothing. -/
def z15 : List Value := [.int .i64 0, .int .i64 0, .int .i64 0, .int .i64 0, .int .i64 0, .int .i64 0, .int .i64 0, .int .i64 0, .int .i64 0, .int .i64 0, .int .i64 0, .int .i64 0, .int .i64 0, .int .i64 0, .slice none 0 0]
/-- The cells of the length that was met, if one was. -/
def LenA (W : World) (n : Nat) (A : List Value) (fl : List Fo) : Prop := (fl = [] ∧ A = z15) ∨ ∃ f v, fl = [f] ∧ A = usL f.us ++ [v] ∧ Us f.us ∧ PM W n v f.ps
theorem LenA.sees {W W' : World} {n : Nat} {A : List Value} {fl : List Fo} (h : LenA W n A fl) (k : Sees W W') : LenA W' n A fl := by
  rcases h with h | ⟨f, v, h1, h2, h3, h4⟩
  · exact .inl h
  · exact .inr ⟨f, v, h1, h2, h3, pm_sees k h4⟩
theorem LenA.len {W : World} {n : Nat} {A : List Value} {fl : List Fo} (h : LenA W n A fl) : A.length = 15 := by
  rcases h with ⟨_, rfl⟩ | ⟨f, v, h1, rfl, h3, h4⟩
  · rfl
  · exact fo_len h3 v
def RelPr (w : World) (n : Nat) (ks : List Ex) (j : Nat) (i lv : Value) (wr : World) : Prop := ∃ (m : Nat) (la : Option Addr) (lc : Nat) (A : List Value), i = .int .i64 m ∧ lv = .slice la (nmE (ks.take m)).length lc ∧ m ≤ ks.length ∧ Hid (Bk wr w.heap.size 30 z15 ∧ Bk wr (w.heap.size + 1) 30 A ∧ LenA (hidW (w.heap.size + 2) lv wr) n A (fmEs (ks.take m) j) ∧ wr.ownsRow (w.heap.size + 2) 23 2 lv (nmE (ks.take m)).length (usL (nmE (ks.take m))) ∧ Below w.heap.size w wr)
theorem RelPr.mk {w : World} {n : Nat} {ks : List Ex} {j : Nat} {i lv : Value} {wr : World} (m : Nat) (la : Option Addr) (lc : Nat) (A : List Value) (h1 : i = .int .i64 m) (h2 : lv = .slice la (nmE (ks.take m)).length lc) (h3 : m ≤ ks.length) (h4 : Bk wr w.heap.size 30 z15) (h5 : Bk wr (w.heap.size + 1) 30 A) (h6 : LenA (hidW (w.heap.size + 2) lv wr) n A (fmEs (ks.take m) j)) (h7 : wr.ownsRow (w.heap.size + 2) 23 2 lv (nmE (ks.take m)).length (usL (nmE (ks.take m)))) (h8 : Below w.heap.size w wr) : RelPr w n ks j i lv wr := ⟨m, la, lc, A, h1, h2, h3, h4, h5, h6, h7, h8⟩
/-- Only one kid is a length. -/
theorem one_len {ks : List Ex} {j m : Nat} {y : Ex} (h1 : (fmEs ks j).length = 1) (hy : ks[m]? = some y) (hk : kdE y = 2) : fmEs (ks.take m) j = [] := by
  have e := fmEs_step hy j
  rw [if_pos hk] at e
  have e2 : fmEs ks j = fmEs (ks.take (m + 1)) j ++ fmEs (ks.drop (m + 1)) j := by rw [← fmEs_app, List.take_append_drop]
  rw [e2, e] at h1
  simp only [List.length_append, List.length_cons, List.length_nil] at h1
  exact List.eq_nil_of_length_eq_zero (by omega)
def kdP10 (A : List Value) (lv : Value) (m : Int × Int) : Nat → Kd
  | 0 => .val (.agg A.toArray)
  | 1 => .val lv
  | 2 => .val (.agg #[.int .i64 m.1, .int .i64 m.2])
  | _ => .val undef
set_option maxRecDepth 100000 in
set_option maxHeartbeats 16000000 in
theorem product_of (N : Nat) (IH : FpC N) (ks : List Ex) (j : Nat) (v : Value) (w : World) (hz : szEs ks ≤ N) (hz2 : szEs ks ≤ 200000000) (hok : ∀ y ∈ ks, OkX y) (hm : ∀ y ∈ ks, exM y j = true) (hk : ∀ y ∈ ks, kdE y = 1 ∨ kdE y = 2) (h1 : (fmEs ks j).length = 1) (hN : Nth w) (hT : TabD w) (hv : EM w v ks) (F : Fo) (hF : scF (wk.mulAll (nmE ks)) (2 * j) (foAt (fmEs ks j) 0) = F) (hsz : szF (foAt (fmEs ks j) 0) ≤ 1000000000) :
    Calls Tryz.prog 48 #[v] w fun e w' => ∃ u, e = .returned (foV F.us u) ∧ Us F.us ∧ PM (cutW w.heap.size w') (2 * j) u F.ps ∧ Below w.heap.size w w' := by
  obtain ⟨a, c, rfl, hl9⟩ := hv.shape
  have HV := hide hv
  have H1 := hide h1
  have HN := hide hN
  have HT := hide hT
  have HF := hide hF
  have HSZ := hide hsz
  have N64 := hide (nmE_64 hok)
  have CL := hide (fun (i : Nat) (y : Ex) (u : Value) (W : World) (hy : ks[i]? = some y) (hW : Below w.heap.size w W) (hu : EM w u y.ks) => isLength_all N y j u W (by have := szEs_at hy; omega) (hm y (List.mem_of_getElem? hy)) (by have := hk y (List.mem_of_getElem? hy); omega) (hu.low hW))
  have CF := hide (fun (i : Nat) (y : Ex) (u : Value) (W : World) (hy : ks[i]? = some y) (hW : Below w.heap.size w W) (hu : EM w u y.ks) (h2 : kdE y = 2) => IH y j u W (by have := szEs_at hy; omega) (by have := szEs_at hy; omega) (hok y (List.mem_of_getElem? hy)) (hm y (List.mem_of_getElem? hy)) h2 (hN.low hW) (hT.low hW) (hu.low hW))
  have CN := hide (fun (i : Nat) (y : Ex) (u : Value) (W : World) (hy : ks[i]? = some y) (hW : Below w.heap.size w W) (hu : EM w u y.ks) (h2 : kdE y = 1) => numP_all z0R N y j u W (by have := szEs_at hy; omega) (hok y (List.mem_of_getElem? hy)) (hm y (List.mem_of_getElem? hy)) h2 (hu.low hW))
  have KD := hide hk
  have OL := hide (show ∀ m, (nmE (ks.take m)).length ≤ 1000000000 from fun m => by have := nmE_le (ks.take m); rw [List.length_take] at this; omega)
  obtain ⟨W1, hW1⟩ : ∃ W1, (w.alloc (.cells #[.int .i64 0, .int .i64 0, .int .i64 0, .int .i64 0, .int .i64 0, .int .i64 0, .int .i64 0, .int .i64 0, .int .i64 0, .int .i64 0, .int .i64 0, .int .i64 0, .int .i64 0, .int .i64 0, .slice none 0 0] 30)).alloc (.cells #[.int .i64 0, .int .i64 0, .int .i64 0, .int .i64 0, .int .i64 0, .int .i64 0, .int .i64 0, .int .i64 0, .int .i64 0, .int .i64 0, .int .i64 0, .int .i64 0, .int .i64 0, .int .i64 0, .slice none 0 0] 30) = W1 := ⟨_, rfl⟩
  have B0 := hide (show Below w.heap.size w W1 by rw [← hW1]; exact bplus (bplus (Below.refl _ _) _) _)
  have P0 := hide (show Bk W1 w.heap.size 30 z15 by rw [← hW1]; exact (two_new w _ _).1)
  have P1 := hide (show Bk W1 (w.heap.size + 1) 30 z15 by rw [← hW1]; exact (two_new w _ _).2)
  have S1 : W1.heap.size = w.heap.size + 2 := by rw [← hW1]; simp
  have HW1 := hide hW1
  clear hW1 hv h1 hN hT hF hsz hok hm hk hz hz2 IH
  go_enter Tryz.func48, Tryz.ntmps48
  go_upto_region 2 with fail
  rw [HW1.out]
  clear HW1
  go_wp2_with fail
  go_loopw [9, 4] (fun i lv wr => RelPr w (2 * j) ks j i lv wr) (fun i _ _ => ks.length - (intOf i).toNat)
  case atStart => exact .mk 0 none 0 z15 rfl rfl (by omega) P0.out P1.out (.inl ⟨by rw [List.take_zero, fmEs_nil], rfl⟩) (World.ownsRow_nil _ _ _ _) B0.out
  case round =>
    obtain ⟨m, la, lc, A, rfl, rfl, hmn, R⟩ := hrel
    have Q0 := hide R.out.1
    have Q1 := hide R.out.2.1
    have QA := hide R.out.2.2.1
    have QO := hide R.out.2.2.2.1
    have BW := hide R.out.2.2.2.2
    have q2 : w.heap.size + 2 ≤ wr.heap.size := Bk.lt Q1.out
    clear R P0 P1 B0 S1
    by_cases hlt : m < ks.length
    · have hlt' : (m : Int) < ks.length := by omega
      obtain ⟨y, hy⟩ : ∃ y, ks[m]? = some y := ⟨_, List.getElem?_eq_getElem hlt⟩
      obtain ⟨b, o, c', u5, hv', hb, -, -, yo, t5, hu5, hku⟩ := HV.out.at hy
      obtain ⟨rfl, rfl⟩ : a = some ⟨b, o, none⟩ ∧ c = c' := by cases hv'; exact ⟨rfl, rfl⟩
      have NS := hide (nmE_step hy)
      have FS := hide (fmEs_step hy j)
      have YK := KD.out y (List.mem_of_getElem? hy)
      have CL2 := hide (fun (W : World) (h : Below w.heap.size w W) => CL.out m y u5 W hy h hku)
      have CF2 := hide (fun (W : World) (h : Below w.heap.size w W) => CF.out m y u5 W hy h hku)
      have CN2 := hide (fun (W : World) (h : Below w.heap.size w W) => CN.out m y u5 W hy h hku)
      have O1 := hide (fun (h : kdE y = 2) => one_len H1.out hy h)
      obtain ⟨ua, uc, rfl, -⟩ := hku.shape
      obtain ⟨c0, c1, c2, c3⟩ := t5.below BW.out hb
      have c4 := (BW.out.cell (p := ⟨b, o + m * 5 + 4, none⟩) hb).trans hu5
      have hbw : b < wr.heap.size := by have := BW.out.size; omega
      have nb : b ≠ wr.heap.size := by omega
      unfold exV at CL2 CF2 CN2
      clear hy t5 hu5 hku yo
      (try clear hv')
      generalize fmE y j = fy at *
      generalize rkE z0R y = ry at *
      generalize y.k = yk at *
      generalize y.n = yn at *
      generalize y.d = yd at *
      generalize y.u = yu at *
      generalize y.ks.length = yl at *
      obtain ⟨W5, hW5⟩ : ∃ W5, wr.alloc (.cells #[.int .i64 yk, .int .i64 yn, .int .i64 yd, .int .i64 yu, .slice ua yl uc] 26) = W5 := ⟨_, rfl⟩
      have B5 := hide (show Below wr.heap.size wr W5 by rw [← hW5]; exact bplus (Below.refl _ _) _)
      have K5 := hide (show Bk W5 wr.heap.size 26 [.int .i64 yk, .int .i64 yn, .int .i64 yd, .int .i64 yu, .slice ua yl uc] by rw [← hW5]; exact Bk.new wr _ _)
      have HW5 := hide hW5
      have KX := hide (fun (W : World) (h : Below W5.heap.size W5 W) => show W.cell? ⟨wr.heap.size, 0, none⟩ = some (.int .i64 yk) ∧ W.cell? ⟨wr.heap.size, 1, none⟩ = some (.int .i64 yn) ∧ W.cell? ⟨wr.heap.size, 2, none⟩ = some (.int .i64 yd) ∧ W.cell? ⟨wr.heap.size, 3, none⟩ = some (.int .i64 yu) ∧ W.cell? ⟨wr.heap.size, 4, none⟩ = some (.slice ua yl uc) from by
        have q := fun n => Bk.cell (Bk.up K5.out h) n
        exact ⟨q 0, q 1, q 2, q 3, q 4⟩)
      clear hW5
      go_upto_region 6 with fail
      rw [HW5.out]
      clear HW5 c0 c1 c2 c3 c4
      obtain ⟨x0, x1, x2, x3, x4⟩ := KX.out W5 (Below.refl _ _)
      rcases YK with hk | hk
      · have NS2 := hide (show nmE (ks.take (m + 1)) = nmE (ks.take m) ++ [ry] by rw [NS.out, if_pos hk])
        have FS2 := hide (show fmEs (ks.take (m + 1)) j = fmEs (ks.take m) j by rw [FS.out, if_neg (by omega), List.append_nil])
        rw [show (kdE y == 2) = false by rw [hk]; rfl] at CL2
        replace CN2 := hide (fun (W : World) (h : Below w.heap.size w W) => CN2.out W h hk)
        have OLm := OL.out m
        have OLm1 := OL.out (m + 1)
        rw [NS2.out, List.length_append] at OLm1
        simp only [List.length_cons, List.length_nil] at OLm1
        clear CF2 NS FS O1 hk
        have E9 := hide (show (nmE (ks.take m) ++ [ry]) = nmE (ks.take (m + 1)) from NS2.out.symm)
        generalize nmE (ks.take m) = ns at *
        generalize fmEs (ks.take m) j = fl at *
        unfold ratV at CN2
        go_wp2_with (first
          | (go_at_call 76; refine (CL2.out _ (bto BW.out B5.out)).mono ?_; rintro e w1 ⟨rfl, B1⟩; replace B1 := hide B1; obtain ⟨g0, g1, g2, g3, g4⟩ := KX.out w1 B1.out)
          | (go_at_call 77; refine (CN2.out _ (bto BW.out (bto B5.out B1.out))).mono ?_; rintro e w2 ⟨rfl, B2⟩; replace B2 := hide (bto B5.out (bto B1.out B2)))
          | (at_builtin; refine wpList_append_ratH rfl (.tmp 17) (.tmp 20) rfl (.slice la ns.length lc) ns rfl (own_up QO.out (bplus B2.out _)) (Nat.le_trans q2 (bplus B2.out _).size) w2.heap.size ry rfl (Bk.new w2 _ _) (by omega) ?_; intro la' lc' w3 HO HS HB; rw [E9.out] at HO HS ⊢; replace HO := hide HO; replace HS := hide HS; replace HB := hide HB))
        go_roundw
        case rel => exact .mk (m + 1) la' lc' A (by go_num) rfl (by omega) (Bk.low (Bk.up Q0.out (bplus B2.out _)) HB.out (by omega)) (Bk.low (Bk.up Q1.out (bplus B2.out _)) HB.out (by omega)) (by rw [FS2.out]; exact (QA.out.sees (hid_up (bplus B2.out _))).sees HS.out) HO.out ((bto BW.out (bplus B2.out _)).trans (HB.out.mono (by omega)))
        case measure => simp [intOf]; omega
      · have NS2 := hide (show nmE (ks.take (m + 1)) = nmE (ks.take m) by rw [NS.out, if_neg (by omega), List.append_nil])
        have FS2 := hide (show fmEs (ks.take (m + 1)) j = [fy] by rw [FS.out, if_pos hk, O1.out hk]; rfl)
        rw [show (kdE y == 2) = true by rw [hk]; rfl] at CL2
        replace CF2 := hide (fun (W : World) (h : Below w.heap.size w W) => show Calls Tryz.prog 26 #[.agg #[.int .i64 yk, .int .i64 yn, .int .i64 yd, .int .i64 yu, .slice ua yl uc]] W fun e w' => ∃ v, e = .returned (.agg (usL fy.us ++ [v]).toArray) ∧ Us fy.us ∧ PM (cutW W.heap.size w') (2 * j) v fy.ps ∧ Below W.heap.size W w' from CF2.out W h hk)
        clear CN2 NS FS O1 hk
        have QOW := QO.out.lt
        have OWN : ∀ g, (Value.slice la (nmE (ks.take m)).length lc).ownBlock = some g → g < wr.heap.size := fun g hg => (QOW g hg).2
        replace OWN := hide OWN
        clear QOW
        have AL := LenA.len QA.out
        have TH := hide (fun (W : World) (h : Below wr.heap.size wr W) => there_blk (n := 15) (show W.heap[w.heap.size + 1]? = some (.cells A.toArray 30) from Bk.up Q1.out h) (by rw [List.size_toArray, AL]))
        have PU := hide (fun (W : World) (Z : List Value) (hZ : Z.length = 15) (h : Below wr.heap.size wr W) => show Bk (W.setCells (w.heap.size + 1) 0 Z) (w.heap.size + 1) 30 Z from by
          have q := Bk.puts Z 0 W A (Bk.up Q1.out h) (by omega)
          rwa [List.take_zero, List.nil_append, Nat.zero_add, List.drop_of_length_le (by omega), List.append_nil] at q)
        generalize nmE (ks.take m) = ns at *
        clear AL
        go_wp2_with (first
          | (go_at_call 76; refine (CL2.out _ (bto BW.out B5.out)).mono ?_; rintro e w1 ⟨rfl, B1⟩; replace B1 := hide B1; obtain ⟨g0, g1, g2, g3, g4⟩ := KX.out w1 B1.out)
          | (go_at_call 26; refine (CF2.out _ (bto BW.out (bto B5.out B1.out))).mono ?_; rintro e w2 ⟨fv, rfl, UV, PV, B2⟩; replace B2 := hide B2; have B3 := hide (bto B5.out (bto B1.out B2.out)); have LV := hide (fo_len UV fv); have OV := hide (us_one (us := fy.us) (pm_one PV)); have UVH := hide UV; have PVH := hide PV; clear UV PV)
          | (refine wpList_store_mid rfl 30 (.tmp 3) (.tmp 16) rfl (w.heap.size + 1) 0 (usL fy.us ++ [fv]).toArray rfl rfl (by rw [show (usL fy.us ++ [fv]).toArray.size = 15 from LV.out]; exact TH.out _ B3.out) (by rw [show (usL fy.us ++ [fv]).toArray.size = 15 from LV.out]; kernel_rfl) (all_oneCell_toArray OV.out) ?_))
        (try rw [show (usL fy.us ++ [fv]).toArray.toList = usL fy.us ++ [fv] from rfl])
        go_roundw
        case rel =>
          have s1 := (bto B5.out B1.out).size
          exact .mk (m + 1) la lc (usL fy.us ++ [fv]) (by go_num) (by rw [NS2.out]) (by omega)
            (show Bk _ _ _ _ from (setCells_far w.heap.size (w.heap.size + 1) 0 (by omega) _ _ _).trans (Bk.up Q0.out B3.out))
            (PU.out _ _ LV.out B3.out)
            (by rw [FS2.out]; exact .inr ⟨fy, fv, rfl, rfl, UVH.out, pm_sees (Sees.trans (cut_hid (by omega) (fun g hg => by have := OWN.out g hg; omega)) (hid_keep (by rw [setCells_size]; exact Nat.le_refl _) (fun b hb _ hne => ⟨setCells_far b (w.heap.size + 1) 0 (by omega) _ _ _, hne⟩))) PVH.out⟩)
            (by rw [NS2.out]; exact own_keep (own_up QO.out B3.out) (fun g hg _ => setCells_far g (w.heap.size + 1) 0 (by omega) _ _ _))
            ((bto BW.out B3.out).grown (setCells_grown _ _ _ _) (bto BW.out B3.out).size (fun k hk => by cases hk; omega))
        case measure => simp [intOf]; omega
    · obtain rfl : m = ks.length := by omega
      have hlt' : ¬ (ks.length : Int) < ks.length := by omega
      rw [List.take_of_length_le (Nat.le_refl _)] at QA QO
      rw [show ks.take ks.length = ks from List.take_of_length_le (Nat.le_refl _)]
      have OLm := OL.out ks.length
      rw [List.take_of_length_le (Nat.le_refl _)] at OLm
      obtain ⟨f, fv, hfl, rfl, hus, hpm⟩ : ∃ f v, fmEs ks j = [f] ∧ A = usL f.us ++ [v] ∧ Us f.us ∧ PM (hidW (w.heap.size + 2) (.slice la (nmE ks).length lc) wr) (2 * j) v f.ps := by
        rcases QA.out with h | h
        · have := H1.out; rw [h.1] at this; cases this
        · exact h
      have EF : scF (wk.mulAll (nmE ks)) (2 * j) f = F := by rw [← HF.out, hfl]; rfl
      have SZ : szF f ≤ 1000000000 := by have := HSZ.out; rw [hfl] at this; exact this
      have MR : R64 (wk.mulAll (nmE ks)) := wk.mulAll_I64 _
      have CS := hide (fun (W : World) (h : Below wr.heap.size wr W) => scaling_all (wk.mulAll (nmE ks)) MR (2 * j) f.us f.ps fv W (HN.out.low (bto BW.out h)) (HT.out.low (bto BW.out h)) hus (PM.low h (pm_sees (hid_sees _ _ _) hpm)) (by rw [show Fo.mk f.us f.ps = f by cases f; rfl]; exact SZ))
      rw [show Fo.mk f.us f.ps = f by cases f; rfl, EF] at CS
      have RW := hide (own_rowA QO.out (by omega))
      have CM := hide (fun (W : World) (h : Below wr.heap.size wr W) => (wk.mulP_any _ (nmE ks) W (row_low RW.out h) N64.out).mono (R' := fun e w' => e = .returned (ratV (wk.mulAll (nmE ks))) ∧ be.Up W w') (by rintro e w1 ⟨rfl, U⟩; exact ⟨rfl, U.1⟩))
      have LF := fo_len hus fv
      generalize wk.mulAll (nmE ks) = mm at *
      obtain ⟨SL, SP⟩ := F
      obtain ⟨LV, hLV⟩ : ∃ q, Value.slice la (nmE ks).length lc = q := ⟨_, rfl⟩
      rw [hLV] at CM ⊢
      obtain ⟨A, hA⟩ : ∃ q, usL f.us ++ [fv] = q := ⟨_, rfl⟩
      rw [hA] at LF Q1
      replace CS := hide (fun (W : World) (h : Below wr.heap.size wr W) => show Calls Tryz.prog 38 #[.agg A.toArray, .agg #[.int .i64 mm.1, .int .i64 mm.2]] W fun e w' => ∃ v, e = .returned (.agg (usL SL ++ [v]).toArray) ∧ Us SL ∧ PM (cutW W.heap.size w') (2 * j) v SP ∧ Below W.heap.size W w' from by rw [← hA]; exact CS.out W h)
      have TH := hide (fun (W : World) (A : List Value) (hA : A.length = 15) (h : Below wr.heap.size wr W) => show W.there w.heap.size 0 A.toArray.size from there_blk (show W.heap[w.heap.size]? = some (.cells z15.toArray 30) from Bk.up Q0.out h) (by rw [List.size_toArray, List.size_toArray, hA]; decide))
      have HI := hide (fun (A : List Value) (hA : A.length = 15) => show (Tryz.prog.info? 30).map (·.size) = some A.toArray.size by rw [List.size_toArray, hA]; kernel_rfl)
      have FL := hide (show (Tryz.prog.info? 30).map (·.size) = some A.length by rw [LF]; kernel_rfl)
      have RF := hide (fun (W : World) (h : Below wr.heap.size wr W) => show W.rangeAt (w.heap.size + 1) 0 A from range_blk (Bk.up Q1.out h))
      clear hpm hus hfl EF SZ MR RW Q0 Q1 QA QO CL CF CN HV H1 HF HSZ OL OLm hLV hA N64 KD LF
      go_upto_region 10 with fail
      refine wp_region_tl2 (by kernel_rfl) (kdP10 A LV mm) 3 rfl (Stat.of (by kernel_rfl)) (acy_of (by kernel_rfl)) (by kernel_rfl) ?_ ?_
      · as_aux_lemma =>
          intro Q' i o hi ho blk listed a wx I hd
          rcases (show i = 0 ∨ i = 1 ∨ i = 2 by omega) with rfl | rfl | rfl
          · obtain rfl := Option.some.inj ho
            exact wpOp_valW rfl (wn rfl) (run_ldF rfl (show a.tmps.getD 3 undef = _ from (I.oth_at (by kernel_rfl)).trans rfl) (RF.out wx I.up) Tryz.underlying30 rfl FL.out) (show _ ∧ _ from ⟨rfl, be.Up.refl _⟩)
          · obtain rfl := Option.some.inj ho
            exact wpOp_valW rfl (wn rfl) (run_mv rfl (show a.tmps.getD 4 undef = _ from (I.oth_at (by kernel_rfl)).trans rfl)) (show _ ∧ _ from ⟨rfl, be.Up.refl _⟩)
          · obtain rfl := Option.some.inj ho
            have v0 := (I.val_at (i := 1) (by decide) (hd ⟨1, .data⟩ (by simp) rfl) (.inl rfl) rfl)
            refine wpOp_callW rfl (wn rfl) (run_cl1 rfl rfl (fun v => enters_of Tryz.func64 (by kernel_rfl) rfl #[v] wx)) ?_
            refine (show Calls Tryz.prog 64 #[a.tmps.getD _ undef] wx _ from ?_)
            rw [v0]
            exact (CM.out wx I.up).mono (by rintro e w' ⟨rfl, hu⟩; exact ⟨_, rfl, (show _ ∧ _ from ⟨rfl, hu⟩)⟩)
      · intro blk listed a' wx I hall LATE
        have fr := I.frameL [(23, (.agg A.toArray)), (24, LV), (25, (.agg #[.int .i64 mm.1, .int .i64 mm.2])), (26, undef)] (by
          intro p hp
          simp only [List.mem_cons, List.not_mem_nil, or_false] at hp
          rcases hp with rfl | rfl | rfl | rfl
          · exact ⟨by simp, I.val_at (i := 0) (by decide) (hall _ (by decide)) (.inl rfl) rfl⟩
          · exact ⟨by simp, I.val_at (i := 1) (by decide) (hall _ (by decide)) (.inl rfl) rfl⟩
          · exact ⟨by simp, I.val_at (i := 2) (by decide) (hall _ (by decide)) (.inl rfl) rfl⟩
          · exact ⟨by simp, (LATE 3 26 (by decide) (by decide) rfl).trans rfl⟩) (by kernel_rfl)
        have BY := hide (show Below wr.heap.size wr wx from I.up)
        clear I hall LATE
        subst fr
        dsimp only [setsL, List.set_cons_zero, List.set_cons_succ]
        refine wpOp_callW rfl (wn rfl) (run_cl2 rfl rfl (fun v u => enters_of Tryz.func38 (by kernel_rfl) rfl #[v, u] wx)) ?_
        refine (show Calls Tryz.prog 38 #[.agg A.toArray, .agg #[.int .i64 mm.1, .int .i64 mm.2]] wx _ from ?_)
        refine (CS.out wx BY.out).mono ?_
        rintro e w5 ⟨v, rfl, hSL, PV, B5⟩
        refine ⟨_, rfl, ?_⟩
        have LS := fo_len hSL v
        refine wpOp_stM (b := w.heap.size) (off := 0) (cells := (usL SL ++ [v]).toArray) rfl rfl rfl rfl rfl (TH.out _ _ LS (bto BY.out B5)) (HI.out _ LS) (all_oneCell_toArray (us_one (pm_one PV))) ?_
        rw [show (usL SL ++ [v]).toArray.toList = usL SL ++ [v] from rfl]
        have RA := World.rangeAt_setCells_same w5 w.heap.size 0 (usL SL ++ [v]) (by have q := TH.out _ _ LS (bto BY.out B5); rwa [List.size_toArray] at q)
        have HPV := hide (show PM (cutW w.heap.size (w5.setCells w.heap.size 0 (usL SL ++ [v]))) (2 * j) v SP from pm_sees (cut_keep (by have := (bto BW.out BY.out).size; omega) (by rw [setCells_size]; exact Nat.le_refl _) (fun b hb hl => setCells_far b w.heap.size 0 (by have := BY.out.size; omega) _ _ _)) PV)
        have HBE := hide (show Below w.heap.size w (w5.setCells w.heap.size 0 (usL SL ++ [v])) from (bto (bto BW.out BY.out) B5).grown (setCells_grown _ _ _ _) (bto (bto BW.out BY.out) B5).size (fun k hk => by cases hk; exact Nat.le_refl _))
        have EF := hide (show foV SL v = .agg (usL SL ++ [v]).toArray from rfl)
        generalize usL SL ++ [v] = Z at *
        go_wp2_with fail
        refine ret_cell (b := w.heap.size) (cs := Z) Tryz.results48 rfl RA Tryz.underlying30 rfl (by rw [LS]; kernel_rfl) rfl ?_
        exact ⟨v, by show _ = Ending.returned (foV SL v); rw [EF.out], hSL, HPV.out, HBE.out⟩
end Go.Proofs.YtlhmecagijdinaaGreatDoor.nm
