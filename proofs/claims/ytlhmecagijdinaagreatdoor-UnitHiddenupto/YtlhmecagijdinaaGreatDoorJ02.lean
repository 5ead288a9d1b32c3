/-
  A region that draws its order: a chain of operations, one behind the other, and beside it operations that only read, whose values are known.
  The form of a product that is a length: by the program, given the forms of its kids.
-/
import Derived.Test.YtlhmecagijdinaaGreatDoorH17
import Derived.Test.YtlhmecagijdinaaGreatDoorMBeE
import Derived.Great.BuildSlice
import Derived.Test.YtlhmecagijdinaaGreatDoorJ01
import Derived.Test.YtlhmecagijdinaaGreatDoorK08
import Derived.Test.YtlhmecagijdinaaGreatDoorK11
set_option linter.unusedVariables false
set_option linter.unusedSimpArgs false
namespace Go.Proofs.YtlhmecagijdinaaGreatDoor.be
open Go.RowKit nm

section
variable {P : Program} {ops : Array Oper} {Q : Exit → Act → World → Prop}
/-- Each operation is an early one or in the chain; each of the chain wants the one ahead of it. -/
def chOk (ops : Array Oper) (E : Nat → Bool) (tl : Nat → Nat) (k : Nat) : Bool :=
  ((List.range ops.size).all fun i => E i || (List.range k).any fun q => tl q == i) &&
  ((List.range k).all fun q => !E (tl q) && decide (tl q < ops.size) && ((List.range k).all fun r => r == q || tl r != tl q)) &&
  ((List.range k).all fun q => q == 0 || (match ops[tl q]? with
    | none => false
    | some o => o.after.any fun e => (e.on == tl (q - 1)) && Region.binds .any e))
/-- The value of the chain's last operation. -/
def lastV (ops : Array Oper) (tl : Nat → Nat) (a : Act) (q : Nat) : Value := if q = 0 then undef else match slotOf ops (tl (q - 1)) with
  | none => undef
  | some s => a.tmps.getD s undef
structure Fr (ops : Array Oper) (E : Nat → Option Value) (a0 : Act) (listed : Array Bool) (a : Act) : Prop where
  sz : a.tmps.size = a0.tmps.size
  df : a.defers = a0.defers
  val : ∀ i v s, i < ops.size → Ls listed i → E i = some v → slotOf ops i = some s → a.tmps.getD s undef = v
  oth : ∀ j, (∀ i, i < ops.size → slotOf ops i ≠ some j) → a.tmps.getD j undef = a0.tmps.getD j undef
theorem Fr.oth_at {E : Nat → Option Value} {a0 a : Act} {listed : Array Bool} (h : Fr ops E a0 listed a) {j : Nat} (hj : noSlot ops j = true) : a.tmps.getD j undef = a0.tmps.getD j undef := by
  refine h.oth j fun i hi e => ?_
  unfold noSlot at hj
  rw [List.all_eq_true] at hj
  have := hj i (List.mem_range.2 hi)
  rw [e] at this
  simp at this
theorem Fr.put {E : Nat → Option Value} {kd : Nat → Kd} {a0 a : Act} {listed : Array Bool} (S : Stat ops.size kd (slotOf ops) a0) (h : Fr ops E a0 listed a) {i : Nat} (hi : i < ops.size) {v : Value} (hE : ∀ u, E i = some u → u = v) : Fr ops E a0 (listed.setIfInBounds i true) (a.put (slotOf ops i) v) where
  sz := (put_sz v _).trans h.sz
  df := (put_df v _).trans h.df
  val := fun j u s hj hl he hs => by
    by_cases e : j = i
    · subst e
      rw [put_self S h.sz hj hs v]
      exact (hE u he).symm
    · rw [put_other S h.sz hi hj e hs v]
      exact h.val j u s hj (hl.set.resolve_left e) he hs
  oth := fun j hj => by
    cases hs : slotOf ops i with
    | none => exact h.oth j hj
    | some s =>
      rw [getD_put (by rw [h.sz]; exact S.inb i s hi hs), if_neg (fun e => hj i hi (by rw [hs, e]))]
      exact h.oth j hj
theorem wp_region_ch {id : Nat} {a0 : Act} {w0 : World} (hm : P.follows .mixedOrders = true) (E : Nat → Option Value) (tl : Nat → Nat) (k : Nat) (S : Stat ops.size (fun _ => .val undef) (slotOf ops) a0)
    (hacy : ∀ (i : Nat) (o : Oper), ops[i]? = some o → ∀ e ∈ o.after, e.on < i) (hch : chOk ops (fun i => (E i).isSome) tl k = true) (hsuc : sucOk ops ops.size = true) (hk0 : 0 < k) (hlast : tl (k - 1) + 1 = ops.size) (T : Nat → Value → World → Prop)
    (h0 : T 0 undef { w0 with drawn := w0.drawn + 1 })
    (early : ∀ i o v, i < ops.size → ops[i]? = some o → E i = some v → ∀ listed a w q u, q < k → T q u w → Fr ops E a0 listed a → (∀ e ∈ o.after, Region.binds .any e = true → Ls listed e.on) → o.guard = none ∧ (execOp a.eval o).run P w = .ok (.value v) w)
    (tail : ∀ (Q' : Exit → Act → World → Prop) q o, q < k → ops[tl q]? = some o → ∀ listed a w, Fr ops E a0 listed a → (∀ e ∈ o.after, Region.binds .any e = true → Ls listed e.on) → T q (lastV ops tl a q) w → wpOp P ops Q' (tl q) (fun a' w' => ∃ v, a' = a.put o.dst v ∧ (o.dst = none → v = undef) ∧ T (q + 1) v w') a w)
    (hend : ∀ a w, (a.tmps.size = a0.tmps.size ∧ ∀ j, noSlot ops j = true → a.tmps.getD j undef = a0.tmps.getD j undef) → a.defers = a0.defers → T k (lastV ops tl a k) w → Q .normal a w) : (Code.region id ops true).wp P Q a0 w0 := by
  unfold chOk at hch
  rw [Bool.and_eq_true, Bool.and_eq_true] at hch
  obtain ⟨⟨c1, c2⟩, c3⟩ := hch
  rw [List.all_eq_true] at c1 c2 c3
  have C2 : ∀ q, q < k → (E (tl q)).isSome = false ∧ tl q < ops.size ∧ ∀ r, r < k → tl r = tl q → r = q := by
    intro q hq
    have := c2 q (List.mem_range.2 hq)
    simp only [Bool.and_eq_true, Bool.not_eq_true', decide_eq_true_eq] at this
    obtain ⟨⟨x1, x2⟩, x3⟩ := this
    refine ⟨x1, x2, fun r hr he => ?_⟩
    rw [List.all_eq_true] at x3
    have := x3 r (List.mem_range.2 hr)
    simp only [Bool.or_eq_true, beq_iff_eq, bne_iff_ne] at this
    rcases this with h | h
    · exact h
    · exact absurd he h
  have no : ∀ i, ¬ Ls (Array.replicate ops.size false) i := fun i h => by
    unfold Ls at h
    simp only [Array.getD_eq_getD_getElem?, Array.getElem?_replicate] at h
    split at h <;> cases h
  refine wp_region_inv hm (fun listed a w => listed.size = ops.size ∧ Fr ops E a0 listed a ∧ Clos ops listed ∧ ∃ q, q ≤ k ∧ (∀ r, r < k → (Ls listed (tl r) ↔ r < q)) ∧ T q (lastV ops tl a q) w) ?_ ?_ ?_
  · exact ⟨by simp, ⟨rfl, rfl, fun i v s _ h => absurd h (no i), fun _ _ => rfl⟩, fun s o _ hl => absurd hl (no s), 0, Nat.zero_le _, fun r _ => ⟨fun h => absurd h (no _), fun h => by omega⟩, h0⟩
  · intro listed a w i ⟨hsz, hF, hC, q, hqk, hl, hT⟩ hi
    have clos2 : ∀ {j : Nat} {o : Oper}, ops[j]? = some o → j ∈ Region.ready .any ops listed → Clos ops (listed.setIfInBounds j true) := by
      intro j o ho hj s o' hso hls e he hb
      rcases hls.set with rfl | hls
      · rw [ho] at hso
        obtain rfl := Option.some.inj hso
        exact (ready_dep hj ho e he hb).mono
      · exact (hC s o' hso hls e he hb).mono
    have full : q = k → ∀ j, j < ops.size → Ls listed j := by
      intro hqk2
      have key : ∀ d j, ops.size - j = d → j < ops.size → Ls listed j := by
        intro d
        induction d using Nat.strongRecOn with
        | _ d ih =>
          intro j hd hj
          have hx := c1 j (List.mem_range.2 hj)
          cases hE : E j with
          | none =>
            simp only [hE, Option.isSome_none, Bool.false_or, List.any_eq_true, beq_iff_eq] at hx
            obtain ⟨r, hr, rfl⟩ := hx
            have hrk := List.mem_range.1 hr
            exact (hl r hrk).2 (by omega)
          | some v =>
            have hne : j ≠ tl (k - 1) := fun e => by
              have := (C2 (k - 1) (by omega)).1
              rw [← e, hE] at this
              cases this
            unfold sucOk at hsuc
            rw [List.all_eq_true] at hsuc
            have hy := hsuc j (List.mem_range.2 (by omega))
            rw [List.any_eq_true] at hy
            obtain ⟨s, hs, h3⟩ := hy
            simp only [Bool.and_eq_true, decide_eq_true_eq] at h3
            obtain ⟨⟨h1, -⟩, h3⟩ := h3
            have hs' := List.mem_range.1 hs
            cases ho : ops[s]? with
            | none => rw [ho] at h3; cases h3
            | some o =>
              rw [ho] at h3
              simp only [Array.any_eq_true', Bool.and_eq_true, beq_iff_eq] at h3
              obtain ⟨e, he, hb1, hb2⟩ := h3
              rw [← hb1]
              exact hC s o ho (ih (ops.size - s) (by omega) s rfl hs') e he hb2
      exact fun j hj => key _ j rfl hj
    obtain ⟨hi', hli⟩ := ready_false hi
    have hnl := ls_not hli
    have ho : ops[i]? = some ops[i] := Array.getElem?_eq_getElem hi'
    have hs : slotOf ops i = ops[i].dst := by unfold slotOf; rw [ho]; rfl
    cases hE : E i with
    | some v =>
      obtain ⟨g1, g2⟩ := early i _ v hi' ho hE listed a w q _ (Nat.lt_of_le_of_ne hqk fun e => hnl (full e i hi')) hT hF (ready_dep hi ho)
      refine wpOp_valW ho (wn g1) g2 ⟨by simpa using hsz, ?_, clos2 ho hi, q, hqk, fun r hr => ?_, ?_⟩
      · rw [← hs]
        exact hF.put S hi' (fun u hu => by rw [hE] at hu; exact (Option.some.inj hu).symm)
      · rw [← hl r hr]
        constructor
        · intro h
          rcases h.set with e | h
          · have := (C2 r hr).1
            rw [e, hE] at this
            cases this
          · exact h
        · exact fun h => h.mono
      · have e : lastV ops tl (a.put ops[i].dst v) q = lastV ops tl a q := by
          unfold lastV
          by_cases q0 : q = 0
          · rw [if_pos q0, if_pos q0]
          · rw [if_neg q0, if_neg q0]
            cases hq : slotOf ops (tl (q - 1)) with
            | none => rfl
            | some s =>
              have hr := C2 (q - 1) (by omega)
              show (a.put ops[i].dst v).tmps.getD s undef = _
              rw [← hs]
              exact put_other S hF.sz hi' hr.2.1 (fun e => by have := hr.1; rw [e, hE] at this; cases this) hq v
        rw [e]
        exact hT
    | none =>
      have hx := c1 i (List.mem_range.2 hi')
      simp only [hE, Option.isSome_none, Bool.false_or, List.any_eq_true, beq_iff_eq] at hx
      obtain ⟨r, hr, rfl⟩ := hx
      have hrk := List.mem_range.1 hr
      have hqr : q ≤ r := Nat.le_of_not_lt fun h => hnl ((hl r hrk).2 h)
      have e : r = q := by
        refine Nat.le_antisymm (Nat.le_of_not_lt fun hlt => ?_) hqr
        have hy := c3 r hr
        rw [ho] at hy
        simp only [Bool.or_eq_true, beq_iff_eq, Array.any_eq_true', Bool.and_eq_true] at hy
        rcases hy with h | ⟨e, he, h1, h2⟩
        · omega
        · have := ready_dep hi ho e he h2
          rw [h1] at this
          have := (hl (r - 1) (by omega)).1 this
          omega
      subst e
      refine wpOp_mono (fun a' w' hN => ?_) (tail Q r _ hrk ho listed a w hF (ready_dep hi ho) hT)
      obtain ⟨v, rfl, hv, hT'⟩ := hN
      refine ⟨by simpa using hsz, ?_, clos2 ho hi, r + 1, by omega, fun s hsk => ?_, ?_⟩
      · rw [← hs]
        exact hF.put S hi' (fun u hu => by rw [hE] at hu; cases hu)
      · constructor
        · intro h
          rcases h.set with e | h
          · have := (C2 r hrk).2.2 s hsk e; omega
          · have := (hl s hsk).1 h; omega
        · intro h
          by_cases e : s = r
          · subst e; exact Ls.self (by omega)
          · exact ((hl s hsk).2 (by omega)).mono
      · have e : lastV ops tl (a.put ops[tl r].dst v) (r + 1) = v := by
          unfold lastV
          rw [if_neg (by omega), Nat.add_sub_cancel]
          cases hq : slotOf ops (tl r) with
          | none => exact (hv (by rw [← hs]; exact hq)).symm
          | some s =>
            show (a.put ops[tl r].dst v).tmps.getD s undef = v
            rw [← hs]
            exact put_self S hF.sz hi' hq v
        rw [e]
        exact hT'
  · intro listed a w ⟨hsz, hF, hC, q, hqk, hl, hT⟩ hr
    have all := all_listed hacy hsz hr
    have e : q = k := by
      refine Nat.le_antisymm hqk (Nat.le_of_not_lt fun hlt => ?_)
      have := (hl q hlt).1 (all _ (C2 q hlt).2.1)
      omega
    subst e
    exact hend a w ⟨hF.sz, fun j hj => hF.oth_at hj⟩ hF.df hT
end
/-- The frame behind it. -/
theorem fr_frame {ops : Array Oper} {t0 : List Value} {d0 : List _} {a : Act} (w : World) (hsz : a.tmps.size = t0.toArray.size) (hoth : ∀ j, noSlot ops j = true → a.tmps.getD j undef = t0.toArray.getD j undef) (hdf : a.defers = d0) (l : List (Nat × Value))
    (h : ∀ p ∈ l, p.1 < t0.toArray.size ∧ a.tmps.getD p.1 undef = p.2) (hc : (List.range ops.size).all (fun i => match slotOf ops i with | none => true | some s => l.any (fun p => p.1 == s)) = true) : a = ⟨(setsL t0 l).toArray, d0⟩ := by
  have no : ∀ i, ¬ Ls #[] i := fun i h => by unfold Ls at h; simp at h
  have I : Inv ops.size (fun _ => .val undef) (slotOf ops) ⟨t0.toArray, d0⟩ w (fun _ => 0) #[] a w := {
    up := Up.refl w
    df := hdf
    sz := hsz
    oth := fun j hj => hoth j (by
      unfold noSlot
      rw [List.all_eq_true]
      intro i hi
      have := hj i (List.mem_range.1 hi)
      simpa using this)
    low := fun i _ h => absurd h (no i)
    dis := fun i j _ _ h => absurd h (no i)
    fct := fun i _ h => absurd h (no i) }
  exact I.frameL l h hc
theorem list15 {A : List Value} (h : A.length = 15) : ∃ a0 a1 a2 a3 a4 a5 a6 a7 a8 a9 b0 b1 b2 b3 b4, A = [a0, a1, a2, a3, a4, a5, a6, a7, a8, a9, b0, b1, b2, b3, b4] := by
  match A, h with
  | [a0, a1, a2, a3, a4, a5, a6, a7, a8, a9, b0, b1, b2, b3, b4], _ => exact ⟨a0, a1, a2, a3, a4, a5, a6, a7, a8, a9, b0, b1, b2, b3, b4, rfl⟩
/-- A slice of two forms. -/
theorem run_bs2F {ρ : Operand → Value} {w : World} {o : Oper} {x y : Operand} {A B : List Value} (ho : o.op = .buildSlice 58 2 #[(0, x), (1, y)]) (hx : ρ x = .agg A.toArray) (hy : ρ y = .agg B.toArray) (hA : A.length = 15) (hB : B.length = 15) :
    (execOp ρ o).run Tryz.prog w = .ok (.value (.slice (some ⟨w.heap.size, 0, none⟩) 2 2)) (w.alloc (.cells (A ++ B).toArray 30)) := by
  obtain ⟨ie, hie, hz0, hz1, hz2⟩ := info_parts infoFo
  have hf : Instr.fill (fun i => some (i * ie.size, ie.size)) ((Array.range (2 * ie.size)).map ((Value.agg #[.int .i64 0, .int .i64 0, .int .i64 0, .int .i64 0, .int .i64 0, .int .i64 0, .int .i64 0, .int .i64 0, .int .i64 0, .int .i64 0, .int .i64 0, .int .i64 0, .int .i64 0, .int .i64 0, .slice none 0 0]).cells[· % (Value.agg #[.int .i64 0, .int .i64 0, .int .i64 0, .int .i64 0, .int .i64 0, .int .i64 0, .int .i64 0, .int .i64 0, .int .i64 0, .int .i64 0, .int .i64 0, .int .i64 0, .int .i64 0, .int .i64 0, .slice none 0 0]).cells.size]!)) (#[(0, x), (1, y)].map fun (i, x) => (i, ρ x)).toList = some (A ++ B).toArray := by
    rw [hz1, show (#[((0 : Nat), x), (1, y)].map fun (i, x) => (i, ρ x)).toList = [(0, .agg A.toArray), (1, .agg B.toArray)] by simp [hx, hy]]
    obtain ⟨a0, a1, a2, a3, a4, a5, a6, a7, a8, a9, b0, b1, b2, b3, b4, rfl⟩ := list15 hA
    obtain ⟨c0, c1, c2, c3, c4, c5, c6, c7, c8, c9, d0, d1, d2, d3, d4, rfl⟩ := list15 hB
    kernel_rfl
  unfold execOp
  rw [ho]
  simp only [Sem.run_bind, run_buildSlice w 58 30 2 _ _ ie _ Tryz.underlying58 hie hz0 (by rw [hz1]; decide) (by rw [hz1]; decide) hf, Result.andThen_ok]
  rfl
end Go.Proofs.YtlhmecagijdinaaGreatDoor.be
set_option linter.unusedVariables false
set_option linter.unusedSimpArgs false
namespace Go.Proofs.YtlhmecagijdinaaGreatDoor.nm
open Go.RowKit cc be

/-- Fifteen cells of nothing. -/
def z15 : List Value := [.int .i64 0, .int .i64 0, .int .i64 0, .int .i64 0, .int .i64 0, .int .i64 0, .int .i64 0, .int .i64 0, .int .i64 0, .int .i64 0, .int .i64 0, .int .i64 0, .int .i64 0, .int .i64 0, .slice none 0 0]
/-- The cells of the length that was met, if one was. -/
def LenA (W : World) (n : Nat) (A : List Value) (fl : List Fo) : Prop := (fl = [] ∧ A = z15) ∨ ∃ f v, fl = [f] ∧ A = usL f.us ++ [v] ∧ Us f.us ∧ PM W n v f.ps
theorem LenA.sees {W W' : World} {n : Nat} {A : List Value} {fl : List Fo} (h : LenA W n A fl) (k : Sees W W') : LenA W' n A fl := by
  rcases h with h | ⟨f, v, h1, h2, h3, h4⟩
  · exact .inl h
  · exact .inr ⟨f, v, h1, h2, h3, pm_sees k h4⟩
theorem LenA.len {W : World} {n : Nat} {A : List Value} {fl : List Fo} (h : LenA W n A fl) : A.length = 15 := by
  rcases h with ⟨_, rfl⟩ | ⟨f, v, h1, rfl, h3, h4⟩
  · rfl
  · exact fo_len h3 v
def RelPr (w : World) (n : Nat) (ks : List Ex) (j : Nat) (i lv : Value) (wr : World) : Prop := ∃ (m : Nat) (la : Option Addr) (lc : Nat) (A : List Value), i = .int .i64 m ∧ lv = .slice la (nmE (ks.take m)).length lc ∧ m ≤ ks.length ∧ Hid (Bk wr w.heap.size 30 z15 ∧ Bk wr (w.heap.size + 1) 30 A ∧ LenA (hidW (w.heap.size + 2) lv wr) n A (fmEs (ks.take m) j) ∧ wr.ownsRow (w.heap.size + 2) 23 2 lv (nmE (ks.take m)).length (usL (nmE (ks.take m))) ∧ Below w.heap.size w wr)
theorem RelPr.mk {w : World} {n : Nat} {ks : List Ex} {j : Nat} {i lv : Value} {wr : World} (m : Nat) (la : Option Addr) (lc : Nat) (A : List Value) (h1 : i = .int .i64 m) (h2 : lv = .slice la (nmE (ks.take m)).length lc) (h3 : m ≤ ks.length) (h4 : Bk wr w.heap.size 30 z15) (h5 : Bk wr (w.heap.size + 1) 30 A) (h6 : LenA (hidW (w.heap.size + 2) lv wr) n A (fmEs (ks.take m) j)) (h7 : wr.ownsRow (w.heap.size + 2) 23 2 lv (nmE (ks.take m)).length (usL (nmE (ks.take m)))) (h8 : Below w.heap.size w wr) : RelPr w n ks j i lv wr := ⟨m, la, lc, A, h1, h2, h3, h4, h5, h6, h7, h8⟩
end Go.Proofs.YtlhmecagijdinaaGreatDoor.nm

