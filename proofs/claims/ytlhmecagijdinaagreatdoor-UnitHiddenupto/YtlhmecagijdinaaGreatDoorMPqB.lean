/-
  The pick of some forms: by the reference.
-/
import Derived.Test.YtlhmecagijdinaaGreatDoorK10
import Derived.Test.YtlhmecagijdinaaGreatDoorH09
import Derived.Test.YtlhmecagijdinaaGreatDoorMBeE
set_option linter.unusedVariables false
set_option linter.unusedSimpArgs false
namespace Go.Proofs.YtlhmecagijdinaaGreatDoor.nm
open Go.RowKit cc be

theorem run_eqR {ρ : Operand → Value} {w : World} {o : Oper} {x y : Operand} {p q : Int × Int} {z : Bool} (ho : o.op = .binOp .eql 23 x y 23) (hx : ρ x = .agg #[.int .i64 p.1, .int .i64 p.2]) (hy : ρ y = .agg #[.int .i64 q.1, .int .i64 q.2]) (hz : decide (p = q) = z) : (execOp ρ o).run Tryz.prog w = .ok (.value (.bool z)) w := by
  unfold execOp
  rw [ho]
  obtain ⟨p1, p2⟩ := p
  obtain ⟨q1, q2⟩ := q
  by_cases h1 : p1 = q1
  · subst h1
    by_cases h2 : p2 = q2
    · subst h2
      have : z = true := by simpa using hz.symm
      subst this
      simp [go_sem, hx, hy]
    · have : z = false := by simpa [h2] using hz.symm
      subst this
      simp [go_sem, hx, hy, h2]
  · have : z = false := by simpa [h1] using hz.symm
    subst this
    simp [go_sem, hx, hy, h1]
theorem ix7Q {us : List (Int × Int)} (h : Us us) {k : Nat} (hk : k < 7) {r : Int × Int} (hr : us[k]? = some r) (W : World) : (Instr.index 27 (.agg (usL us).toArray) (.int .i64 k)).run Tryz.prog W = .ok (.agg #[.int .i64 r.1, .int .i64 r.2]) W := by
  obtain ⟨n0, d0, n1, d1, n2, d2, n3, d3, n4, d4, n5, d5, n6, d6, rfl⟩ := us7 h
  exact ix7 hk 27 (.inl rfl) (n := r.1) (d := r.2) hr W
theorem grownBy_setCQ (w : World) (g j : Nat) (u : Value) : w.grownBy (w.setCell ⟨g, j, none⟩ u) (some g) := by
  refine ⟨rfl, rfl, rfl, by simp [World.setCell], fun k hk hne => ?_⟩
  have : g ≠ k := fun h => hne (by rw [h])
  simp [World.setCell, Array.getElem?_modify, this]
theorem own_farQ {w : World} {base : Nat} {e : TypeId} {size : Nat} {v : Value} {n : Nat} {xs : List Value} (h : w.ownsRow base e size v n xs) {tb : Nat} (ht : tb < base) (i : Nat) (u : Value) : (w.setCell ⟨tb, i, none⟩ u).ownsRow base e size v n xs := h.kept (grownBy_setCQ w tb i u) (by
  cases hv : v.ownBlock with
  | none => exact .inl rfl
  | some k => right; intro e; have := (h.lt k hv).1; cases e; omega)
def kdS13 (r : Int × Int) (z : Bool) : Nat → Kd
  | 0 => .val (.agg #[.int .i64 r.1, .int .i64 r.2])
  | 1 => .val (.agg #[.int .i64 0, .int .i64 1])
  | 2 => .val (.bool z)
  | _ => .val undef
def RelSo (w : World) (s : Int × Bool) (l : List Fo) (u p i : Value) (wr : World) : Prop := ∃ (k : Nat) (x : Int) (q : Bool), u = .int .i64 x ∧ p = .bool q ∧ i = .int .i64 k ∧ k ≤ l.length ∧ -1 ≤ x ∧ x ≤ 6 ∧ Hid (scL x q (l.drop k) = s ∧ Below w.heap.size w wr)
theorem RelSo.mk {w : World} {s : Int × Bool} {l : List Fo} {u p i : Value} {wr : World} (k : Nat) (x : Int) (q : Bool) (h1 : u = .int .i64 x) (h2 : p = .bool q) (h3 : i = .int .i64 k) (h4 : k ≤ l.length) (h5 : -1 ≤ x) (h6 : x ≤ 6) (h7 : scL x q (l.drop k) = s) (h8 : Below w.heap.size w wr) : RelSo w s l u p i wr := ⟨k, x, q, h1, h2, h3, h4, h5, h6, h7, h8⟩
def RelSi (w : World) (s : Int × Bool) (us : List (Int × Int)) (u p i : Value) (wr : World) : Prop := ∃ (k : Nat) (x : Int) (q : Bool), u = .int .i64 x ∧ p = .bool q ∧ i = .int .i64 k ∧ k ≤ 7 ∧ -1 ≤ x ∧ x ≤ 6 ∧ Hid (scU x q (us.drop k) k = s ∧ Below w.heap.size w wr)
theorem RelSi.mk {w : World} {s : Int × Bool} {us : List (Int × Int)} {u p i : Value} {wr : World} (k : Nat) (x : Int) (q : Bool) (h1 : u = .int .i64 x) (h2 : p = .bool q) (h3 : i = .int .i64 k) (h4 : k ≤ 7) (h5 : -1 ≤ x) (h6 : x ≤ 6) (h7 : scU x q (us.drop k) k = s) (h8 : Below w.heap.size w wr) : RelSi w s us u p i wr := ⟨k, x, q, h1, h2, h3, h4, h5, h6, h7, h8⟩
def RelSr (w5 : World) (rs : Nat → List (Int × Int)) (n : Nat) (lv i : Value) (wr : World) : Prop := ∃ (k : Nat) (l : Value), l = lv ∧ i = .int .i64 k ∧ k ≤ n ∧ Hid (wr.ownsRow w5.heap.size 23 2 lv (rs k).length (usL (rs k)) ∧ Below w5.heap.size w5 wr)
theorem RelSr.mk {w5 : World} {rs : Nat → List (Int × Int)} {n : Nat} {lv i : Value} {wr : World} (k : Nat) (h1 : i = .int .i64 k) (h2 : k ≤ n) (h3 : wr.ownsRow w5.heap.size 23 2 lv (rs k).length (usL (rs k))) (h7 : Below w5.heap.size w5 wr) : RelSr w5 rs n lv i wr := ⟨k, lv, rfl, h1, h2, h3, h7⟩
def PkRost (n : Nat) (f : Fo) (w0 w : World) (e : Ending) (w' : World) : Prop := ∃ fu, e = .returned (foV f.us fu) ∧ (∀ W : World, Below w0.heap.size w0 W → (∀ b, w.heap.size ≤ b → b < w'.heap.size → W.heap[b]? = w'.heap[b]?) → PM W n fu f.ps) ∧ Below w.heap.size w w'
theorem PkRost.mk {n : Nat} {f : Fo} {w0 w w' : World} {e : Ending} (fu : Value) (h1 : e = .returned (foV f.us fu)) (h2 : ∀ W : World, Below w0.heap.size w0 W → (∀ b, w.heap.size ≤ b → b < w'.heap.size → W.heap[b]? = w'.heap[b]?) → PM W n fu f.ps) (h3 : Below w.heap.size w w') : PkRost n f w0 w e w' := ⟨fu, h1, h2, h3⟩
theorem scU_step {us : List (Int × Int)} {k : Nat} {r : Int × Int} (hr : us[k]? = some r) {x : Int} {q : Bool} {s : Int × Bool} (h : scU x q (us.drop k) k = s) : (if r = (0, 1) then scU x q (us.drop (k + 1)) (k + 1) else scU k (if 0 ≤ x ∧ x ≠ k then false else q) (us.drop (k + 1)) (k + 1)) = s := by
  obtain ⟨h1, h2⟩ := List.getElem?_eq_some_iff.1 hr
  rw [List.drop_eq_getElem_cons h1, h2, scU] at h
  exact h
theorem scL_step {l : List Fo} {k : Nat} {f : Fo} (hf : l[k]? = some f) {x : Int} {q : Bool} {s : Int × Bool} (h : scL x q (l.drop k) = s) : scL (scU x (q && f.ps.isEmpty) f.us 0).1 (scU x (q && f.ps.isEmpty) f.us 0).2 (l.drop (k + 1)) = s := by
  obtain ⟨h1, h2⟩ := List.getElem?_eq_some_iff.1 hf
  rw [List.drop_eq_getElem_cons h1, h2, scL] at h
  exact h
set_option maxRecDepth 100000 in
set_option maxHeartbeats 16000000 in
theorem pickR_any (n : Nat) (mx : Bool) (l : List Fo) (v : Value) (w0 w : World) (hv0 : FM w0 n v l) (hs0 : Below w0.heap.size w0 w) : Calls Tryz.prog 33 #[.bool mx, v] w (PkRost n (pkF mx l) w0 w) := by
  obtain ⟨a, c, rfl, hl9⟩ := hv0.shape
  have hv := FM.low hs0 hv0
  have HV := hide hv
  have HV0 := hide hv0
  have HS0 := hide hs0
  have HUS := hide (fm_us hv)
  have h7s := fun f hf => (HUS.out f hf).1
  have CZ := hide (fun (W : World) => zeroR_any W)
  obtain ⟨W1, hW1⟩ : ∃ W1, w.alloc (.cells #[.int .i64 0, .int .i64 0, .int .i64 0, .int .i64 0, .int .i64 0, .int .i64 0, .int .i64 0, .int .i64 0, .int .i64 0, .int .i64 0, .int .i64 0, .int .i64 0, .int .i64 0, .int .i64 0, .slice none 0 0] 30) = W1 := ⟨_, rfl⟩
  have B0 := hide (show Below w.heap.size w W1 by rw [← hW1]; exact bplus (Below.refl _ _) _)
  have KB := hide (show Bk W1 w.heap.size 30 [.int .i64 0, .int .i64 0, .int .i64 0, .int .i64 0, .int .i64 0, .int .i64 0, .int .i64 0, .int .i64 0, .int .i64 0, .int .i64 0, .int .i64 0, .int .i64 0, .int .i64 0, .int .i64 0, .slice none 0 0] by rw [← hW1]; exact Bk.new w _ _)
  have TH0 := hide (fun (W : World) (h : Below W1.heap.size W1 W) => there_blk (n := 15) (show W.heap[w.heap.size]? = some (.cells #[.int .i64 0, .int .i64 0, .int .i64 0, .int .i64 0, .int .i64 0, .int .i64 0, .int .i64 0, .int .i64 0, .int .i64 0, .int .i64 0, .int .i64 0, .int .i64 0, .int .i64 0, .int .i64 0, .slice none 0 0] 30) from Bk.up KB.out h) rfl)
  have S1 : w.heap.size < W1.heap.size := Bk.lt KB.out
  have HW1 := hide hW1
  clear hW1 hv KB hv0 hs0
  by_cases h0 : l.length = 0
  · obtain rfl : l = [] := List.eq_nil_of_length_eq_zero h0
    have EP : pkF mx [] = .mk z01 [] := by
      unfold pkF
      rw [if_neg (by decide), if_neg (by rw [show maskN [] = 0 from rfl, pop_zero]; simp [plainL]), if_pos (show maskN [] = 0 from rfl)]
    rw [EP]
    rw [show foV z01 nilS = .agg (usL z01 ++ [nilS]).toArray from rfl] at CZ
    have EF := hide (show foV z01 nilS = .agg (usL z01 ++ [nilS]).toArray from rfl)
    have EL : (usL z01 ++ [nilS]).length = 15 := rfl
    have OA := hide (show ∀ v ∈ usL z01 ++ [nilS], v.oneCell' = true from us_one rfl)
    generalize usL z01 ++ [nilS] = A at *
    have sA : A.toArray.size = 15 := by rw [List.size_toArray]; exact EL
    have HI6 := hide (show (Tryz.prog.info? 30).map (·.size) = some A.length by rw [EL]; kernel_rfl)
    have HI5 := hide (show (Tryz.prog.info? 30).map (·.size) = some A.toArray.size by rw [sA]; kernel_rfl)
    clear EP HV HUS h7s
    go_enter Tryz.func33, Tryz.ntmps33
    go_upto_region 1 with fail
    rw [HW1.out]
    clear HW1
    go_wp2_with (first
      | (go_at_call 13; refine (CZ.out _).mono ?_; rintro e wz ⟨rfl, BZ⟩; replace BZ := hide BZ; have TH := hide (show wz.there w.heap.size 0 A.toArray.size by rw [sA]; exact TH0.out wz BZ.out))
      | (refine wpList_store_mid rfl 30 (.tmp 4) (.tmp 19) rfl w.heap.size 0 A.toArray rfl rfl TH.out HI5.out (all_oneCell_toArray OA.out) ?_))
    (try rw [show A.toArray.toList = A from rfl])
    have BF1 := hide (show Below w.heap.size w (wz.setCells w.heap.size 0 A) from (bto B0.out BZ.out).grown (setCells_grown _ _ _ _) (bto B0.out BZ.out).size (fun k hk => by cases hk; exact Nat.le_refl _))
    have RA := World.rangeAt_setCells_same wz w.heap.size 0 A (by have := TH.out; rwa [List.size_toArray] at this)
    refine ret_cell (b := w.heap.size) (cs := A) Tryz.results33 rfl RA Tryz.underlying30 rfl HI6.out rfl ?_
    exact PkRost.mk (f := .mk z01 []) nilS (by show _ = Ending.returned (foV z01 nilS); rw [EF.out]) (fun W _ _ => .inl ⟨_, _, rfl, rfl⟩) BF1.out
  · have h0' : ((l.length : Int) == 0) = false := by rw [beq_eq_false_iff_ne]; omega
    by_cases h1 : l.length = 1
    · have h1' : (l.length : Int) = 1 := by omega
      obtain ⟨f, hf⟩ : ∃ f, l[0]? = some f := ⟨_, List.getElem?_eq_getElem (by omega)⟩
      have EP := hide (show pkF mx l = f by
        unfold pkF
        rw [if_pos h1]
        match l, h1, hf with
        | [g], _, hf => exact Option.some.inj hf)
      rw [EP.out]
      obtain ⟨m, b, o, c', fu, hnm, hv', hb0, hus', hrg0, hpm⟩ := fm_rangeN HV0.out hf
      have hb : b < w.heap.size := Nat.lt_of_lt_of_le hb0 HS0.out.size
      have hrg : w.rangeAt b (o + 0 * 15) (usL f.us ++ [fu]) := fun j v hj => (HS0.out.cell (p := ⟨b, o + 0 * 15 + j, none⟩) hb0).trans (hrg0 j v hj)
      obtain ⟨rfl, rfl⟩ : a = some ⟨b, o, none⟩ ∧ c = c' := by cases hv'; exact ⟨rfl, rfl⟩
      rw [Nat.zero_mul, Nat.add_zero] at hrg
      have lA := fo_len hus' fu
      have OA := hide (us_one (us := f.us) (pm_one hpm))
      have RG := hide (show W1.rangeAt b o (usL f.us ++ [fu]) from fun j v hj => (B0.out.cell (p := ⟨b, o + j, none⟩) hb).trans (hrg j v hj))
      have PM1 := hide (fun (W : World) (h : Below w0.heap.size w0 W) => show PM W n fu f.ps from pm_le (by omega) (PM.low h hpm))
      have EF := hide (show foV f.us fu = .agg (usL f.us ++ [fu]).toArray from rfl)
      rw [h1]
      have HI5 := hide (fi5 hus'.1 fu)
      have HI6 := hide (show (Tryz.prog.info? 30).map (·.size) = some (usL f.us ++ [fu]).length by have := fi5 hus'.1 fu; rwa [List.size_toArray] at this)
      clear hf hrg hrg0 hpm hus' EP HV HV0 CZ HUS h7s h0' hb0
      (try clear hv')
      generalize usL f.us ++ [fu] = A at *
      have sA : A.toArray.size = 15 := by rw [List.size_toArray]; exact lA
      have TH := hide (show W1.there w.heap.size 0 A.toArray.size by rw [sA]; exact TH0.out W1 (Below.refl _ _))
      go_enter Tryz.func33, Tryz.ntmps33
      go_upto_region 1 with fail
      rw [HW1.out]
      clear HW1
      go_wp2_with (first
        | (refine wpList_load_mid rfl 30 (.tmp 24) rfl b o rfl A _ RG.out Tryz.underlying30 rfl HI6.out ?_)
        | (refine wpList_store_mid rfl 30 (.tmp 4) (.tmp 25) rfl w.heap.size 0 A.toArray rfl rfl TH.out HI5.out (all_oneCell_toArray OA.out) ?_))
      (try rw [show A.toArray.toList = A from rfl])
      have BW := hide (show Below w.heap.size w (W1.setCells w.heap.size 0 A) from B0.out.grown (setCells_grown _ _ _ _) B0.out.size (fun k hk => by cases hk; exact Nat.le_refl _))
      have RA := World.rangeAt_setCells_same W1 w.heap.size 0 A (by have := TH.out; rwa [List.size_toArray] at this)
      refine ret_cell (b := w.heap.size) (cs := A) Tryz.results33 rfl RA Tryz.underlying30 rfl HI6.out rfl ?_
      exact PkRost.mk fu (by rw [EF.out]) (fun W h _ => PM1.out W h) BW.out
    · have h1' : ((l.length : Int) == 1) = false := by rw [beq_eq_false_iff_ne]; omega
      have EP := hide (pkS_eq (mx := mx) h7s h1)
      obtain ⟨s, hs⟩ : ∃ s, scL (-1) true l = s := ⟨_, rfl⟩
      rw [hs] at EP
      have S0 := hide hs
      clear hs
      obtain ⟨X, hX⟩ : ∃ X, pkF mx l = X := ⟨_, rfl⟩
      rw [hX] at EP ⊢
      clear hX h7s
      have CI := hide (fun (W : World) => (wk.int_any 0 W).mono (R' := fun e w' => e = .returned (.agg #[.int .i64 0, .int .i64 1]) ∧ Below W.heap.size W w') (by rintro e w1 ⟨rfl, cc, rfl⟩; exact ⟨rfl, bplus (Below.refl _ _) _⟩))
      go_enter Tryz.func33, Tryz.ntmps33
      go_upto_region 1 with fail
      rw [HW1.out]
      clear HW1
      go_wp2_with fail
      go_loopw [5, 6, 28] (fun u p i wr => RelSo W1 s l u p i wr) (fun _ _ i _ => l.length - (intOf i).toNat)
      case atStart => exact .mk 0 (-1) true rfl rfl rfl (by omega) (by omega) (by omega) S0.out (Below.refl _ _)
      case round =>
        clear S0
        obtain ⟨k, x, q, rfl, rfl, rfl, hk, hx1, hx6, R⟩ := hrel
        have BE := hide R.out.2
        replace R := hide R.out.1
        by_cases hlt : k < l.length
        · have hlt' : (k : Int) < l.length := by omega
          obtain ⟨f, hf⟩ : ∃ f, l[k]? = some f := ⟨_, List.getElem?_eq_getElem hlt⟩
          obtain ⟨m, b, o, c', fu, -, hv', hb, hus, hrg, hpm⟩ := fm_rangeN HV.out hf
          obtain ⟨rfl, rfl⟩ : a = some ⟨b, o, none⟩ ∧ c = c' := by cases hv'; exact ⟨rfl, rfl⟩
          obtain ⟨pa, pc, rfl, hp9⟩ := hpm.shape
          have ST := hide (scL_step hf R.out)
          obtain ⟨e, he⟩ : ∃ e, f.ps.isEmpty = e := ⟨_, rfl⟩
          have EE := hide (show ((f.ps.length : Int) == 0) = e by rw [← he]; cases f.ps with
            | nil => rfl
            | cons y ys => simp; omega)
          rw [he] at ST
          have HU := hide hus
          clear he R
          have lA := fo_len hus (.slice pa f.ps.length pc)
          have OA := hide (us_one (us := f.us) (u := .slice pa f.ps.length pc) rfl)
          have BWW := hide (show Below w.heap.size w wr from bto B0.out BE.out)
          have RG := hide (show wr.rangeAt b (o + k * 15) (usL f.us ++ [.slice pa f.ps.length pc]) from fun j v hj => (BWW.out.cell (p := ⟨b, o + k * 15 + j, none⟩) hb).trans (hrg j v hj))
          have hbw : b < wr.heap.size := by have := BWW.out.size; omega
          have nb : b ≠ wr.heap.size := by omega
          obtain ⟨A, hA⟩ : ∃ A : List Value, usL f.us ++ [.slice pa f.ps.length pc] = A := ⟨_, rfl⟩
          have UL := usL_len f.us
          have CA14 := hide (show A[14]? = some (.slice pa f.ps.length pc) by rw [← hA, List.getElem?_append_right (by rw [UL, hus.1]; omega), UL, hus.1]; rfl)
          have CAx := hide (show ∀ (j : Nat) (v : Value), (usL f.us)[j]? = some v → A[j]? = some v by intro j v hj; rw [← hA, List.getElem?_append_left (List.getElem?_eq_some_iff.1 hj).1]; exact hj)
          rw [hA] at RG OA lA
          have sA : A.toArray.size = 15 := by rw [List.size_toArray]; exact lA
          obtain ⟨W4, hW4⟩ : ∃ W4, (wr.alloc (.cells #[.int .i64 0, .int .i64 0, .int .i64 0, .int .i64 0, .int .i64 0, .int .i64 0, .int .i64 0, .int .i64 0, .int .i64 0, .int .i64 0, .int .i64 0, .int .i64 0, .int .i64 0, .int .i64 0, .slice none 0 0] 30)).setCells wr.heap.size 0 A = W4 := ⟨_, rfl⟩
          have T4 := hide (show (wr.alloc (.cells #[.int .i64 0, .int .i64 0, .int .i64 0, .int .i64 0, .int .i64 0, .int .i64 0, .int .i64 0, .int .i64 0, .int .i64 0, .int .i64 0, .int .i64 0, .int .i64 0, .int .i64 0, .int .i64 0, .slice none 0 0] 30)).there wr.heap.size 0 A.toArray.size from there_blk (heap_alloc_new wr _) (by rw [sA]; rfl))
          have H4 := hide (show (Tryz.prog.info? 30).map (·.size) = some A.toArray.size by rw [sA]; kernel_rfl)
          have H5 := hide (show (Tryz.prog.info? 30).map (·.size) = some A.length by rw [lA]; kernel_rfl)
          have B4 := hide (show Below wr.heap.size wr W4 by rw [← hW4]; exact (bplus (Below.refl _ _) _).grown (setCells_grown _ _ _ _) (by simp) (fun k hk => by cases hk; exact Nat.le_refl _))
          have R4 := hide (show W4.rangeAt wr.heap.size 0 A by
            have q := Bk.puts A 0 _ _ (Bk.new wr 30 [.int .i64 0, .int .i64 0, .int .i64 0, .int .i64 0, .int .i64 0, .int .i64 0, .int .i64 0, .int .i64 0, .int .i64 0, .int .i64 0, .int .i64 0, .int .i64 0, .int .i64 0, .int .i64 0, .slice none 0 0]) (by rw [lA]; simp)
            rw [List.take_zero, List.nil_append, Nat.zero_add, List.drop_of_length_le (by rw [lA]; simp), List.append_nil] at q
            rw [← hW4]
            exact range_blk q)
          have HW4 := hide hW4
          clear hW4 hf hrg hpm hA
          (try clear hv')
          have c14 := (R4.out 14 _ CA14.out)
          rw [Nat.zero_add] at c14
          have R7 := hide (show W4.rangeAt wr.heap.size 0 (usL f.us) from fun j v hj => R4.out j v (CAx.out j v hj))
          have UL7 := hide (show (Tryz.prog.info? 27).map (·.size) = some (usL f.us).length by rw [UL, HU.out.1]; kernel_rfl)
          have IXL := hide (fun (k : Nat) (hk : k < 7) (r : Int × Int) (hr : f.us[k]? = some r) (W : World) => ix7Q HU.out hk hr W)
          obtain ⟨us, hus2⟩ : ∃ us, f.us = us := ⟨_, rfl⟩
          rw [hus2] at IXL ST HU R7 UL7
          have L7 := hide (show us.length = 7 from HU.out.1)
          obtain ⟨fl, hfl⟩ : ∃ fl, f.ps.length = fl := ⟨_, rfl⟩
          rw [hfl] at c14 EE
          have hee := EE.out
          clear hus2 hus CA14 CAx R4 UL hfl hp9
          go_upto_region 9 with (first
            | (refine wpList_load_mid rfl 30 (.tmp 30) rfl b (o + k * 15) rfl A _ RG.out Tryz.underlying30 rfl H5.out ?_)
            | (refine wpList_store_mid rfl 30 (.tmp 8) (.tmp 31) rfl wr.heap.size 0 A.toArray rfl rfl T4.out H4.out (all_oneCell_toArray OA.out) ?_))
          (try rw [show A.toArray.toList = A from rfl])
          rw [HW4.out]
          clear HW4 T4 RG
          obtain ⟨q2, hq2⟩ : ∃ q2, (q && e) = q2 := ⟨_, rfl⟩
          rw [hq2] at ST
          have HQ := hide hq2
          obtain ⟨ua, hua⟩ : ∃ z, (usL us).toArray = z := ⟨_, rfl⟩
          rw [hua] at IXL
          have HUA := hide hua
          clear hua hq2
          have BE2 := hide (bto BE.out B4.out)
          clear BE B4 BWW OA H4 H5 EE
          obtain ⟨s2, hs2⟩ : ∃ s2, scU x q2 us 0 = s2 := ⟨_, rfl⟩
          rw [hs2] at ST
          have S2 := hide hs2
          clear hs2
          cases q
          all_goals
            go_upto_region 10 with fail
            (try rw [show (true && e) = e from rfl] at HQ)
            (try rw [show (false && e) = false from rfl] at HQ)
            have hq3 := HQ.out
            subst hq3
            clear hee c14 HQ
            go_wp2_with (refine wpList_load_mid rfl 27 (.tmp 39) rfl wr.heap.size 0 rfl (usL us) _ R7.out Tryz.underlying27 rfl UL7.out ?_)
            (try rw [HUA.out])
            clear R7 UL7 HUA
            generalize wr.heap.size = fb at *
            generalize wr = wo at *
            go_loopw [5, 6, 41] (fun u p i wr => RelSi W4 s2 us u p i wr) (fun _ _ i _ => 7 - (intOf i).toNat)
            case atStart => exact .mk 0 x _ rfl rfl rfl (by omega) hx1 hx6 S2.out (Below.refl _ _)
            case round =>
              clear S2 hx1 hx6
              obtain ⟨j, y, p, rfl, rfl, rfl, hj, hy1, hy6, R⟩ := hrel
              have BI := hide R.out.2
              replace R := hide R.out.1
              by_cases hlj : j < 7
              · have hlj' : (j : Int) < 7 := by omega
                obtain ⟨r, hr⟩ : ∃ r, us[j]? = some r := ⟨_, List.getElem?_eq_getElem (by rw [L7.out]; exact hlj)⟩
                have IX := fun W => IXL.out j hlj r hr W
                have SU := hide (scU_step hr R.out)
                obtain ⟨z, hz⟩ : ∃ z : Bool, decide (r = (0, 1)) = z := ⟨_, rfl⟩
                have HZ := hide hz
                obtain ⟨wq, hwq⟩ : ∃ wq, wr.alloc (.cells #[.int .i64 r.1, .int .i64 r.2] 23) = wq := ⟨_, rfl⟩
                have BQ := hide (show Below wr.heap.size wr wq by rw [← hwq]; exact bplus (Below.refl _ _) _)
                have RR := hide (fun (W : World) (h : Below wq.heap.size wq W) => bxk_2g (show W.heap[wr.heap.size]? = some (.cells #[.int .i64 r.1, .int .i64 r.2] 23) from Bk.up (show Bk wq wr.heap.size 23 [.int .i64 r.1, .int .i64 r.2] by rw [← hwq]; exact Bk.new wr _ _) h))
                have HWQ := hide hwq
                clear hwq hz hr R
                go_upto_region 13 with fail
                rw [HWQ.out]
                clear HWQ IX
                refine wp_region_kdQ (by kernel_rfl) (kdS13 r z) (Stat.of (by kernel_rfl)) (acy_of (by kernel_rfl)) ?_ ?_
                · as_aux_lemma =>
                    intro Q' i o ho blk listed a wx I hd
                    have hi : i < 3 := (Array.getElem?_eq_some_iff.1 ho).1
                    rcases (show i = 0 ∨ i = 1 ∨ i = 2 by omega) with rfl | rfl | rfl
                    · obtain rfl := Option.some.inj ho
                      exact wpOp_valW rfl (wn rfl) (run_ldA rfl (show a.tmps.getD 10 undef = _ from (I.oth_at (by kernel_rfl)).trans rfl) (RR.out wx I.up).1 (RR.out wx I.up).2) (show _ ∧ _ from ⟨rfl, be.Up.refl _⟩)
                    · obtain rfl := Option.some.inj ho
                      refine wpOp_callW rfl (wn rfl) (run_cl1 rfl rfl (fun v => enters_of Tryz.func30 (by kernel_rfl) rfl #[v] wx)) ?_
                      refine (show Calls Tryz.prog 30 #[.int .i64 0] wx _ from ?_)
                      exact (CI.out wx).mono (by rintro e w' ⟨rfl, hu⟩; exact ⟨_, rfl, (show _ ∧ _ from ⟨rfl, hu⟩)⟩)
                    · obtain rfl := Option.some.inj ho
                      exact wpOp_valW rfl (wn rfl) (run_eqR (p := r) (q := (0, 1)) rfl (I.val_at (i := 0) (by decide) (hd ⟨0, .data⟩ (by simp) rfl) (.inl rfl) rfl) (I.val_at (i := 1) (by decide) (hd ⟨1, .data⟩ (by simp) rfl) (.inl rfl) rfl) HZ.out) (show _ ∧ _ from ⟨rfl, be.Up.refl _⟩)
                · intro blk listed a' wx I hall
                  have fr := I.frameL [(45, (.agg #[.int .i64 r.1, .int .i64 r.2])), (46, (.agg #[.int .i64 0, .int .i64 1])), (47, (.bool z))] (by
                    intro p hp
                    simp only [List.mem_cons, List.not_mem_nil, or_false] at hp
                    rcases hp with rfl | rfl | rfl
                    · exact ⟨by simp, I.val_at (i := 0) (by decide) (hall _ (by decide)) (.inl rfl) rfl⟩
                    · exact ⟨by simp, I.val_at (i := 1) (by decide) (hall _ (by decide)) (.inl rfl) rfl⟩
                    · exact ⟨by simp, I.val_at (i := 2) (by decide) (hall _ (by decide)) (.inl rfl) rfl⟩) (by kernel_rfl)
                  have B5 := hide (show Below wq.heap.size wq wx from I.up)
                  clear I hall
                  subst fr
                  dsimp only [setsL, List.set_cons_zero, List.set_cons_succ]
                  have BN := hide (bto BI.out (bto BQ.out B5.out))
                  clear BI BQ B5 RR
                  cases z
                  · have hz0 : ¬ r = (0, 1) := by simpa using HZ.out
                    rw [if_neg hz0] at SU
                    rcases (show y = -1 ∨ 0 ≤ y by omega) with rfl | hy0
                    · rw [if_neg (by omega)] at SU
                      clear HZ hz0
                      go_wp2
                      go_roundw
                      case rel => exact .mk (j + 1) (j : Int) p rfl rfl (by go_num) (by omega) (by omega) (by omega) SU.out BN.out
                      case measure => simp [intOf]; omega
                    · obtain ⟨yn, rfl⟩ : ∃ yn : Nat, y = yn := ⟨y.toNat, by omega⟩
                      by_cases hyj : yn = j
                      · subst hyj
                        rw [if_neg (by intro h; exact h.2 rfl)] at SU
                        clear HZ hz0
                        go_wp2
                        go_roundw
                        case rel => exact .mk (yn + 1) (yn : Int) p rfl rfl (by go_num) (by omega) (by omega) (by omega) SU.out BN.out
                        case measure => simp [intOf]; omega
                      · rw [if_pos ⟨by omega, by omega⟩] at SU
                        clear HZ hz0
                        have hyj2 : ((yn : Int) == (j : Int)) = false := by simp; omega
                        go_wp2
                        go_roundw
                        case rel => exact .mk (j + 1) (j : Int) false rfl rfl (by go_num) (by omega) (by omega) (by omega) SU.out BN.out
                        case measure => simp [intOf]; omega
                  · have hz0 : r = (0, 1) := by simpa using HZ.out
                    rw [if_pos hz0] at SU
                    clear HZ hz0
                    go_wp2
                    go_roundw
                    case rel => exact .mk (j + 1) y p rfl rfl (by go_num) (by omega) hy1 hy6 SU.out BN.out
                    case measure => simp [intOf]; omega
              · obtain rfl : j = 7 := by omega
                have hlj' : ¬ ((7 : Nat) : Int) < 7 := by omega
                have RE := R.out
                rw [List.drop_of_length_le (by rw [L7.out]; omega), scU] at RE
                subst RE
                have BN := hide (bto BE2.out BI.out)
                clear R BI BE2 IXL
                go_wp2
                go_roundw
                case rel => exact .mk (k + 1) y p rfl rfl (by go_num) (by omega) hy1 hy6 ST.out BN.out
                case measure => simp [intOf]; omega
        · have hlt' : ¬ (k : Int) < l.length := by omega
          obtain rfl : k = l.length := by omega
          have RE := R.out
          rw [List.drop_of_length_le (by omega), scL] at RE
          subst RE
          clear R
          cases q
          · rw [show pkS mx l (x, false) = .mk z01 [(mx, l)] from rfl] at EP
            rw [show foV z01 nilS = .agg #[.int .i64 0, .int .i64 1, .int .i64 0, .int .i64 1, .int .i64 0, .int .i64 1, .int .i64 0, .int .i64 1, .int .i64 0, .int .i64 1, .int .i64 0, .int .i64 1, .int .i64 0, .int .i64 1, .slice none 0 0] from rfl] at CZ
            go_upto_region 21 with (go_at_call 13; refine (CZ.out _).mono ?_; rintro e wz ⟨rfl, BZ⟩; replace BZ := hide (bto BE.out BZ))
            obtain ⟨W2, hW2⟩ : ∃ W2, wz.alloc (.cells #[.int .i64 0, .int .i64 1, .int .i64 0, .int .i64 1, .int .i64 0, .int .i64 1, .int .i64 0, .int .i64 1, .int .i64 0, .int .i64 1, .int .i64 0, .int .i64 1, .int .i64 0, .int .i64 1, .slice none 0 0] 30) = W2 := ⟨_, rfl⟩
            have FZ := hide (show Bk W2 wz.heap.size 30 (usL z01 ++ [nilS]) by rw [← hW2]; exact Bk.new wz _ (usL z01 ++ [nilS]))
            have B2 := hide (show Below W1.heap.size W1 W2 by rw [← hW2]; exact bplus BZ.out _)
            have htb : W1.heap.size ≤ wz.heap.size := BZ.out.size
            rw [hW2]
            clear hW2 BZ CZ
            generalize wz.heap.size = tb at *
            have c14 : W2.cell? ⟨tb, 14, none⟩ = some (.slice none 0 0) := Bk.cell FZ.out 14
            have z14 := Bk.fz FZ.out 14
            have tb2 : tb < W2.heap.size := Bk.lt FZ.out
            have tbn : tb ≠ W2.heap.size := by omega
            go_upto_region 22 with fail
            obtain ⟨W3, hW3⟩ : ∃ W3, (W2.setCell ⟨tb, 14, none⟩ (.slice (some ⟨W2.heap.size, 0, none⟩) 1 1)).alloc (.cells #[.bool mx, .slice a l.length c] 60) = W3 := ⟨_, rfl⟩
            have FZ3 := hide (show Bk W3 tb 30 (usL z01 ++ [.slice (some ⟨W2.heap.size, 0, none⟩) 1 1]) by rw [← hW3]; exact Bk.more (Bk.put FZ.out 14 _) _)
            have PB3 := hide (show Bk W3 W2.heap.size 60 [.bool mx, .slice a l.length c] by rw [← hW3]; have q := Bk.new (W2.setCell ⟨tb, 14, none⟩ (.slice (some ⟨W2.heap.size, 0, none⟩) 1 1)) 60 [.bool mx, .slice a l.length c]; rwa [show (W2.setCell ⟨tb, 14, none⟩ (.slice (some ⟨W2.heap.size, 0, none⟩) 1 1)).heap.size = W2.heap.size by simp] at q)
            have B3 := hide (show Below W1.heap.size W1 W3 by rw [← hW3]; exact bplus (B2.out.setCell htb _) _)
            rw [hW3]
            clear hW3 c14 z14
            generalize W2.heap.size = pb at *
            obtain ⟨A, hA⟩ : ∃ A : List Value, usL z01 ++ [Value.slice (some ⟨pb, 0, none⟩) 1 1] = A := ⟨_, rfl⟩
            have lA : A.length = 15 := by rw [← hA]; rfl
            have EF := hide (show foV z01 (.slice (some ⟨pb, 0, none⟩) 1 1) = .agg A.toArray by rw [← hA]; rfl)
            have OA := hide (show ∀ v ∈ A, v.oneCell' = true by rw [← hA]; exact us_one rfl)
            rw [hA] at FZ3
            clear hA FZ
            have HI6 := hide (show (Tryz.prog.info? 30).map (·.size) = some A.length by rw [lA]; kernel_rfl)
            have RG := hide (range_blk FZ3.out)
            have sA : A.toArray.size = 15 := by rw [List.size_toArray]; exact lA
            have TH := hide (show W3.there w.heap.size 0 A.toArray.size by rw [sA]; exact TH0.out W3 B3.out)
            refine wp_region_list ?_
            refine wpList_load_mid rfl 30 (.tmp 11) rfl tb 0 rfl A _ RG.out Tryz.underlying30 rfl HI6.out ?_
            refine wpList_store_mid rfl 30 (.tmp 4) (.tmp 66) rfl w.heap.size 0 A.toArray rfl rfl TH.out (by rw [List.size_toArray]; exact HI6.out) (all_oneCell_toArray OA.out) ?_
            (try rw [show A.toArray.toList = A from rfl])
            have BW := hide (show Below w.heap.size w (W3.setCells w.heap.size 0 A) from (bto B0.out B3.out).grown (setCells_grown _ _ _ _) (bto B0.out B3.out).size (fun k hk => by cases hk; exact Nat.le_refl _))
            have RA := World.rangeAt_setCells_same W3 w.heap.size 0 A (by have := TH.out; rwa [List.size_toArray] at this)
            have PB4 := hide (show Bk (W3.setCells w.heap.size 0 A) pb 60 [.bool mx, .slice a l.length c] from (setCells_far pb w.heap.size 0 (by omega) A 0 W3).trans PB3.out)
            go_wp2_with fail
            refine ret_cell (b := w.heap.size) (cs := A) Tryz.results33 rfl RA Tryz.underlying30 rfl HI6.out rfl ?_
            rw [EP.out]
            exact PkRost.mk (f := .mk z01 [(mx, l)]) _ (by show _ = Ending.returned (foV z01 _); rw [EF.out]) (fun W h1 h2 => one_part ((h2 pb (by omega) (Bk.lt PB4.out)).trans PB4.out) (FM.low h1 HV0.out)) BW.out
          · rw [show foV z01 nilS = .agg #[.int .i64 0, .int .i64 1, .int .i64 0, .int .i64 1, .int .i64 0, .int .i64 1, .int .i64 0, .int .i64 1, .int .i64 0, .int .i64 1, .int .i64 0, .int .i64 1, .int .i64 0, .int .i64 1, .slice none 0 0] from rfl] at CZ
            go_upto_region 24 with (go_at_call 13; refine (CZ.out _).mono ?_; rintro e wz ⟨rfl, BZ⟩; replace BZ := hide (bto BE.out BZ))
            obtain ⟨W2, hW2⟩ : ∃ W2, wz.alloc (.cells #[.int .i64 0, .int .i64 1, .int .i64 0, .int .i64 1, .int .i64 0, .int .i64 1, .int .i64 0, .int .i64 1, .int .i64 0, .int .i64 1, .int .i64 0, .int .i64 1, .int .i64 0, .int .i64 1, .slice none 0 0] 30) = W2 := ⟨_, rfl⟩
            have NF := hide (show BF W2 wz.heap.size z01 nilS by rw [← hW2]; exact Bk.new wz _ (usL z01 ++ [nilS]))
            have B2 := hide (show Below W1.heap.size W1 W2 by rw [← hW2]; exact bplus BZ.out _)
            have htb : W1.heap.size ≤ wz.heap.size := BZ.out.size
            have tb2 : wz.heap.size < W2.heap.size := Bk.lt NF.out
            rw [hW2]
            clear hW2 BZ CZ
            generalize wz.heap.size = tb at *
            rcases (show x = -1 ∨ 0 ≤ x by omega) with rfl | hx0
            · rw [show pkS mx l (-1, true) = .mk z01 [] from rfl] at EP
              have E7 : z01.length = 7 := rfl
              have EL := hide (show (usL (z01) ++ [nilS]).length = 15 by rw [List.length_append, usL_len, E7]; rfl)
              have q0 := hide (show W2.heap[tb]? = some (.cells (usL (z01) ++ [nilS]).toArray 30) from NF.out)
              have HI6 := hide (show (Tryz.prog.info? 30).map (·.size) = some (usL (z01) ++ [nilS]).length by rw [EL.out]; kernel_rfl)
              have HI5 := hide (show (Tryz.prog.info? 30).map (·.size) = some (usL (z01) ++ [nilS]).toArray.size by rw [List.size_toArray, EL.out]; kernel_rfl)
              have RG := hide (range_blk q0.out)
              have OA := hide (show ∀ v ∈ usL (z01) ++ [nilS], v.oneCell' = true from us_one rfl)
              have TH := hide (show W2.there w.heap.size 0 (usL (z01) ++ [nilS]).toArray.size by rw [show (usL (z01) ++ [nilS]).toArray.size = 15 from EL.out]; exact TH0.out W2 B2.out)
              have EF := hide (show foV (z01) nilS = .agg (usL (z01) ++ [nilS]).toArray from rfl)
              generalize usL (z01) ++ [nilS] = A at *
              clear q0
              go_wp2_with (first
                | (refine wpList_load_mid rfl 30 (.tmp 12) rfl tb 0 rfl A _ RG.out Tryz.underlying30 rfl HI6.out ?_)
                | (refine wpList_store_mid rfl 30 (.tmp 4) (.tmp 70) rfl w.heap.size 0 A.toArray rfl rfl TH.out HI5.out (all_oneCell_toArray OA.out) ?_))
              (try rw [show A.toArray.toList = A from rfl])
              have BF1 := hide (show Below w.heap.size w (W2.setCells w.heap.size 0 A) from (bto B0.out B2.out).grown (setCells_grown _ _ _ _) (bto B0.out B2.out).size (fun k hk => by cases hk; exact Nat.le_refl _))
              have RA := World.rangeAt_setCells_same W2 w.heap.size 0 A (by have := TH.out; rwa [List.size_toArray] at this)
              refine ret_cell (b := w.heap.size) (cs := A) Tryz.results33 rfl RA Tryz.underlying30 rfl HI6.out rfl ?_
              rw [EP.out]
              exact PkRost.mk (f := .mk (z01) []) nilS (by show _ = Ending.returned (foV (z01) nilS); rw [EF.out]) (fun W _ _ => .inl ⟨_, _, rfl, rfl⟩) BF1.out
            · obtain ⟨y, rfl⟩ : ∃ y : Nat, x = y := ⟨x.toNat, by omega⟩
              have hy7 : y < 7 := by omega
              have hy7' : (y : Int) < 7 := by omega
              obtain ⟨AM, hAM⟩ : ∃ AM : List (Int × Int), l.map (fun f => f.us.getD y (0, 0)) = AM := ⟨_, rfl⟩
              have EP2 := hide (show X = .mk (z01.set y (wk.utAll (if mx then 1 else -1) AM)) [] by
                rw [EP.out, ← hAM]
                unfold pkS
                rw [if_neg (by simp), if_neg (by show ¬ ((y : Int) < 0); omega)]
                rfl)
              replace EP := EP2
              clear EP2
              have AM64 := hide (show ∀ r ∈ AM, R64 r by
                intro r hr
                rw [← hAM] at hr
                obtain ⟨f, hf, rfl⟩ := List.mem_map.1 hr
                obtain ⟨p, q, hpq, i1, i2⟩ := us_at (HUS.out f hf) (k := y) hy7
                show R64 (f.us.getD y (0, 0))
                rw [List.getD_eq_getElem?_getD, hpq]
                exact ⟨i1, i2⟩)
              have TKE := hide (show (l.take l.length).map (fun f : Fo => f.us.getD y (0, 0)) = AM by rw [List.take_of_length_le (Nat.le_refl _)]; exact hAM)
              have AML := hide (show AM.length = l.length by rw [← hAM, List.length_map])
              have N3 := hide (show W2.ownsRow W2.heap.size 23 2 (.slice none 0 0) ((l.take 0).map (fun f : Fo => f.us.getD y (0, 0))).length (usL ((l.take 0).map (fun f : Fo => f.us.getD y (0, 0)))) from World.ownsRow_nil _ _ _ _)
              obtain ⟨i0, hj, hy0, hy1, hy2⟩ := info_parts infoRat
              clear hAM HUS CI
              go_wp2_with fail
              go_loopw [13, 73] (fun lv i wr => RelSr W2 (fun j => (l.take j).map (fun f : Fo => f.us.getD y (0, 0))) l.length lv i wr) (fun _ i _ => l.length - (intOf i).toNat)
              case atStart => exact .mk 0 rfl (by omega) N3.out (Below.refl _ _)
              case round =>
                obtain ⟨k, av, rfl, rfl, hkn, R⟩ := hrel
                have A0 := hide (show wr.ownsRow W2.heap.size 23 2 av ((l.take k).map (fun f : Fo => f.us.getD y (0, 0))).length (usL ((l.take k).map (fun f : Fo => f.us.getD y (0, 0)))) from R.out.1)
                have AB := hide R.out.2
                have BE := hide (bto B2.out AB.out)
                clear R N3 hk
                by_cases hlt : k < l.length
                · have hlt' : (k : Int) < l.length := by omega
                  obtain ⟨f, hf⟩ : ∃ f, l[k]? = some f := ⟨_, List.getElem?_eq_getElem hlt⟩
                  obtain ⟨m, b, o, c', fu, -, hv', hb, hus, hrg, hpm⟩ := fm_rangeN HV.out hf
                  obtain ⟨rfl, rfl⟩ : a = some ⟨b, o, none⟩ ∧ c = c' := by cases hv'; exact ⟨rfl, rfl⟩
                  obtain ⟨pa, pc, rfl, hp9⟩ := hpm.shape
                  have SJ := hide (show (l.take (k + 1)).map (fun f : Fo => f.us.getD y (0, 0)) = (l.take k).map (fun f : Fo => f.us.getD y (0, 0)) ++ [f.us.getD y (0, 0)] by rw [List.take_add_one, hf]; simp)
                  obtain ⟨t0, t1, hpq, -, -⟩ := us_at hus (k := y) hy7
                  rw [show f.us.getD y (0, 0) = (t0, t1) by rw [List.getD_eq_getElem?_getD, hpq]; rfl] at SJ
                  have LJ := hide (show ((l.take k).map (fun f : Fo => f.us.getD y (0, 0))).length = k by rw [List.length_map, List.length_take]; omega)
                  obtain ⟨rj, hrj⟩ : ∃ rj, (l.take k).map (fun f : Fo => f.us.getD y (0, 0)) = rj := ⟨_, rfl⟩
                  rw [hrj] at A0 SJ LJ
                  have TJ := hide (show (rj ++ [(t0, t1)]).length = rj.length + 1 ∧ usL (rj ++ [(t0, t1)]) = usL rj ++ [.int .i64 t0, .int .i64 t1] from ⟨by simp, usL_snoc rj (t0, t1)⟩)
                  rw [LJ.out] at A0 TJ
                  clear hrj
                  have lA := fo_len hus (.slice pa f.ps.length pc)
                  have OA := hide (us_one (us := f.us) (u := .slice pa f.ps.length pc) rfl)
                  have BWW := hide (show Below w.heap.size w wr from bto B0.out BE.out)
                  have RG := hide (show wr.rangeAt b (o + k * 15) (usL f.us ++ [.slice pa f.ps.length pc]) from fun j v hj => (BWW.out.cell (p := ⟨b, o + k * 15 + j, none⟩) hb).trans (hrg j v hj))
                  have hbw : b < wr.heap.size := by have := BWW.out.size; omega
                  have nb : b ≠ wr.heap.size := by omega
                  obtain ⟨A, hA⟩ : ∃ A : List Value, usL f.us ++ [.slice pa f.ps.length pc] = A := ⟨_, rfl⟩
                  have UL := usL_len f.us
                  have CA14 := hide (show A[14]? = some (.slice pa f.ps.length pc) by rw [← hA, List.getElem?_append_right (by rw [UL, hus.1]; omega), UL, hus.1]; rfl)
                  have CAx := hide (show ∀ (j : Nat) (v : Value), (usL f.us)[j]? = some v → A[j]? = some v by intro j v hj; rw [← hA, List.getElem?_append_left (List.getElem?_eq_some_iff.1 hj).1]; exact hj)
                  rw [hA] at RG OA lA
                  have sA : A.toArray.size = 15 := by rw [List.size_toArray]; exact lA
                  obtain ⟨W4, hW4⟩ : ∃ W4, (wr.alloc (.cells #[.int .i64 0, .int .i64 0, .int .i64 0, .int .i64 0, .int .i64 0, .int .i64 0, .int .i64 0, .int .i64 0, .int .i64 0, .int .i64 0, .int .i64 0, .int .i64 0, .int .i64 0, .int .i64 0, .slice none 0 0] 30)).setCells wr.heap.size 0 A = W4 := ⟨_, rfl⟩
                  have T4 := hide (show (wr.alloc (.cells #[.int .i64 0, .int .i64 0, .int .i64 0, .int .i64 0, .int .i64 0, .int .i64 0, .int .i64 0, .int .i64 0, .int .i64 0, .int .i64 0, .int .i64 0, .int .i64 0, .int .i64 0, .int .i64 0, .slice none 0 0] 30)).there wr.heap.size 0 A.toArray.size from there_blk (heap_alloc_new wr _) (by rw [sA]; rfl))
                  have H4 := hide (show (Tryz.prog.info? 30).map (·.size) = some A.toArray.size by rw [sA]; kernel_rfl)
                  have H5 := hide (show (Tryz.prog.info? 30).map (·.size) = some A.length by rw [lA]; kernel_rfl)
                  have B4 := hide (show Below wr.heap.size wr W4 by rw [← hW4]; exact (bplus (Below.refl _ _) _).grown (setCells_grown _ _ _ _) (by simp) (fun k hk => by cases hk; exact Nat.le_refl _))
                  have R4 := hide (show W4.rangeAt wr.heap.size 0 A by
                    have q := Bk.puts A 0 _ _ (Bk.new wr 30 [.int .i64 0, .int .i64 0, .int .i64 0, .int .i64 0, .int .i64 0, .int .i64 0, .int .i64 0, .int .i64 0, .int .i64 0, .int .i64 0, .int .i64 0, .int .i64 0, .int .i64 0, .int .i64 0, .slice none 0 0]) (by rw [lA]; simp)
                    rw [List.take_zero, List.nil_append, Nat.zero_add, List.drop_of_length_le (by rw [lA]; simp), List.append_nil] at q
                    rw [← hW4]
                    exact range_blk q)
                  have HW4 := hide hW4
                  clear hW4 hf hrg hpm hA
                  (try clear hv')
                  have c0 := (R4.out _ _ (CAx.out _ _ (usL_at hpq).1))
                  have c1 := (R4.out _ _ (CAx.out _ _ (usL_at hpq).2))
                  rw [Nat.zero_add] at c0 c1
                  have OW := hide (own_up A0.out B4.out)
                  have hl3 : W2.heap.size ≤ wr.heap.size := AB.out.size
                  have hj9 : k < 1000000000 := by omega
                  have BQ := hide (bto AB.out B4.out)
                  have hl4 : W2.heap.size ≤ W4.heap.size := BQ.out.size
                  clear hus CA14 CAx R4 UL hp9 hpq A0 HV BE BWW
                  go_upto_region 30 with (first
                    | (refine wpList_load_mid rfl 30 (.tmp 75) rfl b (o + k * 15) rfl A _ RG.out Tryz.underlying30 rfl H5.out ?_)
                    | (refine wpList_store_mid rfl 30 (.tmp 15) (.tmp 76) rfl wr.heap.size 0 A.toArray rfl rfl T4.out H4.out (all_oneCell_toArray OA.out) ?_))
                  (try rw [show A.toArray.toList = A from rfl])
                  rw [HW4.out]
                  clear HW4 T4 RG
                  go_wp2_with (at_builtin; refine wpList_append_own _ rfl _ _ 72 rfl W2.heap.size 23 i0 _ 2 16 Tryz.underlying72 hj hy0 hy1 hy2 rfl (by decide) _ _ _ rfl (OW.out.alloc _) ⟨_, 0, none⟩ 1 1 [.int .i64 t0, .int .i64 t1] rfl rfl (news2 _ _ _ _) (by intro u hu; simp at hu; rcases hu with rfl | rfl <;> rfl) (by unfold maxLen; omega) (by omega) (by simp; omega) ?_; intro v' w1 hown' hgrow _; have HN2 := hide (show w1.ownsRow W2.heap.size 23 2 v' (rj ++ [(t0, t1)]).length (usL (rj ++ [(t0, t1)])) by rw [TJ.out.1, TJ.out.2]; exact hown'); have BN := hide (show Below W2.heap.size W2 w1 from (BQ.out.alloc (by omega) _).grown hgrow (by simp; omega) (fun k hk => (OW.out.lt k hk).1)); clear hown' hgrow)
                  go_roundw
                  case rel => exact .mk (k + 1) (by go_num) (by omega) (by rw [SJ.out]; exact HN2.out) BN.out
                  case measure => simp [intOf]; omega
                · have hlt' : ¬ (k : Int) < l.length := by omega
                  obtain rfl : k = l.length := by omega
                  rw [TKE.out] at A0
                  have RW := hide (own_rowA A0.out (by rw [AML.out]; omega))
                  have CL := hide (leastR_op RW.out AM64.out)
                  obtain ⟨x1, x2⟩ := ut_64 (-1) AM64.out
                  obtain ⟨r1, hr1⟩ : ∃ r, wk.utAll (-1) AM = r := ⟨_, rfl⟩
                  obtain ⟨r2, hr2⟩ : ∃ r, wk.utAll 1 AM = r := ⟨_, rfl⟩
                  rw [hr1] at CL
                  have ER := hide (show wk.utAll (if mx then 1 else -1) AM = if mx then r2 else r1 by cases mx; exact hr1; exact hr2)
                  rw [ER.out] at EP
                  unfold OpC ratV at CL
                  replace NF := hide (show BF wr tb z01 nilS from Bk.up NF.out AB.out)
                  have KC := hide (fun (W : World) (h : Below wr.heap.size wr W) => And.intro (BF.at (Bk.up NF.out h : BF W tb z01 nilS) rfl (k := y) (n := 0) (d := 1) (by rcases (show y = 0 ∨ y = 1 ∨ y = 2 ∨ y = 3 ∨ y = 4 ∨ y = 5 ∨ y = 6 by omega) with rfl | rfl | rfl | rfl | rfl | rfl | rfl <;> rfl)) (Bk.fz (Bk.up NF.out h)))
                  have tbw : tb < wr.heap.size := Bk.lt NF.out
                  have BX := hide (Below.refl wr.heap.size wr)
                  have A6 := hide (fun (W : World) (h : Below wr.heap.size wr W) => show ((W.setCell ⟨tb, y * 2, none⟩ (.int .i64 r1.1)).setCell ⟨tb, y * 2 + 1, none⟩ (.int .i64 r1.2)).ownsRow W2.heap.size 23 2 av AM.length (usL AM) from own_farQ (own_farQ (own_up A0.out h) tb2 _ _) tb2 _ _)
                  have HR2 := hide hr2
                  have AM9 : AM.length ≤ 1000000100 := by rw [AML.out]; omega
                  clear A0 RW ER TKE AML hr1 hr2 x1 x2 HV AB
                  go_upto_region 33 with (go_at_call 54; refine (CL.out _ BX.out).mono ?_; rintro e wc ⟨rfl, BC⟩; replace BC := hide BC; obtain ⟨⟨v0, v1⟩, vz⟩ := KC.out wc BC.out; have vz0 := vz (y * 2); have vz1 := vz (y * 2 + 1); clear vz)
                  have NF2 := hide (show BF ((wc.setCell ⟨tb, y * 2, none⟩ (.int .i64 r1.1)).setCell ⟨tb, y * 2 + 1, none⟩ (.int .i64 r1.2)) tb (z01.set y r1) nilS from BF.put (Bk.up NF.out BC.out : BF wc tb z01 nilS) (k := y) hy7 r1.1 r1.2)
                  have BD := hide (show Below W1.heap.size W1 ((wc.setCell ⟨tb, y * 2, none⟩ (.int .i64 r1.1)).setCell ⟨tb, y * 2 + 1, none⟩ (.int .i64 r1.2)) from ((bto BE.out BC.out).setCell (by simp; omega) _).setCell (by simp; omega) _)
                  clear v0 v1 vz0 vz1 KC NF
                  have A7 := hide (A6.out wc BC.out)
                  clear A6
                  obtain ⟨W6, hW6⟩ : ∃ W6, (wc.setCell ⟨tb, y * 2, none⟩ (.int .i64 r1.1)).setCell ⟨tb, y * 2 + 1, none⟩ (.int .i64 r1.2) = W6 := ⟨_, rfl⟩
                  rw [hW6] at NF2 BD A7 ⊢
                  clear hW6
                  cases mx
                  · replace EP := hide (show X = .mk (z01.set y r1) [] from EP.out)
                    have E7 : (z01.set y r1).length = 7 := by rw [List.length_set]; rfl
                    have NF := hide NF2.out
                    clear NF2 A7 AM64 HR2 CL
                    have EL := hide (show (usL (z01.set y r1) ++ [nilS]).length = 15 by rw [List.length_append, usL_len, E7]; rfl)
                    have q0 := hide (show W6.heap[tb]? = some (.cells (usL (z01.set y r1) ++ [nilS]).toArray 30) from NF.out)
                    have HI6 := hide (show (Tryz.prog.info? 30).map (·.size) = some (usL (z01.set y r1) ++ [nilS]).length by rw [EL.out]; kernel_rfl)
                    have HI5 := hide (show (Tryz.prog.info? 30).map (·.size) = some (usL (z01.set y r1) ++ [nilS]).toArray.size by rw [List.size_toArray, EL.out]; kernel_rfl)
                    have RG := hide (range_blk q0.out)
                    have OA := hide (show ∀ v ∈ usL (z01.set y r1) ++ [nilS], v.oneCell' = true from us_one rfl)
                    have TH := hide (show W6.there w.heap.size 0 (usL (z01.set y r1) ++ [nilS]).toArray.size by rw [show (usL (z01.set y r1) ++ [nilS]).toArray.size = 15 from EL.out]; exact TH0.out W6 BD.out)
                    have EF := hide (show foV (z01.set y r1) nilS = .agg (usL (z01.set y r1) ++ [nilS]).toArray from rfl)
                    generalize usL (z01.set y r1) ++ [nilS] = A at *
                    clear q0
                    go_wp2_with (first
                      | (refine wpList_load_mid rfl 30 (.tmp 12) rfl tb 0 rfl A _ RG.out Tryz.underlying30 rfl HI6.out ?_)
                      | (refine wpList_store_mid rfl 30 (.tmp 4) (.tmp 96) rfl w.heap.size 0 A.toArray rfl rfl TH.out HI5.out (all_oneCell_toArray OA.out) ?_))
                    (try rw [show A.toArray.toList = A from rfl])
                    have BF1 := hide (show Below w.heap.size w (W6.setCells w.heap.size 0 A) from (bto B0.out BD.out).grown (setCells_grown _ _ _ _) (bto B0.out BD.out).size (fun k hk => by cases hk; exact Nat.le_refl _))
                    have RA := World.rangeAt_setCells_same W6 w.heap.size 0 A (by have := TH.out; rwa [List.size_toArray] at this)
                    refine ret_cell (b := w.heap.size) (cs := A) Tryz.results33 rfl RA Tryz.underlying30 rfl HI6.out rfl ?_
                    rw [EP.out]
                    exact PkRost.mk (f := .mk (z01.set y r1) []) nilS (by show _ = Ending.returned (foV (z01.set y r1) nilS); rw [EF.out]) (fun W _ _ => .inl ⟨_, _, rfl, rfl⟩) BF1.out
                  · replace EP := hide (show X = .mk (z01.set y r2) [] from EP.out)
                    have E7 : (z01.set y r2).length = 7 := by rw [List.length_set]; rfl
                    have E8 : (z01.set y r1).length = 7 := by rw [List.length_set]; rfl
                    have CM := hide (mostR_op (own_rowA A7.out AM9) AM64.out)
                    rw [HR2.out] at CM
                    unfold OpC ratV at CM
                    have KC := hide (fun (W : World) (h : Below W6.heap.size W6 W) => And.intro (BF.at (Bk.up NF2.out h : BF W tb (z01.set y r1) nilS) E8 (k := y) (n := r1.1) (d := r1.2) (by rw [List.getElem?_set_self (by rw [show z01.length = 7 from rfl]; exact hy7)])) (Bk.fz (Bk.up NF2.out h)))
                    have tbw6 : tb < W6.heap.size := Bk.lt NF2.out
                    have BX6 := hide (Below.refl W6.heap.size W6)
                    clear A7 AM64 HR2 CL BC BX
                    go_upto_region 35 with (go_at_call 55; refine (CM.out _ BX6.out).mono ?_; rintro e wd ⟨rfl, BC⟩; replace BC := hide BC; obtain ⟨⟨v0, v1⟩, vz⟩ := KC.out wd BC.out; have vz0 := vz (y * 2); have vz1 := vz (y * 2 + 1); clear vz)
                    have NF := hide (show BF ((wd.setCell ⟨tb, y * 2, none⟩ (.int .i64 r2.1)).setCell ⟨tb, y * 2 + 1, none⟩ (.int .i64 r2.2)) tb (z01.set y r2) nilS by
                      have := BF.put (Bk.up NF2.out BC.out : BF wd tb (z01.set y r1) nilS) (k := y) (by rw [E8]; exact hy7) r2.1 r2.2
                      rwa [List.set_set] at this)
                    have BD2 := hide (show Below W1.heap.size W1 ((wd.setCell ⟨tb, y * 2, none⟩ (.int .i64 r2.1)).setCell ⟨tb, y * 2 + 1, none⟩ (.int .i64 r2.2)) from ((bto BD.out BC.out).setCell (by simp; omega) _).setCell (by simp; omega) _)
                    clear v0 v1 vz0 vz1 KC NF2 CM
                    obtain ⟨W7, hW7⟩ : ∃ W7, (wd.setCell ⟨tb, y * 2, none⟩ (.int .i64 r2.1)).setCell ⟨tb, y * 2 + 1, none⟩ (.int .i64 r2.2) = W7 := ⟨_, rfl⟩
                    rw [hW7] at NF BD2 ⊢
                    clear hW7
                    have EL := hide (show (usL (z01.set y r2) ++ [nilS]).length = 15 by rw [List.length_append, usL_len, E7]; rfl)
                    have q0 := hide (show W7.heap[tb]? = some (.cells (usL (z01.set y r2) ++ [nilS]).toArray 30) from NF.out)
                    have HI6 := hide (show (Tryz.prog.info? 30).map (·.size) = some (usL (z01.set y r2) ++ [nilS]).length by rw [EL.out]; kernel_rfl)
                    have HI5 := hide (show (Tryz.prog.info? 30).map (·.size) = some (usL (z01.set y r2) ++ [nilS]).toArray.size by rw [List.size_toArray, EL.out]; kernel_rfl)
                    have RG := hide (range_blk q0.out)
                    have OA := hide (show ∀ v ∈ usL (z01.set y r2) ++ [nilS], v.oneCell' = true from us_one rfl)
                    have TH := hide (show W7.there w.heap.size 0 (usL (z01.set y r2) ++ [nilS]).toArray.size by rw [show (usL (z01.set y r2) ++ [nilS]).toArray.size = 15 from EL.out]; exact TH0.out W7 BD2.out)
                    have EF := hide (show foV (z01.set y r2) nilS = .agg (usL (z01.set y r2) ++ [nilS]).toArray from rfl)
                    generalize usL (z01.set y r2) ++ [nilS] = A at *
                    clear q0
                    go_wp2_with (first
                      | (refine wpList_load_mid rfl 30 (.tmp 12) rfl tb 0 rfl A _ RG.out Tryz.underlying30 rfl HI6.out ?_)
                      | (refine wpList_store_mid rfl 30 (.tmp 4) (.tmp 96) rfl w.heap.size 0 A.toArray rfl rfl TH.out HI5.out (all_oneCell_toArray OA.out) ?_))
                    (try rw [show A.toArray.toList = A from rfl])
                    have BF1 := hide (show Below w.heap.size w (W7.setCells w.heap.size 0 A) from (bto B0.out BD2.out).grown (setCells_grown _ _ _ _) (bto B0.out BD2.out).size (fun k hk => by cases hk; exact Nat.le_refl _))
                    have RA := World.rangeAt_setCells_same W7 w.heap.size 0 A (by have := TH.out; rwa [List.size_toArray] at this)
                    refine ret_cell (b := w.heap.size) (cs := A) Tryz.results33 rfl RA Tryz.underlying30 rfl HI6.out rfl ?_
                    rw [EP.out]
                    exact PkRost.mk (f := .mk (z01.set y r2) []) nilS (by show _ = Ending.returned (foV (z01.set y r2) nilS); rw [EF.out]) (fun W _ _ => .inl ⟨_, _, rfl, rfl⟩) BF1.out
end Go.Proofs.YtlhmecagijdinaaGreatDoor.nm
