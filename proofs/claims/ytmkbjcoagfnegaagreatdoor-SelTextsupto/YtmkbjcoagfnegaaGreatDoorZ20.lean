/-
  A selector, a list of selectors, written by the program.
  The text of selectors, by the program.
  Hashes, signs and fixed tokens, written.
  Fixed tokens and numbers, written.
-/
import Derived.Test.YtmkbjcoagfnegaaGreatDoorZ19
import Derived.Test.YtmkbjcoagfnegaaGreatDoorZ15
set_option linter.unusedVariables false
set_option linter.unusedSimpArgs false
namespace Go.Proofs.YtmkbjcoagfnegaaGreatDoor
open Go.RowKit Go.Shelf

theorem Wq.box {w0 W : World} {b : Nat} {ys : List Int} {wr : World} (h : PB w0.heap.size b ys W wr) (hW : w0.heap.size ≤ W.heap.size) (hl : Below w0.heap.size w0 wr) (o : Obj) : Wq w0 W b ys wr.heap.size o (wr.alloc o) :=
  ⟨h.grow hW (bplus (Below.refl _ _) o), heap_alloc_new wr o, bplus hl o⟩
/-- The state of the loop over compounds. -/
def RelX1 (w0 W : World) (b : Nat) (xs : List Int) (r : List Cx → List Int) (c : Cx) (i : Value) (wr : World) : Prop := ∃ k : Nat, i = .int .i64 k ∧ k ≤ c.length ∧ Hid (PB w0.heap.size b (xs ++ cxT r (c.take k)) W wr ∧ Below w0.heap.size w0 wr)
theorem RelX1.mk {w0 W : World} {b : Nat} {xs : List Int} {r : List Cx → List Int} {c : Cx} {i : Value} {wr : World} (k : Nat) (h : i = .int .i64 k) (hk : k ≤ c.length) (h1 : PB w0.heap.size b (xs ++ cxT r (c.take k)) W wr) (h2 : Below w0.heap.size w0 wr) : RelX1 w0 W b xs r c i wr := ⟨k, h, hk, h1, h2⟩
/-- The state of the loop over a compound's simple selectors. -/
def RelX2 (w0 W : World) (b : Nat) (ys : List Int) (r : List Cx → List Int) (ss : List Sl) (i : Value) (wr : World) : Prop := ∃ k : Nat, i = .int .i64 k ∧ k ≤ ss.length ∧ Hid (PB w0.heap.size b (ys ++ ssT r (ss.take k)) W wr ∧ Below w0.heap.size w0 wr)
theorem RelX2.mk {w0 W : World} {b : Nat} {ys : List Int} {r : List Cx → List Int} {ss : List Sl} {i : Value} {wr : World} (k : Nat) (h : i = .int .i64 k) (hk : k ≤ ss.length) (h1 : PB w0.heap.size b (ys ++ ssT r (ss.take k)) W wr) (h2 : Below w0.heap.size w0 wr) : RelX2 w0 W b ys r ss i wr := ⟨k, h, hk, h1, h2⟩
theorem cx_simple {left : Nat} {r : List Cx → Bool} {c : Cx} {i j : Nat} {p : Cp} {s : Sl} (h : cxM left r c = true) (hp : c[i]? = some p) (hs : p.2[j]? = some s) : slM left r s = true := by
  unfold cxM at h
  rw [Bool.and_eq_true] at h
  have h1 := allI_iff.1 h.2 i p hp
  unfold cxF at h1
  rw [Bool.and_eq_true] at h1
  have h2 := h1.2
  unfold cpM at h2
  rw [Bool.and_eq_true] at h2
  have h3 := allI_iff.1 h2.2 j s hs
  unfold cpF at h3
  rw [Bool.and_eq_true] at h3
  exact h3.2
theorem coS_size (k : Int) : (coS k).size ≤ 3 := by
  unfold coS
  repeat (refine ite_size (by decide) ?_)
  decide
theorem cx_step {r : List Cx → List Int} {c : Cx} {k : Nat} {p : Cp} (h : c[k]? = some p) : cxT r (c.take (k + 1)) = cxT r (c.take k) ++ (bl (coS p.1) ++ ssT r p.2) := fm_take h
theorem cx_le {r : List Cx → List Int} {c : Cx} (k : Nat) : (cxT r (c.take k)).length ≤ (cxT r c).length := fm_le
theorem ss_step {r : List Cx → List Int} {ss : List Sl} {k : Nat} {s : Sl} (h : ss[k]? = some s) : ssT r (ss.take (k + 1)) = ssT r (ss.take k) ++ slT r s := fm_take h
theorem ss_le {r : List Cx → List Int} {ss : List Sl} (k : Nat) : (ssT r (ss.take k)).length ≤ (ssT r ss).length := fm_le
set_option maxRecDepth 100000 in
set_option maxHeartbeats 8000000 in
theorem writeComplex_any (n left : Nat) (c : Cx) (v : Value) (w0 W : World) (b : Nat) (xs : List Int) (hl65 : left ≤ 65) (hv : PsM w0 n v c) (hm : cxM left (lsM (left - 1)) c = true) (hW : Below w0.heap.size w0 W) (hb : Bd w0.heap.size b xs W) (hl : xs.length + (cxT (lsT n) c).length ≤ 1000000000000) (hK : KT w0) (hT : Tabs w0) (IH : WrLs n) :
    Calls Tryz.prog 59 #[.pointer (some ⟨b, 0, none⟩), .agg #[v]] W fun e w' => e = .returned (.tuple #[]) ∧ PB w0.heap.size b (xs ++ cxT (lsT n) c) W w' := by
  obtain ⟨a, cc, rfl, h9⟩ := hv.shape
  have HV := hide hv
  have hB := hW.size
  have CS := hide (fun (i j : Nat) (p : Cp) (s : Sl) (ua : Option Addr) (uc : Nat) (V : World) (ys : List Int) (hp : c[i]? = some p) (hs : p.2[j]? = some s) (hu : CM w0 n (.slice ua s.ls.length uc) s.ls) (ok : SlOk s) (hV : Below w0.heap.size w0 V) (hb : Bd w0.heap.size b ys V) (hl : ys.length + (slT (lsT n) s).length ≤ 1000000000000) => writeSimple_any n left s ua uc w0 V b ys hl65 hu (cx_simple hm hp hs) hV hb hl ok hK hT IH)
  have Q := hide (Wq.start hb hW (.cells #[.slice a c.length cc] 40))
  have S0 := hide (fun (k : Nat) (p : Cp) (hp : c[k]? = some p) => cx_step (r := lsT n) hp)
  have S1 := hide (fun (k : Nat) => cx_le (r := lsT n) (c := c) k)
  have HL := hide hl
  clear hv hW hb hl hK hT IH hm
  generalize lsT n = r at *
  obtain ⟨W1, hW1⟩ : ∃ W1, W.alloc (.cells #[.slice a c.length cc] 40) = W1 := ⟨_, rfl⟩
  have HW1 := hide hW1
  rw [hW1] at Q
  clear hW1
  go_enter Tryz.func59, Tryz.ntmps59
  go_wp2_with fail
  rw [HW1.out]
  clear HW1
  go_loopw [11] (fun i wr => RelX1 w0 W b xs r c i wr) (fun i _ => c.length - (intOf i).toNat)
  case atStart => exact .mk 0 rfl (by omega) (by simpa [cxT] using Q.out.p) Q.out.l
  case round =>
    obtain ⟨k, rfl, hk, R⟩ := hrel
    have P := hide R.out.1
    have BE := hide R.out.2
    clear R Q
    by_cases hlt : k < c.length
    · obtain ⟨p, hp⟩ : ∃ p, c[k]? = some p := ⟨_, List.getElem?_eq_getElem hlt⟩
      obtain ⟨pb, po, c', u, hv', hpb, e0, e1, hu, _, _⟩ := HV.out.at hp
      obtain ⟨rfl, rfl⟩ : a = some ⟨pb, po, none⟩ ∧ cc = c' := by cases hv'; exact ⟨rfl, rfl⟩
      have hlt' : (k : Int) < c.length := by omega
      have f0 := (BE.out.cell (p := ⟨pb, po + k * 2, none⟩) hpb).trans e0
      have f1 := (BE.out.cell (p := ⟨pb, po + k * 2 + 1, none⟩) hpb).trans e1
      have hsz := BE.out.size
      have hbw : pb < wr.heap.size := by omega
      have nb' : pb ≠ wr.heap.size := by omega
      have nb : wr.heap.size ≠ b := by have := P.out.bd.lt; omega
      have CS1 := hide (fun (j : Nat) (s : Sl) (ua : Option Addr) (uc : Nat) (V : World) (ys : List Int) => CS.out k j p s ua uc V ys hp)
      have ST := hide (S0.out k p hp)
      have LE := hide (show (xs ++ cxT r (c.take k)).length + ((bl (coS p.1)).length + (ssT r p.2).length) ≤ 1000000000000 by
        have h1 := S1.out (k + 1); have h2 := HL.out; rw [S0.out k p hp, List.length_append, List.length_append] at h1; rw [List.length_append]; omega)
      have SM := hide hu
      have CO := hide (fun (V : World) => combText_any p.1 V)
      have sc := coS_size p.1
      obtain ⟨ua, uc, hus, hu9⟩ := hu.shape
      have QB := hide (Wq.box P.out hB BE.out (.cells #[.int .i64 p.1, u] 67))
      have NE := hide (show ∀ cs fz, Obj.cells #[.int .i64 p.1, u] 67 ≠ .cells cs 5 fz by intro cs fz h; cases h)
      clear e0 e1 hv' hu hp CS S0 S1 HV HL
      subst hus
      generalize coS p.1 = co at *
      generalize hys : xs ++ cxT r (c.take k) = ys at *
      have YS := hide hys
      clear hys
      obtain ⟨cm, ss⟩ := p
      simp only at *
      have lx : ys.length + co.size ≤ 140737488355328 := by have := LE.out; rw [bl_len] at this; omega
      obtain ⟨q0, q1⟩ := bxk_2 QB.out.x
      go_wp2_with (first
        | (go_at_call 88; refine (CO.out _).mono ?_; rintro e w4 ⟨rfl, rfl⟩)
        | (go_at_call 58; refine (wstr_any w0.heap.size b _ _ _ QB.out.p.bd lx (QB.out.p.size hB)).mono ?_; rintro e w3 ⟨rfl, P3⟩; replace QB := hide (QB.out.write P3 nb NE.out); obtain ⟨q0, q1⟩ := bxk_2 QB.out.x; clear P3))
      go_loopw [23] (fun i wr' => RelX2 w0 W b (ys ++ bl co) r ss i wr') (fun i _ => ss.length - (intOf i).toNat)
      case atStart => exact .mk 0 rfl (by omega) (by simpa [ssT] using QB.out.p) QB.out.l
      case round =>
        obtain ⟨m, rfl, hm, R⟩ := hrel
        have PI := hide R.out.1
        have BI := hide R.out.2
        clear R QB P BE q0 q1
        by_cases hlm : m < ss.length
        · obtain ⟨s, hs⟩ : ∃ s, ss[m]? = some s := ⟨_, List.getElem?_eq_getElem hlm⟩
          obtain ⟨sb, so, sc', su, hsv, hsb, ⟨e0, e1, e2, e3, e4, e5, e6, e7⟩, hu, ok⟩ := SM.out.at hs
          obtain ⟨rfl, rfl⟩ : ua = some ⟨sb, so, none⟩ ∧ uc = sc' := by cases hsv; exact ⟨rfl, rfl⟩
          have hlm' : (m : Int) < ss.length := by omega
          have g0 := (BI.out.cell (p := ⟨sb, so + m * 8, none⟩) hsb).trans e0
          have g1 := (BI.out.cell (p := ⟨sb, so + m * 8 + 1, none⟩) hsb).trans e1
          have g2 := (BI.out.cell (p := ⟨sb, so + m * 8 + 2, none⟩) hsb).trans e2
          have g3 := (BI.out.cell (p := ⟨sb, so + m * 8 + 3, none⟩) hsb).trans e3
          have g4 := (BI.out.cell (p := ⟨sb, so + m * 8 + 4, none⟩) hsb).trans e4
          have g5 := (BI.out.cell (p := ⟨sb, so + m * 8 + 5, none⟩) hsb).trans e5
          have g6 := (BI.out.cell (p := ⟨sb, so + m * 8 + 6, none⟩) hsb).trans e6
          have g7 := (BI.out.cell (p := ⟨sb, so + m * 8 + 7, none⟩) hsb).trans e7
          have hsw : sb < wr.heap.size := by have := BI.out.size; omega
          have nsb : sb ≠ wr.heap.size := by omega
          obtain ⟨va, vc, hus, _⟩ := hu.shape
          subst hus
          have LS := hide (show ((ys ++ bl co) ++ ssT r (ss.take m)).length + (slT r s).length ≤ 1000000000000 by
            have h1 := @ss_le r ss (m + 1); rw [ss_step hs, List.length_append] at h1; have h2 := LE.out; rw [List.length_append, List.length_append]; omega)
          have PX := hide (PI.out.grow hB (bplus (Below.refl _ _) (obS s (.slice va s.ls.length vc))))
          have BX := hide (bplus BI.out (obS s (.slice va s.ls.length vc)))
          have C2 := hide (CS1.out m s va vc (wr.alloc (obS s (.slice va s.ls.length vc))) _ hs hu ok BX.out PX.out.bd LS.out)
          have SS := hide (ss_step (r := r) hs)
          clear e0 e1 e2 e3 e4 e5 e6 e7 hsv hu ok hs CS1 SM LS
          unfold obS at C2 PX BX
          unfold Sl.v slV at C2
          generalize slT r s = tt at *
          generalize s.ls.length = ln' at *
          obtain ⟨sk, op, sa, sb', nm, vl, fo, ls⟩ := s
          simp only [Sl.k, Sl.op, Sl.a, Sl.b, Sl.nm, Sl.vl, Sl.fo, Sl.ls] at *
          go_wp2_with (go_at_call 89; refine C2.out.mono ?_; rintro e w5 ⟨rfl, P5⟩; replace PX := hide (PX.out.trans P5); replace BX := hide (BX.out.trans P5.bel); clear P5)
          go_roundw
          case rel => exact .mk (m + 1) (by go_num) (by omega) (by rw [SS.out, ← List.append_assoc]; exact PX.out) BX.out
          case measure => simp [intOf]; omega
        · have hlm' : ¬ (m : Int) < ss.length := by omega
          rw [List.take_of_length_le (show ss.length ≤ m by omega)] at PI
          clear CS1 SM
          go_wp2
          go_roundw
          case rel => exact .mk (k + 1) (by go_num) (by omega) (by rw [ST.out, ← List.append_assoc, YS.out]; have := PI.out; simpa only [List.append_assoc] using this) BI.out
          case measure => simp [intOf]; omega
    · have hlt' : ¬ (k : Int) < c.length := by omega
      rw [List.take_of_length_le (show c.length ≤ k by omega)] at P
      clear HV CS S0 S1
      go_wp2
      go_end0
      exact ⟨rfl, P.out⟩
/-- The state of the loop over selectors. -/
def RelX3 (w0 W : World) (b : Nat) (xs : List Int) (r : List Cx → List Int) (l : List Cx) (i : Value) (wr : World) : Prop := ∃ k : Nat, i = .int .i64 k ∧ k ≤ l.length ∧ Hid (PB w0.heap.size b (xs ++ joT (cxT r) (l.take k)) W wr ∧ Below w0.heap.size w0 wr)
theorem RelX3.mk {w0 W : World} {b : Nat} {xs : List Int} {r : List Cx → List Int} {l : List Cx} {i : Value} {wr : World} (k : Nat) (h : i = .int .i64 k) (hk : k ≤ l.length) (h1 : PB w0.heap.size b (xs ++ joT (cxT r) (l.take k)) W wr) (h2 : Below w0.heap.size w0 wr) : RelX3 w0 W b xs r l i wr := ⟨k, h, hk, h1, h2⟩
set_option maxRecDepth 100000 in
set_option maxHeartbeats 8000000 in
theorem writeList_any (n : Nat) : WrLs n := by
  induction n with
  | zero =>
    intro left l v w0 W b xs _ hv hm
    obtain ⟨rfl, _⟩ := hv
    cases left <;> cases hm
  | succ n ih =>
    intro left l v w0 W b xs hl65 hv hm hW hb hl hK hT
    cases left with
    | zero => cases hm
    | succ left =>
      obtain ⟨a, cc, rfl, h9⟩ := hv.shape
      have HV := hide hv
      have hB := hW.size
      have hm2 : ∀ (i : Nat) (c : Cx), l[i]? = some c → cxM (left + 1) (lsM left) c = true := by
        unfold lsM at hm
        rw [Bool.and_eq_true] at hm
        exact fun i c h => allI_iff.1 hm.2 i c h
      have CS := hide (fun (i : Nat) (c : Cx) (u : Value) (V : World) (ys : List Int) (hc : l[i]? = some c) (hu : PsM w0 n u c) (hV : Below w0.heap.size w0 V) (hb : Bd w0.heap.size b ys V) (hl : ys.length + (cxT (lsT n) c).length ≤ 1000000000000) => writeComplex_any n (left + 1) c u w0 V b ys hl65 hu (hm2 i c hc) hV hb hl hK hT ih)
      have P0 := hide (PB.start hb)
      have B0 := hide hW
      have HL := hide (show xs.length + (joT (cxT (lsT n)) l).length ≤ 1000000000000 from hl)
      have FIN := hide (show lsT (n + 1) l = joT (cxT (lsT n)) l from rfl)
      clear hv hW hb hl hK hT ih hm hm2
      generalize lsT (n + 1) l = AA at FIN ⊢
      generalize lsT n = r at *
      go_enter Tryz.func36, Tryz.ntmps36
      go_wp2_with fail
      go_loopw [8] (fun i wr => RelX3 w0 W b xs r l i wr) (fun i _ => l.length - (intOf i).toNat)
      case atStart => exact .mk 0 rfl (by omega) (by simpa [joT] using P0.out) B0.out
      case round =>
        obtain ⟨k, rfl, hk, R⟩ := hrel
        have P := hide R.out.1
        have BE := hide R.out.2
        clear R P0 B0
        by_cases hlt : k < l.length
        · obtain ⟨c, hc⟩ : ∃ c, l[k]? = some c := ⟨_, List.getElem?_eq_getElem hlt⟩
          obtain ⟨pb, po, c', u, hv', hpb, e0, hu⟩ := HV.out.at hc
          obtain ⟨rfl, rfl⟩ : a = some ⟨pb, po, none⟩ ∧ cc = c' := by cases hv'; exact ⟨rfl, rfl⟩
          have hlt' : (k : Int) < l.length := by omega
          have f0 := (BE.out.cell (p := ⟨pb, po + k * 1, none⟩) hpb).trans e0
          rw [Nat.mul_one] at f0
          have hsz := BE.out.size
          have hbw : pb < wr.heap.size := by omega
          have nb' : pb ≠ wr.heap.size := by omega
          have nb : wr.heap.size ≠ b := by have := P.out.bd.lt; omega
          have ST := hide (joT_take (f := cxT r) hc)
          have LE := hide (show (xs ++ joT (cxT r) (l.take k)).length + (if k = 0 then cxT r c else [44, 32] ++ cxT r c).length ≤ 1000000000000 by
            have h1 := @joT_le Cx (cxT r) l (k + 1); have h2 := HL.out; rw [joT_take hc, List.length_append] at h1; rw [List.length_append]; omega)
          have CS1 := hide (fun (V : World) (ys : List Int) => CS.out k c u V ys hc hu)
          obtain ⟨ua, uc, hus, _⟩ := hu.shape
          have QB := hide (Wq.box P.out hB BE.out (.cells #[u] 40))
          have NE := hide (show ∀ cs fz, Obj.cells #[u] 40 ≠ .cells cs 5 fz by intro cs fz h; cases h)
          clear e0 hv' hu hc CS HV HL
          subst hus
          generalize cxT r c = tt at *
          generalize List.length c = ln' at *
          generalize hys : xs ++ joT (cxT r) (l.take k) = ys at *
          have YS := hide hys
          clear hys
          have q0 := bxk_1 QB.out.x
          by_cases hk0 : k = 0
          · have L2 := hide (show ys.length + tt.length ≤ 1000000000000 by have := LE.out; rw [if_pos hk0] at this; exact this)
            have S2 := hide (show joT (cxT r) (l.take (k + 1)) = joT (cxT r) (l.take k) ++ tt by rw [ST.out, if_pos hk0])
            have z1 : decide (0 < k) = false := by simp; omega
            have z2 : ¬ (0 : Int) < (k : Int) := by omega
            have z3' : ¬ 0 < k := by omega
            clear hk0 ST LE
            go_wp2_with (go_at_call 59; refine (CS1.out _ _ QB.out.l QB.out.p.bd L2.out).mono ?_; rintro e w5 ⟨rfl, P5⟩; replace QB := hide (QB.out.write P5 nb NE.out); clear P5)
            go_roundw
            case rel => exact .mk (k + 1) (by go_num) (by omega) (by rw [S2.out, ← List.append_assoc, YS.out]; exact QB.out.p) QB.out.l
            case measure => simp [intOf]; omega
          · have L2 := hide (show (ys ++ [44, 32]).length + tt.length ≤ 1000000000000 by have := LE.out; rw [if_neg hk0, List.length_append] at this; rw [List.length_append]; omega)
            have L1 := hide (show ys.length + 2 ≤ 140737488355328 by have := L2.out; rw [List.length_append] at this; simp only [List.length_cons, List.length_nil] at this; omega)
            have S2 := hide (show joT (cxT r) (l.take (k + 1)) = joT (cxT r) (l.take k) ++ ([44, 32] ++ tt) by rw [ST.out, if_neg hk0])
            have z1 : decide (0 < k) = true := by simp; omega
            have z2 : (0 : Int) < (k : Int) := by omega
            have z3' : 0 < k := by omega
            clear hk0 ST LE
            go_wp2_with (first
              | (go_at_call 58; refine (wstr_any w0.heap.size b _ ⟨#[44, 32]⟩ _ QB.out.p.bd L1.out (QB.out.p.size hB)).mono ?_; rintro e w3 ⟨rfl, P3⟩; replace QB := hide (QB.out.write P3 nb NE.out); have q0 := bxk_1 QB.out.x; clear P3)
              | (go_at_call 59; refine (CS1.out _ _ QB.out.l QB.out.p.bd L2.out).mono ?_; rintro e w5 ⟨rfl, P5⟩; replace QB := hide (QB.out.write P5 nb NE.out); clear P5))
            go_roundw
            case rel => exact .mk (k + 1) (by go_num) (by omega) (by rw [S2.out, ← List.append_assoc, YS.out, ← List.append_assoc]; exact QB.out.p) QB.out.l
            case measure => simp [intOf]; omega
        · have hlt' : ¬ (k : Int) < l.length := by omega
          rw [List.take_of_length_le (show l.length ≤ k by omega)] at P
          clear HV CS
          go_wp2
          go_end0
          exact ⟨rfl, by rw [FIN.out]; exact P.out⟩
end Go.Proofs.YtmkbjcoagfnegaaGreatDoor
set_option linter.unusedVariables false
set_option linter.unusedSimpArgs false
namespace Go.Proofs.YtmkbjcoagfnegaaGreatDoor
open Go.RowKit Go.Shelf

theorem flat_byG {α : Type} {f : α → List Int} {l : List α} (h : ∀ x ∈ l, By (f x)) : By (l.flatMap f) := by
  intro y hy
  obtain ⟨x, hx, hy⟩ := List.mem_flatMap.1 hy
  exact h x hx y hy
theorem stT_by (a b : Int) : By (stT a b) := by
  unfold stT
  split
  · exact bl_by _
  · refine By.app (By.app (bl_by _) (by_cons (by omega) by_nil)) (By.app ?_ ?_)
    · split
      · exact by_cons (by omega) by_nil
      · exact by_nil
    · split
      · exact by_nil
      · exact bl_by _
theorem atT_by (s : Sl) : By (atT s) := by
  unfold atT
  refine By.app (wId_by _) ?_
  split
  · exact by_nil
  · refine By.app (bl_by _) (By.app (quT_by _) ?_)
    split
    · exact by_cons (by omega) (by_cons (by omega) by_nil)
    · exact by_nil
theorem slT_by {r : List Cx → List Int} (h : ∀ l, By (r l)) (s : Sl) : By (slT r s) := by
  unfold slT
  refine By.app (bl_by _) ?_
  unfold slB
  split
  · exact wId_by _
  split
  · exact By.app (atT_by s) (by_cons (by omega) by_nil)
  split
  · exact By.app (h _) (by_cons (by omega) by_nil)
  split
  · exact By.app (stT_by _ _) (by_cons (by omega) by_nil)
  · exact by_nil
theorem cxT_by {r : List Cx → List Int} (h : ∀ l, By (r l)) (c : Cx) : By (cxT r c) := flat_byG fun p _ => By.app (bl_by _) (flat_byG fun s _ => slT_by h s)
theorem joT_by {α : Type} {f : α → List Int} (h : ∀ x, By (f x)) (l : List α) : By (joT f l) := by
  cases l with
  | nil => exact by_nil
  | cons x l => exact By.app (h x) (flat_byG fun y _ => By.app (by_cons (by omega) (by_cons (by omega) by_nil)) (h y))
theorem lsT_by (n : Nat) : ∀ l, By (lsT n l) := by
  induction n with
  | zero => intro l; exact by_nil
  | succ n ih => intro l; exact joT_by (fun c => cxT_by ih c) l
/-- What is told of a list's text. -/
def TxP (n : Nat) (l : List Cx) (u : ByteArray) (c : Int) : Prop := (lsM 65 l = true ∧ bl u = lsT n l ∧ c = 0) ∨ (lsM 65 l = false ∧ u = ⟨#[]⟩ ∧ c = 1)
set_option maxRecDepth 100000 in
set_option maxHeartbeats 4000000 in
theorem textP_any (n : Nat) (l : List Cx) (v : Value) (w : World) (hv : CM w n v l) (hl : (lsT n l).length ≤ 1000000000000) (hK : KT w) (hT : Tabs w) :
    Calls Tryz.prog 17 #[v] w fun e w' => ∃ u c, e = .returned (.tuple #[.string u, .int .i64 c]) ∧ TxP n l u c ∧ Below w.heap.size w w' := by
  have CY := hide (may9_any n l v w hv hK hT)
  have CW := hide (fun (w1 : World) (h : Below w.heap.size w w1) (hm : lsM 65 l = true) => writeList_any n 65 l v w1 (w1.alloc (.cells #[.pointer none, .slice none 0 0] 87)) w1.heap.size [] (Nat.le_refl _) (CM.low h hv) hm (bplus (Below.refl _ _) _) (Lib.IsBuilderF.of (Lib.fresh_isBuilder 87 5 w1)) (by simpa using hl) (hK.below h) (hT.below h))
  have BY := hide (lsT_by n l)
  have TP := hide (show ∀ u c, TxP n l u c ↔ ((lsM 65 l = true ∧ bl u = lsT n l ∧ c = 0) ∨ (lsM 65 l = false ∧ u = ⟨#[]⟩ ∧ c = 1)) from fun u c => Iff.rfl)
  obtain ⟨a, cc, rfl, h9⟩ := hv.shape
  clear hv hl hK hT
  generalize TxP n l = TT at TP ⊢
  generalize lsT n l = tt at *
  generalize lsM 65 l = RB at *
  generalize l.length = ln at *
  cases RB with
  | false =>
    have F := hide (show TT ⟨#[]⟩ 1 from (TP.out _ _).2 (.inr ⟨rfl, rfl, rfl⟩))
    go_enter Tryz.func17, Tryz.ntmps17
    go_wp2_with (go_at_call 15; refine CY.out.mono ?_; rintro e w1 ⟨rfl, B1⟩; replace B1 := hide B1)
    go_ret2
    exact ⟨_, _, rfl, F.out, B1.out⟩
  | true =>
    replace CW := hide (fun w1 h => CW.out w1 h rfl)
    have F := hide (fun (u : ByteArray) (h : bl u = tt) => show TT u 0 from (TP.out _ _).2 (.inl ⟨rfl, h, rfl⟩))
    go_enter Tryz.func17, Tryz.ntmps17
    go_wp2_with (first
      | (go_at_call 15; refine CY.out.mono ?_; rintro e w1 ⟨rfl, B1⟩; have BB := hide B1; clear B1)
      | (go_at_call 36; refine (CW.out w1 BB.out).mono ?_; rintro e w2 ⟨rfl, P2⟩; replace P2 := hide P2; have BC := hide (show Below w1.heap.size w1 w2 from (bplus (Below.refl _ _) _).trans P2.out.bel); have SB := P2.out.size (show w1.heap.size ≤ (w1.alloc (.cells #[.pointer none, .slice none 0 0] 87)).heap.size by simp))
      | (go_at_call 37; refine (bstr_any w1.heap.size w1.heap.size _ w2 ?_ P2.out.bd SB).mono ?_; (rw [List.nil_append]; exact BY.out); rintro e w3 ⟨u, rfl, hu, B3⟩; have HU := hide hu; replace BC := hide (BC.out.trans B3); clear hu B3))
    go_ret2
    exact ⟨u, 0, rfl, F.out u (by rw [HU.out, List.nil_append]), BB.out.trans (BC.out.mono BB.out.size)⟩
end Go.Proofs.YtmkbjcoagfnegaaGreatDoor
set_option linter.unusedVariables false
set_option linter.unusedSimpArgs false
namespace Go.Proofs.YtmkbjcoagfnegaaGreatDoor
open Go.RowKit Go.Shelf

end Go.Proofs.YtmkbjcoagfnegaaGreatDoor
set_option linter.unusedVariables false
set_option linter.unusedSimpArgs false
namespace Go.Proofs.YtmkbjcoagfnegaaGreatDoor
open Go.RowKit Go.Shelf

end Go.Proofs.YtmkbjcoagfnegaaGreatDoor

