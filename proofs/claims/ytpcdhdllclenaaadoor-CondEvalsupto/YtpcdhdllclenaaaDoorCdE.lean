/-
  May a leaf be: by the program.
-/
import Derived.Test.YtpcdhdllclenaaaDoorCdD
import Derived.Test.YtpcdhdllclenaaaDoorCdB
set_option linter.unusedVariables false
set_option linter.unusedSimpArgs false
namespace Go.Proofs.YtpcdhdllclenaaaDoor.cd
open Go.RowKit

theorem bad0 : ∀ t n o e w v a : Bool, (bits .andNot .i64 (fB t n o e w v a) 0 != 0) = (t || n || o || e || w || v || a) := by decide +kernel
theorem bad1 : ∀ t n o e w v a : Bool, (bits .andNot .i64 (fB t n o e w v a) 1 != 0) = (n || o || e || w || v || a) := by decide +kernel
theorem bad2 : ∀ t n o e w v a : Bool, (bits .andNot .i64 (fB t n o e w v a) 2 != 0) = (t || o || e || w || v || a) := by decide +kernel
theorem bad4 : ∀ t n o e w v a : Bool, (bits .andNot .i64 (fB t n o e w v a) 14 != 0) = (t || w || v || a) := by decide +kernel
theorem bad5 : ∀ t n o e w v a : Bool, (bits .andNot .i64 (fB t n o e w v a) 18 != 0) = (t || o || e || v || a) := by decide +kernel
theorem bad6 : ∀ t n o e w v a : Bool, (bits .andNot .i64 (fB t n o e w v a) 98 != 0) = (t || o || e || w) := by decide +kernel
/-- The table of fields by kind lies as it was laid. -/
def FO (w : World) : Prop := 0 < w.heap.size ∧ w.cell? ⟨0, 0, none⟩ = some (.int .i64 0) ∧ w.cell? ⟨0, 1, none⟩ = some (.int .i64 1) ∧ w.cell? ⟨0, 2, none⟩ = some (.int .i64 2) ∧ w.cell? ⟨0, 3, none⟩ = some (.int .i64 2) ∧ w.cell? ⟨0, 4, none⟩ = some (.int .i64 14) ∧ w.cell? ⟨0, 5, none⟩ = some (.int .i64 18) ∧ w.cell? ⟨0, 6, none⟩ = some (.int .i64 98)
theorem FO.below {w w' : World} {m : Nat} (h : FO w) (hw : Below m w w') (hm : w.heap.size ≤ m) : FO w' := by
  obtain ⟨g, h0, h1, h2, h3, h4, h5, h6⟩ := h
  have hb : 0 < m := by omega
  exact ⟨Nat.lt_of_lt_of_le g hw.size, (hw.cell (p := ⟨_, 0, none⟩) hb).trans h0, (hw.cell (p := ⟨_, 1, none⟩) hb).trans h1, (hw.cell (p := ⟨_, 2, none⟩) hb).trans h2, (hw.cell (p := ⟨_, 3, none⟩) hb).trans h3, (hw.cell (p := ⟨_, 4, none⟩) hb).trans h4, (hw.cell (p := ⟨_, 5, none⟩) hb).trans h5, (hw.cell (p := ⟨_, 6, none⟩) hb).trans h6⟩
theorem FO.low {w w' : World} (h : FO w) (hw : Below w.heap.size w w') : FO w' := h.below hw (Nat.le_refl _)
theorem isTruth_any (x : Int) (w : World) : Calls Tryd.prog 42 #[.int .i64 x] w fun e w' => e = .returned (.bool (decide (0 ≤ x) && decide (x ≤ 2))) ∧ w' = w := by
  by_cases h0 : 0 ≤ x
  case neg =>
    rw [show decide (0 ≤ x) = false by simp; omega]
    go_enter Tryd.func42, Tryd.ntmps42
    go_wp2
    go_ret
    exact ⟨rfl, rfl⟩
  by_cases h2 : x ≤ 2
  case neg =>
    rw [show decide (x ≤ 2) = false by simp; omega]
    go_enter Tryd.func42, Tryd.ntmps42
    go_wp2
    go_ret
    exact ⟨by simp, rfl⟩
  rw [show decide (x ≤ 2) = true by simpa using h2, show decide (0 ≤ x) = true by simpa using h0]
  go_enter Tryd.func42, Tryd.ntmps42
  go_wp2
  go_ret
  exact ⟨rfl, rfl⟩
theorem lfM_0 (lt : Int) (nm : ByteArray) (op : Int) (E0 : Ex) (wd vl : ByteArray) (an : Bool) : lfM ⟨0, lt, nm, op, E0, wd, vl, an⟩ = (!(lt != 0 || !no nm || op != 0 || !noE E0 || !no wd || !no vl || an) && true) := by
  unfold lfM
  simp only [bne]
  generalize (lt == 0) = b1
  generalize no nm = b2
  generalize (op == 0) = b3
  generalize noE E0 = b4
  generalize no wd = b5
  generalize no vl = b6
  generalize exM E0 340 = b7
  generalize decide (0 ≤ lt) = c1
  generalize decide (lt ≤ 2) = c2
  generalize decide (1 ≤ op) = c3
  generalize decide (op ≤ 5) = c4
  clear lt nm op E0 wd vl
  revert an b1 b2 b3 b4 b5 b6 b7 c1 c2 c3 c4
  decide +kernel
theorem lfM_1 (lt : Int) (nm : ByteArray) (op : Int) (E0 : Ex) (wd vl : ByteArray) (an : Bool) : lfM ⟨1, lt, nm, op, E0, wd, vl, an⟩ = (!(!no nm || op != 0 || !noE E0 || !no wd || !no vl || an) && (decide (0 ≤ lt) && decide (lt ≤ 2))) := by
  unfold lfM
  simp only [bne]
  generalize (lt == 0) = b1
  generalize no nm = b2
  generalize (op == 0) = b3
  generalize noE E0 = b4
  generalize no wd = b5
  generalize no vl = b6
  generalize exM E0 340 = b7
  generalize decide (0 ≤ lt) = c1
  generalize decide (lt ≤ 2) = c2
  generalize decide (1 ≤ op) = c3
  generalize decide (op ≤ 5) = c4
  clear lt nm op E0 wd vl
  revert an b1 b2 b3 b4 b5 b6 b7 c1 c2 c3 c4
  decide +kernel
theorem lfM_2 (lt : Int) (nm : ByteArray) (op : Int) (E0 : Ex) (wd vl : ByteArray) (an : Bool) : lfM ⟨2, lt, nm, op, E0, wd, vl, an⟩ = (!(lt != 0 || op != 0 || !noE E0 || !no wd || !no vl || an) && !no nm) := by
  unfold lfM
  simp only [bne]
  generalize (lt == 0) = b1
  generalize no nm = b2
  generalize (op == 0) = b3
  generalize noE E0 = b4
  generalize no wd = b5
  generalize no vl = b6
  generalize exM E0 340 = b7
  generalize decide (0 ≤ lt) = c1
  generalize decide (lt ≤ 2) = c2
  generalize decide (1 ≤ op) = c3
  generalize decide (op ≤ 5) = c4
  clear lt nm op E0 wd vl
  revert an b1 b2 b3 b4 b5 b6 b7 c1 c2 c3 c4
  decide +kernel
theorem lfM_3 (lt : Int) (nm : ByteArray) (op : Int) (E0 : Ex) (wd vl : ByteArray) (an : Bool) : lfM ⟨3, lt, nm, op, E0, wd, vl, an⟩ = (!(lt != 0 || op != 0 || !noE E0 || !no wd || !no vl || an) && !no nm) := by
  unfold lfM
  simp only [bne]
  generalize (lt == 0) = b1
  generalize no nm = b2
  generalize (op == 0) = b3
  generalize noE E0 = b4
  generalize no wd = b5
  generalize no vl = b6
  generalize exM E0 340 = b7
  generalize decide (0 ≤ lt) = c1
  generalize decide (lt ≤ 2) = c2
  generalize decide (1 ≤ op) = c3
  generalize decide (op ≤ 5) = c4
  clear lt nm op E0 wd vl
  revert an b1 b2 b3 b4 b5 b6 b7 c1 c2 c3 c4
  decide +kernel
theorem lfM_4 (lt : Int) (nm : ByteArray) (op : Int) (E0 : Ex) (wd vl : ByteArray) (an : Bool) : lfM ⟨4, lt, nm, op, E0, wd, vl, an⟩ = (!(lt != 0 || !no wd || !no vl || an) && (!no nm && (decide (1 ≤ op) && decide (op ≤ 5)) && exM E0 340)) := by
  unfold lfM
  simp only [bne]
  generalize (lt == 0) = b1
  generalize no nm = b2
  generalize (op == 0) = b3
  generalize noE E0 = b4
  generalize no wd = b5
  generalize no vl = b6
  generalize exM E0 340 = b7
  generalize decide (0 ≤ lt) = c1
  generalize decide (lt ≤ 2) = c2
  generalize decide (1 ≤ op) = c3
  generalize decide (op ≤ 5) = c4
  clear lt nm op E0 wd vl
  revert an b1 b2 b3 b4 b5 b6 b7 c1 c2 c3 c4
  decide +kernel
theorem lfM_5 (lt : Int) (nm : ByteArray) (op : Int) (E0 : Ex) (wd vl : ByteArray) (an : Bool) : lfM ⟨5, lt, nm, op, E0, wd, vl, an⟩ = (!(lt != 0 || op != 0 || !noE E0 || !no vl || an) && !no nm) := by
  unfold lfM
  simp only [bne]
  generalize (lt == 0) = b1
  generalize no nm = b2
  generalize (op == 0) = b3
  generalize noE E0 = b4
  generalize no wd = b5
  generalize no vl = b6
  generalize exM E0 340 = b7
  generalize decide (0 ≤ lt) = c1
  generalize decide (lt ≤ 2) = c2
  generalize decide (1 ≤ op) = c3
  generalize decide (op ≤ 5) = c4
  clear lt nm op E0 wd vl
  revert an b1 b2 b3 b4 b5 b6 b7 c1 c2 c3 c4
  decide +kernel
theorem lfM_6 (lt : Int) (nm : ByteArray) (op : Int) (E0 : Ex) (wd vl : ByteArray) (an : Bool) : lfM ⟨6, lt, nm, op, E0, wd, vl, an⟩ = (!(lt != 0 || op != 0 || !noE E0 || !no wd) && (!no nm && !(an && !no vl))) := by
  unfold lfM
  simp only [bne]
  generalize (lt == 0) = b1
  generalize no nm = b2
  generalize (op == 0) = b3
  generalize noE E0 = b4
  generalize no wd = b5
  generalize no vl = b6
  generalize exM E0 340 = b7
  generalize decide (0 ≤ lt) = c1
  generalize decide (lt ≤ 2) = c2
  generalize decide (1 ≤ op) = c3
  generalize decide (op ≤ 5) = c4
  clear lt nm op E0 wd vl
  revert an b1 b2 b3 b4 b5 b6 b7 c1 c2 c3 c4
  decide +kernel
set_option maxRecDepth 100000 in
set_option maxHeartbeats 4000000 in
theorem leaf_0 (lt : Int) (nm : ByteArray) (op : Int) (E0 : Ex) (wd vl : ByteArray) (an : Bool) (z : Value) (w : World) (he : E0.Ok) (hz : EM w z E0.ks) (hF : FO w) : Calls Tryd.prog 50 #[lfV ⟨0, lt, nm, op, E0, wd, vl, an⟩ z] w fun e w' => e = .returned (.bool (lfM ⟨0, lt, nm, op, E0, wd, vl, an⟩)) ∧ Below w.heap.size w w' := by
  obtain ⟨ek, en, ed, eu, eks⟩ := E0
  have M := hide (lfM_0 lt nm op (.mk ek en ed eu eks) wd vl an)
  have BD := hide (bad0 (lt != 0) (!no nm) (op != 0) (!noE (.mk ek en ed eu eks)) (!no wd) (!no vl) an)
  replace hz : EM w z eks := hz
  have B0 := bplus (Below.refl w.heap.size w) (.cells #[.int .i64 0, .int .i64 lt, .string nm, .int .i64 op, .int .i64 ek, .int .i64 en, .int .i64 ed, .int .i64 eu, z, .string wd, .string vl, .bool an] 37)
  have PQ := heap_alloc_new w (.cells #[.int .i64 0, .int .i64 lt, .string nm, .int .i64 op, .int .i64 ek, .int .i64 en, .int .i64 ed, .int .i64 eu, z, .string wd, .string vl, .bool an] 37)
  have CF := hide (fun (w0 W : World) (h0 : Below w.heap.size w w0) (hb : Below w0.heap.size w0 W) => fieldsIn_any ⟨0, lt, nm, op, .mk ek en ed eu eks, wd, vl, an⟩ z W (hz.low (bto h0 hb)))
  have CM4 := hide (fun (w0 W : World) (h0 : Below w.heap.size w w0) (hb : Below w0.heap.size w0 W) => calcMay_any (.mk ek en ed eu eks) z W he (hz.low (bto h0 hb)))
  have CT := hide (fun (W : World) => isTruth_any lt W)
  have G0 := hide (fun (w0 W : World) (h0 : Below w.heap.size w w0) (hb : Below w0.heap.size w0 W) => hF.low (bto h0 hb))
  simp only [lfV, exV, Ex.k, Ex.n, Ex.d, Ex.u] at CF CM4 ⊢
  generalize fB (lt != 0) (!no nm) (op != 0) (!noE (.mk ek en ed eu eks)) (!no wd) (!no vl) an = fb at *
  clear hz hF
  cases hm : (lt != 0 || !no nm || op != 0 || !noE (.mk ek en ed eu eks) || !no wd || !no vl || an)
  · rw [hm] at M BD
    replace BD : Hid ((bits .andNot .i64 fb 0 != 0) = false) := BD
    have BZ := BD.out
    have M2 := hide (show lfM ⟨0, lt, nm, op, .mk ek en ed eu eks, wd, vl, an⟩ = true by rw [M.out]; rfl)
    clear M BD
    have F := M2
    go_enter Tryd.func50, Tryd.ntmps50
    go_upto_region 1 with fail
    generalize w.alloc (.cells #[.int .i64 0, .int .i64 lt, .string nm, .int .i64 op, .int .i64 ek, .int .i64 en, .int .i64 ed, .int .i64 eu, z, .string wd, .string vl, .bool an] 37) = w0 at *
    have HB0 := hide B0
    have HP := hide PQ
    replace CF := hide (fun W hb => CF.out w0 W B0 hb)
    replace CM4 := hide (fun W hb => CM4.out w0 W B0 hb)
    replace G0 := hide (fun W hb => G0.out w0 W B0 hb)
    have KH := hide (fun (w' : World) (hQ : Below w0.heap.size w0 w') => show w'.cell? ⟨w.heap.size, 0, none⟩ = some (.int .i64 0) ∧ w'.cell? ⟨w.heap.size, 1, none⟩ = some (.int .i64 lt) ∧ w'.cell? ⟨w.heap.size, 2, none⟩ = some (.string nm) ∧ w'.cell? ⟨w.heap.size, 3, none⟩ = some (.int .i64 op) ∧ w'.cell? ⟨w.heap.size, 4, none⟩ = some (.int .i64 ek) ∧ w'.cell? ⟨w.heap.size, 5, none⟩ = some (.int .i64 en) ∧ w'.cell? ⟨w.heap.size, 6, none⟩ = some (.int .i64 ed) ∧ w'.cell? ⟨w.heap.size, 7, none⟩ = some (.int .i64 eu) ∧ w'.cell? ⟨w.heap.size, 8, none⟩ = some z ∧ w'.cell? ⟨w.heap.size, 9, none⟩ = some (.string wd) ∧ w'.cell? ⟨w.heap.size, 10, none⟩ = some (.string vl) ∧ w'.cell? ⟨w.heap.size, 11, none⟩ = some (.bool an) ∧ w'.cell? ⟨0, 0, none⟩ = some (.int .i64 0) from by
      obtain ⟨q0, q1, q2, q3, q4, q5, q6, q7, q8, q9, qa, qb⟩ := keep12 hQ HP.out
      obtain ⟨-, g0, g1, g2, g3, g4, g5, g6⟩ := G0.out _ hQ
      exact ⟨q0, q1, q2, q3, q4, q5, q6, q7, q8, q9, qa, qb, g0⟩)
    clear B0 PQ
    go_region_held3 (fun w' => w'.cell? ⟨w.heap.size, 0, none⟩ = some (.int .i64 0) ∧ w'.cell? ⟨w.heap.size, 1, none⟩ = some (.int .i64 lt) ∧ w'.cell? ⟨w.heap.size, 2, none⟩ = some (.string nm) ∧ w'.cell? ⟨w.heap.size, 3, none⟩ = some (.int .i64 op) ∧ w'.cell? ⟨w.heap.size, 4, none⟩ = some (.int .i64 ek) ∧ w'.cell? ⟨w.heap.size, 5, none⟩ = some (.int .i64 en) ∧ w'.cell? ⟨w.heap.size, 6, none⟩ = some (.int .i64 ed) ∧ w'.cell? ⟨w.heap.size, 7, none⟩ = some (.int .i64 eu) ∧ w'.cell? ⟨w.heap.size, 8, none⟩ = some z ∧ w'.cell? ⟨w.heap.size, 9, none⟩ = some (.string wd) ∧ w'.cell? ⟨w.heap.size, 10, none⟩ = some (.string vl) ∧ w'.cell? ⟨w.heap.size, 11, none⟩ = some (.bool an) ∧ w'.cell? ⟨0, 0, none⟩ = some (.int .i64 0))
      ((refine KH.out _ ?_; (repeat (first | exact Below.refl _ _ | (with_reducible refine Below.drew ?_) | (with_reducible refine below_drewN ?_ _) | (refine bto ?_ (by assumption)))); done))
      (first
        | (go_at_call 61; refine (CF.out _ (by repeat (first | exact Below.refl _ _ | (with_reducible refine Below.drew ?_) | (with_reducible refine below_drewN ?_ _) | (refine bto ?_ (by assumption))))).mono ?_; rintro _ wl ⟨rfl, hl⟩))
    all_goals
      obtain ⟨q0, q1, q2, q3, q4, q5, q6, q7, q8, q9, qa, qb, -⟩ := KH.out wl (by repeat (first | exact Below.refl _ _ | (with_reducible refine Below.drew ?_) | (with_reducible refine below_drewN ?_ _) | (refine bto ?_ (by assumption))))
      go_wp2_with (first
        | (go_at_call 42; refine (CT.out _).mono ?_; rintro _ wm ⟨rfl, rfl⟩)
        | (go_at_call 62; refine (CM4.out _ (by repeat (first | exact Below.refl _ _ | (with_reducible refine Below.drew ?_) | (with_reducible refine below_drewN ?_ _) | (refine bto ?_ (by assumption))))).mono ?_; rintro _ wm ⟨rfl, hm⟩))
      go_ret
      refine ⟨ret_bool F.out.symm, bto HB0.out ?_⟩
      repeat (first | exact Below.refl _ _ | (with_reducible refine Below.drew ?_) | (with_reducible refine below_drewN ?_ _) | (refine bto ?_ (by assumption)))
  · rw [hm] at M BD
    have BZ := BD.out
    have F := hide (show lfM ⟨0, lt, nm, op, .mk ek en ed eu eks, wd, vl, an⟩ = false by rw [M.out]; rfl)
    clear M BD
    go_enter Tryd.func50, Tryd.ntmps50
    go_upto_region 1 with fail
    generalize w.alloc (.cells #[.int .i64 0, .int .i64 lt, .string nm, .int .i64 op, .int .i64 ek, .int .i64 en, .int .i64 ed, .int .i64 eu, z, .string wd, .string vl, .bool an] 37) = w0 at *
    have HB0 := hide B0
    have HP := hide PQ
    replace CF := hide (fun W hb => CF.out w0 W B0 hb)
    replace CM4 := hide (fun W hb => CM4.out w0 W B0 hb)
    replace G0 := hide (fun W hb => G0.out w0 W B0 hb)
    have KH := hide (fun (w' : World) (hQ : Below w0.heap.size w0 w') => show w'.cell? ⟨w.heap.size, 0, none⟩ = some (.int .i64 0) ∧ w'.cell? ⟨w.heap.size, 1, none⟩ = some (.int .i64 lt) ∧ w'.cell? ⟨w.heap.size, 2, none⟩ = some (.string nm) ∧ w'.cell? ⟨w.heap.size, 3, none⟩ = some (.int .i64 op) ∧ w'.cell? ⟨w.heap.size, 4, none⟩ = some (.int .i64 ek) ∧ w'.cell? ⟨w.heap.size, 5, none⟩ = some (.int .i64 en) ∧ w'.cell? ⟨w.heap.size, 6, none⟩ = some (.int .i64 ed) ∧ w'.cell? ⟨w.heap.size, 7, none⟩ = some (.int .i64 eu) ∧ w'.cell? ⟨w.heap.size, 8, none⟩ = some z ∧ w'.cell? ⟨w.heap.size, 9, none⟩ = some (.string wd) ∧ w'.cell? ⟨w.heap.size, 10, none⟩ = some (.string vl) ∧ w'.cell? ⟨w.heap.size, 11, none⟩ = some (.bool an) ∧ w'.cell? ⟨0, 0, none⟩ = some (.int .i64 0) from by
      obtain ⟨q0, q1, q2, q3, q4, q5, q6, q7, q8, q9, qa, qb⟩ := keep12 hQ HP.out
      obtain ⟨-, g0, g1, g2, g3, g4, g5, g6⟩ := G0.out _ hQ
      exact ⟨q0, q1, q2, q3, q4, q5, q6, q7, q8, q9, qa, qb, g0⟩)
    clear B0 PQ
    go_region_held3 (fun w' => w'.cell? ⟨w.heap.size, 0, none⟩ = some (.int .i64 0) ∧ w'.cell? ⟨w.heap.size, 1, none⟩ = some (.int .i64 lt) ∧ w'.cell? ⟨w.heap.size, 2, none⟩ = some (.string nm) ∧ w'.cell? ⟨w.heap.size, 3, none⟩ = some (.int .i64 op) ∧ w'.cell? ⟨w.heap.size, 4, none⟩ = some (.int .i64 ek) ∧ w'.cell? ⟨w.heap.size, 5, none⟩ = some (.int .i64 en) ∧ w'.cell? ⟨w.heap.size, 6, none⟩ = some (.int .i64 ed) ∧ w'.cell? ⟨w.heap.size, 7, none⟩ = some (.int .i64 eu) ∧ w'.cell? ⟨w.heap.size, 8, none⟩ = some z ∧ w'.cell? ⟨w.heap.size, 9, none⟩ = some (.string wd) ∧ w'.cell? ⟨w.heap.size, 10, none⟩ = some (.string vl) ∧ w'.cell? ⟨w.heap.size, 11, none⟩ = some (.bool an) ∧ w'.cell? ⟨0, 0, none⟩ = some (.int .i64 0))
      ((refine KH.out _ ?_; (repeat (first | exact Below.refl _ _ | (with_reducible refine Below.drew ?_) | (with_reducible refine below_drewN ?_ _) | (refine bto ?_ (by assumption)))); done))
      (first
        | (go_at_call 61; refine (CF.out _ (by repeat (first | exact Below.refl _ _ | (with_reducible refine Below.drew ?_) | (with_reducible refine below_drewN ?_ _) | (refine bto ?_ (by assumption))))).mono ?_; rintro _ wl ⟨rfl, hl⟩))
    all_goals
      go_wp2
      go_ret
      refine ⟨ret_bool F.out.symm, bto HB0.out ?_⟩
      repeat (first | exact Below.refl _ _ | (with_reducible refine Below.drew ?_) | (with_reducible refine below_drewN ?_ _) | (refine bto ?_ (by assumption)))
set_option maxRecDepth 100000 in
set_option maxHeartbeats 4000000 in
theorem leaf_1 (lt : Int) (nm : ByteArray) (op : Int) (E0 : Ex) (wd vl : ByteArray) (an : Bool) (z : Value) (w : World) (he : E0.Ok) (hz : EM w z E0.ks) (hF : FO w) : Calls Tryd.prog 50 #[lfV ⟨1, lt, nm, op, E0, wd, vl, an⟩ z] w fun e w' => e = .returned (.bool (lfM ⟨1, lt, nm, op, E0, wd, vl, an⟩)) ∧ Below w.heap.size w w' := by
  obtain ⟨ek, en, ed, eu, eks⟩ := E0
  have M := hide (lfM_1 lt nm op (.mk ek en ed eu eks) wd vl an)
  have BD := hide (bad1 (lt != 0) (!no nm) (op != 0) (!noE (.mk ek en ed eu eks)) (!no wd) (!no vl) an)
  replace hz : EM w z eks := hz
  have B0 := bplus (Below.refl w.heap.size w) (.cells #[.int .i64 1, .int .i64 lt, .string nm, .int .i64 op, .int .i64 ek, .int .i64 en, .int .i64 ed, .int .i64 eu, z, .string wd, .string vl, .bool an] 37)
  have PQ := heap_alloc_new w (.cells #[.int .i64 1, .int .i64 lt, .string nm, .int .i64 op, .int .i64 ek, .int .i64 en, .int .i64 ed, .int .i64 eu, z, .string wd, .string vl, .bool an] 37)
  have CF := hide (fun (w0 W : World) (h0 : Below w.heap.size w w0) (hb : Below w0.heap.size w0 W) => fieldsIn_any ⟨1, lt, nm, op, .mk ek en ed eu eks, wd, vl, an⟩ z W (hz.low (bto h0 hb)))
  have CM4 := hide (fun (w0 W : World) (h0 : Below w.heap.size w w0) (hb : Below w0.heap.size w0 W) => calcMay_any (.mk ek en ed eu eks) z W he (hz.low (bto h0 hb)))
  have CT := hide (fun (W : World) => isTruth_any lt W)
  have G0 := hide (fun (w0 W : World) (h0 : Below w.heap.size w w0) (hb : Below w0.heap.size w0 W) => hF.low (bto h0 hb))
  simp only [lfV, exV, Ex.k, Ex.n, Ex.d, Ex.u] at CF CM4 ⊢
  generalize fB (lt != 0) (!no nm) (op != 0) (!noE (.mk ek en ed eu eks)) (!no wd) (!no vl) an = fb at *
  clear hz hF
  cases hm : (!no nm || op != 0 || !noE (.mk ek en ed eu eks) || !no wd || !no vl || an)
  · rw [hm] at M BD
    replace BD : Hid ((bits .andNot .i64 fb 1 != 0) = false) := BD
    have BZ := BD.out
    have M2 := hide (show lfM ⟨1, lt, nm, op, .mk ek en ed eu eks, wd, vl, an⟩ = (decide (0 ≤ lt) && decide (lt ≤ 2)) by rw [M.out]; rfl)
    clear M BD
    have F := M2
    go_enter Tryd.func50, Tryd.ntmps50
    go_upto_region 1 with fail
    generalize w.alloc (.cells #[.int .i64 1, .int .i64 lt, .string nm, .int .i64 op, .int .i64 ek, .int .i64 en, .int .i64 ed, .int .i64 eu, z, .string wd, .string vl, .bool an] 37) = w0 at *
    have HB0 := hide B0
    have HP := hide PQ
    replace CF := hide (fun W hb => CF.out w0 W B0 hb)
    replace CM4 := hide (fun W hb => CM4.out w0 W B0 hb)
    replace G0 := hide (fun W hb => G0.out w0 W B0 hb)
    have KH := hide (fun (w' : World) (hQ : Below w0.heap.size w0 w') => show w'.cell? ⟨w.heap.size, 0, none⟩ = some (.int .i64 1) ∧ w'.cell? ⟨w.heap.size, 1, none⟩ = some (.int .i64 lt) ∧ w'.cell? ⟨w.heap.size, 2, none⟩ = some (.string nm) ∧ w'.cell? ⟨w.heap.size, 3, none⟩ = some (.int .i64 op) ∧ w'.cell? ⟨w.heap.size, 4, none⟩ = some (.int .i64 ek) ∧ w'.cell? ⟨w.heap.size, 5, none⟩ = some (.int .i64 en) ∧ w'.cell? ⟨w.heap.size, 6, none⟩ = some (.int .i64 ed) ∧ w'.cell? ⟨w.heap.size, 7, none⟩ = some (.int .i64 eu) ∧ w'.cell? ⟨w.heap.size, 8, none⟩ = some z ∧ w'.cell? ⟨w.heap.size, 9, none⟩ = some (.string wd) ∧ w'.cell? ⟨w.heap.size, 10, none⟩ = some (.string vl) ∧ w'.cell? ⟨w.heap.size, 11, none⟩ = some (.bool an) ∧ w'.cell? ⟨0, 1, none⟩ = some (.int .i64 1) from by
      obtain ⟨q0, q1, q2, q3, q4, q5, q6, q7, q8, q9, qa, qb⟩ := keep12 hQ HP.out
      obtain ⟨-, g0, g1, g2, g3, g4, g5, g6⟩ := G0.out _ hQ
      exact ⟨q0, q1, q2, q3, q4, q5, q6, q7, q8, q9, qa, qb, g1⟩)
    clear B0 PQ
    go_region_held3 (fun w' => w'.cell? ⟨w.heap.size, 0, none⟩ = some (.int .i64 1) ∧ w'.cell? ⟨w.heap.size, 1, none⟩ = some (.int .i64 lt) ∧ w'.cell? ⟨w.heap.size, 2, none⟩ = some (.string nm) ∧ w'.cell? ⟨w.heap.size, 3, none⟩ = some (.int .i64 op) ∧ w'.cell? ⟨w.heap.size, 4, none⟩ = some (.int .i64 ek) ∧ w'.cell? ⟨w.heap.size, 5, none⟩ = some (.int .i64 en) ∧ w'.cell? ⟨w.heap.size, 6, none⟩ = some (.int .i64 ed) ∧ w'.cell? ⟨w.heap.size, 7, none⟩ = some (.int .i64 eu) ∧ w'.cell? ⟨w.heap.size, 8, none⟩ = some z ∧ w'.cell? ⟨w.heap.size, 9, none⟩ = some (.string wd) ∧ w'.cell? ⟨w.heap.size, 10, none⟩ = some (.string vl) ∧ w'.cell? ⟨w.heap.size, 11, none⟩ = some (.bool an) ∧ w'.cell? ⟨0, 1, none⟩ = some (.int .i64 1))
      ((refine KH.out _ ?_; (repeat (first | exact Below.refl _ _ | (with_reducible refine Below.drew ?_) | (with_reducible refine below_drewN ?_ _) | (refine bto ?_ (by assumption)))); done))
      (first
        | (go_at_call 61; refine (CF.out _ (by repeat (first | exact Below.refl _ _ | (with_reducible refine Below.drew ?_) | (with_reducible refine below_drewN ?_ _) | (refine bto ?_ (by assumption))))).mono ?_; rintro _ wl ⟨rfl, hl⟩))
    all_goals
      obtain ⟨q0, q1, q2, q3, q4, q5, q6, q7, q8, q9, qa, qb, -⟩ := KH.out wl (by repeat (first | exact Below.refl _ _ | (with_reducible refine Below.drew ?_) | (with_reducible refine below_drewN ?_ _) | (refine bto ?_ (by assumption))))
      go_wp2_with (first
        | (go_at_call 42; refine (CT.out _).mono ?_; rintro _ wm ⟨rfl, rfl⟩)
        | (go_at_call 62; refine (CM4.out _ (by repeat (first | exact Below.refl _ _ | (with_reducible refine Below.drew ?_) | (with_reducible refine below_drewN ?_ _) | (refine bto ?_ (by assumption))))).mono ?_; rintro _ wm ⟨rfl, hm⟩))
      go_ret
      refine ⟨ret_bool F.out.symm, bto HB0.out ?_⟩
      repeat (first | exact Below.refl _ _ | (with_reducible refine Below.drew ?_) | (with_reducible refine below_drewN ?_ _) | (refine bto ?_ (by assumption)))
  · rw [hm] at M BD
    have BZ := BD.out
    have F := hide (show lfM ⟨1, lt, nm, op, .mk ek en ed eu eks, wd, vl, an⟩ = false by rw [M.out]; rfl)
    clear M BD
    go_enter Tryd.func50, Tryd.ntmps50
    go_upto_region 1 with fail
    generalize w.alloc (.cells #[.int .i64 1, .int .i64 lt, .string nm, .int .i64 op, .int .i64 ek, .int .i64 en, .int .i64 ed, .int .i64 eu, z, .string wd, .string vl, .bool an] 37) = w0 at *
    have HB0 := hide B0
    have HP := hide PQ
    replace CF := hide (fun W hb => CF.out w0 W B0 hb)
    replace CM4 := hide (fun W hb => CM4.out w0 W B0 hb)
    replace G0 := hide (fun W hb => G0.out w0 W B0 hb)
    have KH := hide (fun (w' : World) (hQ : Below w0.heap.size w0 w') => show w'.cell? ⟨w.heap.size, 0, none⟩ = some (.int .i64 1) ∧ w'.cell? ⟨w.heap.size, 1, none⟩ = some (.int .i64 lt) ∧ w'.cell? ⟨w.heap.size, 2, none⟩ = some (.string nm) ∧ w'.cell? ⟨w.heap.size, 3, none⟩ = some (.int .i64 op) ∧ w'.cell? ⟨w.heap.size, 4, none⟩ = some (.int .i64 ek) ∧ w'.cell? ⟨w.heap.size, 5, none⟩ = some (.int .i64 en) ∧ w'.cell? ⟨w.heap.size, 6, none⟩ = some (.int .i64 ed) ∧ w'.cell? ⟨w.heap.size, 7, none⟩ = some (.int .i64 eu) ∧ w'.cell? ⟨w.heap.size, 8, none⟩ = some z ∧ w'.cell? ⟨w.heap.size, 9, none⟩ = some (.string wd) ∧ w'.cell? ⟨w.heap.size, 10, none⟩ = some (.string vl) ∧ w'.cell? ⟨w.heap.size, 11, none⟩ = some (.bool an) ∧ w'.cell? ⟨0, 1, none⟩ = some (.int .i64 1) from by
      obtain ⟨q0, q1, q2, q3, q4, q5, q6, q7, q8, q9, qa, qb⟩ := keep12 hQ HP.out
      obtain ⟨-, g0, g1, g2, g3, g4, g5, g6⟩ := G0.out _ hQ
      exact ⟨q0, q1, q2, q3, q4, q5, q6, q7, q8, q9, qa, qb, g1⟩)
    clear B0 PQ
    go_region_held3 (fun w' => w'.cell? ⟨w.heap.size, 0, none⟩ = some (.int .i64 1) ∧ w'.cell? ⟨w.heap.size, 1, none⟩ = some (.int .i64 lt) ∧ w'.cell? ⟨w.heap.size, 2, none⟩ = some (.string nm) ∧ w'.cell? ⟨w.heap.size, 3, none⟩ = some (.int .i64 op) ∧ w'.cell? ⟨w.heap.size, 4, none⟩ = some (.int .i64 ek) ∧ w'.cell? ⟨w.heap.size, 5, none⟩ = some (.int .i64 en) ∧ w'.cell? ⟨w.heap.size, 6, none⟩ = some (.int .i64 ed) ∧ w'.cell? ⟨w.heap.size, 7, none⟩ = some (.int .i64 eu) ∧ w'.cell? ⟨w.heap.size, 8, none⟩ = some z ∧ w'.cell? ⟨w.heap.size, 9, none⟩ = some (.string wd) ∧ w'.cell? ⟨w.heap.size, 10, none⟩ = some (.string vl) ∧ w'.cell? ⟨w.heap.size, 11, none⟩ = some (.bool an) ∧ w'.cell? ⟨0, 1, none⟩ = some (.int .i64 1))
      ((refine KH.out _ ?_; (repeat (first | exact Below.refl _ _ | (with_reducible refine Below.drew ?_) | (with_reducible refine below_drewN ?_ _) | (refine bto ?_ (by assumption)))); done))
      (first
        | (go_at_call 61; refine (CF.out _ (by repeat (first | exact Below.refl _ _ | (with_reducible refine Below.drew ?_) | (with_reducible refine below_drewN ?_ _) | (refine bto ?_ (by assumption))))).mono ?_; rintro _ wl ⟨rfl, hl⟩))
    all_goals
      go_wp2
      go_ret
      refine ⟨ret_bool F.out.symm, bto HB0.out ?_⟩
      repeat (first | exact Below.refl _ _ | (with_reducible refine Below.drew ?_) | (with_reducible refine below_drewN ?_ _) | (refine bto ?_ (by assumption)))
set_option maxRecDepth 100000 in
set_option maxHeartbeats 4000000 in
theorem leaf_2 (lt : Int) (nm : ByteArray) (op : Int) (E0 : Ex) (wd vl : ByteArray) (an : Bool) (z : Value) (w : World) (he : E0.Ok) (hz : EM w z E0.ks) (hF : FO w) : Calls Tryd.prog 50 #[lfV ⟨2, lt, nm, op, E0, wd, vl, an⟩ z] w fun e w' => e = .returned (.bool (lfM ⟨2, lt, nm, op, E0, wd, vl, an⟩)) ∧ Below w.heap.size w w' := by
  obtain ⟨ek, en, ed, eu, eks⟩ := E0
  have M := hide (lfM_2 lt nm op (.mk ek en ed eu eks) wd vl an)
  have BD := hide (bad2 (lt != 0) (!no nm) (op != 0) (!noE (.mk ek en ed eu eks)) (!no wd) (!no vl) an)
  replace hz : EM w z eks := hz
  have B0 := bplus (Below.refl w.heap.size w) (.cells #[.int .i64 2, .int .i64 lt, .string nm, .int .i64 op, .int .i64 ek, .int .i64 en, .int .i64 ed, .int .i64 eu, z, .string wd, .string vl, .bool an] 37)
  have PQ := heap_alloc_new w (.cells #[.int .i64 2, .int .i64 lt, .string nm, .int .i64 op, .int .i64 ek, .int .i64 en, .int .i64 ed, .int .i64 eu, z, .string wd, .string vl, .bool an] 37)
  have CF := hide (fun (w0 W : World) (h0 : Below w.heap.size w w0) (hb : Below w0.heap.size w0 W) => fieldsIn_any ⟨2, lt, nm, op, .mk ek en ed eu eks, wd, vl, an⟩ z W (hz.low (bto h0 hb)))
  have CM4 := hide (fun (w0 W : World) (h0 : Below w.heap.size w w0) (hb : Below w0.heap.size w0 W) => calcMay_any (.mk ek en ed eu eks) z W he (hz.low (bto h0 hb)))
  have CT := hide (fun (W : World) => isTruth_any lt W)
  have G0 := hide (fun (w0 W : World) (h0 : Below w.heap.size w w0) (hb : Below w0.heap.size w0 W) => hF.low (bto h0 hb))
  simp only [lfV, exV, Ex.k, Ex.n, Ex.d, Ex.u] at CF CM4 ⊢
  generalize fB (lt != 0) (!no nm) (op != 0) (!noE (.mk ek en ed eu eks)) (!no wd) (!no vl) an = fb at *
  clear hz hF
  cases hm : (lt != 0 || op != 0 || !noE (.mk ek en ed eu eks) || !no wd || !no vl || an)
  · rw [hm] at M BD
    replace BD : Hid ((bits .andNot .i64 fb 2 != 0) = false) := BD
    have BZ := BD.out
    have M2 := hide (show lfM ⟨2, lt, nm, op, .mk ek en ed eu eks, wd, vl, an⟩ = !no nm by rw [M.out]; rfl)
    clear M BD
    have F := M2
    go_enter Tryd.func50, Tryd.ntmps50
    go_upto_region 1 with fail
    generalize w.alloc (.cells #[.int .i64 2, .int .i64 lt, .string nm, .int .i64 op, .int .i64 ek, .int .i64 en, .int .i64 ed, .int .i64 eu, z, .string wd, .string vl, .bool an] 37) = w0 at *
    have HB0 := hide B0
    have HP := hide PQ
    replace CF := hide (fun W hb => CF.out w0 W B0 hb)
    replace CM4 := hide (fun W hb => CM4.out w0 W B0 hb)
    replace G0 := hide (fun W hb => G0.out w0 W B0 hb)
    have KH := hide (fun (w' : World) (hQ : Below w0.heap.size w0 w') => show w'.cell? ⟨w.heap.size, 0, none⟩ = some (.int .i64 2) ∧ w'.cell? ⟨w.heap.size, 1, none⟩ = some (.int .i64 lt) ∧ w'.cell? ⟨w.heap.size, 2, none⟩ = some (.string nm) ∧ w'.cell? ⟨w.heap.size, 3, none⟩ = some (.int .i64 op) ∧ w'.cell? ⟨w.heap.size, 4, none⟩ = some (.int .i64 ek) ∧ w'.cell? ⟨w.heap.size, 5, none⟩ = some (.int .i64 en) ∧ w'.cell? ⟨w.heap.size, 6, none⟩ = some (.int .i64 ed) ∧ w'.cell? ⟨w.heap.size, 7, none⟩ = some (.int .i64 eu) ∧ w'.cell? ⟨w.heap.size, 8, none⟩ = some z ∧ w'.cell? ⟨w.heap.size, 9, none⟩ = some (.string wd) ∧ w'.cell? ⟨w.heap.size, 10, none⟩ = some (.string vl) ∧ w'.cell? ⟨w.heap.size, 11, none⟩ = some (.bool an) ∧ w'.cell? ⟨0, 2, none⟩ = some (.int .i64 2) from by
      obtain ⟨q0, q1, q2, q3, q4, q5, q6, q7, q8, q9, qa, qb⟩ := keep12 hQ HP.out
      obtain ⟨-, g0, g1, g2, g3, g4, g5, g6⟩ := G0.out _ hQ
      exact ⟨q0, q1, q2, q3, q4, q5, q6, q7, q8, q9, qa, qb, g2⟩)
    clear B0 PQ
    go_region_held3 (fun w' => w'.cell? ⟨w.heap.size, 0, none⟩ = some (.int .i64 2) ∧ w'.cell? ⟨w.heap.size, 1, none⟩ = some (.int .i64 lt) ∧ w'.cell? ⟨w.heap.size, 2, none⟩ = some (.string nm) ∧ w'.cell? ⟨w.heap.size, 3, none⟩ = some (.int .i64 op) ∧ w'.cell? ⟨w.heap.size, 4, none⟩ = some (.int .i64 ek) ∧ w'.cell? ⟨w.heap.size, 5, none⟩ = some (.int .i64 en) ∧ w'.cell? ⟨w.heap.size, 6, none⟩ = some (.int .i64 ed) ∧ w'.cell? ⟨w.heap.size, 7, none⟩ = some (.int .i64 eu) ∧ w'.cell? ⟨w.heap.size, 8, none⟩ = some z ∧ w'.cell? ⟨w.heap.size, 9, none⟩ = some (.string wd) ∧ w'.cell? ⟨w.heap.size, 10, none⟩ = some (.string vl) ∧ w'.cell? ⟨w.heap.size, 11, none⟩ = some (.bool an) ∧ w'.cell? ⟨0, 2, none⟩ = some (.int .i64 2))
      ((refine KH.out _ ?_; (repeat (first | exact Below.refl _ _ | (with_reducible refine Below.drew ?_) | (with_reducible refine below_drewN ?_ _) | (refine bto ?_ (by assumption)))); done))
      (first
        | (go_at_call 61; refine (CF.out _ (by repeat (first | exact Below.refl _ _ | (with_reducible refine Below.drew ?_) | (with_reducible refine below_drewN ?_ _) | (refine bto ?_ (by assumption))))).mono ?_; rintro _ wl ⟨rfl, hl⟩))
    all_goals
      obtain ⟨q0, q1, q2, q3, q4, q5, q6, q7, q8, q9, qa, qb, -⟩ := KH.out wl (by repeat (first | exact Below.refl _ _ | (with_reducible refine Below.drew ?_) | (with_reducible refine below_drewN ?_ _) | (refine bto ?_ (by assumption))))
      go_wp2_with (first
        | (go_at_call 42; refine (CT.out _).mono ?_; rintro _ wm ⟨rfl, rfl⟩)
        | (go_at_call 62; refine (CM4.out _ (by repeat (first | exact Below.refl _ _ | (with_reducible refine Below.drew ?_) | (with_reducible refine below_drewN ?_ _) | (refine bto ?_ (by assumption))))).mono ?_; rintro _ wm ⟨rfl, hm⟩))
      go_ret
      refine ⟨ret_bool F.out.symm, bto HB0.out ?_⟩
      repeat (first | exact Below.refl _ _ | (with_reducible refine Below.drew ?_) | (with_reducible refine below_drewN ?_ _) | (refine bto ?_ (by assumption)))
  · rw [hm] at M BD
    have BZ := BD.out
    have F := hide (show lfM ⟨2, lt, nm, op, .mk ek en ed eu eks, wd, vl, an⟩ = false by rw [M.out]; rfl)
    clear M BD
    go_enter Tryd.func50, Tryd.ntmps50
    go_upto_region 1 with fail
    generalize w.alloc (.cells #[.int .i64 2, .int .i64 lt, .string nm, .int .i64 op, .int .i64 ek, .int .i64 en, .int .i64 ed, .int .i64 eu, z, .string wd, .string vl, .bool an] 37) = w0 at *
    have HB0 := hide B0
    have HP := hide PQ
    replace CF := hide (fun W hb => CF.out w0 W B0 hb)
    replace CM4 := hide (fun W hb => CM4.out w0 W B0 hb)
    replace G0 := hide (fun W hb => G0.out w0 W B0 hb)
    have KH := hide (fun (w' : World) (hQ : Below w0.heap.size w0 w') => show w'.cell? ⟨w.heap.size, 0, none⟩ = some (.int .i64 2) ∧ w'.cell? ⟨w.heap.size, 1, none⟩ = some (.int .i64 lt) ∧ w'.cell? ⟨w.heap.size, 2, none⟩ = some (.string nm) ∧ w'.cell? ⟨w.heap.size, 3, none⟩ = some (.int .i64 op) ∧ w'.cell? ⟨w.heap.size, 4, none⟩ = some (.int .i64 ek) ∧ w'.cell? ⟨w.heap.size, 5, none⟩ = some (.int .i64 en) ∧ w'.cell? ⟨w.heap.size, 6, none⟩ = some (.int .i64 ed) ∧ w'.cell? ⟨w.heap.size, 7, none⟩ = some (.int .i64 eu) ∧ w'.cell? ⟨w.heap.size, 8, none⟩ = some z ∧ w'.cell? ⟨w.heap.size, 9, none⟩ = some (.string wd) ∧ w'.cell? ⟨w.heap.size, 10, none⟩ = some (.string vl) ∧ w'.cell? ⟨w.heap.size, 11, none⟩ = some (.bool an) ∧ w'.cell? ⟨0, 2, none⟩ = some (.int .i64 2) from by
      obtain ⟨q0, q1, q2, q3, q4, q5, q6, q7, q8, q9, qa, qb⟩ := keep12 hQ HP.out
      obtain ⟨-, g0, g1, g2, g3, g4, g5, g6⟩ := G0.out _ hQ
      exact ⟨q0, q1, q2, q3, q4, q5, q6, q7, q8, q9, qa, qb, g2⟩)
    clear B0 PQ
    go_region_held3 (fun w' => w'.cell? ⟨w.heap.size, 0, none⟩ = some (.int .i64 2) ∧ w'.cell? ⟨w.heap.size, 1, none⟩ = some (.int .i64 lt) ∧ w'.cell? ⟨w.heap.size, 2, none⟩ = some (.string nm) ∧ w'.cell? ⟨w.heap.size, 3, none⟩ = some (.int .i64 op) ∧ w'.cell? ⟨w.heap.size, 4, none⟩ = some (.int .i64 ek) ∧ w'.cell? ⟨w.heap.size, 5, none⟩ = some (.int .i64 en) ∧ w'.cell? ⟨w.heap.size, 6, none⟩ = some (.int .i64 ed) ∧ w'.cell? ⟨w.heap.size, 7, none⟩ = some (.int .i64 eu) ∧ w'.cell? ⟨w.heap.size, 8, none⟩ = some z ∧ w'.cell? ⟨w.heap.size, 9, none⟩ = some (.string wd) ∧ w'.cell? ⟨w.heap.size, 10, none⟩ = some (.string vl) ∧ w'.cell? ⟨w.heap.size, 11, none⟩ = some (.bool an) ∧ w'.cell? ⟨0, 2, none⟩ = some (.int .i64 2))
      ((refine KH.out _ ?_; (repeat (first | exact Below.refl _ _ | (with_reducible refine Below.drew ?_) | (with_reducible refine below_drewN ?_ _) | (refine bto ?_ (by assumption)))); done))
      (first
        | (go_at_call 61; refine (CF.out _ (by repeat (first | exact Below.refl _ _ | (with_reducible refine Below.drew ?_) | (with_reducible refine below_drewN ?_ _) | (refine bto ?_ (by assumption))))).mono ?_; rintro _ wl ⟨rfl, hl⟩))
    all_goals
      go_wp2
      go_ret
      refine ⟨ret_bool F.out.symm, bto HB0.out ?_⟩
      repeat (first | exact Below.refl _ _ | (with_reducible refine Below.drew ?_) | (with_reducible refine below_drewN ?_ _) | (refine bto ?_ (by assumption)))
set_option maxRecDepth 100000 in
set_option maxHeartbeats 4000000 in
theorem leaf_3 (lt : Int) (nm : ByteArray) (op : Int) (E0 : Ex) (wd vl : ByteArray) (an : Bool) (z : Value) (w : World) (he : E0.Ok) (hz : EM w z E0.ks) (hF : FO w) : Calls Tryd.prog 50 #[lfV ⟨3, lt, nm, op, E0, wd, vl, an⟩ z] w fun e w' => e = .returned (.bool (lfM ⟨3, lt, nm, op, E0, wd, vl, an⟩)) ∧ Below w.heap.size w w' := by
  obtain ⟨ek, en, ed, eu, eks⟩ := E0
  have M := hide (lfM_3 lt nm op (.mk ek en ed eu eks) wd vl an)
  have BD := hide (bad2 (lt != 0) (!no nm) (op != 0) (!noE (.mk ek en ed eu eks)) (!no wd) (!no vl) an)
  replace hz : EM w z eks := hz
  have B0 := bplus (Below.refl w.heap.size w) (.cells #[.int .i64 3, .int .i64 lt, .string nm, .int .i64 op, .int .i64 ek, .int .i64 en, .int .i64 ed, .int .i64 eu, z, .string wd, .string vl, .bool an] 37)
  have PQ := heap_alloc_new w (.cells #[.int .i64 3, .int .i64 lt, .string nm, .int .i64 op, .int .i64 ek, .int .i64 en, .int .i64 ed, .int .i64 eu, z, .string wd, .string vl, .bool an] 37)
  have CF := hide (fun (w0 W : World) (h0 : Below w.heap.size w w0) (hb : Below w0.heap.size w0 W) => fieldsIn_any ⟨3, lt, nm, op, .mk ek en ed eu eks, wd, vl, an⟩ z W (hz.low (bto h0 hb)))
  have CM4 := hide (fun (w0 W : World) (h0 : Below w.heap.size w w0) (hb : Below w0.heap.size w0 W) => calcMay_any (.mk ek en ed eu eks) z W he (hz.low (bto h0 hb)))
  have CT := hide (fun (W : World) => isTruth_any lt W)
  have G0 := hide (fun (w0 W : World) (h0 : Below w.heap.size w w0) (hb : Below w0.heap.size w0 W) => hF.low (bto h0 hb))
  simp only [lfV, exV, Ex.k, Ex.n, Ex.d, Ex.u] at CF CM4 ⊢
  generalize fB (lt != 0) (!no nm) (op != 0) (!noE (.mk ek en ed eu eks)) (!no wd) (!no vl) an = fb at *
  clear hz hF
  cases hm : (lt != 0 || op != 0 || !noE (.mk ek en ed eu eks) || !no wd || !no vl || an)
  · rw [hm] at M BD
    replace BD : Hid ((bits .andNot .i64 fb 2 != 0) = false) := BD
    have BZ := BD.out
    have M2 := hide (show lfM ⟨3, lt, nm, op, .mk ek en ed eu eks, wd, vl, an⟩ = !no nm by rw [M.out]; rfl)
    clear M BD
    have F := M2
    go_enter Tryd.func50, Tryd.ntmps50
    go_upto_region 1 with fail
    generalize w.alloc (.cells #[.int .i64 3, .int .i64 lt, .string nm, .int .i64 op, .int .i64 ek, .int .i64 en, .int .i64 ed, .int .i64 eu, z, .string wd, .string vl, .bool an] 37) = w0 at *
    have HB0 := hide B0
    have HP := hide PQ
    replace CF := hide (fun W hb => CF.out w0 W B0 hb)
    replace CM4 := hide (fun W hb => CM4.out w0 W B0 hb)
    replace G0 := hide (fun W hb => G0.out w0 W B0 hb)
    have KH := hide (fun (w' : World) (hQ : Below w0.heap.size w0 w') => show w'.cell? ⟨w.heap.size, 0, none⟩ = some (.int .i64 3) ∧ w'.cell? ⟨w.heap.size, 1, none⟩ = some (.int .i64 lt) ∧ w'.cell? ⟨w.heap.size, 2, none⟩ = some (.string nm) ∧ w'.cell? ⟨w.heap.size, 3, none⟩ = some (.int .i64 op) ∧ w'.cell? ⟨w.heap.size, 4, none⟩ = some (.int .i64 ek) ∧ w'.cell? ⟨w.heap.size, 5, none⟩ = some (.int .i64 en) ∧ w'.cell? ⟨w.heap.size, 6, none⟩ = some (.int .i64 ed) ∧ w'.cell? ⟨w.heap.size, 7, none⟩ = some (.int .i64 eu) ∧ w'.cell? ⟨w.heap.size, 8, none⟩ = some z ∧ w'.cell? ⟨w.heap.size, 9, none⟩ = some (.string wd) ∧ w'.cell? ⟨w.heap.size, 10, none⟩ = some (.string vl) ∧ w'.cell? ⟨w.heap.size, 11, none⟩ = some (.bool an) ∧ w'.cell? ⟨0, 3, none⟩ = some (.int .i64 2) from by
      obtain ⟨q0, q1, q2, q3, q4, q5, q6, q7, q8, q9, qa, qb⟩ := keep12 hQ HP.out
      obtain ⟨-, g0, g1, g2, g3, g4, g5, g6⟩ := G0.out _ hQ
      exact ⟨q0, q1, q2, q3, q4, q5, q6, q7, q8, q9, qa, qb, g3⟩)
    clear B0 PQ
    go_region_held3 (fun w' => w'.cell? ⟨w.heap.size, 0, none⟩ = some (.int .i64 3) ∧ w'.cell? ⟨w.heap.size, 1, none⟩ = some (.int .i64 lt) ∧ w'.cell? ⟨w.heap.size, 2, none⟩ = some (.string nm) ∧ w'.cell? ⟨w.heap.size, 3, none⟩ = some (.int .i64 op) ∧ w'.cell? ⟨w.heap.size, 4, none⟩ = some (.int .i64 ek) ∧ w'.cell? ⟨w.heap.size, 5, none⟩ = some (.int .i64 en) ∧ w'.cell? ⟨w.heap.size, 6, none⟩ = some (.int .i64 ed) ∧ w'.cell? ⟨w.heap.size, 7, none⟩ = some (.int .i64 eu) ∧ w'.cell? ⟨w.heap.size, 8, none⟩ = some z ∧ w'.cell? ⟨w.heap.size, 9, none⟩ = some (.string wd) ∧ w'.cell? ⟨w.heap.size, 10, none⟩ = some (.string vl) ∧ w'.cell? ⟨w.heap.size, 11, none⟩ = some (.bool an) ∧ w'.cell? ⟨0, 3, none⟩ = some (.int .i64 2))
      ((refine KH.out _ ?_; (repeat (first | exact Below.refl _ _ | (with_reducible refine Below.drew ?_) | (with_reducible refine below_drewN ?_ _) | (refine bto ?_ (by assumption)))); done))
      (first
        | (go_at_call 61; refine (CF.out _ (by repeat (first | exact Below.refl _ _ | (with_reducible refine Below.drew ?_) | (with_reducible refine below_drewN ?_ _) | (refine bto ?_ (by assumption))))).mono ?_; rintro _ wl ⟨rfl, hl⟩))
    all_goals
      obtain ⟨q0, q1, q2, q3, q4, q5, q6, q7, q8, q9, qa, qb, -⟩ := KH.out wl (by repeat (first | exact Below.refl _ _ | (with_reducible refine Below.drew ?_) | (with_reducible refine below_drewN ?_ _) | (refine bto ?_ (by assumption))))
      go_wp2_with (first
        | (go_at_call 42; refine (CT.out _).mono ?_; rintro _ wm ⟨rfl, rfl⟩)
        | (go_at_call 62; refine (CM4.out _ (by repeat (first | exact Below.refl _ _ | (with_reducible refine Below.drew ?_) | (with_reducible refine below_drewN ?_ _) | (refine bto ?_ (by assumption))))).mono ?_; rintro _ wm ⟨rfl, hm⟩))
      go_ret
      refine ⟨ret_bool F.out.symm, bto HB0.out ?_⟩
      repeat (first | exact Below.refl _ _ | (with_reducible refine Below.drew ?_) | (with_reducible refine below_drewN ?_ _) | (refine bto ?_ (by assumption)))
  · rw [hm] at M BD
    have BZ := BD.out
    have F := hide (show lfM ⟨3, lt, nm, op, .mk ek en ed eu eks, wd, vl, an⟩ = false by rw [M.out]; rfl)
    clear M BD
    go_enter Tryd.func50, Tryd.ntmps50
    go_upto_region 1 with fail
    generalize w.alloc (.cells #[.int .i64 3, .int .i64 lt, .string nm, .int .i64 op, .int .i64 ek, .int .i64 en, .int .i64 ed, .int .i64 eu, z, .string wd, .string vl, .bool an] 37) = w0 at *
    have HB0 := hide B0
    have HP := hide PQ
    replace CF := hide (fun W hb => CF.out w0 W B0 hb)
    replace CM4 := hide (fun W hb => CM4.out w0 W B0 hb)
    replace G0 := hide (fun W hb => G0.out w0 W B0 hb)
    have KH := hide (fun (w' : World) (hQ : Below w0.heap.size w0 w') => show w'.cell? ⟨w.heap.size, 0, none⟩ = some (.int .i64 3) ∧ w'.cell? ⟨w.heap.size, 1, none⟩ = some (.int .i64 lt) ∧ w'.cell? ⟨w.heap.size, 2, none⟩ = some (.string nm) ∧ w'.cell? ⟨w.heap.size, 3, none⟩ = some (.int .i64 op) ∧ w'.cell? ⟨w.heap.size, 4, none⟩ = some (.int .i64 ek) ∧ w'.cell? ⟨w.heap.size, 5, none⟩ = some (.int .i64 en) ∧ w'.cell? ⟨w.heap.size, 6, none⟩ = some (.int .i64 ed) ∧ w'.cell? ⟨w.heap.size, 7, none⟩ = some (.int .i64 eu) ∧ w'.cell? ⟨w.heap.size, 8, none⟩ = some z ∧ w'.cell? ⟨w.heap.size, 9, none⟩ = some (.string wd) ∧ w'.cell? ⟨w.heap.size, 10, none⟩ = some (.string vl) ∧ w'.cell? ⟨w.heap.size, 11, none⟩ = some (.bool an) ∧ w'.cell? ⟨0, 3, none⟩ = some (.int .i64 2) from by
      obtain ⟨q0, q1, q2, q3, q4, q5, q6, q7, q8, q9, qa, qb⟩ := keep12 hQ HP.out
      obtain ⟨-, g0, g1, g2, g3, g4, g5, g6⟩ := G0.out _ hQ
      exact ⟨q0, q1, q2, q3, q4, q5, q6, q7, q8, q9, qa, qb, g3⟩)
    clear B0 PQ
    go_region_held3 (fun w' => w'.cell? ⟨w.heap.size, 0, none⟩ = some (.int .i64 3) ∧ w'.cell? ⟨w.heap.size, 1, none⟩ = some (.int .i64 lt) ∧ w'.cell? ⟨w.heap.size, 2, none⟩ = some (.string nm) ∧ w'.cell? ⟨w.heap.size, 3, none⟩ = some (.int .i64 op) ∧ w'.cell? ⟨w.heap.size, 4, none⟩ = some (.int .i64 ek) ∧ w'.cell? ⟨w.heap.size, 5, none⟩ = some (.int .i64 en) ∧ w'.cell? ⟨w.heap.size, 6, none⟩ = some (.int .i64 ed) ∧ w'.cell? ⟨w.heap.size, 7, none⟩ = some (.int .i64 eu) ∧ w'.cell? ⟨w.heap.size, 8, none⟩ = some z ∧ w'.cell? ⟨w.heap.size, 9, none⟩ = some (.string wd) ∧ w'.cell? ⟨w.heap.size, 10, none⟩ = some (.string vl) ∧ w'.cell? ⟨w.heap.size, 11, none⟩ = some (.bool an) ∧ w'.cell? ⟨0, 3, none⟩ = some (.int .i64 2))
      ((refine KH.out _ ?_; (repeat (first | exact Below.refl _ _ | (with_reducible refine Below.drew ?_) | (with_reducible refine below_drewN ?_ _) | (refine bto ?_ (by assumption)))); done))
      (first
        | (go_at_call 61; refine (CF.out _ (by repeat (first | exact Below.refl _ _ | (with_reducible refine Below.drew ?_) | (with_reducible refine below_drewN ?_ _) | (refine bto ?_ (by assumption))))).mono ?_; rintro _ wl ⟨rfl, hl⟩))
    all_goals
      go_wp2
      go_ret
      refine ⟨ret_bool F.out.symm, bto HB0.out ?_⟩
      repeat (first | exact Below.refl _ _ | (with_reducible refine Below.drew ?_) | (with_reducible refine below_drewN ?_ _) | (refine bto ?_ (by assumption)))
set_option maxRecDepth 100000 in
set_option maxHeartbeats 4000000 in
theorem leaf_4 (lt : Int) (nm : ByteArray) (op : Int) (E0 : Ex) (wd vl : ByteArray) (an : Bool) (z : Value) (w : World) (he : E0.Ok) (hz : EM w z E0.ks) (hF : FO w) : Calls Tryd.prog 50 #[lfV ⟨4, lt, nm, op, E0, wd, vl, an⟩ z] w fun e w' => e = .returned (.bool (lfM ⟨4, lt, nm, op, E0, wd, vl, an⟩)) ∧ Below w.heap.size w w' := by
  obtain ⟨ek, en, ed, eu, eks⟩ := E0
  have M := hide (lfM_4 lt nm op (.mk ek en ed eu eks) wd vl an)
  have BD := hide (bad4 (lt != 0) (!no nm) (op != 0) (!noE (.mk ek en ed eu eks)) (!no wd) (!no vl) an)
  replace hz : EM w z eks := hz
  have B0 := bplus (Below.refl w.heap.size w) (.cells #[.int .i64 4, .int .i64 lt, .string nm, .int .i64 op, .int .i64 ek, .int .i64 en, .int .i64 ed, .int .i64 eu, z, .string wd, .string vl, .bool an] 37)
  have PQ := heap_alloc_new w (.cells #[.int .i64 4, .int .i64 lt, .string nm, .int .i64 op, .int .i64 ek, .int .i64 en, .int .i64 ed, .int .i64 eu, z, .string wd, .string vl, .bool an] 37)
  have CF := hide (fun (w0 W : World) (h0 : Below w.heap.size w w0) (hb : Below w0.heap.size w0 W) => fieldsIn_any ⟨4, lt, nm, op, .mk ek en ed eu eks, wd, vl, an⟩ z W (hz.low (bto h0 hb)))
  have CM4 := hide (fun (w0 W : World) (h0 : Below w.heap.size w w0) (hb : Below w0.heap.size w0 W) => calcMay_any (.mk ek en ed eu eks) z W he (hz.low (bto h0 hb)))
  have CT := hide (fun (W : World) => isTruth_any lt W)
  have G0 := hide (fun (w0 W : World) (h0 : Below w.heap.size w w0) (hb : Below w0.heap.size w0 W) => hF.low (bto h0 hb))
  simp only [lfV, exV, Ex.k, Ex.n, Ex.d, Ex.u] at CF CM4 ⊢
  generalize fB (lt != 0) (!no nm) (op != 0) (!noE (.mk ek en ed eu eks)) (!no wd) (!no vl) an = fb at *
  clear hz hF
  cases hm : (lt != 0 || !no wd || !no vl || an)
  · rw [hm] at M BD
    replace BD : Hid ((bits .andNot .i64 fb 14 != 0) = false) := BD
    have BZ := BD.out
    have M2 := hide (show lfM ⟨4, lt, nm, op, .mk ek en ed eu eks, wd, vl, an⟩ = (!no nm && (decide (1 ≤ op) && decide (op ≤ 5)) && exM (.mk ek en ed eu eks) 340) by rw [M.out]; rfl)
    clear M BD
    cases hn : nm.toList.isEmpty
    · by_cases h1 : 1 ≤ op
      · by_cases h5 : op ≤ 5
        · have F := hide (show lfM ⟨4, lt, nm, op, .mk ek en ed eu eks, wd, vl, an⟩ = exM (.mk ek en ed eu eks) 340 by rw [M2.out]; simp [no, hn, h1, h5])
          clear M2
          go_enter Tryd.func50, Tryd.ntmps50
          go_upto_region 1 with fail
          generalize w.alloc (.cells #[.int .i64 4, .int .i64 lt, .string nm, .int .i64 op, .int .i64 ek, .int .i64 en, .int .i64 ed, .int .i64 eu, z, .string wd, .string vl, .bool an] 37) = w0 at *
          have HB0 := hide B0
          have HP := hide PQ
          replace CF := hide (fun W hb => CF.out w0 W B0 hb)
          replace CM4 := hide (fun W hb => CM4.out w0 W B0 hb)
          replace G0 := hide (fun W hb => G0.out w0 W B0 hb)
          have KH := hide (fun (w' : World) (hQ : Below w0.heap.size w0 w') => show w'.cell? ⟨w.heap.size, 0, none⟩ = some (.int .i64 4) ∧ w'.cell? ⟨w.heap.size, 1, none⟩ = some (.int .i64 lt) ∧ w'.cell? ⟨w.heap.size, 2, none⟩ = some (.string nm) ∧ w'.cell? ⟨w.heap.size, 3, none⟩ = some (.int .i64 op) ∧ w'.cell? ⟨w.heap.size, 4, none⟩ = some (.int .i64 ek) ∧ w'.cell? ⟨w.heap.size, 5, none⟩ = some (.int .i64 en) ∧ w'.cell? ⟨w.heap.size, 6, none⟩ = some (.int .i64 ed) ∧ w'.cell? ⟨w.heap.size, 7, none⟩ = some (.int .i64 eu) ∧ w'.cell? ⟨w.heap.size, 8, none⟩ = some z ∧ w'.cell? ⟨w.heap.size, 9, none⟩ = some (.string wd) ∧ w'.cell? ⟨w.heap.size, 10, none⟩ = some (.string vl) ∧ w'.cell? ⟨w.heap.size, 11, none⟩ = some (.bool an) ∧ w'.cell? ⟨0, 4, none⟩ = some (.int .i64 14) from by
            obtain ⟨q0, q1, q2, q3, q4, q5, q6, q7, q8, q9, qa, qb⟩ := keep12 hQ HP.out
            obtain ⟨-, g0, g1, g2, g3, g4, g5, g6⟩ := G0.out _ hQ
            exact ⟨q0, q1, q2, q3, q4, q5, q6, q7, q8, q9, qa, qb, g4⟩)
          clear B0 PQ
          go_region_held3 (fun w' => w'.cell? ⟨w.heap.size, 0, none⟩ = some (.int .i64 4) ∧ w'.cell? ⟨w.heap.size, 1, none⟩ = some (.int .i64 lt) ∧ w'.cell? ⟨w.heap.size, 2, none⟩ = some (.string nm) ∧ w'.cell? ⟨w.heap.size, 3, none⟩ = some (.int .i64 op) ∧ w'.cell? ⟨w.heap.size, 4, none⟩ = some (.int .i64 ek) ∧ w'.cell? ⟨w.heap.size, 5, none⟩ = some (.int .i64 en) ∧ w'.cell? ⟨w.heap.size, 6, none⟩ = some (.int .i64 ed) ∧ w'.cell? ⟨w.heap.size, 7, none⟩ = some (.int .i64 eu) ∧ w'.cell? ⟨w.heap.size, 8, none⟩ = some z ∧ w'.cell? ⟨w.heap.size, 9, none⟩ = some (.string wd) ∧ w'.cell? ⟨w.heap.size, 10, none⟩ = some (.string vl) ∧ w'.cell? ⟨w.heap.size, 11, none⟩ = some (.bool an) ∧ w'.cell? ⟨0, 4, none⟩ = some (.int .i64 14))
            ((refine KH.out _ ?_; (repeat (first | exact Below.refl _ _ | (with_reducible refine Below.drew ?_) | (with_reducible refine below_drewN ?_ _) | (refine bto ?_ (by assumption)))); done))
            (first
              | (go_at_call 61; refine (CF.out _ (by repeat (first | exact Below.refl _ _ | (with_reducible refine Below.drew ?_) | (with_reducible refine below_drewN ?_ _) | (refine bto ?_ (by assumption))))).mono ?_; rintro _ wl ⟨rfl, hl⟩))
          all_goals
            obtain ⟨q0, q1, q2, q3, q4, q5, q6, q7, q8, q9, qa, qb, -⟩ := KH.out wl (by repeat (first | exact Below.refl _ _ | (with_reducible refine Below.drew ?_) | (with_reducible refine below_drewN ?_ _) | (refine bto ?_ (by assumption))))
            go_wp2_with (first
              | (go_at_call 42; refine (CT.out _).mono ?_; rintro _ wm ⟨rfl, rfl⟩)
              | (go_at_call 62; refine (CM4.out _ (by repeat (first | exact Below.refl _ _ | (with_reducible refine Below.drew ?_) | (with_reducible refine below_drewN ?_ _) | (refine bto ?_ (by assumption))))).mono ?_; rintro _ wm ⟨rfl, hm⟩))
            go_ret
            refine ⟨ret_bool F.out.symm, bto HB0.out ?_⟩
            repeat (first | exact Below.refl _ _ | (with_reducible refine Below.drew ?_) | (with_reducible refine below_drewN ?_ _) | (refine bto ?_ (by assumption)))
        · have F := hide (show lfM ⟨4, lt, nm, op, .mk ek en ed eu eks, wd, vl, an⟩ = false by rw [M2.out]; simp [no, hn, h1, h5])
          clear M2
          go_enter Tryd.func50, Tryd.ntmps50
          go_upto_region 1 with fail
          generalize w.alloc (.cells #[.int .i64 4, .int .i64 lt, .string nm, .int .i64 op, .int .i64 ek, .int .i64 en, .int .i64 ed, .int .i64 eu, z, .string wd, .string vl, .bool an] 37) = w0 at *
          have HB0 := hide B0
          have HP := hide PQ
          replace CF := hide (fun W hb => CF.out w0 W B0 hb)
          replace CM4 := hide (fun W hb => CM4.out w0 W B0 hb)
          replace G0 := hide (fun W hb => G0.out w0 W B0 hb)
          have KH := hide (fun (w' : World) (hQ : Below w0.heap.size w0 w') => show w'.cell? ⟨w.heap.size, 0, none⟩ = some (.int .i64 4) ∧ w'.cell? ⟨w.heap.size, 1, none⟩ = some (.int .i64 lt) ∧ w'.cell? ⟨w.heap.size, 2, none⟩ = some (.string nm) ∧ w'.cell? ⟨w.heap.size, 3, none⟩ = some (.int .i64 op) ∧ w'.cell? ⟨w.heap.size, 4, none⟩ = some (.int .i64 ek) ∧ w'.cell? ⟨w.heap.size, 5, none⟩ = some (.int .i64 en) ∧ w'.cell? ⟨w.heap.size, 6, none⟩ = some (.int .i64 ed) ∧ w'.cell? ⟨w.heap.size, 7, none⟩ = some (.int .i64 eu) ∧ w'.cell? ⟨w.heap.size, 8, none⟩ = some z ∧ w'.cell? ⟨w.heap.size, 9, none⟩ = some (.string wd) ∧ w'.cell? ⟨w.heap.size, 10, none⟩ = some (.string vl) ∧ w'.cell? ⟨w.heap.size, 11, none⟩ = some (.bool an) ∧ w'.cell? ⟨0, 4, none⟩ = some (.int .i64 14) from by
            obtain ⟨q0, q1, q2, q3, q4, q5, q6, q7, q8, q9, qa, qb⟩ := keep12 hQ HP.out
            obtain ⟨-, g0, g1, g2, g3, g4, g5, g6⟩ := G0.out _ hQ
            exact ⟨q0, q1, q2, q3, q4, q5, q6, q7, q8, q9, qa, qb, g4⟩)
          clear B0 PQ
          go_region_held3 (fun w' => w'.cell? ⟨w.heap.size, 0, none⟩ = some (.int .i64 4) ∧ w'.cell? ⟨w.heap.size, 1, none⟩ = some (.int .i64 lt) ∧ w'.cell? ⟨w.heap.size, 2, none⟩ = some (.string nm) ∧ w'.cell? ⟨w.heap.size, 3, none⟩ = some (.int .i64 op) ∧ w'.cell? ⟨w.heap.size, 4, none⟩ = some (.int .i64 ek) ∧ w'.cell? ⟨w.heap.size, 5, none⟩ = some (.int .i64 en) ∧ w'.cell? ⟨w.heap.size, 6, none⟩ = some (.int .i64 ed) ∧ w'.cell? ⟨w.heap.size, 7, none⟩ = some (.int .i64 eu) ∧ w'.cell? ⟨w.heap.size, 8, none⟩ = some z ∧ w'.cell? ⟨w.heap.size, 9, none⟩ = some (.string wd) ∧ w'.cell? ⟨w.heap.size, 10, none⟩ = some (.string vl) ∧ w'.cell? ⟨w.heap.size, 11, none⟩ = some (.bool an) ∧ w'.cell? ⟨0, 4, none⟩ = some (.int .i64 14))
            ((refine KH.out _ ?_; (repeat (first | exact Below.refl _ _ | (with_reducible refine Below.drew ?_) | (with_reducible refine below_drewN ?_ _) | (refine bto ?_ (by assumption)))); done))
            (first
              | (go_at_call 61; refine (CF.out _ (by repeat (first | exact Below.refl _ _ | (with_reducible refine Below.drew ?_) | (with_reducible refine below_drewN ?_ _) | (refine bto ?_ (by assumption))))).mono ?_; rintro _ wl ⟨rfl, hl⟩))
          all_goals
            obtain ⟨q0, q1, q2, q3, q4, q5, q6, q7, q8, q9, qa, qb, -⟩ := KH.out wl (by repeat (first | exact Below.refl _ _ | (with_reducible refine Below.drew ?_) | (with_reducible refine below_drewN ?_ _) | (refine bto ?_ (by assumption))))
            go_wp2_with (first
              | (go_at_call 42; refine (CT.out _).mono ?_; rintro _ wm ⟨rfl, rfl⟩)
              | (go_at_call 62; refine (CM4.out _ (by repeat (first | exact Below.refl _ _ | (with_reducible refine Below.drew ?_) | (with_reducible refine below_drewN ?_ _) | (refine bto ?_ (by assumption))))).mono ?_; rintro _ wm ⟨rfl, hm⟩))
            go_ret
            refine ⟨ret_bool F.out.symm, bto HB0.out ?_⟩
            repeat (first | exact Below.refl _ _ | (with_reducible refine Below.drew ?_) | (with_reducible refine below_drewN ?_ _) | (refine bto ?_ (by assumption)))
      · have F := hide (show lfM ⟨4, lt, nm, op, .mk ek en ed eu eks, wd, vl, an⟩ = false by rw [M2.out]; simp [no, hn, h1])
        clear M2
        go_enter Tryd.func50, Tryd.ntmps50
        go_upto_region 1 with fail
        generalize w.alloc (.cells #[.int .i64 4, .int .i64 lt, .string nm, .int .i64 op, .int .i64 ek, .int .i64 en, .int .i64 ed, .int .i64 eu, z, .string wd, .string vl, .bool an] 37) = w0 at *
        have HB0 := hide B0
        have HP := hide PQ
        replace CF := hide (fun W hb => CF.out w0 W B0 hb)
        replace CM4 := hide (fun W hb => CM4.out w0 W B0 hb)
        replace G0 := hide (fun W hb => G0.out w0 W B0 hb)
        have KH := hide (fun (w' : World) (hQ : Below w0.heap.size w0 w') => show w'.cell? ⟨w.heap.size, 0, none⟩ = some (.int .i64 4) ∧ w'.cell? ⟨w.heap.size, 1, none⟩ = some (.int .i64 lt) ∧ w'.cell? ⟨w.heap.size, 2, none⟩ = some (.string nm) ∧ w'.cell? ⟨w.heap.size, 3, none⟩ = some (.int .i64 op) ∧ w'.cell? ⟨w.heap.size, 4, none⟩ = some (.int .i64 ek) ∧ w'.cell? ⟨w.heap.size, 5, none⟩ = some (.int .i64 en) ∧ w'.cell? ⟨w.heap.size, 6, none⟩ = some (.int .i64 ed) ∧ w'.cell? ⟨w.heap.size, 7, none⟩ = some (.int .i64 eu) ∧ w'.cell? ⟨w.heap.size, 8, none⟩ = some z ∧ w'.cell? ⟨w.heap.size, 9, none⟩ = some (.string wd) ∧ w'.cell? ⟨w.heap.size, 10, none⟩ = some (.string vl) ∧ w'.cell? ⟨w.heap.size, 11, none⟩ = some (.bool an) ∧ w'.cell? ⟨0, 4, none⟩ = some (.int .i64 14) from by
          obtain ⟨q0, q1, q2, q3, q4, q5, q6, q7, q8, q9, qa, qb⟩ := keep12 hQ HP.out
          obtain ⟨-, g0, g1, g2, g3, g4, g5, g6⟩ := G0.out _ hQ
          exact ⟨q0, q1, q2, q3, q4, q5, q6, q7, q8, q9, qa, qb, g4⟩)
        clear B0 PQ
        go_region_held3 (fun w' => w'.cell? ⟨w.heap.size, 0, none⟩ = some (.int .i64 4) ∧ w'.cell? ⟨w.heap.size, 1, none⟩ = some (.int .i64 lt) ∧ w'.cell? ⟨w.heap.size, 2, none⟩ = some (.string nm) ∧ w'.cell? ⟨w.heap.size, 3, none⟩ = some (.int .i64 op) ∧ w'.cell? ⟨w.heap.size, 4, none⟩ = some (.int .i64 ek) ∧ w'.cell? ⟨w.heap.size, 5, none⟩ = some (.int .i64 en) ∧ w'.cell? ⟨w.heap.size, 6, none⟩ = some (.int .i64 ed) ∧ w'.cell? ⟨w.heap.size, 7, none⟩ = some (.int .i64 eu) ∧ w'.cell? ⟨w.heap.size, 8, none⟩ = some z ∧ w'.cell? ⟨w.heap.size, 9, none⟩ = some (.string wd) ∧ w'.cell? ⟨w.heap.size, 10, none⟩ = some (.string vl) ∧ w'.cell? ⟨w.heap.size, 11, none⟩ = some (.bool an) ∧ w'.cell? ⟨0, 4, none⟩ = some (.int .i64 14))
          ((refine KH.out _ ?_; (repeat (first | exact Below.refl _ _ | (with_reducible refine Below.drew ?_) | (with_reducible refine below_drewN ?_ _) | (refine bto ?_ (by assumption)))); done))
          (first
            | (go_at_call 61; refine (CF.out _ (by repeat (first | exact Below.refl _ _ | (with_reducible refine Below.drew ?_) | (with_reducible refine below_drewN ?_ _) | (refine bto ?_ (by assumption))))).mono ?_; rintro _ wl ⟨rfl, hl⟩))
        all_goals
          obtain ⟨q0, q1, q2, q3, q4, q5, q6, q7, q8, q9, qa, qb, -⟩ := KH.out wl (by repeat (first | exact Below.refl _ _ | (with_reducible refine Below.drew ?_) | (with_reducible refine below_drewN ?_ _) | (refine bto ?_ (by assumption))))
          go_wp2_with (first
            | (go_at_call 42; refine (CT.out _).mono ?_; rintro _ wm ⟨rfl, rfl⟩)
            | (go_at_call 62; refine (CM4.out _ (by repeat (first | exact Below.refl _ _ | (with_reducible refine Below.drew ?_) | (with_reducible refine below_drewN ?_ _) | (refine bto ?_ (by assumption))))).mono ?_; rintro _ wm ⟨rfl, hm⟩))
          go_ret
          refine ⟨ret_bool F.out.symm, bto HB0.out ?_⟩
          repeat (first | exact Below.refl _ _ | (with_reducible refine Below.drew ?_) | (with_reducible refine below_drewN ?_ _) | (refine bto ?_ (by assumption)))
    · have F := hide (show lfM ⟨4, lt, nm, op, .mk ek en ed eu eks, wd, vl, an⟩ = false by rw [M2.out]; simp [no, hn])
      clear M2
      go_enter Tryd.func50, Tryd.ntmps50
      go_upto_region 1 with fail
      generalize w.alloc (.cells #[.int .i64 4, .int .i64 lt, .string nm, .int .i64 op, .int .i64 ek, .int .i64 en, .int .i64 ed, .int .i64 eu, z, .string wd, .string vl, .bool an] 37) = w0 at *
      have HB0 := hide B0
      have HP := hide PQ
      replace CF := hide (fun W hb => CF.out w0 W B0 hb)
      replace CM4 := hide (fun W hb => CM4.out w0 W B0 hb)
      replace G0 := hide (fun W hb => G0.out w0 W B0 hb)
      have KH := hide (fun (w' : World) (hQ : Below w0.heap.size w0 w') => show w'.cell? ⟨w.heap.size, 0, none⟩ = some (.int .i64 4) ∧ w'.cell? ⟨w.heap.size, 1, none⟩ = some (.int .i64 lt) ∧ w'.cell? ⟨w.heap.size, 2, none⟩ = some (.string nm) ∧ w'.cell? ⟨w.heap.size, 3, none⟩ = some (.int .i64 op) ∧ w'.cell? ⟨w.heap.size, 4, none⟩ = some (.int .i64 ek) ∧ w'.cell? ⟨w.heap.size, 5, none⟩ = some (.int .i64 en) ∧ w'.cell? ⟨w.heap.size, 6, none⟩ = some (.int .i64 ed) ∧ w'.cell? ⟨w.heap.size, 7, none⟩ = some (.int .i64 eu) ∧ w'.cell? ⟨w.heap.size, 8, none⟩ = some z ∧ w'.cell? ⟨w.heap.size, 9, none⟩ = some (.string wd) ∧ w'.cell? ⟨w.heap.size, 10, none⟩ = some (.string vl) ∧ w'.cell? ⟨w.heap.size, 11, none⟩ = some (.bool an) ∧ w'.cell? ⟨0, 4, none⟩ = some (.int .i64 14) from by
        obtain ⟨q0, q1, q2, q3, q4, q5, q6, q7, q8, q9, qa, qb⟩ := keep12 hQ HP.out
        obtain ⟨-, g0, g1, g2, g3, g4, g5, g6⟩ := G0.out _ hQ
        exact ⟨q0, q1, q2, q3, q4, q5, q6, q7, q8, q9, qa, qb, g4⟩)
      clear B0 PQ
      go_region_held3 (fun w' => w'.cell? ⟨w.heap.size, 0, none⟩ = some (.int .i64 4) ∧ w'.cell? ⟨w.heap.size, 1, none⟩ = some (.int .i64 lt) ∧ w'.cell? ⟨w.heap.size, 2, none⟩ = some (.string nm) ∧ w'.cell? ⟨w.heap.size, 3, none⟩ = some (.int .i64 op) ∧ w'.cell? ⟨w.heap.size, 4, none⟩ = some (.int .i64 ek) ∧ w'.cell? ⟨w.heap.size, 5, none⟩ = some (.int .i64 en) ∧ w'.cell? ⟨w.heap.size, 6, none⟩ = some (.int .i64 ed) ∧ w'.cell? ⟨w.heap.size, 7, none⟩ = some (.int .i64 eu) ∧ w'.cell? ⟨w.heap.size, 8, none⟩ = some z ∧ w'.cell? ⟨w.heap.size, 9, none⟩ = some (.string wd) ∧ w'.cell? ⟨w.heap.size, 10, none⟩ = some (.string vl) ∧ w'.cell? ⟨w.heap.size, 11, none⟩ = some (.bool an) ∧ w'.cell? ⟨0, 4, none⟩ = some (.int .i64 14))
        ((refine KH.out _ ?_; (repeat (first | exact Below.refl _ _ | (with_reducible refine Below.drew ?_) | (with_reducible refine below_drewN ?_ _) | (refine bto ?_ (by assumption)))); done))
        (first
          | (go_at_call 61; refine (CF.out _ (by repeat (first | exact Below.refl _ _ | (with_reducible refine Below.drew ?_) | (with_reducible refine below_drewN ?_ _) | (refine bto ?_ (by assumption))))).mono ?_; rintro _ wl ⟨rfl, hl⟩))
      all_goals
        obtain ⟨q0, q1, q2, q3, q4, q5, q6, q7, q8, q9, qa, qb, -⟩ := KH.out wl (by repeat (first | exact Below.refl _ _ | (with_reducible refine Below.drew ?_) | (with_reducible refine below_drewN ?_ _) | (refine bto ?_ (by assumption))))
        go_wp2_with (first
          | (go_at_call 42; refine (CT.out _).mono ?_; rintro _ wm ⟨rfl, rfl⟩)
          | (go_at_call 62; refine (CM4.out _ (by repeat (first | exact Below.refl _ _ | (with_reducible refine Below.drew ?_) | (with_reducible refine below_drewN ?_ _) | (refine bto ?_ (by assumption))))).mono ?_; rintro _ wm ⟨rfl, hm⟩))
        go_ret
        refine ⟨ret_bool F.out.symm, bto HB0.out ?_⟩
        repeat (first | exact Below.refl _ _ | (with_reducible refine Below.drew ?_) | (with_reducible refine below_drewN ?_ _) | (refine bto ?_ (by assumption)))
  · rw [hm] at M BD
    have BZ := BD.out
    have F := hide (show lfM ⟨4, lt, nm, op, .mk ek en ed eu eks, wd, vl, an⟩ = false by rw [M.out]; rfl)
    clear M BD
    go_enter Tryd.func50, Tryd.ntmps50
    go_upto_region 1 with fail
    generalize w.alloc (.cells #[.int .i64 4, .int .i64 lt, .string nm, .int .i64 op, .int .i64 ek, .int .i64 en, .int .i64 ed, .int .i64 eu, z, .string wd, .string vl, .bool an] 37) = w0 at *
    have HB0 := hide B0
    have HP := hide PQ
    replace CF := hide (fun W hb => CF.out w0 W B0 hb)
    replace CM4 := hide (fun W hb => CM4.out w0 W B0 hb)
    replace G0 := hide (fun W hb => G0.out w0 W B0 hb)
    have KH := hide (fun (w' : World) (hQ : Below w0.heap.size w0 w') => show w'.cell? ⟨w.heap.size, 0, none⟩ = some (.int .i64 4) ∧ w'.cell? ⟨w.heap.size, 1, none⟩ = some (.int .i64 lt) ∧ w'.cell? ⟨w.heap.size, 2, none⟩ = some (.string nm) ∧ w'.cell? ⟨w.heap.size, 3, none⟩ = some (.int .i64 op) ∧ w'.cell? ⟨w.heap.size, 4, none⟩ = some (.int .i64 ek) ∧ w'.cell? ⟨w.heap.size, 5, none⟩ = some (.int .i64 en) ∧ w'.cell? ⟨w.heap.size, 6, none⟩ = some (.int .i64 ed) ∧ w'.cell? ⟨w.heap.size, 7, none⟩ = some (.int .i64 eu) ∧ w'.cell? ⟨w.heap.size, 8, none⟩ = some z ∧ w'.cell? ⟨w.heap.size, 9, none⟩ = some (.string wd) ∧ w'.cell? ⟨w.heap.size, 10, none⟩ = some (.string vl) ∧ w'.cell? ⟨w.heap.size, 11, none⟩ = some (.bool an) ∧ w'.cell? ⟨0, 4, none⟩ = some (.int .i64 14) from by
      obtain ⟨q0, q1, q2, q3, q4, q5, q6, q7, q8, q9, qa, qb⟩ := keep12 hQ HP.out
      obtain ⟨-, g0, g1, g2, g3, g4, g5, g6⟩ := G0.out _ hQ
      exact ⟨q0, q1, q2, q3, q4, q5, q6, q7, q8, q9, qa, qb, g4⟩)
    clear B0 PQ
    go_region_held3 (fun w' => w'.cell? ⟨w.heap.size, 0, none⟩ = some (.int .i64 4) ∧ w'.cell? ⟨w.heap.size, 1, none⟩ = some (.int .i64 lt) ∧ w'.cell? ⟨w.heap.size, 2, none⟩ = some (.string nm) ∧ w'.cell? ⟨w.heap.size, 3, none⟩ = some (.int .i64 op) ∧ w'.cell? ⟨w.heap.size, 4, none⟩ = some (.int .i64 ek) ∧ w'.cell? ⟨w.heap.size, 5, none⟩ = some (.int .i64 en) ∧ w'.cell? ⟨w.heap.size, 6, none⟩ = some (.int .i64 ed) ∧ w'.cell? ⟨w.heap.size, 7, none⟩ = some (.int .i64 eu) ∧ w'.cell? ⟨w.heap.size, 8, none⟩ = some z ∧ w'.cell? ⟨w.heap.size, 9, none⟩ = some (.string wd) ∧ w'.cell? ⟨w.heap.size, 10, none⟩ = some (.string vl) ∧ w'.cell? ⟨w.heap.size, 11, none⟩ = some (.bool an) ∧ w'.cell? ⟨0, 4, none⟩ = some (.int .i64 14))
      ((refine KH.out _ ?_; (repeat (first | exact Below.refl _ _ | (with_reducible refine Below.drew ?_) | (with_reducible refine below_drewN ?_ _) | (refine bto ?_ (by assumption)))); done))
      (first
        | (go_at_call 61; refine (CF.out _ (by repeat (first | exact Below.refl _ _ | (with_reducible refine Below.drew ?_) | (with_reducible refine below_drewN ?_ _) | (refine bto ?_ (by assumption))))).mono ?_; rintro _ wl ⟨rfl, hl⟩))
    all_goals
      go_wp2
      go_ret
      refine ⟨ret_bool F.out.symm, bto HB0.out ?_⟩
      repeat (first | exact Below.refl _ _ | (with_reducible refine Below.drew ?_) | (with_reducible refine below_drewN ?_ _) | (refine bto ?_ (by assumption)))
set_option maxRecDepth 100000 in
set_option maxHeartbeats 4000000 in
theorem leaf_5 (lt : Int) (nm : ByteArray) (op : Int) (E0 : Ex) (wd vl : ByteArray) (an : Bool) (z : Value) (w : World) (he : E0.Ok) (hz : EM w z E0.ks) (hF : FO w) : Calls Tryd.prog 50 #[lfV ⟨5, lt, nm, op, E0, wd, vl, an⟩ z] w fun e w' => e = .returned (.bool (lfM ⟨5, lt, nm, op, E0, wd, vl, an⟩)) ∧ Below w.heap.size w w' := by
  obtain ⟨ek, en, ed, eu, eks⟩ := E0
  have M := hide (lfM_5 lt nm op (.mk ek en ed eu eks) wd vl an)
  have BD := hide (bad5 (lt != 0) (!no nm) (op != 0) (!noE (.mk ek en ed eu eks)) (!no wd) (!no vl) an)
  replace hz : EM w z eks := hz
  have B0 := bplus (Below.refl w.heap.size w) (.cells #[.int .i64 5, .int .i64 lt, .string nm, .int .i64 op, .int .i64 ek, .int .i64 en, .int .i64 ed, .int .i64 eu, z, .string wd, .string vl, .bool an] 37)
  have PQ := heap_alloc_new w (.cells #[.int .i64 5, .int .i64 lt, .string nm, .int .i64 op, .int .i64 ek, .int .i64 en, .int .i64 ed, .int .i64 eu, z, .string wd, .string vl, .bool an] 37)
  have CF := hide (fun (w0 W : World) (h0 : Below w.heap.size w w0) (hb : Below w0.heap.size w0 W) => fieldsIn_any ⟨5, lt, nm, op, .mk ek en ed eu eks, wd, vl, an⟩ z W (hz.low (bto h0 hb)))
  have CM4 := hide (fun (w0 W : World) (h0 : Below w.heap.size w w0) (hb : Below w0.heap.size w0 W) => calcMay_any (.mk ek en ed eu eks) z W he (hz.low (bto h0 hb)))
  have CT := hide (fun (W : World) => isTruth_any lt W)
  have G0 := hide (fun (w0 W : World) (h0 : Below w.heap.size w w0) (hb : Below w0.heap.size w0 W) => hF.low (bto h0 hb))
  simp only [lfV, exV, Ex.k, Ex.n, Ex.d, Ex.u] at CF CM4 ⊢
  generalize fB (lt != 0) (!no nm) (op != 0) (!noE (.mk ek en ed eu eks)) (!no wd) (!no vl) an = fb at *
  clear hz hF
  cases hm : (lt != 0 || op != 0 || !noE (.mk ek en ed eu eks) || !no vl || an)
  · rw [hm] at M BD
    replace BD : Hid ((bits .andNot .i64 fb 18 != 0) = false) := BD
    have BZ := BD.out
    have M2 := hide (show lfM ⟨5, lt, nm, op, .mk ek en ed eu eks, wd, vl, an⟩ = !no nm by rw [M.out]; rfl)
    clear M BD
    have F := M2
    go_enter Tryd.func50, Tryd.ntmps50
    go_upto_region 1 with fail
    generalize w.alloc (.cells #[.int .i64 5, .int .i64 lt, .string nm, .int .i64 op, .int .i64 ek, .int .i64 en, .int .i64 ed, .int .i64 eu, z, .string wd, .string vl, .bool an] 37) = w0 at *
    have HB0 := hide B0
    have HP := hide PQ
    replace CF := hide (fun W hb => CF.out w0 W B0 hb)
    replace CM4 := hide (fun W hb => CM4.out w0 W B0 hb)
    replace G0 := hide (fun W hb => G0.out w0 W B0 hb)
    have KH := hide (fun (w' : World) (hQ : Below w0.heap.size w0 w') => show w'.cell? ⟨w.heap.size, 0, none⟩ = some (.int .i64 5) ∧ w'.cell? ⟨w.heap.size, 1, none⟩ = some (.int .i64 lt) ∧ w'.cell? ⟨w.heap.size, 2, none⟩ = some (.string nm) ∧ w'.cell? ⟨w.heap.size, 3, none⟩ = some (.int .i64 op) ∧ w'.cell? ⟨w.heap.size, 4, none⟩ = some (.int .i64 ek) ∧ w'.cell? ⟨w.heap.size, 5, none⟩ = some (.int .i64 en) ∧ w'.cell? ⟨w.heap.size, 6, none⟩ = some (.int .i64 ed) ∧ w'.cell? ⟨w.heap.size, 7, none⟩ = some (.int .i64 eu) ∧ w'.cell? ⟨w.heap.size, 8, none⟩ = some z ∧ w'.cell? ⟨w.heap.size, 9, none⟩ = some (.string wd) ∧ w'.cell? ⟨w.heap.size, 10, none⟩ = some (.string vl) ∧ w'.cell? ⟨w.heap.size, 11, none⟩ = some (.bool an) ∧ w'.cell? ⟨0, 5, none⟩ = some (.int .i64 18) from by
      obtain ⟨q0, q1, q2, q3, q4, q5, q6, q7, q8, q9, qa, qb⟩ := keep12 hQ HP.out
      obtain ⟨-, g0, g1, g2, g3, g4, g5, g6⟩ := G0.out _ hQ
      exact ⟨q0, q1, q2, q3, q4, q5, q6, q7, q8, q9, qa, qb, g5⟩)
    clear B0 PQ
    go_region_held3 (fun w' => w'.cell? ⟨w.heap.size, 0, none⟩ = some (.int .i64 5) ∧ w'.cell? ⟨w.heap.size, 1, none⟩ = some (.int .i64 lt) ∧ w'.cell? ⟨w.heap.size, 2, none⟩ = some (.string nm) ∧ w'.cell? ⟨w.heap.size, 3, none⟩ = some (.int .i64 op) ∧ w'.cell? ⟨w.heap.size, 4, none⟩ = some (.int .i64 ek) ∧ w'.cell? ⟨w.heap.size, 5, none⟩ = some (.int .i64 en) ∧ w'.cell? ⟨w.heap.size, 6, none⟩ = some (.int .i64 ed) ∧ w'.cell? ⟨w.heap.size, 7, none⟩ = some (.int .i64 eu) ∧ w'.cell? ⟨w.heap.size, 8, none⟩ = some z ∧ w'.cell? ⟨w.heap.size, 9, none⟩ = some (.string wd) ∧ w'.cell? ⟨w.heap.size, 10, none⟩ = some (.string vl) ∧ w'.cell? ⟨w.heap.size, 11, none⟩ = some (.bool an) ∧ w'.cell? ⟨0, 5, none⟩ = some (.int .i64 18))
      ((refine KH.out _ ?_; (repeat (first | exact Below.refl _ _ | (with_reducible refine Below.drew ?_) | (with_reducible refine below_drewN ?_ _) | (refine bto ?_ (by assumption)))); done))
      (first
        | (go_at_call 61; refine (CF.out _ (by repeat (first | exact Below.refl _ _ | (with_reducible refine Below.drew ?_) | (with_reducible refine below_drewN ?_ _) | (refine bto ?_ (by assumption))))).mono ?_; rintro _ wl ⟨rfl, hl⟩))
    all_goals
      obtain ⟨q0, q1, q2, q3, q4, q5, q6, q7, q8, q9, qa, qb, -⟩ := KH.out wl (by repeat (first | exact Below.refl _ _ | (with_reducible refine Below.drew ?_) | (with_reducible refine below_drewN ?_ _) | (refine bto ?_ (by assumption))))
      go_wp2_with (first
        | (go_at_call 42; refine (CT.out _).mono ?_; rintro _ wm ⟨rfl, rfl⟩)
        | (go_at_call 62; refine (CM4.out _ (by repeat (first | exact Below.refl _ _ | (with_reducible refine Below.drew ?_) | (with_reducible refine below_drewN ?_ _) | (refine bto ?_ (by assumption))))).mono ?_; rintro _ wm ⟨rfl, hm⟩))
      go_ret
      refine ⟨ret_bool F.out.symm, bto HB0.out ?_⟩
      repeat (first | exact Below.refl _ _ | (with_reducible refine Below.drew ?_) | (with_reducible refine below_drewN ?_ _) | (refine bto ?_ (by assumption)))
  · rw [hm] at M BD
    have BZ := BD.out
    have F := hide (show lfM ⟨5, lt, nm, op, .mk ek en ed eu eks, wd, vl, an⟩ = false by rw [M.out]; rfl)
    clear M BD
    go_enter Tryd.func50, Tryd.ntmps50
    go_upto_region 1 with fail
    generalize w.alloc (.cells #[.int .i64 5, .int .i64 lt, .string nm, .int .i64 op, .int .i64 ek, .int .i64 en, .int .i64 ed, .int .i64 eu, z, .string wd, .string vl, .bool an] 37) = w0 at *
    have HB0 := hide B0
    have HP := hide PQ
    replace CF := hide (fun W hb => CF.out w0 W B0 hb)
    replace CM4 := hide (fun W hb => CM4.out w0 W B0 hb)
    replace G0 := hide (fun W hb => G0.out w0 W B0 hb)
    have KH := hide (fun (w' : World) (hQ : Below w0.heap.size w0 w') => show w'.cell? ⟨w.heap.size, 0, none⟩ = some (.int .i64 5) ∧ w'.cell? ⟨w.heap.size, 1, none⟩ = some (.int .i64 lt) ∧ w'.cell? ⟨w.heap.size, 2, none⟩ = some (.string nm) ∧ w'.cell? ⟨w.heap.size, 3, none⟩ = some (.int .i64 op) ∧ w'.cell? ⟨w.heap.size, 4, none⟩ = some (.int .i64 ek) ∧ w'.cell? ⟨w.heap.size, 5, none⟩ = some (.int .i64 en) ∧ w'.cell? ⟨w.heap.size, 6, none⟩ = some (.int .i64 ed) ∧ w'.cell? ⟨w.heap.size, 7, none⟩ = some (.int .i64 eu) ∧ w'.cell? ⟨w.heap.size, 8, none⟩ = some z ∧ w'.cell? ⟨w.heap.size, 9, none⟩ = some (.string wd) ∧ w'.cell? ⟨w.heap.size, 10, none⟩ = some (.string vl) ∧ w'.cell? ⟨w.heap.size, 11, none⟩ = some (.bool an) ∧ w'.cell? ⟨0, 5, none⟩ = some (.int .i64 18) from by
      obtain ⟨q0, q1, q2, q3, q4, q5, q6, q7, q8, q9, qa, qb⟩ := keep12 hQ HP.out
      obtain ⟨-, g0, g1, g2, g3, g4, g5, g6⟩ := G0.out _ hQ
      exact ⟨q0, q1, q2, q3, q4, q5, q6, q7, q8, q9, qa, qb, g5⟩)
    clear B0 PQ
    go_region_held3 (fun w' => w'.cell? ⟨w.heap.size, 0, none⟩ = some (.int .i64 5) ∧ w'.cell? ⟨w.heap.size, 1, none⟩ = some (.int .i64 lt) ∧ w'.cell? ⟨w.heap.size, 2, none⟩ = some (.string nm) ∧ w'.cell? ⟨w.heap.size, 3, none⟩ = some (.int .i64 op) ∧ w'.cell? ⟨w.heap.size, 4, none⟩ = some (.int .i64 ek) ∧ w'.cell? ⟨w.heap.size, 5, none⟩ = some (.int .i64 en) ∧ w'.cell? ⟨w.heap.size, 6, none⟩ = some (.int .i64 ed) ∧ w'.cell? ⟨w.heap.size, 7, none⟩ = some (.int .i64 eu) ∧ w'.cell? ⟨w.heap.size, 8, none⟩ = some z ∧ w'.cell? ⟨w.heap.size, 9, none⟩ = some (.string wd) ∧ w'.cell? ⟨w.heap.size, 10, none⟩ = some (.string vl) ∧ w'.cell? ⟨w.heap.size, 11, none⟩ = some (.bool an) ∧ w'.cell? ⟨0, 5, none⟩ = some (.int .i64 18))
      ((refine KH.out _ ?_; (repeat (first | exact Below.refl _ _ | (with_reducible refine Below.drew ?_) | (with_reducible refine below_drewN ?_ _) | (refine bto ?_ (by assumption)))); done))
      (first
        | (go_at_call 61; refine (CF.out _ (by repeat (first | exact Below.refl _ _ | (with_reducible refine Below.drew ?_) | (with_reducible refine below_drewN ?_ _) | (refine bto ?_ (by assumption))))).mono ?_; rintro _ wl ⟨rfl, hl⟩))
    all_goals
      go_wp2
      go_ret
      refine ⟨ret_bool F.out.symm, bto HB0.out ?_⟩
      repeat (first | exact Below.refl _ _ | (with_reducible refine Below.drew ?_) | (with_reducible refine below_drewN ?_ _) | (refine bto ?_ (by assumption)))
set_option maxRecDepth 100000 in
set_option maxHeartbeats 4000000 in
theorem leaf_6 (lt : Int) (nm : ByteArray) (op : Int) (E0 : Ex) (wd vl : ByteArray) (an : Bool) (z : Value) (w : World) (he : E0.Ok) (hz : EM w z E0.ks) (hF : FO w) : Calls Tryd.prog 50 #[lfV ⟨6, lt, nm, op, E0, wd, vl, an⟩ z] w fun e w' => e = .returned (.bool (lfM ⟨6, lt, nm, op, E0, wd, vl, an⟩)) ∧ Below w.heap.size w w' := by
  obtain ⟨ek, en, ed, eu, eks⟩ := E0
  have M := hide (lfM_6 lt nm op (.mk ek en ed eu eks) wd vl an)
  have BD := hide (bad6 (lt != 0) (!no nm) (op != 0) (!noE (.mk ek en ed eu eks)) (!no wd) (!no vl) an)
  replace hz : EM w z eks := hz
  have B0 := bplus (Below.refl w.heap.size w) (.cells #[.int .i64 6, .int .i64 lt, .string nm, .int .i64 op, .int .i64 ek, .int .i64 en, .int .i64 ed, .int .i64 eu, z, .string wd, .string vl, .bool an] 37)
  have PQ := heap_alloc_new w (.cells #[.int .i64 6, .int .i64 lt, .string nm, .int .i64 op, .int .i64 ek, .int .i64 en, .int .i64 ed, .int .i64 eu, z, .string wd, .string vl, .bool an] 37)
  have CF := hide (fun (w0 W : World) (h0 : Below w.heap.size w w0) (hb : Below w0.heap.size w0 W) => fieldsIn_any ⟨6, lt, nm, op, .mk ek en ed eu eks, wd, vl, an⟩ z W (hz.low (bto h0 hb)))
  have CM4 := hide (fun (w0 W : World) (h0 : Below w.heap.size w w0) (hb : Below w0.heap.size w0 W) => calcMay_any (.mk ek en ed eu eks) z W he (hz.low (bto h0 hb)))
  have CT := hide (fun (W : World) => isTruth_any lt W)
  have G0 := hide (fun (w0 W : World) (h0 : Below w.heap.size w w0) (hb : Below w0.heap.size w0 W) => hF.low (bto h0 hb))
  simp only [lfV, exV, Ex.k, Ex.n, Ex.d, Ex.u] at CF CM4 ⊢
  generalize fB (lt != 0) (!no nm) (op != 0) (!noE (.mk ek en ed eu eks)) (!no wd) (!no vl) an = fb at *
  clear hz hF
  cases hm : (lt != 0 || op != 0 || !noE (.mk ek en ed eu eks) || !no wd)
  · rw [hm] at M BD
    replace BD : Hid ((bits .andNot .i64 fb 98 != 0) = false) := BD
    have BZ := BD.out
    have M2 := hide (show lfM ⟨6, lt, nm, op, .mk ek en ed eu eks, wd, vl, an⟩ = (!no nm && !(an && !no vl)) by rw [M.out]; rfl)
    clear M BD
    cases hn : nm.toList.isEmpty
    · cases an
      · have F := hide (show lfM ⟨6, lt, nm, op, .mk ek en ed eu eks, wd, vl, false⟩ = true by rw [M2.out]; simp [no, hn])
        clear M2
        go_enter Tryd.func50, Tryd.ntmps50
        go_upto_region 1 with fail
        generalize w.alloc (.cells #[.int .i64 6, .int .i64 lt, .string nm, .int .i64 op, .int .i64 ek, .int .i64 en, .int .i64 ed, .int .i64 eu, z, .string wd, .string vl, .bool false] 37) = w0 at *
        have HB0 := hide B0
        have HP := hide PQ
        replace CF := hide (fun W hb => CF.out w0 W B0 hb)
        replace CM4 := hide (fun W hb => CM4.out w0 W B0 hb)
        replace G0 := hide (fun W hb => G0.out w0 W B0 hb)
        have KH := hide (fun (w' : World) (hQ : Below w0.heap.size w0 w') => show w'.cell? ⟨w.heap.size, 0, none⟩ = some (.int .i64 6) ∧ w'.cell? ⟨w.heap.size, 1, none⟩ = some (.int .i64 lt) ∧ w'.cell? ⟨w.heap.size, 2, none⟩ = some (.string nm) ∧ w'.cell? ⟨w.heap.size, 3, none⟩ = some (.int .i64 op) ∧ w'.cell? ⟨w.heap.size, 4, none⟩ = some (.int .i64 ek) ∧ w'.cell? ⟨w.heap.size, 5, none⟩ = some (.int .i64 en) ∧ w'.cell? ⟨w.heap.size, 6, none⟩ = some (.int .i64 ed) ∧ w'.cell? ⟨w.heap.size, 7, none⟩ = some (.int .i64 eu) ∧ w'.cell? ⟨w.heap.size, 8, none⟩ = some z ∧ w'.cell? ⟨w.heap.size, 9, none⟩ = some (.string wd) ∧ w'.cell? ⟨w.heap.size, 10, none⟩ = some (.string vl) ∧ w'.cell? ⟨w.heap.size, 11, none⟩ = some (.bool false) ∧ w'.cell? ⟨0, 6, none⟩ = some (.int .i64 98) from by
          obtain ⟨q0, q1, q2, q3, q4, q5, q6, q7, q8, q9, qa, qb⟩ := keep12 hQ HP.out
          obtain ⟨-, g0, g1, g2, g3, g4, g5, g6⟩ := G0.out _ hQ
          exact ⟨q0, q1, q2, q3, q4, q5, q6, q7, q8, q9, qa, qb, g6⟩)
        clear B0 PQ
        go_region_held3 (fun w' => w'.cell? ⟨w.heap.size, 0, none⟩ = some (.int .i64 6) ∧ w'.cell? ⟨w.heap.size, 1, none⟩ = some (.int .i64 lt) ∧ w'.cell? ⟨w.heap.size, 2, none⟩ = some (.string nm) ∧ w'.cell? ⟨w.heap.size, 3, none⟩ = some (.int .i64 op) ∧ w'.cell? ⟨w.heap.size, 4, none⟩ = some (.int .i64 ek) ∧ w'.cell? ⟨w.heap.size, 5, none⟩ = some (.int .i64 en) ∧ w'.cell? ⟨w.heap.size, 6, none⟩ = some (.int .i64 ed) ∧ w'.cell? ⟨w.heap.size, 7, none⟩ = some (.int .i64 eu) ∧ w'.cell? ⟨w.heap.size, 8, none⟩ = some z ∧ w'.cell? ⟨w.heap.size, 9, none⟩ = some (.string wd) ∧ w'.cell? ⟨w.heap.size, 10, none⟩ = some (.string vl) ∧ w'.cell? ⟨w.heap.size, 11, none⟩ = some (.bool false) ∧ w'.cell? ⟨0, 6, none⟩ = some (.int .i64 98))
          ((refine KH.out _ ?_; (repeat (first | exact Below.refl _ _ | (with_reducible refine Below.drew ?_) | (with_reducible refine below_drewN ?_ _) | (refine bto ?_ (by assumption)))); done))
          (first
            | (go_at_call 61; refine (CF.out _ (by repeat (first | exact Below.refl _ _ | (with_reducible refine Below.drew ?_) | (with_reducible refine below_drewN ?_ _) | (refine bto ?_ (by assumption))))).mono ?_; rintro _ wl ⟨rfl, hl⟩))
        all_goals
          obtain ⟨q0, q1, q2, q3, q4, q5, q6, q7, q8, q9, qa, qb, -⟩ := KH.out wl (by repeat (first | exact Below.refl _ _ | (with_reducible refine Below.drew ?_) | (with_reducible refine below_drewN ?_ _) | (refine bto ?_ (by assumption))))
          go_wp2_with (first
            | (go_at_call 42; refine (CT.out _).mono ?_; rintro _ wm ⟨rfl, rfl⟩)
            | (go_at_call 62; refine (CM4.out _ (by repeat (first | exact Below.refl _ _ | (with_reducible refine Below.drew ?_) | (with_reducible refine below_drewN ?_ _) | (refine bto ?_ (by assumption))))).mono ?_; rintro _ wm ⟨rfl, hm⟩))
          go_ret
          refine ⟨ret_bool F.out.symm, bto HB0.out ?_⟩
          repeat (first | exact Below.refl _ _ | (with_reducible refine Below.drew ?_) | (with_reducible refine below_drewN ?_ _) | (refine bto ?_ (by assumption)))
      · have F := hide (show lfM ⟨6, lt, nm, op, .mk ek en ed eu eks, wd, vl, true⟩ = vl.toList.isEmpty by rw [M2.out]; simp [no, hn])
        clear M2
        go_enter Tryd.func50, Tryd.ntmps50
        go_upto_region 1 with fail
        generalize w.alloc (.cells #[.int .i64 6, .int .i64 lt, .string nm, .int .i64 op, .int .i64 ek, .int .i64 en, .int .i64 ed, .int .i64 eu, z, .string wd, .string vl, .bool true] 37) = w0 at *
        have HB0 := hide B0
        have HP := hide PQ
        replace CF := hide (fun W hb => CF.out w0 W B0 hb)
        replace CM4 := hide (fun W hb => CM4.out w0 W B0 hb)
        replace G0 := hide (fun W hb => G0.out w0 W B0 hb)
        have KH := hide (fun (w' : World) (hQ : Below w0.heap.size w0 w') => show w'.cell? ⟨w.heap.size, 0, none⟩ = some (.int .i64 6) ∧ w'.cell? ⟨w.heap.size, 1, none⟩ = some (.int .i64 lt) ∧ w'.cell? ⟨w.heap.size, 2, none⟩ = some (.string nm) ∧ w'.cell? ⟨w.heap.size, 3, none⟩ = some (.int .i64 op) ∧ w'.cell? ⟨w.heap.size, 4, none⟩ = some (.int .i64 ek) ∧ w'.cell? ⟨w.heap.size, 5, none⟩ = some (.int .i64 en) ∧ w'.cell? ⟨w.heap.size, 6, none⟩ = some (.int .i64 ed) ∧ w'.cell? ⟨w.heap.size, 7, none⟩ = some (.int .i64 eu) ∧ w'.cell? ⟨w.heap.size, 8, none⟩ = some z ∧ w'.cell? ⟨w.heap.size, 9, none⟩ = some (.string wd) ∧ w'.cell? ⟨w.heap.size, 10, none⟩ = some (.string vl) ∧ w'.cell? ⟨w.heap.size, 11, none⟩ = some (.bool true) ∧ w'.cell? ⟨0, 6, none⟩ = some (.int .i64 98) from by
          obtain ⟨q0, q1, q2, q3, q4, q5, q6, q7, q8, q9, qa, qb⟩ := keep12 hQ HP.out
          obtain ⟨-, g0, g1, g2, g3, g4, g5, g6⟩ := G0.out _ hQ
          exact ⟨q0, q1, q2, q3, q4, q5, q6, q7, q8, q9, qa, qb, g6⟩)
        clear B0 PQ
        go_region_held3 (fun w' => w'.cell? ⟨w.heap.size, 0, none⟩ = some (.int .i64 6) ∧ w'.cell? ⟨w.heap.size, 1, none⟩ = some (.int .i64 lt) ∧ w'.cell? ⟨w.heap.size, 2, none⟩ = some (.string nm) ∧ w'.cell? ⟨w.heap.size, 3, none⟩ = some (.int .i64 op) ∧ w'.cell? ⟨w.heap.size, 4, none⟩ = some (.int .i64 ek) ∧ w'.cell? ⟨w.heap.size, 5, none⟩ = some (.int .i64 en) ∧ w'.cell? ⟨w.heap.size, 6, none⟩ = some (.int .i64 ed) ∧ w'.cell? ⟨w.heap.size, 7, none⟩ = some (.int .i64 eu) ∧ w'.cell? ⟨w.heap.size, 8, none⟩ = some z ∧ w'.cell? ⟨w.heap.size, 9, none⟩ = some (.string wd) ∧ w'.cell? ⟨w.heap.size, 10, none⟩ = some (.string vl) ∧ w'.cell? ⟨w.heap.size, 11, none⟩ = some (.bool true) ∧ w'.cell? ⟨0, 6, none⟩ = some (.int .i64 98))
          ((refine KH.out _ ?_; (repeat (first | exact Below.refl _ _ | (with_reducible refine Below.drew ?_) | (with_reducible refine below_drewN ?_ _) | (refine bto ?_ (by assumption)))); done))
          (first
            | (go_at_call 61; refine (CF.out _ (by repeat (first | exact Below.refl _ _ | (with_reducible refine Below.drew ?_) | (with_reducible refine below_drewN ?_ _) | (refine bto ?_ (by assumption))))).mono ?_; rintro _ wl ⟨rfl, hl⟩))
        all_goals
          obtain ⟨q0, q1, q2, q3, q4, q5, q6, q7, q8, q9, qa, qb, -⟩ := KH.out wl (by repeat (first | exact Below.refl _ _ | (with_reducible refine Below.drew ?_) | (with_reducible refine below_drewN ?_ _) | (refine bto ?_ (by assumption))))
          go_wp2_with (first
            | (go_at_call 42; refine (CT.out _).mono ?_; rintro _ wm ⟨rfl, rfl⟩)
            | (go_at_call 62; refine (CM4.out _ (by repeat (first | exact Below.refl _ _ | (with_reducible refine Below.drew ?_) | (with_reducible refine below_drewN ?_ _) | (refine bto ?_ (by assumption))))).mono ?_; rintro _ wm ⟨rfl, hm⟩))
          go_ret
          refine ⟨ret_bool F.out.symm, bto HB0.out ?_⟩
          repeat (first | exact Below.refl _ _ | (with_reducible refine Below.drew ?_) | (with_reducible refine below_drewN ?_ _) | (refine bto ?_ (by assumption)))
    · have F := hide (show lfM ⟨6, lt, nm, op, .mk ek en ed eu eks, wd, vl, an⟩ = false by rw [M2.out]; simp [no, hn])
      clear M2
      go_enter Tryd.func50, Tryd.ntmps50
      go_upto_region 1 with fail
      generalize w.alloc (.cells #[.int .i64 6, .int .i64 lt, .string nm, .int .i64 op, .int .i64 ek, .int .i64 en, .int .i64 ed, .int .i64 eu, z, .string wd, .string vl, .bool an] 37) = w0 at *
      have HB0 := hide B0
      have HP := hide PQ
      replace CF := hide (fun W hb => CF.out w0 W B0 hb)
      replace CM4 := hide (fun W hb => CM4.out w0 W B0 hb)
      replace G0 := hide (fun W hb => G0.out w0 W B0 hb)
      have KH := hide (fun (w' : World) (hQ : Below w0.heap.size w0 w') => show w'.cell? ⟨w.heap.size, 0, none⟩ = some (.int .i64 6) ∧ w'.cell? ⟨w.heap.size, 1, none⟩ = some (.int .i64 lt) ∧ w'.cell? ⟨w.heap.size, 2, none⟩ = some (.string nm) ∧ w'.cell? ⟨w.heap.size, 3, none⟩ = some (.int .i64 op) ∧ w'.cell? ⟨w.heap.size, 4, none⟩ = some (.int .i64 ek) ∧ w'.cell? ⟨w.heap.size, 5, none⟩ = some (.int .i64 en) ∧ w'.cell? ⟨w.heap.size, 6, none⟩ = some (.int .i64 ed) ∧ w'.cell? ⟨w.heap.size, 7, none⟩ = some (.int .i64 eu) ∧ w'.cell? ⟨w.heap.size, 8, none⟩ = some z ∧ w'.cell? ⟨w.heap.size, 9, none⟩ = some (.string wd) ∧ w'.cell? ⟨w.heap.size, 10, none⟩ = some (.string vl) ∧ w'.cell? ⟨w.heap.size, 11, none⟩ = some (.bool an) ∧ w'.cell? ⟨0, 6, none⟩ = some (.int .i64 98) from by
        obtain ⟨q0, q1, q2, q3, q4, q5, q6, q7, q8, q9, qa, qb⟩ := keep12 hQ HP.out
        obtain ⟨-, g0, g1, g2, g3, g4, g5, g6⟩ := G0.out _ hQ
        exact ⟨q0, q1, q2, q3, q4, q5, q6, q7, q8, q9, qa, qb, g6⟩)
      clear B0 PQ
      go_region_held3 (fun w' => w'.cell? ⟨w.heap.size, 0, none⟩ = some (.int .i64 6) ∧ w'.cell? ⟨w.heap.size, 1, none⟩ = some (.int .i64 lt) ∧ w'.cell? ⟨w.heap.size, 2, none⟩ = some (.string nm) ∧ w'.cell? ⟨w.heap.size, 3, none⟩ = some (.int .i64 op) ∧ w'.cell? ⟨w.heap.size, 4, none⟩ = some (.int .i64 ek) ∧ w'.cell? ⟨w.heap.size, 5, none⟩ = some (.int .i64 en) ∧ w'.cell? ⟨w.heap.size, 6, none⟩ = some (.int .i64 ed) ∧ w'.cell? ⟨w.heap.size, 7, none⟩ = some (.int .i64 eu) ∧ w'.cell? ⟨w.heap.size, 8, none⟩ = some z ∧ w'.cell? ⟨w.heap.size, 9, none⟩ = some (.string wd) ∧ w'.cell? ⟨w.heap.size, 10, none⟩ = some (.string vl) ∧ w'.cell? ⟨w.heap.size, 11, none⟩ = some (.bool an) ∧ w'.cell? ⟨0, 6, none⟩ = some (.int .i64 98))
        ((refine KH.out _ ?_; (repeat (first | exact Below.refl _ _ | (with_reducible refine Below.drew ?_) | (with_reducible refine below_drewN ?_ _) | (refine bto ?_ (by assumption)))); done))
        (first
          | (go_at_call 61; refine (CF.out _ (by repeat (first | exact Below.refl _ _ | (with_reducible refine Below.drew ?_) | (with_reducible refine below_drewN ?_ _) | (refine bto ?_ (by assumption))))).mono ?_; rintro _ wl ⟨rfl, hl⟩))
      all_goals
        obtain ⟨q0, q1, q2, q3, q4, q5, q6, q7, q8, q9, qa, qb, -⟩ := KH.out wl (by repeat (first | exact Below.refl _ _ | (with_reducible refine Below.drew ?_) | (with_reducible refine below_drewN ?_ _) | (refine bto ?_ (by assumption))))
        go_wp2_with (first
          | (go_at_call 42; refine (CT.out _).mono ?_; rintro _ wm ⟨rfl, rfl⟩)
          | (go_at_call 62; refine (CM4.out _ (by repeat (first | exact Below.refl _ _ | (with_reducible refine Below.drew ?_) | (with_reducible refine below_drewN ?_ _) | (refine bto ?_ (by assumption))))).mono ?_; rintro _ wm ⟨rfl, hm⟩))
        go_ret
        refine ⟨ret_bool F.out.symm, bto HB0.out ?_⟩
        repeat (first | exact Below.refl _ _ | (with_reducible refine Below.drew ?_) | (with_reducible refine below_drewN ?_ _) | (refine bto ?_ (by assumption)))
  · rw [hm] at M BD
    have BZ := BD.out
    have F := hide (show lfM ⟨6, lt, nm, op, .mk ek en ed eu eks, wd, vl, an⟩ = false by rw [M.out]; rfl)
    clear M BD
    go_enter Tryd.func50, Tryd.ntmps50
    go_upto_region 1 with fail
    generalize w.alloc (.cells #[.int .i64 6, .int .i64 lt, .string nm, .int .i64 op, .int .i64 ek, .int .i64 en, .int .i64 ed, .int .i64 eu, z, .string wd, .string vl, .bool an] 37) = w0 at *
    have HB0 := hide B0
    have HP := hide PQ
    replace CF := hide (fun W hb => CF.out w0 W B0 hb)
    replace CM4 := hide (fun W hb => CM4.out w0 W B0 hb)
    replace G0 := hide (fun W hb => G0.out w0 W B0 hb)
    have KH := hide (fun (w' : World) (hQ : Below w0.heap.size w0 w') => show w'.cell? ⟨w.heap.size, 0, none⟩ = some (.int .i64 6) ∧ w'.cell? ⟨w.heap.size, 1, none⟩ = some (.int .i64 lt) ∧ w'.cell? ⟨w.heap.size, 2, none⟩ = some (.string nm) ∧ w'.cell? ⟨w.heap.size, 3, none⟩ = some (.int .i64 op) ∧ w'.cell? ⟨w.heap.size, 4, none⟩ = some (.int .i64 ek) ∧ w'.cell? ⟨w.heap.size, 5, none⟩ = some (.int .i64 en) ∧ w'.cell? ⟨w.heap.size, 6, none⟩ = some (.int .i64 ed) ∧ w'.cell? ⟨w.heap.size, 7, none⟩ = some (.int .i64 eu) ∧ w'.cell? ⟨w.heap.size, 8, none⟩ = some z ∧ w'.cell? ⟨w.heap.size, 9, none⟩ = some (.string wd) ∧ w'.cell? ⟨w.heap.size, 10, none⟩ = some (.string vl) ∧ w'.cell? ⟨w.heap.size, 11, none⟩ = some (.bool an) ∧ w'.cell? ⟨0, 6, none⟩ = some (.int .i64 98) from by
      obtain ⟨q0, q1, q2, q3, q4, q5, q6, q7, q8, q9, qa, qb⟩ := keep12 hQ HP.out
      obtain ⟨-, g0, g1, g2, g3, g4, g5, g6⟩ := G0.out _ hQ
      exact ⟨q0, q1, q2, q3, q4, q5, q6, q7, q8, q9, qa, qb, g6⟩)
    clear B0 PQ
    go_region_held3 (fun w' => w'.cell? ⟨w.heap.size, 0, none⟩ = some (.int .i64 6) ∧ w'.cell? ⟨w.heap.size, 1, none⟩ = some (.int .i64 lt) ∧ w'.cell? ⟨w.heap.size, 2, none⟩ = some (.string nm) ∧ w'.cell? ⟨w.heap.size, 3, none⟩ = some (.int .i64 op) ∧ w'.cell? ⟨w.heap.size, 4, none⟩ = some (.int .i64 ek) ∧ w'.cell? ⟨w.heap.size, 5, none⟩ = some (.int .i64 en) ∧ w'.cell? ⟨w.heap.size, 6, none⟩ = some (.int .i64 ed) ∧ w'.cell? ⟨w.heap.size, 7, none⟩ = some (.int .i64 eu) ∧ w'.cell? ⟨w.heap.size, 8, none⟩ = some z ∧ w'.cell? ⟨w.heap.size, 9, none⟩ = some (.string wd) ∧ w'.cell? ⟨w.heap.size, 10, none⟩ = some (.string vl) ∧ w'.cell? ⟨w.heap.size, 11, none⟩ = some (.bool an) ∧ w'.cell? ⟨0, 6, none⟩ = some (.int .i64 98))
      ((refine KH.out _ ?_; (repeat (first | exact Below.refl _ _ | (with_reducible refine Below.drew ?_) | (with_reducible refine below_drewN ?_ _) | (refine bto ?_ (by assumption)))); done))
      (first
        | (go_at_call 61; refine (CF.out _ (by repeat (first | exact Below.refl _ _ | (with_reducible refine Below.drew ?_) | (with_reducible refine below_drewN ?_ _) | (refine bto ?_ (by assumption))))).mono ?_; rintro _ wl ⟨rfl, hl⟩))
    all_goals
      go_wp2
      go_ret
      refine ⟨ret_bool F.out.symm, bto HB0.out ?_⟩
      repeat (first | exact Below.refl _ _ | (with_reducible refine Below.drew ?_) | (with_reducible refine below_drewN ?_ _) | (refine bto ?_ (by assumption)))
end Go.Proofs.YtpcdhdllclenaaaDoor.cd
