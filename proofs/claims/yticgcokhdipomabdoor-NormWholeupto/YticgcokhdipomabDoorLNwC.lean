/-
  How many numbers, and whether all are whole and small: the walk.
-/
import Derived.Test.YticgcokhdipomabDoorLNwB
import Derived.Test.YticgcokhdipomabDoorLNuG
set_option linter.unusedVariables false
set_option linter.unusedSimpArgs false
namespace Go.Proofs.YticgcokhdipomabDoor.nm
open Go.RowKit cc

def RelFw (w : World) (l : List Ex) (j : Nat) (e5 : List Value) (q i : Value) (wr : World) : Prop := ∃ (m c : Nat), i = .int .i64 m ∧ m ≤ l.length ∧ q = .int .i64 c ∧ Hid (c = fwC (l.take m) j ∧ (∀ y ∈ l.take m, (fwE y j).2 = true) ∧ Bk wr w.heap.size 26 e5 ∧ Below w.heap.size w wr)
theorem RelFw.mk {w : World} {l : List Ex} {j : Nat} {e5 : List Value} {q i : Value} {wr : World} (m c : Nat) (h1 : i = .int .i64 m) (h2 : m ≤ l.length) (h3 : q = .int .i64 c) (h4 : c = fwC (l.take m) j) (h5 : ∀ y ∈ l.take m, (fwE y j).2 = true) (h6 : Bk wr w.heap.size 26 e5) (h7 : Below w.heap.size w wr) : RelFw w l j e5 q i wr := ⟨m, c, h1, h2, h3, h4, h5, h6, h7⟩
theorem szEs_take (l : List Ex) (m : Nat) : szEs (l.take m) ≤ szEs l := by
  induction l generalizing m with
  | nil => simp
  | cons x r ih =>
    cases m with
    | zero => rw [List.take_zero, szEs_nil]; omega
    | succ m => rw [List.take_succ_cons, szEs_cons, szEs_cons]; have := ih m; omega
theorem fwC_snoc {l : List Ex} {m j : Nat} {y : Ex} (h : l[m]? = some y) : fwC (l.take (m + 1)) j = fwC (l.take m) j + (fwE y j).1 := by
  unfold fwC
  rw [List.take_add_one, h, List.map_append, List.sum_append]
  simp
def fwR (o : Option Nat) (M : Bool) : Nat × Bool := match o with | some m => (m, M) | none => (0, false)
theorem fwE_mk2 (k n d u : Int) (ks : List Ex) (j : Nat) : fwE (.mk k n d u ks) j = if k = 5 ∨ 300 < j then (0, false) else if k = 1 then (1, (d == 1) && decide (-1024 < n) && decide (n < 1024)) else fwR (fwEs ks (j + 1)) (exM (.mk k n d u ks) 340) := by
  rw [fwE_mk]
  cases fwEs ks (j + 1) <;> rfl
def FwP (N : Nat) : Prop := ∀ (x : Ex) (j : Nat) (u : Value) (w : World), szE x ≤ N → OkX x → j ≤ 301 → EM w u x.ks → Calls Tryd.prog 16 #[exV x u, .int .i64 j] w fun e w' => e = .returned (.tuple #[.int .i64 (fwE x j).1, .bool (fwE x j).2]) ∧ Below w.heap.size w w'
set_option maxRecDepth 100000 in
set_option maxHeartbeats 8000000 in
theorem few_all (N : Nat) (hB : N ≤ 4611686018427387904) : FwP N := by
  induction N with
  | zero => intro x j u w hN; rw [szE_ks] at hN; omega
  | succ N ih =>
    intro x j u w hN hx hj hu
    replace ih := ih (by omega)
    obtain ⟨a, c, rfl, hl9⟩ := hu.shape
    have KX := hx.kids
    have OX := hx.ok
    have hz := szE_ks x
    have CM := hide (fun (W : World) (h : Below w.heap.size w W) => calcMayR_any x (.slice a x.ks.length c) W OX (hu.low h))
    obtain ⟨k, n, d, q, ks⟩ := x
    simp only [Ex.k, Ex.n, Ex.d, Ex.u, Ex.ks] at hN hl9 hu KX hz CM
    unfold exV at CM
    simp only [Ex.k, Ex.n, Ex.d, Ex.u] at CM
    have E := fwE_mk2 k n d q ks j
    obtain ⟨X, hX⟩ : ∃ X, fwE (.mk k n d q ks) j = X := ⟨_, rfl⟩
    obtain ⟨M, hM⟩ : ∃ M, exM (.mk k n d q ks) 340 = M := ⟨_, rfl⟩
    show Calls Tryd.prog 16 #[.agg #[.int .i64 k, .int .i64 n, .int .i64 d, .int .i64 q, .slice a ks.length c], .int .i64 j] w fun e w' => e = .returned (.tuple #[.int .i64 (fwE (.mk k n d q ks) j).1, .bool (fwE (.mk k n d q ks) j).2]) ∧ _
    rw [hM] at CM E
    rw [hX] at E ⊢
    replace E := hide E
    clear hX hM
    obtain ⟨W1, hW1⟩ : ∃ W1, w.alloc (.cells #[.int .i64 k, .int .i64 n, .int .i64 d, .int .i64 q, .slice a ks.length c] 26) = W1 := ⟨_, rfl⟩
    have B0 := hide (show Below w.heap.size w W1 by rw [← hW1]; exact bplus (Below.refl _ _) _)
    have P0 := hide (show Bk W1 w.heap.size 26 [.int .i64 k, .int .i64 n, .int .i64 d, .int .i64 q, .slice a ks.length c] by rw [← hW1]; exact Bk.new w _ _)
    have HW1 := hide hW1
    clear hW1
    obtain ⟨a0, a1, a2, a3, a4⟩ := bxk_5m P0.out
    by_cases k5 : k = 5
    · subst k5
      have F := hide (show X = (0, false) by rw [E.out, if_pos (.inl rfl)])
      clear E CM ih hu hx OX KX
      rw [F.out]
      go_enter Tryd.func16, Tryd.ntmps16
      go_upto_region 1 with fail
      rw [HW1.out]
      go_wp2
      go_ret2
      exact ⟨rfl, B0.out⟩
    have k5' : (k == 5) = false := by simpa using k5
    by_cases j3 : 300 < j
    · obtain rfl : j = 301 := by omega
      have F := hide (show X = (0, false) by rw [E.out, if_pos (.inr (by omega))])
      clear E CM ih hu hx OX KX
      rw [F.out]
      go_enter Tryd.func16, Tryd.ntmps16
      go_upto_region 1 with fail
      rw [HW1.out]
      go_wp2
      go_ret2
      exact ⟨rfl, B0.out⟩
    have j3' : (j : Int) ≤ 300 := by omega
    have j4' : ¬ (300 : Int) < j := by omega
    by_cases k1 : k = 1
    · subst k1
      have F := hide (show X = (1, (d == 1) && decide (-1024 < n) && decide (n < 1024)) by rw [E.out, if_neg (by omega), if_pos rfl])
      clear E CM ih hu hx OX KX
      rw [F.out]
      have BI := hide (Below.refl W1.heap.size W1)
      by_cases d1 : d = 1
      case neg =>
        have d1' : (d == 1) = false := by simpa using d1
        rw [d1']
        go_enter Tryd.func16, Tryd.ntmps16
        go_upto_region 1 with fail
        rw [HW1.out]
        go_upto_region 4 with fail
        go_quiet (fail)
        go_wp2_with fail
        go_ret2
        exact ⟨by simp, below_drewN B0.out _⟩
      subst d1
      by_cases n1 : -1024 < n
      case neg =>
        have n1' : decide (-1024 < n) = false := by simpa using n1
        rw [n1']
        go_enter Tryd.func16, Tryd.ntmps16
        go_upto_region 1 with fail
        rw [HW1.out]
        go_upto_region 4 with fail
        go_quiet (fail)
        go_wp2_with fail
        go_ret2
        exact ⟨by simp, below_drewN B0.out _⟩
      have n1' : decide (-1024 < n) = true := by simpa using n1
      rw [n1']
      go_enter Tryd.func16, Tryd.ntmps16
      go_upto_region 1 with fail
      rw [HW1.out]
      go_upto_region 4 with fail
      go_quiet (fail)
      go_wp2_with fail
      go_ret2
      exact ⟨by simp, below_drewN B0.out _⟩
    have k1' : (k == 1) = false := by simpa using k1
    have IH := hide (fun (i : Nat) (y : Ex) (u : Value) (W : World) (hy : ks[i]? = some y) (hW : Below w.heap.size w W) (hu : EM w u y.ks) => ih y (j + 1) u W (by have := szEs_at hy; omega) (KX y (List.mem_of_getElem? hy)) (by omega) (hu.low hW))
    have HV := hide hu
    replace E := hide (show X = fwR (fwEs ks (j + 1)) M by rw [E.out, if_neg (by omega), if_neg k1])
    have SB := hide (show ∀ m, fwC (ks.take m) (j + 1) ≤ 4611686018427387904 from fun m => by
      have h1 := fwC_le (ks.take m) (j + 1)
      have h2 := szEs_take ks m
      omega)
    clear ih hu hx OX KX hN hz
    go_enter Tryd.func16, Tryd.ntmps16
    go_upto_region 1 with fail
    rw [HW1.out]
    clear HW1
    go_wp2_with fail
    go_loopw [6, 40] (fun s i wr => RelFw w ks (j + 1) [.int .i64 k, .int .i64 n, .int .i64 d, .int .i64 q, .slice a ks.length c] s i wr) (fun _ i _ => ks.length - (intOf i).toNat)
    case atStart => exact .mk 0 0 rfl (by omega) rfl (by rw [List.take_zero]; rfl) (by intro y hy; rw [List.take_zero] at hy; cases hy) P0.out B0.out
    case round =>
      obtain ⟨m, cc, rfl, hmn, rfl, R⟩ := hrel
      have RC := hide R.out.1
      have RA := hide R.out.2.1
      have Q2 := hide R.out.2.2.1
      have BW := hide R.out.2.2.2
      have hcc : cc ≤ 4611686018427387904 := by rw [RC.out]; exact SB.out m
      clear R P0 B0 a0 a1 a2 a3 a4
      by_cases hlt : m < ks.length
      · have hlt' : (m : Int) < ks.length := by omega
        obtain ⟨y, hy⟩ : ∃ y, ks[m]? = some y := ⟨_, List.getElem?_eq_getElem hlt⟩
        obtain ⟨b, o, c', u5, hv', hb, -, -, yo, t5, hu5, hku⟩ := HV.out.at hy
        obtain ⟨rfl, -, rfl⟩ := Value.slice.inj hv'
        have CI := hide (fun (W : World) (hW : Below w.heap.size w W) => IH.out m y u5 W hy hW hku)
        rw [show ((j + 1 : Nat) : Int) = (j : Int) + 1 by omega] at CI
        obtain ⟨ua, uc, rfl, -⟩ := hku.shape
        have SN := hide (fwC_snoc (j := j + 1) hy)
        have NO := hide (fun h => fwEs_no (j := j + 1) (List.mem_of_getElem? hy) h)
        have TM := hide (show ∀ z ∈ ks.take (m + 1), z ∈ ks.take m ∨ z = y by intro z hz; rw [List.take_add_one, hy] at hz; simpa using hz)
        have SB1 := SB.out (m + 1)
        obtain ⟨c0, c1, c2, c3⟩ := t5.below BW.out hb
        have c4 := (BW.out.cell (p := ⟨b, o + m * 5 + 4, none⟩) hb).trans hu5
        have hbw : b < wr.heap.size := by have := BW.out.size; omega
        have nb : b ≠ wr.heap.size := by omega
        obtain ⟨FY, hFY⟩ : ∃ f, fwE y (j + 1) = f := ⟨_, rfl⟩
        have FE := hide hFY
        rw [hFY] at CI SN NO
        obtain ⟨fc, fb⟩ := FY
        simp only at CI SN NO
        have hfc : cc + fc ≤ 4611686018427387904 := by rw [RC.out, ← SN.out]; exact SB1
        unfold exV at CI
        clear hy t5 hu5 hku yo hFY IH HV SB SB1
        (try clear hv')
        generalize y.k = yk at *
        generalize y.n = yn at *
        generalize y.d = yd at *
        generalize y.u = yu at *
        generalize y.ks.length = yl at *
        have BB := hide (bplus BW.out (.cells #[.int .i64 yk, .int .i64 yn, .int .i64 yd, .int .i64 yu, .slice ua yl uc] 26))
        have BX := hide (bplus (Below.refl wr.heap.size wr) (.cells #[.int .i64 yk, .int .i64 yn, .int .i64 yd, .int .i64 yu, .slice ua yl uc] 26))
        cases fb
        · have F := hide (show X = (0, false) by rw [E.out, NO.out rfl]; rfl)
          clear NO E
          go_wp2_with (go_at_call 16; refine (CI.out _ BB.out).mono ?_; rintro e w2 ⟨rfl, B2⟩; replace B2 := hide (bto BX.out B2))
          go_ret2
          exact ⟨by rw [F.out]; rfl, bto BW.out B2.out⟩
        · clear NO
          have NZ := hide (fun (W : World) (h : Below wr.heap.size wr W) => show Bk W w.heap.size 26 [.int .i64 k, .int .i64 n, .int .i64 d, .int .i64 q, .slice (some ⟨b, o, none⟩) ks.length c] from Bk.up Q2.out h)
          have NA := hide (show ∀ z ∈ ks.take (m + 1), (fwE z (j + 1)).2 = true from fun z hz => (TM.out z hz).elim (RA.out z) (fun h => by rw [h, FE.out]))
          have NC := hide (show cc + fc = fwC (ks.take (m + 1)) (j + 1) by rw [SN.out, ← RC.out])
          clear TM RA SN RC FE Q2
          have hw1 : (cc : Int) + fc ≤ 4611686018427387904 := by omega
          go_wp2_with (go_at_call 16; refine (CI.out _ BB.out).mono ?_; rintro e w2 ⟨rfl, B2⟩; replace B2 := hide (bto BX.out B2))
          go_roundw
          case rel => exact .mk (m + 1) (cc + fc) (by go_num) (by omega) (by go_num) NC.out NA.out (NZ.out _ B2.out) (bto BW.out B2.out)
          case measure => simp [intOf]; omega
      · obtain rfl : m = ks.length := by omega
        have hlt' : ¬ (ks.length : Int) < ks.length := by omega
        have TK : ks.take ks.length = ks := List.take_of_length_le (Nat.le_refl _)
        have F := hide (show X = (cc, M) by
          have h1 := RA.out
          have h2 := RC.out
          rw [TK] at h1 h2
          rw [E.out, fwEs_all h1, h2]; rfl)
        obtain ⟨b0, b1, b2, b3, b4⟩ := bxk_5m Q2.out
        clear HV IH RA RC E SB TK Q2
        generalize ks.length = kl at *
        go_wp2_with (go_at_call 34; refine (CM.out _ BW.out).mono ?_; rintro e w5 ⟨rfl, B5⟩; replace BW := hide (bto BW.out B5))
        go_ret2
        exact ⟨by rw [F.out]; rfl, BW.out⟩
end Go.Proofs.YticgcokhdipomabDoor.nm
