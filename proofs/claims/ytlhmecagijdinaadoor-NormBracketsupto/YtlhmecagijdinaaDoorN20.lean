/-
  The kind of an expression: by the program.
  A slice as a row reads it.
-/
import Derived.Test.YtlhmecagijdinaaDoorN19
import Derived.Test.YtlhmecagijdinaaDoorRows
import Derived.Test.YtlhmecagijdinaaDoorN14
import Derived.ProofKit
import Derived.OpenShut
import Derived.JoinedCond
import Derived.Carry
import Derived.Lib.SmallJoins
import Derived.Lib.LaidTab
import Derived.Deep.DeepHandedRow
import Derived.Deep.DeepWitnessRowRef
import Derived.Deep.Slices
set_option linter.unusedVariables false
set_option linter.unusedSimpArgs false
namespace Go.Proofs.YtlhmecagijdinaaDoor.cc
open Go.RowKit

theorem coK_cons (k : Nat) (r : List Nat) : coK (k :: r) = if r.all (fun x => x == k) then k else 0 := rfl
def RelCk (w : World) (r : List Ex) (k : Nat) (i : Value) (wr : World) : Prop := ∃ m : Nat, i = .int .i64 m ∧ m ≤ r.length ∧ Below w.heap.size w wr ∧ Hid ((r.map kdE).all (fun x => x == k) = ((r.drop m).map kdE).all (fun x => x == k))
theorem RelCk.mk {w : World} {r : List Ex} {k : Nat} {i : Value} {wr : World} (m : Nat) (h1 : i = .int .i64 m) (h2 : m ≤ r.length) (h3 : Below w.heap.size w wr) (h4 : (r.map kdE).all (fun x => x == k) = ((r.drop m).map kdE).all (fun x => x == k)) : RelCk w r k i wr := ⟨m, h1, h2, h3, h4⟩
/-- The rest of a slice of expressions. -/
theorem em_tail {w : World} {v : Value} {x : Ex} {l : List Ex} (h : EM w v (x :: l)) : ∃ b o c u, v = .slice (some ⟨b, o, none⟩) (l.length + 1) c ∧ b < w.heap.size ∧ l.length + 1 ≤ c ∧ c ≤ 9223372036854775807 ∧ l.length + 1 ≤ 1000000000 ∧ x.Ok ∧ Fiv w b o x ∧ w.cell? ⟨b, o + 4, none⟩ = some u ∧ EM w u x.ks ∧ (0 < l.length → EM w (.slice (some ⟨b, o + 5, none⟩) l.length (c - 1)) l) := by
  cases h with
  | row b o c l' u h0 hb hc hn hm hx ht hu hk =>
    have t0 := ht 0 x rfl
    have u0 := hu 0 x rfl
    rw [Nat.zero_mul, Nat.add_zero] at t0 u0
    simp only [List.length_cons] at hc hn
    refine ⟨b, o, c, u 0, rfl, hb, hc, hm, hn, hx 0 x rfl, t0, u0, hk 0 x rfl, fun hl' => ?_⟩
    refine .row b (o + 5) (c - 1) l (fun i => u (i + 1)) hl' hb (by omega) (by omega) (by omega) (fun i v hi => hx (i + 1) v hi) (fun i v hi => ?_) (fun i v hi => ?_) (fun i v hi => hk (i + 1) v hi)
    · have := ht (i + 1) v hi; rwa [show o + (i + 1) * 5 = o + 5 + i * 5 by omega] at this
    · have := hu (i + 1) v hi; rwa [show o + (i + 1) * 5 + 4 = o + 5 + i * 5 + 4 by omega] at this
set_option maxRecDepth 100000 in
set_option maxHeartbeats 4000000 in
theorem commonKind_of (N : Nat) (hN : KdC N) (x : Ex) (l : List Ex) (j : Nat) (v : Value) (w : World) (hz : szEs (x :: l) ≤ N) (hm : exMs (x :: l) j = true) (hv : EM w v (x :: l)) :
    Calls Tryd.prog 77 #[v] w fun e w' => e = .returned (.int .i64 (coK ((x :: l).map kdE))) ∧ Below w.heap.size w w' := by
  obtain ⟨b, o, c, u, rfl, hb, hc, hc9, hl9, xo, t5, hu5, hku, htl⟩ := em_tail hv
  obtain ⟨ua, uc, rfl, hks9⟩ := hku.shape
  have MX := exMs_at (k := 0) hm rfl
  have KX := kdE_le _ x (Nat.le_refl _)
  have E0 := hide (show coK ((x :: l).map kdE) = if (l.map kdE).all (fun y => y == kdE x) then kdE x else 0 from rfl)
  have C0 := hide (hN x j (.slice ua x.ks.length uc) w (by have := szEs_at (l := x :: l) (k := 0) rfl; omega) MX hku)
  have HM := hide (show exMs l j = true by rw [exMs_cons, Bool.and_eq_true] at hm; exact hm.2)
  have HZ := hide (show szEs l ≤ N by rw [szEs_cons] at hz; omega)
  have HT := hide htl
  have HN := hide hN
  obtain ⟨c0, c1, c2, c3⟩ := t5
  unfold exV at C0
  clear hv hm hz htl hN hku MX xo
  generalize x.k = xk at *
  generalize x.n = xn at *
  generalize x.d = xd at *
  generalize x.u = xu at *
  generalize kdE x = kx at *
  have hl1 : (1 : Int) ≤ (l.length : Int) + 1 := by omega
  have hl0 : (0 : Int) < (l.length : Int) + 1 := by omega
  by_cases hl : l = []
  · subst hl
    have F := hide (show (coK ((x :: []).map kdE) : Int) = kx by rw [E0.out]; rfl)
    clear E0
    go_enter Tryd.func77, Tryd.ntmps77
    go_wp2_with (go_at_call 53; refine C0.out.mono ?_; rintro e w1 ⟨rfl, B1⟩; have HB := hide B1; clear B1 C0)
    all_goals
      refine wp_loop_rounds 1 ?_
      rw [rounds_succ]
      go_wp2
      go_ret
      exact ⟨ret_int F.out.symm, HB.out⟩
  have hlp : 0 < l.length := List.length_pos_iff.2 hl
  have hc1 : ¬ c = 1 := by omega
  have HV := hide (HT.out hlp)
  clear HT hl
  go_enter Tryd.func77, Tryd.ntmps77
  go_wp2_with (go_at_call 53; refine C0.out.mono ?_; rintro e w1 ⟨rfl, B1⟩; have HB := hide B1; clear B1 C0)
  go_loopw [13] (fun i wr => RelCk w l kx i wr) (fun i _ => l.length - (intOf i).toNat)
  case atStart => exact .mk 0 rfl (by omega) HB.out rfl
  case round =>
    obtain ⟨m, rfl, hm, BE, R⟩ := hrel
    replace BE := hide BE
    by_cases hlt : m < l.length
    · obtain ⟨y, hy⟩ : ∃ y, l[m]? = some y := ⟨_, List.getElem?_eq_getElem hlt⟩
      obtain ⟨b', o', c', v, hv', hb', -, -, yo, s5, hs5, hkv⟩ := HV.out.at hy
      obtain ⟨rfl, rfl, rfl⟩ : b = b' ∧ o + 5 = o' ∧ c - 1 = c' := by cases hv'; exact ⟨rfl, rfl, rfl⟩
      obtain ⟨va, vc, hvs, hvs9⟩ := hkv.shape
      have SZ := hide (show szE y ≤ N by have := szEs_at hy; have := HZ.out; omega)
      have KU := hide hkv
      have MY := hide (exMs_at HM.out hy)
      have R2 := hide (show (l.map kdE).all (fun x => x == kx) = ((kdE y == kx) && ((l.drop (m + 1)).map kdE).all (fun x => x == kx)) by rw [R.out, drop_atE hy]; rfl)
      have hlt' : (m : Int) < l.length := by omega
      obtain ⟨d0, d1, d2, d3⟩ := s5.below BE.out hb
      have d4 := (BE.out.cell (p := ⟨b, o + 5 + m * 5 + 4, none⟩) hb).trans hs5
      have hbw : b < wr.heap.size := by have := BE.out.size; omega
      have nb : b ≠ wr.heap.size := by omega
      have KL := kdE_le _ y (Nat.le_refl _)
      clear hy hv' s5 hs5 hkv R yo hb'
      subst hvs
      have CI := hide (fun (W : World) (h : Below w.heap.size w W) => HN.out y j (.slice va y.ks.length vc) W SZ.out MY.out (KU.out.low h))
      unfold exV at CI
      generalize y.k = yk at *
      generalize y.n = yn at *
      generalize y.d = yd at *
      generalize y.u = yu at *
      by_cases hk : kdE y = kx
      · have E := hide (show (l.map kdE).all (fun x => x == kx) = ((l.drop (m + 1)).map kdE).all (fun x => x == kx) by rw [R2.out, hk]; simp)
        rw [hk] at CI
        clear R2 hk KL
        go_wp2_with (go_at_call 53; refine (CI.out _ (bplus BE.out _)).mono ?_; rintro e w4 ⟨rfl, B4⟩; replace B4 := hide (bto (bplus BE.out _) B4))
        go_roundw
        case rel => exact .mk (m + 1) (by go_num) (by omega) B4.out E.out
        case measure => simp [intOf]; omega
      · have F := hide (show (coK ((x :: l).map kdE) : Int) = 0 by rw [E0.out, R2.out, show (kdE y == kx) = false by simpa using hk]; rfl)
        have hk1 : ¬ (kdE y : Int) = kx := by omega
        have hk2 : ((kdE y : Int) == kx) = false := by simpa using hk1
        generalize kdE y = ky at *
        clear R2 E0
        go_wp2_with (go_at_call 53; refine (CI.out _ (bplus BE.out _)).mono ?_; rintro e w4 ⟨rfl, B4⟩; replace B4 := hide (bto (bplus BE.out _) B4))
        go_ret
        exact ⟨ret_int F.out.symm, B4.out⟩
    · have F := hide (show (coK ((x :: l).map kdE) : Int) = kx by rw [E0.out, R.out, List.drop_of_length_le (by omega)]; rfl)
      have hlt' : ¬ (m : Int) < l.length := by omega
      go_wp2
      go_ret
      exact ⟨ret_int F.out.symm, BE.out⟩
theorem kdE_mk (k n d u : Int) (ks : List Ex) : kdE (.mk k n d u ks) = if k = 1 then (if u = 0 then 1 else 2) else if k = 4 then prK (ks.map kdE) 1 else if k = 5 then (if (ks.map kdE).head? = some 1 then 1 else 0) else coK (ks.map kdE) := by rw [kdE, kdEs_map]
theorem exM_kids {x : Ex} {j : Nat} (h : exM x j = true) (hk : ¬ x.k = 1) : exMs x.ks (j - 1) = true ∧ 1 ≤ x.ks.length := by
  rw [exM_eq, Bool.and_eq_true, if_neg hk, Bool.and_eq_true, Bool.and_eq_true] at h
  refine ⟨h.2.2, ?_⟩
  have := cnt_true h.2.1.2
  omega
set_option maxRecDepth 100000 in
set_option maxHeartbeats 4000000 in
theorem kindOf_all (N : Nat) : KdC N := by
  induction N with
  | zero => intro x j u w hN; rw [szE_ks] at hN; omega
  | succ N ih =>
    intro x j u w hN hm hu
    obtain ⟨a, c, rfl, hl9⟩ := hu.shape
    have HK := fun hk => exM_kids hm hk
    rw [szE_ks] at hN
    obtain ⟨k, n, d, q, ks⟩ := x
    simp only [Ex.k, Ex.n, Ex.d, Ex.u, Ex.ks] at hN hl9 HK hu
    have E := hide (kdE_mk k n d q ks)
    show Calls Tryd.prog 53 #[.agg #[.int .i64 k, .int .i64 n, .int .i64 d, .int .i64 q, .slice a ks.length c]] w _
    obtain ⟨X, hX⟩ : ∃ X, Ex.mk k n d q ks = X := ⟨_, rfl⟩
    rw [hX] at E hm ⊢
    clear hX
    have B0 := bplus (Below.refl w.heap.size w) (.cells #[.int .i64 k, .int .i64 n, .int .i64 d, .int .i64 q, .slice a ks.length c] 26)
    by_cases k1 : k = 1
    · subst k1
      replace E := hide (show kdE X = (if q = 0 then 1 else 2) by rw [E.out, if_pos rfl])
      have HB := hide B0
      by_cases u0 : q = 0
      · subst u0
        have F := hide (show (kdE X : Int) = 1 by rw [E.out]; rfl)
        clear E hm hu ih B0
        go_enter Tryd.func53, Tryd.ntmps53
        go_wp2
        go_ret
        exact ⟨ret_int F.out.symm, HB.out⟩
      · have F := hide (show (kdE X : Int) = 2 by rw [E.out, if_neg u0]; rfl)
        have u1 : (q == 0) = false := by simpa using u0
        clear E hm hu ih B0
        go_enter Tryd.func53, Tryd.ntmps53
        go_wp2
        go_ret
        exact ⟨ret_int F.out.symm, HB.out⟩
    obtain ⟨hms, hl1⟩ := HK k1
    have k1' : (k == 1) = false := by simpa using k1
    by_cases k4 : k = 4
    · subst k4
      have C := hide (productKind_of N ih ks (j - 1) (.slice a ks.length c) _ (by omega) hms (hu.low B0))
      replace E := hide (show (prK (ks.map kdE) 1 : Int) = kdE X by rw [E.out, if_neg k1, if_pos rfl])
      rw [E.out] at C
      generalize kdE X = kx at *
      have HB := hide B0
      clear E hm hu ih B0 hms HK k1 k1'
      go_enter Tryd.func53, Tryd.ntmps53
      go_wp2_with (go_at_call 76; refine C.out.mono ?_; rintro e w1 ⟨rfl, B1⟩; replace HB := hide (bto HB.out B1))
      go_ret
      exact ⟨rfl, HB.out⟩
    have k4' : (k == 4) = false := by simpa using k4
    obtain ⟨y, l, rfl⟩ : ∃ y l, ks = y :: l := by cases ks with | nil => simp at hl1 | cons y l => exact ⟨y, l, rfl⟩
    by_cases k5 : k = 5
    · subst k5
      obtain ⟨b, o, c', v, hv, hb, hc, hc9, hl9', yo, t5, hu5, hkv, -⟩ := em_tail hu
      obtain ⟨va, vc, rfl, hvs9⟩ := hkv.shape
      have C := hide (fun (W : World) (B : Below w.heap.size w W) => ih y (j - 1) (.slice va y.ks.length vc) W (by have := szEs_at (l := y :: l) (k := 0) (x := y) rfl; omega) (exMs_at (k := 0) hms rfl) (hkv.low B))
      obtain ⟨rfl, rfl⟩ : a = some ⟨b, o, none⟩ ∧ c = c' := by cases hv; exact ⟨rfl, rfl⟩
      obtain ⟨d0, d1, d2, d3⟩ := t5.below B0 hb
      have d4 := (B0.cell (p := ⟨b, o + 4, none⟩) hb).trans hu5
      have nb : b ≠ w.heap.size := by omega
      obtain ⟨e0, e1, e2, e3⟩ := t5
      replace E := hide (show kdE X = (if kdE y = 1 then 1 else 0) by rw [E.out, if_neg k1, if_neg k4, if_pos rfl]; simp)
      have hl2 : (1 : Int) ≤ ((y :: l).length : Int) := by simp only [List.length_cons]; omega
      have hl3 : (0 : Int) < ((y :: l).length : Int) := by simp only [List.length_cons]; omega
      have HB := hide B0
      unfold exV at C
      generalize y.k = yk at *
      generalize y.n = yn at *
      generalize y.d = yd at *
      generalize y.u = yu at *
      generalize (y :: l).length = xl at *
      clear hm hu ih B0 hms hv hkv HK
      by_cases hy : kdE y = 1
      · have F := hide (show (kdE X : Int) = 1 by rw [E.out, if_pos hy]; rfl)
        rw [hy] at C
        clear E hy
        go_enter Tryd.func53, Tryd.ntmps53
        go_wp2_with (go_at_call 53; refine (C.out _ HB.out).mono ?_; rintro e w1 ⟨rfl, B1⟩; replace HB := hide (bto HB.out B1))
        go_ret
        exact ⟨ret_int F.out.symm, HB.out⟩
      · have F := hide (show (kdE X : Int) = 0 by rw [E.out, if_neg hy]; rfl)
        have hy1 : ¬ (kdE y : Int) = 1 := by omega
        have hy2 : ((kdE y : Int) == 1) = false := by simpa using hy1
        generalize kdE y = ky at *
        clear E
        go_enter Tryd.func53, Tryd.ntmps53
        go_wp2_with (go_at_call 53; refine (C.out _ HB.out).mono ?_; rintro e w1 ⟨rfl, B1⟩; replace HB := hide (bto HB.out B1))
        go_ret
        exact ⟨ret_int F.out.symm, HB.out⟩
    have k5' : (k == 5) = false := by simpa using k5
    have C := hide (commonKind_of N ih y l (j - 1) (.slice a (y :: l).length c) _ (by omega) hms (hu.low B0))
    replace E := hide (show (coK ((y :: l).map kdE) : Int) = kdE X by rw [E.out, if_neg k1, if_neg k4, if_neg k5])
    rw [E.out] at C
    generalize kdE X = kx at *
    generalize (y :: l).length = xl at *
    have HB := hide B0
    clear E hm hu ih B0 hms HK
    go_enter Tryd.func53, Tryd.ntmps53
    go_wp2_with (go_at_call 77; refine C.out.mono ?_; rintro e w1 ⟨rfl, B1⟩; replace HB := hide (bto HB.out B1))
    go_ret
    exact ⟨rfl, HB.out⟩
end Go.Proofs.YtlhmecagijdinaaDoor.cc
set_option linter.unusedVariables false
set_option linter.unusedSimpArgs false
namespace Go.Proofs.YtlhmecagijdinaaDoor.rowg
open Go.ChangeShapes Go.WideShapes Go.ChangeAt Go.RowKit Go.Joins
open Go.ChangeMaps (open_string shut_string)

theorem cR : Tryd.prog.cellsOf 23 = 2 := by kernel_rfl
theorem cI : Tryd.prog.cellsOf 3 = 1 := by kernel_rfl
theorem cL : Tryd.prog.cellsOf 2 = 1 := by kernel_rfl
theorem cS : Tryd.prog.cellsOf 9 = 1 := by kernel_rfl
theorem cB : Tryd.prog.cellsOf 4 = 1 := by kernel_rfl
def RowG {α : Type} (w : World) (sz : Nat) (R : Nat → Nat → α → Prop) (v : Value) (l : List α) : Prop :=
  (∃ a c, v = .slice a 0 c ∧ l = []) ∨
  ∃ b o c, v = .slice (some ⟨b, o, none⟩) l.length c ∧ 0 < l.length ∧ b < w.heap.size ∧ l.length ≤ c ∧ l.length ≤ 1000000000 ∧ c ≤ 9223372036854775807 ∧ ∀ i x, l[i]? = some x → R b (o + i * sz) x
theorem one_le {H : Type} (d : DataW H) : 1 ≤ Rows.uptoBulk d := by
  cases d with
  | lit l => cases l <;> simp [Rows.uptoBulk]
  | nil => simp [Rows.uptoBulk]
  | ptr d => simp [Rows.uptoBulk]
  | slice elems spare => simp [Rows.uptoBulk]
  | agg parts => simp [Rows.uptoBulk]
  | iface t d => simp [Rows.uptoBulk]
  | map entries => simp [Rows.uptoBulk]
  | held h => simp [Rows.uptoBulk]
theorem length_le {H : Type} (l : List (DataW H)) : l.length ≤ Rows.uptoBulkAll l := by
  induction l with
  | nil => simp [Rows.uptoBulkAll]
  | cons x r ih => have := one_le x; simp only [Rows.uptoBulkAll, List.length_cons]; omega
theorem mem_le {H : Type} {l : List (DataW H)} {d : DataW H} (h : d ∈ l) : Rows.uptoBulk d ≤ Rows.uptoBulkAll l := by
  induction l with
  | nil => cases h
  | cons x r ih =>
    simp only [Rows.uptoBulkAll]
    rcases List.mem_cons.1 h with rfl | h
    · omega
    · have := ih h; omega
theorem str_le {H : Type} (s : ByteArray) : s.size ≤ Rows.uptoBulk (.lit (.string s.data.toList) : DataW H) := by
  simp only [Rows.uptoBulk]
  have e : s.data.toList.length = s.size := by rw [Array.length_toList]; rfl
  omega
/-- A slice that comes in, whatever its elements are. -/
theorem row_open {α : Type} [Inhabited α] {H : Type} {enc : TypeId × Value → H} {W : World} {held : Bool} {T E : TypeId} {sz : Nat} (hT : Tryd.prog.underlying T = some (.slice E)) (hsz : Tryd.prog.cellsOf E = sz) (h0 : 0 < sz) (R : Nat → Nat → α → Prop)
    {c : Value} {fuel : Nat} {x : DataW H × List MemPlace} (hf : DataW.trod enc Tryd.prog W 0 (fun _ => true) held fuel T [c] = some x) {N : Nat} (hN : Rows.uptoBulk x.1 ≤ N + 1) (hN9 : N ≤ 1048576)
    (each : ∀ (b o m : Nat) (cs : List Value) (d : DataW H × List MemPlace), cs.length = sz → (∀ j, j < sz → W.cell? ⟨b, o + j, none⟩ = cs[j]?) → b < W.heap.size → DataW.trod enc Tryd.prog W 0 (fun _ => true) held m E cs = some d → Rows.uptoBulk d.1 ≤ N → ∃ y : α, R b o y) : ∃ l, RowG W sz R c l := by
  rcases Go.Deep.open_slice hT hf with ⟨hcs, hx⟩ | ⟨a1, len, cap, m, n, D, Pl, hcs, _, hl, hm, hmm, hx, each0⟩
  · simp at hcs
    subst hcs
    exact ⟨[], .inl ⟨_, _, rfl, rfl⟩⟩
  · simp at hcs
    subst hcs
    simp only [if_true] at hmm
    subst hmm
    rw [hx] at hN
    simp only [Rows.uptoBulk] at hN
    have hlen := length_le ((List.range len).map D)
    rw [List.length_map, List.length_range] at hlen
    by_cases hl0 : len = 0
    · subst hl0; exact ⟨[], .inl ⟨_, _, rfl, rfl⟩⟩
    obtain ⟨b, off, spot⟩ := a1
    have hspot : spot = none := by
      obtain ⟨cs, h1, h2⟩ := each0 0 (by omega)
      rw [hsz] at h1
      obtain ⟨_, hcl, hcell⟩ := World.cells?_some h1
      have c00 := hcell 0 h0
      rw [List.getElem?_eq_getElem (by omega)] at c00
      simpa [Addr.add] using World.cell?_spot c00
    subst hspot
    have each2 : ∀ i, i < len → ∃ y : α, R b (off + i * sz) y := by
      intro i hi
      obtain ⟨cs, h1, h2⟩ := each0 i (by omega)
      rw [hsz] at h1
      obtain ⟨_, hcl, hcell⟩ := World.cells?_some h1
      have hm2 := mem_le (d := D i) (l := (List.range len).map D) (List.mem_map.2 ⟨i, List.mem_range.2 hi, rfl⟩)
      refine each b (off + i * sz) _ cs _ hcl (fun j hj => ?_) ?_ h2 (by show Rows.uptoBulk (D i) ≤ N; omega)
      · have := hcell j hj
        rwa [Addr.add_lit, Addr.add_lit] at this
      · have c00 := hcell 0 h0
        rw [List.getElem?_eq_getElem (by omega)] at c00
        have k := World.block_lt_of_cell? _ _ c00
        rwa [Addr.add_lit, Addr.add_lit] at k
    obtain ⟨q, hq⟩ := Go.Deep.choose_lt each2
    have hll : ((List.range len).map q).length = len := by simp
    refine ⟨(List.range len).map q, .inr ⟨b, off, m, by rw [hll], by rw [hll]; omega, ?_, by rw [hll]; exact hl, by rw [hll]; omega, by unfold maxLen at hm; omega, fun i y hi => ?_⟩⟩
    · obtain ⟨cs, h1, h2⟩ := each0 0 (by omega)
      rw [hsz] at h1
      obtain ⟨_, hcl, hcell⟩ := World.cells?_some h1
      have c00 := hcell 0 h0
      rw [List.getElem?_eq_getElem (by omega)] at c00
      have k := World.block_lt_of_cell? _ _ c00
      simpa [Addr.add] using k
    · have hil : i < len := by
        have := (List.getElem?_eq_some_iff.1 hi).1
        simpa using this
      rw [List.getElem?_map, List.getElem?_range hil] at hi
      have e : q i = y := by simpa using hi
      rw [← e]
      exact hq i hil
end Go.Proofs.YtlhmecagijdinaaDoor.rowg
