/-
  The form of a sum of three numbers with units; kinds: by the program.
-/
import Derived.Test.YticgcokhdipomaaDoorLNoK
import Derived.Deep.OwnRows
set_option linter.unusedVariables false
set_option linter.unusedSimpArgs false
namespace Go.Proofs.YticgcokhdipomaaDoor.nm
open Go.RowKit

theorem mk3 (W : World) : (Instr.makeSlice 22 (.int .i64 3) (.int .i64 3)).run Tryd.prog W = .ok (.slice (some ⟨W.heap.size, 0, none⟩) 3 3) (W.alloc (.cells (fl [z00, z00, z00]).toArray 29)) := by
  have hI : (Tryd.prog.info? 29).isSome = true := by kernel_rfl
  obtain ⟨i, hi⟩ := Option.isSome_iff_exists.1 hI
  have hz : (Tryd.prog.info? 29).map (fun i => (i.zero, i.size, i.bytes)) = some (some (.agg (usL z00 ++ [nilS]).toArray), 15, 136) := by kernel_rfl
  rw [hi] at hz
  simp only [Option.map_some, Option.some.injEq, Prod.mk.injEq] at hz
  obtain ⟨h1, h2, h3⟩ := hz
  have hr := run_make (P := Tryd.prog) W 22 29 i (.agg (usL z00 ++ [nilS]).toArray) Tryd.underlying22 hi h1 .i64 .i64 3 3 (by omega) (by omega) (by rw [h3]; decide) (by omega)
  have e : madeCells (Value.agg (usL z00 ++ [nilS]).toArray).cells (Int.toNat 3 * 15) = (fl [z00, z00, z00]).toArray := by kernel_rfl
  rw [h2, e] at hr
  exact hr
/-- Numbers with units. -/
def nuE (x : Int × Int × Int) : Ex := .mk 1 x.1 x.2.1 x.2.2 []
def onU (x : Int × Int × Int) : List (Int × Int) := oneU x.2.2 (x.1, x.2.1)
/-- The first k are told. -/
def flK (k : Nat) (xs : List (Int × Int × Int)) : List (List (Int × Int)) := (xs.take k).map onU ++ (xs.drop k).map (fun _ => z00)
theorem flK_step {k : Nat} {xs : List (Int × Int × Int)} {x : Int × Int × Int} (h : xs[k]? = some x) : (flK k xs).set k (onU x) = flK (k + 1) xs := by
  have hk := (List.getElem?_eq_some_iff.1 h).1
  unfold flK
  rw [List.set_append_right _ _ (by simp; omega), show k - ((xs.take k).map onU).length = 0 by simp; omega, drop_atE h, List.map_cons, List.set_cons_zero, List.take_add_one, h]
  simp
theorem flK_len (k : Nat) (xs : List (Int × Int × Int)) : (flK k xs).length = xs.length := by simp [flK]; omega
theorem flK_end (xs : List (Int × Int × Int)) : flK xs.length xs = xs.map onU := by simp [flK]
def Nu (x : Int × Int × Int) : Prop := i64 x.1 ∧ i64 x.2.1 ∧ i64 x.2.2
theorem flK_us {k : Nat} {xs : List (Int × Int × Int)} (h : ∀ x ∈ xs, Nu x) : ∀ y ∈ flK k xs, y.length = 7 := by
  intro y hy
  unfold flK at hy
  rcases List.mem_append.1 hy with hy | hy
  · obtain ⟨x, hx, rfl⟩ := List.mem_map.1 hy
    obtain ⟨h1, h2, h3⟩ := h x (List.mem_of_mem_take hx)
    exact (one_us _ _ _ h1 h2).1
  · obtain ⟨x, _, rfl⟩ := List.mem_map.1 hy
    rfl
def RelFo (w : World) (lb : Nat) (xs : List (Int × Int × Int)) (e5 : List Value) (i : Value) (wr : World) : Prop := ∃ k : Nat, i = .int .i64 k ∧ k ≤ xs.length ∧ Hid (Bk wr lb 29 (fl (flK k xs)) ∧ BF wr (w.heap.size + 1) z00 nilS ∧ Bk wr w.heap.size 51 e5 ∧ Below w.heap.size w wr)
theorem RelFo.mk {w : World} {lb : Nat} {xs : List (Int × Int × Int)} {e5 : List Value} {i : Value} {wr : World} (k : Nat) (h1 : i = .int .i64 k) (h2 : k ≤ xs.length) (h3 : Bk wr lb 29 (fl (flK k xs))) (h4 : BF wr (w.heap.size + 1) z00 nilS) (h5 : Bk wr w.heap.size 51 e5) (h6 : Below w.heap.size w wr) : RelFo w lb xs e5 i wr := ⟨k, h1, h2, h3, h4, h5, h6⟩
set_option maxRecDepth 100000 in
set_option maxHeartbeats 8000000 in
theorem form_sum3 (xs : List (Int × Int × Int)) (hx3 : xs.length = 3) (v : Value) (w : World) (hN : Nth w) (hxs : ∀ x ∈ xs, Nu x) (hv : EM w v (xs.map nuE)) : Calls Tryd.prog 44 #[.agg #[.int .i64 2, .int .i64 0, .int .i64 0, .int .i64 0, v]] w fun e w' => e = .returned (foV (sumU (xs.map onU)) nilS) ∧ Below w.heap.size w w' := by
  have CF := hide (fun (n d u : Int) (a : Option Addr) (m c : Nat) (W : World) (h : Below w.heap.size w W) => form_num n d u a m c W (hN.low h))
  have CS := hide (fun (W : World) (h : Below w.heap.size w W) => fun (v : Value) (hv : PF W v (xs.map onU)) => sum0_any (xs.map onU) v W (hN.low h) hv)
  have HV := hide hv
  obtain ⟨a, c, rfl, h9⟩ := hv.shape
  have AU := hide (show Us (sumU (xs.map onU)) from sumU_us (fun y hy => by
    obtain ⟨x, hx, rfl⟩ := List.mem_map.1 hy
    obtain ⟨h1, h2, h3⟩ := hxs x hx
    exact one_us _ _ _ h1 h2) _ zus)
  have AO := hide (show ∀ y ∈ xs.map onU, Us y from fun y hy => by
    obtain ⟨x, hx, rfl⟩ := List.mem_map.1 hy
    obtain ⟨h1, h2, h3⟩ := hxs x hx
    exact one_us _ _ _ h1 h2)
  have l4 : (xs.map nuE).length = 3 := by rw [List.length_map]; exact hx3
  rw [l4]
  rw [l4] at HV
  have HX := hide hxs
  have H3 := hide hx3
  clear hv hN hxs l4 h9
  obtain ⟨SU, hSU⟩ : ∃ x, sumU (xs.map onU) = x := ⟨_, rfl⟩
  rw [hSU] at CS AU ⊢
  unfold foV at CS CF ⊢
  clear hSU
  obtain ⟨W1, hW1⟩ : ∃ W1, (w.alloc (.cells #[.int .i64 2, .int .i64 0, .int .i64 0, .int .i64 0, .slice a (3 : Nat) c] 51)).alloc (.cells #[.int .i64 0, .int .i64 0, .int .i64 0, .int .i64 0, .int .i64 0, .int .i64 0, .int .i64 0, .int .i64 0, .int .i64 0, .int .i64 0, .int .i64 0, .int .i64 0, .int .i64 0, .int .i64 0, .slice none 0 0] 29) = W1 := ⟨_, rfl⟩
  have B0 := hide (show Below w.heap.size w W1 by rw [← hW1]; exact bplus (bplus (Below.refl _ _) _) _)
  have P0 := hide (show Bk W1 w.heap.size 51 [.int .i64 2, .int .i64 0, .int .i64 0, .int .i64 0, .slice a (3 : Nat) c] by rw [← hW1]; exact (two_new w _ _).1)
  have P1 := hide (show BF W1 (w.heap.size + 1) z00 nilS by rw [← hW1]; exact (two_new w _ _).2)
  have HW1 := hide hW1
  have a0 := Bk.cell P0.out 0
  have a4 := Bk.cell P0.out 4
  simp at a0 a4
  clear hW1
  go_enter Tryd.func44, Tryd.ntmps44
  go_upto_region 1 with fail
  rw [show (w.alloc (.cells #[.int .i64 2, .int .i64 0, .int .i64 0, .int .i64 0, .slice a 3 c] 51)).alloc (.cells #[.int .i64 0, .int .i64 0, .int .i64 0, .int .i64 0, .int .i64 0, .int .i64 0, .int .i64 0, .int .i64 0, .int .i64 0, .int .i64 0, .int .i64 0, .int .i64 0, .int .i64 0, .int .i64 0, .slice none 0 0] 29) = W1 from HW1.out]
  clear HW1
  have MK := mk3 W1
  have F0 : flK 0 xs = [z00, z00, z00] := by
    match xs, H3.out with
    | [x0, x1, x2], _ => rfl
  have hlb : w.heap.size + 1 < W1.heap.size := Bk.lt P1.out
  have K0 := hide (show Bk (W1.alloc (.cells (fl [z00, z00, z00]).toArray 29)) W1.heap.size 29 (fl (flK 0 xs)) by rw [F0]; exact Bk.new W1 _ _)
  have K1 := hide (show BF (W1.alloc (.cells (fl [z00, z00, z00]).toArray 29)) (w.heap.size + 1) z00 nilS from Bk.more P1.out _)
  have K2 := hide (show Bk (W1.alloc (.cells (fl [z00, z00, z00]).toArray 29)) w.heap.size 51 [.int .i64 2, .int .i64 0, .int .i64 0, .int .i64 0, .slice a (3 : Nat) c] from Bk.more P0.out _)
  have K3 := hide (show Below w.heap.size w (W1.alloc (.cells (fl [z00, z00, z00]).toArray 29)) from bplus B0.out _)
  go_upto_region 7 with fail
  clear MK F0 P0 P1 B0 a0 a4
  generalize W1.alloc (.cells (fl [z00, z00, z00]).toArray 29) = W2 at *
  generalize W1.heap.size = lb at *
  have a4 := Bk.cell K2.out 4
  simp at a4
  go_wp2_with fail
  go_loopw [27] (fun i wr => RelFo w lb xs [.int .i64 2, .int .i64 0, .int .i64 0, .int .i64 0, .slice a (3 : Nat) c] i wr) (fun i _ => 3 - (intOf i).toNat)
  case atStart => exact .mk 0 rfl (by omega) K0.out K1.out K2.out K3.out
  case round =>
    obtain ⟨k, rfl, hk, R⟩ := hrel
    have Q0 := hide R.out.1
    have Q1 := hide R.out.2.1
    have Q2 := hide R.out.2.2.1
    have BW := hide R.out.2.2.2
    clear R K0 K1 K2 K3 a4
    have h3 : xs.length = 3 := H3.out
    have L0 := hide (show (fl (flK k xs)).length = 45 by rw [fl_len (flK_us HX.out), flK_len, h3])
    by_cases hlt : k < 3
    · have hlt' : (k : Int) < 3 := by omega
      obtain ⟨x, hx⟩ : ∃ x, xs[k]? = some x := ⟨_, List.getElem?_eq_getElem (by omega)⟩
      obtain ⟨b, o, c', u5, hv', hb, -, -, xo, t5, hu5, hku⟩ := HV.out.at (i := k) (x := nuE x) (by rw [List.getElem?_map, hx]; rfl)
      obtain ⟨rfl, -, rfl⟩ := Value.slice.inj hv'
      obtain ⟨ua, uc, hus, -⟩ := hku.shape
      replace hus : u5 = .slice ua 0 uc := hus
      subst hus
      obtain ⟨i1, i2, i3⟩ := HX.out x (List.mem_of_getElem? hx)
      have FS := hide (flK_step hx)
      have L7 : (onU x).length = 7 := (one_us x.2.2 x.1 x.2.1 i1 i2).1
      have CI := hide (fun (W : World) (h : Below w.heap.size w W) => CF.out x.1 x.2.1 x.2.2 ua 0 uc W h i1 i2 i3)
      rw [show oneU x.2.2 (x.1, x.2.1) = onU x from rfl] at CI
      obtain ⟨c0, c1, c2, c3⟩ := t5.below BW.out hb
      have c4 := (BW.out.cell (p := ⟨b, o + k * 5 + 4, none⟩) hb).trans hu5
      replace c0 : wr.cell? ⟨b, o + k * 5, none⟩ = some (.int .i64 1) := c0
      replace c1 : wr.cell? ⟨b, o + k * 5 + 1, none⟩ = some (.int .i64 x.1) := c1
      replace c2 : wr.cell? ⟨b, o + k * 5 + 2, none⟩ = some (.int .i64 x.2.1) := c2
      replace c3 : wr.cell? ⟨b, o + k * 5 + 3, none⟩ = some (.int .i64 x.2.2) := c3
      have hbw : b < wr.heap.size := by have := BW.out.size; omega
      have nb : b ≠ wr.heap.size := by omega
      generalize onU x = OU at *
      have l3 : (usL OU ++ [nilS]).length = 15 := by rw [List.length_append, usL_len, L7]; rfl
      have H9 : (Tryd.prog.info? 29).map (·.size) = some (usL OU ++ [nilS]).toArray.size := by rw [List.size_toArray, l3]; kernel_rfl
      replace H9 := hide H9
      have TH := hide (fun (W : World) (h : Below wr.heap.size wr W) => show W.there lb (k * 15) (usL OU ++ [nilS]).toArray.size from fun j hj => by
        have q := Bk.up Q0.out h
        rw [List.size_toArray, l3] at hj
        refine ⟨?_, Bk.fz q _⟩
        rw [Bk.cell q, List.getElem?_eq_getElem (by rw [L0.out]; omega)]; rfl)
      have NX := hide (fun (W : World) (h : Below wr.heap.size wr W) => show Bk (W.setCells lb (k * 15) (usL OU ++ [nilS])) lb 29 (fl (flK (k + 1) xs)) by
        have q := Bk.puts (usL OU ++ [nilS]) (k * 15) W _ (Bk.up Q0.out h) (by rw [L0.out, l3]; omega)
        rw [l3, fl_put (flK_us HX.out) (by rw [flK_len]; omega) OU L7, FS.out] at q
        exact q)
      have NY := hide (fun (W : World) (h : Below wr.heap.size wr W) => show BF (W.setCells lb (k * 15) (usL OU ++ [nilS])) (w.heap.size + 1) z00 nilS from (setCells_far _ _ 0 (by omega) _ _ _).trans (Bk.up Q1.out h))
      have NZ := hide (fun (W : World) (h : Below wr.heap.size wr W) => show Bk (W.setCells lb (k * 15) (usL OU ++ [nilS])) w.heap.size 51 [.int .i64 2, .int .i64 0, .int .i64 0, .int .i64 0, .slice (some ⟨b, o, none⟩) (3 : Nat) c] from (setCells_far _ _ 0 (by omega) _ _ _).trans (Bk.up Q2.out h))
      have NB := hide (fun (W : World) (h : Below wr.heap.size wr W) => show Below w.heap.size w (W.setCells lb (k * 15) (usL OU ++ [nilS])) from (bto BW.out h).grown (setCells_grown _ _ _ _) (bto BW.out h).size (fun k hk => by cases hk; omega))
      clear Q0 Q1 Q2 L0 hx t5 hu5 hku FS xo
      (try clear hv')
      go_wp2_with (first
        | (go_at_call 44; refine (CI.out _ (bplus BW.out _)).mono ?_; rintro e w5 ⟨rfl, B5⟩; replace B5 := hide (bto (bplus (Below.refl wr.heap.size wr) _) B5))
        | (refine wpList_store_mid rfl 29 (.tmp 36) (.tmp 35) rfl lb (k * 15) (usL OU ++ [nilS]).toArray rfl rfl (TH.out _ B5.out) H9.out (all_oneCell_toArray (us_one rfl)) ?_))
      go_roundw
      case rel => exact .mk (k + 1) (by go_num) (by omega) (NX.out _ B5.out) (NY.out _ B5.out) (NZ.out _ B5.out) (NB.out _ B5.out)
      case measure => simp [intOf]; omega
    · obtain rfl : k = 3 := by omega
      have hlt' : ¬ ((3 : Nat) : Int) < 3 := by omega
      have b0 := Bk.cell Q2.out 0
      simp at b0
      have E3 : flK 3 xs = xs.map onU := by rw [← h3]; exact flK_end xs
      rw [E3] at Q0
      have CI := hide (CS.out wr BW.out (.slice (some ⟨lb, 0, none⟩) 3 3) (by
        have := pf_of Q0.out AO.out (by rw [List.length_map]; omega) (by rw [List.length_map]; omega)
        rwa [List.length_map, h3] at this))
      have L7 : SU.length = 7 := AU.out.1
      have l3 : (usL SU ++ [nilS]).length = 15 := by rw [List.length_append, usL_len, L7]; rfl
      have H9 : (Tryd.prog.info? 29).map (·.size) = some (usL SU ++ [nilS]).toArray.size := by rw [List.size_toArray, l3]; kernel_rfl
      replace H9 := hide H9
      have TH := hide (fun (W : World) (h : Below wr.heap.size wr W) => show W.there (w.heap.size + 1) 0 (usL SU ++ [nilS]).toArray.size from there_blk (show W.heap[w.heap.size + 1]? = some (.cells (usL z00 ++ [nilS]).toArray 29) from Bk.up Q1.out h) (by simp only [List.size_toArray, l3]; rfl))
      clear Q0 Q1 Q2 E3 L0 CS CF AO AU
      go_wp2_with (first
        | (go_at_call 28; refine CI.out.mono ?_; rintro e w5 ⟨rfl, B5⟩; replace B5 := hide B5)
        | (refine wpList_store_mid rfl 29 (.tmp 2) (.tmp 43) rfl (w.heap.size + 1) 0 (usL SU ++ [nilS]).toArray rfl rfl (TH.out _ B5.out) H9.out (all_oneCell_toArray (us_one rfl)) ?_))
      refine ret_cell (b := w.heap.size + 1) (cs := usL SU ++ [nilS]) Tryd.results44 rfl (World.rangeAt_setCells_same _ _ _ _ (TH.out _ B5.out)) Tryd.underlying29 rfl (by rw [l3]; kernel_rfl) rfl ?_
      exact ⟨rfl, (bto BW.out B5.out).grown (setCells_grown _ _ _ _) (bto BW.out B5.out).size (fun k hk => by cases hk; simp)⟩
end Go.Proofs.YticgcokhdipomaaDoor.nm
