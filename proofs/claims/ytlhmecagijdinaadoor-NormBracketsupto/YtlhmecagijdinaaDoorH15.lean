/-
  How many bits, and which is the first: of a mask of units.
  Which bit is the first: of a mask with one bit.
  What forms have of one unit, the least or the most of it: by the program.
  The pick of some forms: plain.
-/
import Derived.Test.YtlhmecagijdinaaDoorH06
import Derived.Laws.Bits64b
import Derived.Laws.Bits128
import Derived.Shelf.Spec.TrailingZeros
import Derived.Lib.SmallJoins
import Derived.Lib.LaidTab
import Derived.Test.YtlhmecagijdinaaDoorH09
import Derived.Test.YtlhmecagijdinaaDoorH12
set_option linter.unusedVariables false
set_option linter.unusedSimpArgs false
namespace Go.Proofs.YtlhmecagijdinaaDoor.nm
open Go.RowKit

def on1 (x c m : Nat) : Nat := (x / c &&& m) + (x &&& m)
def on3 (x : Nat) : Nat := (x / 16 + x) &&& 1085102592571150095
def on4 (x c : Nat) : Nat := x + x / c
def onF (M : Nat) : Nat := on4 (on4 (on4 (on3 (on1 (on1 M 2 6148914691236517205) 4 3689348814741910323)) 256) 65536) 4294967296
/-- How many bits a mask has. -/
def popM (M : Nat) : Nat := onF M % 128
theorem on1_eq (x c m : Nat) (hx : x < 18446744073709551616) (hm : m < 9223372036854775808) : IntKind.u64.wrap (bits .and .u64 ((x : Int) / (c : Int)) (m : Int) + bits .and .u64 (x : Int) (m : Int)) = ((on1 x c m : Nat) : Int) := by
  have h1 : x / c < 18446744073709551616 := Nat.lt_of_le_of_lt (Nat.div_le_self _ _) hx
  rw [show (x : Int) / (c : Int) = ((x / c : Nat) : Int) from rfl, bits_and_u64_nat _ _ h1 (by omega), bits_and_u64_nat _ _ hx (by omega), IntKind.wrap_u64]
  have a1 : x / c &&& m ≤ m := Nat.and_le_right
  have a2 : x &&& m ≤ m := Nat.and_le_right
  unfold on1
  omega
theorem on3_eq (x : Nat) (hx : x < 9223372036854775808) : bits .and .u64 (IntKind.u64.wrap ((x : Int) / 16 + (x : Int))) 1085102592571150095 = ((on3 x : Nat) : Int) := by
  rw [show IntKind.u64.wrap ((x : Int) / 16 + (x : Int)) = ((x / 16 + x : Nat) : Int) by rw [IntKind.wrap_u64]; omega]
  exact bits_and_u64_nat _ 1085102592571150095 (by omega) (by decide)
theorem on4_eq (x c : Nat) (hc : 2 ≤ c) (hx : x < 9223372036854775808) : IntKind.u64.wrap ((x : Int) + (x : Int) / (c : Int)) = ((on4 x c : Nat) : Int) := by
  have h1 : x / c ≤ x := Nat.div_le_self _ _
  rw [show (x : Int) / (c : Int) = ((x / c : Nat) : Int) from rfl, IntKind.wrap_u64]
  unfold on4
  generalize x / c = d at *
  omega
theorem on3_eq' (x : Nat) (hx : x < 9223372036854775808) : bits .and .u64 ((x : Int) / 16 + (x : Int)) 1085102592571150095 = ((on3 x : Nat) : Int) := by
  rw [show (x : Int) / 16 + (x : Int) = ((x / 16 + x : Nat) : Int) by omega]
  exact bits_and_u64_nat _ 1085102592571150095 (by omega) (by decide)
theorem on4_eq' (x c : Nat) : (x : Int) + (x : Int) / (c : Int) = ((on4 x c : Nat) : Int) := by
  rw [show (x : Int) / (c : Int) = ((x / c : Nat) : Int) from rfl]
  unfold on4
  generalize x / c = d at *
  omega
theorem on_bounds : ∀ M, M < 256 → on1 M 2 6148914691236517205 < 256 ∧ on1 (on1 M 2 6148914691236517205) 4 3689348814741910323 < 256 ∧ on3 (on1 (on1 M 2 6148914691236517205) 4 3689348814741910323) < 256 ∧ on4 (on3 (on1 (on1 M 2 6148914691236517205) 4 3689348814741910323)) 256 < 256 ∧ on4 (on4 (on3 (on1 (on1 M 2 6148914691236517205) 4 3689348814741910323)) 256) 65536 < 256 ∧ onF M < 256 := by decide +kernel
set_option maxRecDepth 100000 in
set_option maxHeartbeats 4000000 in
theorem ones64_any (M : Nat) (h : M < 256) (w : World) : Calls Tryd.prog 70 #[.int .u64 M] w fun e w' => e = .returned (.int .i64 (popM M : Nat)) ∧ w' = w := by
  obtain ⟨b1, b2, b3, b4, b5, b6⟩ := on_bounds M h
  have FF := hide (show popM M = onF M % 128 from rfl)
  have E1 := hide (on1_eq M 2 6148914691236517205 (by omega) (by decide))
  have G1 := hide (show onF M = on4 (on4 (on4 (on3 (on1 (on1 M 2 6148914691236517205) 4 3689348814741910323)) 256) 65536) 4294967296 from rfl)
  obtain ⟨P, hP⟩ : ∃ P, popM M = P := ⟨_, rfl⟩
  rw [hP] at FF ⊢
  generalize onF M = Q at *
  generalize on1 M 2 6148914691236517205 = x1 at *
  have E2 := hide (on1_eq x1 4 3689348814741910323 (by omega) (by decide))
  generalize on1 x1 4 3689348814741910323 = x2 at *
  have E3 := hide (on3_eq x2 (by omega))
  have E3' := hide (on3_eq' x2 (by omega))
  generalize on3 x2 = x3 at *
  have E4 := hide (on4_eq x3 256 (by decide) (by omega))
  have E4' := hide (on4_eq' x3 256)
  generalize on4 x3 256 = x4 at *
  have E5 := hide (on4_eq x4 65536 (by decide) (by omega))
  have E5' := hide (on4_eq' x4 65536)
  generalize on4 x4 65536 = x5 at *
  have E6 := hide (on4_eq x5 4294967296 (by decide) (by omega))
  have E6' := hide (on4_eq' x5 4294967296)
  generalize on4 x5 4294967296 = x6 at *
  clear hP
  go_enter Tryd.func70, Tryd.ntmps70
  go_upto_region 2 with fail
  have e := E1.out
  simp only [Int.cast_ofNat_Int] at e
  rw [e]
  clear e E1
  go_upto_region 3 with fail
  have e := E2.out
  simp only [Int.cast_ofNat_Int] at e
  rw [e]
  clear e E2
  go_upto_region 4 with fail
  (first | rw [E3.out] | rw [E3'.out])
  clear E3 E3'
  go_upto_region 5 with fail
  have e := E4.out
  have e' := E4'.out
  simp only [Int.cast_ofNat_Int] at e e'
  (first | rw [e] | rw [e'])
  clear e e' E4 E4'
  go_upto_region 6 with fail
  have e := E5.out
  have e' := E5'.out
  simp only [Int.cast_ofNat_Int] at e e'
  (first | rw [e] | rw [e'])
  clear e e' E5 E5'
  go_upto_region 7 with fail
  have e := E6.out
  have e' := E6'.out
  simp only [Int.cast_ofNat_Int] at e e'
  (first | rw [e] | rw [e'])
  clear e e' E6 E6'
  have q6 : x6 < 256 := by have := G1.out; omega
  have p6 : P = x6 % 128 := by have := FF.out; have := G1.out; omega
  clear FF G1 b1 b2 b3 b4 b5 b6
  have EG : IntKind.i64.wrap (x6 : Int) = x6 := by simp [IntKind.wrap, go_sem]; omega
  have EH : bits .and .i64 (x6 : Int) 127 = (P : Int) := by rw [i64_and127]; omega
  have EF : bits .and .i64 (IntKind.i64.wrap (x6 : Int)) 127 = (P : Int) := by rw [EG]; exact EH
  have EL := hide (show (x6 : Int) % 128 = (P : Int) by omega)
  go_wp2
  go_ret
  exact ⟨ret_int EL.out, rfl⟩
set_option maxRecDepth 100000 in
theorem ones_any (M : Nat) (h : M < 256) (w : World) : Calls Tryd.prog 49 #[.int .u64 M] w fun e w' => e = .returned (.int .i64 (popM M : Nat)) ∧ w' = w := by
  have C := hide (fun (W : World) => ones64_any M h W)
  have hM : (M : Int) < 256 := by omega
  have hM0 : (0 : Int) ≤ M := by omega
  go_enter Tryd.func49, Tryd.ntmps49
  go_wp2_with (go_at_call 70; refine (C.out _).mono ?_; rintro e w1 ⟨rfl, rfl⟩)
  go_ret
  exact ⟨rfl, rfl⟩
end Go.Proofs.YtlhmecagijdinaaDoor.nm
set_option linter.unusedVariables false
set_option linter.unusedSimpArgs false
namespace Go.Proofs.YtlhmecagijdinaaDoor.nm
open Go.RowKit Go.Sort

/-- The table of the library, as it is laid. -/
def TabD (w : World) : Prop := Lib.TabIs Tryd.prog w "math/bits.deBruijn64tab" .u8 (Lib.deBruijn64tab.map fun n : Nat => (n : Int))
theorem TabD.low {w w' : World} (h : TabD w) (hb : Below w.heap.size w w') : TabD w' := Go.Joins.tab_stays (g := 2) (by kernel_rfl) h hb (Nat.le_refl _)
set_option maxHeartbeats 1000000 in
theorem tzD_core (x k idx : Nat) (w : World) (hx0 : ((x : Int) == 0) = false)
    (key : IntKind.u64.wrap (bits BinOp.and IntKind.u64 (x : Int) (IntKind.u64.wrap (-(x : Int))) * 285870213051353865) / 288230376151711744 = (idx : Int))
    (hi : idx < 64) (hk : k < 64) (hcell : w.cell? ⟨2, idx, none⟩ = some (.int .u8 k)) :
    Calls Tryd.prog 72 #[.int .u64 x] w fun e w' => e = .returned (.int .i64 k) ∧ w' = w := by
  go_enter Tryd.func72, Tryd.ntmps72
  go_wp2_with (simp only [key])
  go_ret
  exact ⟨rfl, rfl⟩
theorem getD_castD (l : List Nat) (i k : Nat) (h : l.getD i 0 = k) : (l.map fun n : Nat => (n : Int)).getD i 0 = (k : Int) := by
  subst h
  rw [List.getD_eq_getElem?_getD, List.getD_eq_getElem?_getD, List.getElem?_map]
  cases l[i]? <;> rfl
theorem tzD_any (x : Nat) (w : World) (hx : x < 18446744073709551616) (hx0 : x ≠ 0) (hT : TabD w) :
    Calls Tryd.prog 72 #[.int .u64 x] w fun e w' => e = .returned (.int .i64 (Lib.ctz 64 x)) ∧ w' = w := by
  obtain ⟨hlow, hk⟩ := Lib.lowest_bit 64 x hx0 hx
  obtain ⟨hi, htab⟩ := Lib.deBruijn64_at _ hk
  have key := tz64_key x (2 ^ Lib.ctz 64 x) hx hx0 hlow
  generalize Lib.ctz 64 x = k at *
  generalize 2 ^ k * 285870213051353865 % 18446744073709551616 / 288230376151711744 = i at *
  have hcell := hT.cell (g := 2) (by kernel_rfl) i (by rw [List.length_map]; exact hi)
  rw [getD_castD _ i k htab] at hcell
  exact tzD_core x k i w (by simpa using hx0) key hi hk hcell
theorem ctz_pow {u : Nat} (h1 : 1 ≤ u) (h7 : u ≤ 7) : Lib.ctz 64 (2 ^ u) = u := by
  rcases (show u = 1 ∨ u = 2 ∨ u = 3 ∨ u = 4 ∨ u = 5 ∨ u = 6 ∨ u = 7 by omega) with rfl | rfl | rfl | rfl | rfl | rfl | rfl <;> decide +kernel
theorem pow_lt {u : Nat} (h7 : u ≤ 7) : 2 ^ u < 256 := Nat.lt_of_le_of_lt (Nat.pow_le_pow_right (by decide) h7) (by decide)
set_option maxRecDepth 100000 in
theorem tzM_any (u : Nat) (h1 : 1 ≤ u) (h7 : u ≤ 7) (w : World) (hT : TabD w) : Calls Tryd.prog 50 #[.int .u64 (2 ^ u : Nat)] w fun e w' => e = .returned (.int .i64 u) ∧ w' = w := by
  have C := hide (tzD_any (2 ^ u) w (Nat.lt_trans (pow_lt h7) (by decide)) (Nat.ne_of_gt (Nat.two_pow_pos u)) hT)
  rw [ctz_pow h1 h7] at C
  have hl := pow_lt h7
  generalize 2 ^ u = M at *
  have hM : (M : Int) < 256 := by omega
  have hM0 : (0 : Int) ≤ (M : Int) := by omega
  go_enter Tryd.func50, Tryd.ntmps50
  go_wp2_with (go_at_call 72; refine C.out.mono ?_; rintro e w1 ⟨rfl, rfl⟩)
  go_ret
  exact ⟨rfl, rfl⟩
end Go.Proofs.YtlhmecagijdinaaDoor.nm
set_option linter.unusedVariables false
set_option linter.unusedSimpArgs false
namespace Go.Proofs.YtlhmecagijdinaaDoor.nm
open Go.RowKit cc

/-- The unit u's amounts (u from 1 on). -/
def amU (u : Nat) (l : List Fo) : List (Int × Int) := l.map fun f => f.us.getD (u - 1) (0, 0)
def RelPo (w : World) (rs : List (Int × Int)) (n : Nat) (i : Value) (wr : World) : Prop := ∃ k : Nat, i = .int .i64 k ∧ k ≤ n ∧ Hid (Rw2 wr (w.heap.size + 1) n k rs ∧ Bk wr w.heap.size 23 [.int .i64 0, .int .i64 0] ∧ Below w.heap.size w wr)
theorem RelPo.mk {w : World} {rs : List (Int × Int)} {n : Nat} {i : Value} {wr : World} (k : Nat) (h1 : i = .int .i64 k) (h2 : k ≤ n) (h3 : Rw2 wr (w.heap.size + 1) n k rs) (h4 : Bk wr w.heap.size 23 [.int .i64 0, .int .i64 0]) (h7 : Below w.heap.size w wr) : RelPo w rs n i wr := ⟨k, h1, h2, h3, h4, h7⟩
set_option maxRecDepth 100000 in
set_option maxHeartbeats 16000000 in
theorem pickOf_any (u : Nat) (h1 : 1 ≤ u) (h7 : u ≤ 7) (mx : Bool) (n : Nat) (l : List Fo) (v : Value) (w : World) (hv : FM w n v l) : Calls Tryd.prog 51 #[.int .i64 u, .bool mx, v] w fun e w' => e = .returned (ratV (wk.utAll (if mx then 1 else -1) (amU u l))) ∧ Below w.heap.size w w' := by
  obtain ⟨a, c, rfl, hl9⟩ := hv.shape
  obtain ⟨d, rfl⟩ : ∃ d, u = d + 1 := ⟨u - 1, by omega⟩
  obtain ⟨rs, hrs⟩ : ∃ rs, amU (d + 1) l = rs := ⟨_, rfl⟩
  have RL := hide (show rs.length = l.length by rw [← hrs]; unfold amU; rw [List.length_map])
  have RA := hide (show ∀ (i : Nat) (y : Fo), l[i]? = some y → rs[i]? = some (y.us.getD d (0, 0)) by intro i y h; rw [← hrs]; unfold amU; rw [List.getElem?_map, h]; rfl)
  have HV := hide hv
  have RI := hide (show ∀ r ∈ rs, R64 r by
    intro r hr
    rw [← hrs] at hr
    obtain ⟨y, hy, rfl⟩ := List.mem_map.1 hr
    obtain ⟨i, hi⟩ := List.mem_iff_getElem?.1 hy
    obtain ⟨_, _, _, _, _, _, _, hus, _⟩ := fm_range HV.out hi
    obtain ⟨p, q, hpq, i1, i2⟩ := us_at hus (k := d) (by omega)
    show R64 (y.us.getD d (0, 0))
    rw [List.getD_eq_getElem?_getD, hpq]
    exact ⟨i1, i2⟩)
  rw [hrs]
  have E := hide (show wk.utAll (if mx then 1 else -1) rs = wk.utAll (if mx then 1 else -1) rs from rfl)
  obtain ⟨X, hX⟩ : ∃ X, wk.utAll (if mx then 1 else -1) rs = X := ⟨_, rfl⟩
  rw [hX]
  have HX := hide hX
  have hd7 : (d : Int) < 7 := by omega
  have WD : IntKind.i64.wrap (((d + 1 : Nat) : Int) - 1) = (d : Int) := by rw [show ((d + 1 : Nat) : Int) - 1 = d by omega]; simp [IntKind.wrap, go_sem]; omega
  have hd8 : d < 7 := by omega
  obtain ⟨W1, hW1⟩ : ∃ W1, w.alloc (.cells #[.int .i64 0, .int .i64 0] 23) = W1 := ⟨_, rfl⟩
  have S1 : W1.heap.size = w.heap.size + 1 := by rw [← hW1]; simp
  have B0 := hide (show Below w.heap.size w W1 by rw [← hW1]; exact bplus (Below.refl _ _) _)
  have P1 := hide (show Bk W1 w.heap.size 23 [.int .i64 0, .int .i64 0] by rw [← hW1]; exact Bk.new w _ _)
  have HW1 := hide hW1
  generalize ((d + 1 : Nat) : Int) = ui at *
  clear hW1 hX hrs hv h1 h7
  go_enter Tryd.func51, Tryd.ntmps51
  go_upto_region 1 with fail
  rw [HW1.out]
  clear HW1
  have MK := madeR l.length hl9 W1
  have K0 := hide (show Rw2 (W1.alloc (.cells (madeCells #[.int .i64 0, .int .i64 0] (l.length * 2)) 23)) (w.heap.size + 1) l.length 0 rs by rw [← S1]; exact Rw2.new W1 _ _)
  have K1 := hide (show Bk (W1.alloc (.cells (madeCells #[.int .i64 0, .int .i64 0] (l.length * 2)) 23)) w.heap.size 23 [.int .i64 0, .int .i64 0] from Bk.more P1.out _)
  have K3 := hide (show Below w.heap.size w (W1.alloc (.cells (madeCells #[.int .i64 0, .int .i64 0] (l.length * 2)) 23)) from bplus B0.out _)
  go_upto_region 2 with fail
  clear MK P1 B0
  (try rw [S1])
  generalize W1.alloc (.cells (madeCells #[.int .i64 0, .int .i64 0] (l.length * 2)) 23) = W2 at *
  clear S1
  go_wp2_with fail
  go_loopw [15] (fun i wr => RelPo w rs l.length i wr) (fun i _ => l.length - (intOf i).toNat)
  case atStart => exact .mk 0 rfl (by omega) K0.out K1.out K3.out
  case round =>
    obtain ⟨k, rfl, hk, R⟩ := hrel
    have Q0 := hide R.out.1
    have Q1 := hide R.out.2.1
    have BW := hide R.out.2.2
    clear R K0 K1 K3
    by_cases hlt : k < l.length
    · have hlt' : (k : Int) < l.length := by omega
      obtain ⟨f, hf⟩ : ∃ f, l[k]? = some f := ⟨_, List.getElem?_eq_getElem hlt⟩
      obtain ⟨m, b, o, c', fu, hv', hb, hus, hrg, hpm⟩ := fm_range HV.out hf
      obtain ⟨rfl, rfl⟩ : a = some ⟨b, o, none⟩ ∧ c = c' := by cases hv'; exact ⟨rfl, rfl⟩
      have lA := fo_len hus fu
      have OA := hide (us_one (us := f.us) (pm_one hpm))
      have AY := hide (RA.out k f hf)
      obtain ⟨p, q, hpq, -, -⟩ := us_at hus (k := d) hd8
      rw [show f.us.getD d (0, 0) = (p, q) by rw [List.getD_eq_getElem?_getD, hpq]; rfl] at AY
      have UL := usL_len f.us
      have CA := hide (show (usL f.us ++ [fu])[d * 2]? = some (.int .i64 p) ∧ (usL f.us ++ [fu])[d * 2 + 1]? = some (.int .i64 q) from ⟨by rw [List.getElem?_append_left (by rw [UL, hus.1]; omega)]; exact (usL_at hpq).1, by rw [List.getElem?_append_left (by rw [UL, hus.1]; omega)]; exact (usL_at hpq).2⟩)
      have RG := hide (show wr.rangeAt b (o + k * 15) (usL f.us ++ [fu]) from fun j v hj => (BW.out.cell (p := ⟨b, o + k * 15 + j, none⟩) hb).trans (hrg j v hj))
      have hbw : b < wr.heap.size := by have := BW.out.size; omega
      have nb : b ≠ wr.heap.size := by omega
      have hq2 : w.heap.size + 1 < wr.heap.size := Rw2.lt Q0.out
      clear hf hrg hpm hus hpq UL
      (try clear hv')
      generalize usL f.us ++ [fu] = A at *
      have sA : A.toArray.size = 15 := by rw [List.size_toArray]; exact lA
      obtain ⟨W4, hW4⟩ : ∃ W4, (wr.alloc (.cells #[.int .i64 0, .int .i64 0, .int .i64 0, .int .i64 0, .int .i64 0, .int .i64 0, .int .i64 0, .int .i64 0, .int .i64 0, .int .i64 0, .int .i64 0, .int .i64 0, .int .i64 0, .int .i64 0, .slice none 0 0] 30)).setCells wr.heap.size 0 A = W4 := ⟨_, rfl⟩
      have T4 := hide (show (wr.alloc (.cells #[.int .i64 0, .int .i64 0, .int .i64 0, .int .i64 0, .int .i64 0, .int .i64 0, .int .i64 0, .int .i64 0, .int .i64 0, .int .i64 0, .int .i64 0, .int .i64 0, .int .i64 0, .int .i64 0, .slice none 0 0] 30)).there wr.heap.size 0 A.toArray.size from there_blk (heap_alloc_new wr _) (by rw [sA]; rfl))
      have H4 := hide (show (Tryd.prog.info? 30).map (·.size) = some A.toArray.size by rw [sA]; kernel_rfl)
      have H5 := hide (show (Tryd.prog.info? 30).map (·.size) = some A.length by rw [lA]; kernel_rfl)
      have B4 := hide (show Below wr.heap.size wr W4 by rw [← hW4]; exact (bplus (Below.refl _ _) _).grown (setCells_grown _ _ _ _) (by simp) (fun k hk => by cases hk; exact Nat.le_refl _))
      have R4 := hide (show W4.rangeAt wr.heap.size 0 A by
        have q := Bk.puts A 0 _ _ (Bk.new wr 30 [.int .i64 0, .int .i64 0, .int .i64 0, .int .i64 0, .int .i64 0, .int .i64 0, .int .i64 0, .int .i64 0, .int .i64 0, .int .i64 0, .int .i64 0, .int .i64 0, .int .i64 0, .int .i64 0, .slice none 0 0]) (by rw [lA]; simp)
        rw [List.take_zero, List.nil_append, Nat.zero_add, List.drop_of_length_le (by rw [lA]; simp), List.append_nil] at q
        rw [← hW4]
        exact range_blk q)
      have c0 := R4.out _ _ CA.out.1
      have c1 := R4.out _ _ CA.out.2
      rw [Nat.zero_add] at c0 c1
      have HW4 := hide hW4
      clear hW4 CA
      obtain ⟨⟨⟨z0, t0⟩, v0⟩, ⟨z1, t1⟩, v1⟩ := show ((∃ v, W4.cell? ⟨w.heap.size + 1, k * 2, none⟩ = some v) ∧ W4.frozen? ⟨w.heap.size + 1, k * 2, none⟩ = false) ∧ ((∃ v, W4.cell? ⟨w.heap.size + 1, k * 2 + 1, none⟩ = some v) ∧ W4.frozen? ⟨w.heap.size + 1, k * 2 + 1, none⟩ = false) from And.intro (Rw2.there (Rw2.up Q0.out B4.out) (j := k * 2) (by omega)) (Rw2.there (Rw2.up Q0.out B4.out) (j := k * 2 + 1) (by omega))
      have PP := hide ((Rw2.up Q0.out B4.out).put hlt AY.out)
      have NY := hide (show Bk ((W4.setCell ⟨w.heap.size + 1, k * 2, none⟩ (.int .i64 p)).setCell ⟨w.heap.size + 1, k * 2 + 1, none⟩ (.int .i64 q)) w.heap.size 23 [.int .i64 0, .int .i64 0] from Bk.far (Bk.far (Bk.up Q1.out B4.out) (by omega) _ _) (by omega) _ _)
      have NB := hide (show Below w.heap.size w ((W4.setCell ⟨w.heap.size + 1, k * 2, none⟩ (.int .i64 p)).setCell ⟨w.heap.size + 1, k * 2 + 1, none⟩ (.int .i64 q)) from ((bto BW.out B4.out).setCell (by simp) _).setCell (by simp) _)
      clear HV RA Q0 Q1 AY BW
      go_upto_region 5 with (first
        | (refine wpList_load_mid rfl 30 (.tmp 18) rfl b (o + k * 15) rfl A _ RG.out Tryd.underlying30 rfl H5.out ?_)
        | (refine wpList_store_mid rfl 30 (.tmp 9) (.tmp 19) rfl wr.heap.size 0 A.toArray rfl rfl T4.out H4.out (all_oneCell_toArray OA.out) ?_))
      (try rw [show A.toArray.toList = A from rfl])
      rw [HW4.out]
      clear HW4 T4 RG R4
      go_wp2_with fail
      go_roundw
      case rel => exact .mk (k + 1) (by go_num) (by omega) PP.out NY.out NB.out
      case measure => simp [intOf]; omega
    · obtain rfl : k = l.length := by omega
      have hlt' : ¬ (l.length : Int) < l.length := by omega
      have RW := hide (Rw2.row Q0.out RL.out hl9)
      have TR := hide (fun (W : World) (h : Below wr.heap.size wr W) => show Bk W w.heap.size 23 [.int .i64 0, .int .i64 0] from Bk.up Q1.out h)
      have BX := hide (Below.refl wr.heap.size wr)
      clear Q0 Q1 HV RA RL
      cases mx
      · have CO := hide (leastP_op RW.out RI.out)
        rw [show wk.utAll (-1) rs = X from HX.out] at CO
        unfold OpC ratV at CO
        clear E RW RI HX
        go_wp2_with (go_at_call 74; refine (CO.out _ BX.out).mono ?_; rintro e w5 ⟨rfl, B5⟩; replace BX := hide B5; have QR := TR.out _ BX.out; have t0 := Bk.cell QR 0; have t1 := Bk.cell QR 1; simp at t0 t1; have z0 := Bk.fz QR 0; have z1 := Bk.fz QR 1; clear QR)
        exact bodyPost_ret (v := .agg #[.int .i64 X.1, .int .i64 X.2]) (by simp [results, Tryd.results51, go_sem, *]) rfl ⟨rfl, ((bto BW.out BX.out).setCell (by first | (simp; done) | (simp; omega)) _).setCell (by first | (simp; done) | (simp; omega)) _⟩
      · have CO := hide (mostP_op RW.out RI.out)
        rw [show wk.utAll 1 rs = X from HX.out] at CO
        unfold OpC ratV at CO
        clear E RW RI HX
        go_wp2_with (go_at_call 73; refine (CO.out _ BX.out).mono ?_; rintro e w5 ⟨rfl, B5⟩; replace BX := hide B5; have QR := TR.out _ BX.out; have t0 := Bk.cell QR 0; have t1 := Bk.cell QR 1; simp at t0 t1; have z0 := Bk.fz QR 0; have z1 := Bk.fz QR 1; clear QR)
        exact bodyPost_ret (v := .agg #[.int .i64 X.1, .int .i64 X.2]) (by simp [results, Tryd.results51, go_sem, *]) rfl ⟨rfl, ((bto BW.out BX.out).setCell (by first | (simp; done) | (simp; omega)) _).setCell (by first | (simp; done) | (simp; omega)) _⟩
end Go.Proofs.YtlhmecagijdinaaDoor.nm
set_option linter.unusedVariables false
set_option linter.unusedSimpArgs false
namespace Go.Proofs.YtlhmecagijdinaaDoor.nm
open Go.RowKit cc

/-- The bits of the units of which there is something, from the unit k + 1 on. -/
def usedN : List (Int × Int) → Nat → Nat
  | [], _ => 0
  | r :: rs, k => (if r = (0, 1) then 0 else 2 ^ (k + 1)) ||| usedN rs (k + 1)
def maskN : List Fo → Nat
  | [] => 0
  | f :: l => usedN f.us 0 ||| maskN l
def plainL (l : List Fo) : Bool := l.all fun f => f.ps.isEmpty
theorem or_lt256 {a b : Nat} (ha : a < 256) (hb : b < 256) : a ||| b < 256 := Nat.or_lt_two_pow (n := 8) ha hb
theorem pow_lt256 {k : Nat} (h : k < 8) : 2 ^ k < 256 := Nat.lt_of_le_of_lt (Nat.pow_le_pow_right (by decide) (Nat.le_of_lt_succ h)) (by decide)
theorem usedN_lt : ∀ (us : List (Int × Int)) (k : Nat), k + us.length ≤ 7 → usedN us k < 256 := by
  intro us
  induction us with
  | nil => intro k _; show 0 < 256; decide
  | cons r rs ih =>
    intro k h
    rw [List.length_cons] at h
    refine or_lt256 ?_ (ih (k + 1) (by omega))
    split
    · decide
    · exact pow_lt256 (by omega)
theorem usedN_bit0 : ∀ (us : List (Int × Int)) (k : Nat), (usedN us k).testBit 0 = false := by
  intro us
  induction us with
  | nil => intro k; rw [usedN]; decide
  | cons r rs ih =>
    intro k
    rw [usedN, Nat.testBit_or, ih, Bool.or_false]
    split
    · decide
    · rw [Nat.testBit_two_pow]; simp
theorem maskN_lt {l : List Fo} (h : ∀ f ∈ l, f.us.length = 7) : maskN l < 256 := by
  induction l with
  | nil => show 0 < 256; decide
  | cons f l ih => exact or_lt256 (usedN_lt f.us 0 (by rw [h f (by simp)]; decide)) (ih fun g hg => h g (by simp [hg]))
theorem maskN_bit0 (l : List Fo) : (maskN l).testBit 0 = false := by
  induction l with
  | nil => rw [maskN]; decide
  | cons f l ih => rw [maskN, Nat.testBit_or, usedN_bit0, ih]; rfl
theorem orI_nat {a b : Nat} (ha : a < 256) (hb : b < 256) : orI (a : Int) (b : Int) = ((a ||| b : Nat) : Int) := by
  have hw : ∀ n : Int, 0 ≤ n → n < 2 ^ 8 → IntKind.i64.wrap n = n := fun n h0 h1 => by
    rw [IntKind.wrap_i64]
    have : (2 : Int) ^ 8 = 256 := by decide
    omega
  exact (bits_nat .i64 8 (by decide) hw a b ha hb).2
theorem bitK_nat {k : Nat} (h : k < 7) : bitK k = ((2 ^ (k + 1) : Nat) : Int) := by
  rcases (show k = 0 ∨ k = 1 ∨ k = 2 ∨ k = 3 ∨ k = 4 ∨ k = 5 ∨ k = 6 by omega) with rfl | rfl | rfl | rfl | rfl | rfl | rfl <;> decide +kernel
theorem orU_nat : ∀ (us : List (Int × Int)) (k m : Nat), k + us.length ≤ 7 → m < 256 → orU (m : Int) us k = ((m ||| usedN us k : Nat) : Int) := by
  intro us
  induction us with
  | nil => intro k m _ _; rw [orU, usedN, Nat.or_zero]
  | cons r rs ih =>
    intro k m h hm
    rw [List.length_cons] at h
    rw [orU, usedN]
    split
    · rw [ih (k + 1) m (by omega) hm, Nat.zero_or]
    · have hp := pow_lt256 (k := k + 1) (by omega)
      rw [bitK_nat (by omega), orI_nat hm hp, ih (k + 1) _ (by omega) (or_lt256 hm hp), Nat.or_assoc]
theorem upT_nat : ∀ (l : List Fo) (m : Nat), (∀ f ∈ l, f.us.length = 7) → m < 256 → upT l (m : Int) = if plainL l = true then (((m ||| maskN l : Nat) : Int), true) else (0, false) := by
  intro l
  induction l with
  | nil => intro m _ _; rw [upT, maskN, Nat.or_zero]; rfl
  | cons f l ih =>
    intro m h hm
    have hf := h f (by simp)
    have hu := usedN_lt f.us 0 (by rw [hf]; decide)
    have e0 := orU_nat f.us 0 0 (by rw [hf]; decide) (by decide)
    rw [Nat.zero_or] at e0
    rw [upT]
    by_cases hp : f.ps.length = 0
    · have he : f.ps.isEmpty = true := by rw [List.isEmpty_iff]; exact List.eq_nil_of_length_eq_zero hp
      rw [if_pos hp, show orU 0 f.us 0 = orU ((0 : Nat) : Int) f.us 0 from rfl, e0, orI_nat hm hu, ih _ (fun g hg => h g (by simp [hg])) (or_lt256 hm hu), maskN, Nat.or_assoc]
      show _ = if (f.ps.isEmpty && plainL l) = true then _ else _
      rw [he, Bool.true_and]
    · have he : f.ps.isEmpty = false := by
        cases hh : f.ps.isEmpty with
        | false => rfl
        | true => rw [List.isEmpty_iff] at hh; rw [hh] at hp; exact absurd rfl hp
      rw [if_neg hp]
      show _ = if (f.ps.isEmpty && plainL l) = true then _ else _
      rw [he, Bool.false_and]
      rfl
theorem upT_zero {l : List Fo} (h : ∀ f ∈ l, f.us.length = 7) : upT l 0 = if plainL l = true then (((maskN l : Nat) : Int), true) else (0, false) := by
  have := upT_nat l 0 h (by decide)
  rw [Nat.zero_or] at this
  exact this
/-- A mask with one bit. -/
theorem pop_one : ∀ M, M < 256 → M.testBit 0 = false → popM M ≤ 1 → M ≠ 0 → M = 2 ^ M.log2 ∧ 1 ≤ M.log2 ∧ M.log2 ≤ 7 := by decide +kernel
theorem pop_zero : popM 0 = 0 := by decide +kernel
/-- The pick. -/
def pkF (mx : Bool) (l : List Fo) : Fo :=
  if l.length = 1 then l.headD (.mk z01 [])
  else if plainL l = false ∨ 1 < popM (maskN l) then .mk z01 [(mx, l)]
  else if maskN l = 0 then .mk z01 []
  else .mk (oneU ((maskN l).log2 : Nat) (wk.utAll (if mx then 1 else -1) (amU (maskN l).log2 l))) []
theorem amU_64 {u : Nat} (h1 : 1 ≤ u) (h7 : u ≤ 7) {l : List Fo} (h : ∀ f ∈ l, Us f.us) : ∀ r ∈ amU u l, R64 r := by
  intro r hr
  obtain ⟨y, hy, rfl⟩ := List.mem_map.1 hr
  obtain ⟨p, q, hpq, i1, i2⟩ := us_at (h y hy) (k := u - 1) (by omega)
  show R64 (y.us.getD (u - 1) (0, 0))
  rw [List.getD_eq_getElem?_getD, hpq]
  exact ⟨i1, i2⟩
theorem pkF_us {mx : Bool} {l : List Fo} (h : ∀ f ∈ l, Us f.us) : Us (pkF mx l).us := by
  have hl := fun f hf => (h f hf).1
  unfold pkF
  split
  · rename_i h1
    match l, h1 with
    | [f], _ => exact h f (by simp)
  split
  · exact zus
  split
  · exact zus
  · rename_i h1 h2 h3
    have hp : popM (maskN l) ≤ 1 := by
      refine Nat.le_of_not_lt fun hh => h2 (.inr hh)
    obtain ⟨-, a1, a7⟩ := pop_one _ (maskN_lt hl) (maskN_bit0 l) hp h3
    obtain ⟨i1, i2⟩ := ut_64 (if mx then 1 else -1) (amU_64 a1 a7 h)
    exact one_us _ _ _ i1 i2
theorem fm_us {w : World} {n : Nat} {v : Value} {l : List Fo} (h : FM w n v l) : ∀ f ∈ l, Us f.us := by
  intro f hf
  obtain ⟨i, hi⟩ := List.mem_iff_getElem?.1 hf
  obtain ⟨_, _, _, _, _, _, _, hu, _⟩ := fm_range h hi
  exact hu
end Go.Proofs.YtlhmecagijdinaaDoor.nm
