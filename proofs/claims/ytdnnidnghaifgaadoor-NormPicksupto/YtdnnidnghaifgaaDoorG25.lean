/-
  How many bits, and which is the first: of a mask of units.
  Which bit is the first: of a mask with one bit.
-/
import Derived.Test.YtdnnidnghaifgaaDoorG24
import Derived.Laws.Bits64b
import Derived.Laws.Bits128
import Derived.Shelf.Spec.TrailingZeros
import Derived.Lib.SmallJoins
import Derived.Lib.LaidTab
set_option linter.unusedVariables false
set_option linter.unusedSimpArgs false
namespace Go.Proofs.YtdnnidnghaifgaaDoor.nm
open Go.RowKit

def on1 (x c m : Nat) : Nat := (x / c &&& m) + (x &&& m)
def on3 (x : Nat) : Nat := (x / 16 + x) &&& 1085102592571150095
def on4 (x c : Nat) : Nat := x + x / c
def onF (M : Nat) : Nat := on4 (on4 (on4 (on3 (on1 (on1 M 2 6148914691236517205) 4 3689348814741910323)) 256) 65536) 4294967296
/-- How many bits a mask has. -/
def popM (M : Nat) : Nat := onF M % 128
theorem on1_eq (x c m : Nat) (hx : x < 18446744073709551616) (hm : m < 9223372036854775808) : IntKind.u64.wrap (bits .and .u64 ((x : Int) / (c : Int)) (m : Int) + bits .and .u64 (x : Int) (m : Int)) = ((on1 x c m : Nat) : Int) := by
  have h1 : x / c < 18446744073709551616 := Nat.lt_of_le_of_lt (Nat.div_le_self _ _) hx
  rw [show (x : Int) / (c : Int) = ((x / c : Nat) : Int) from rfl, bits_and_u64_nat _ _ h1 (by omega), bits_and_u64_nat _ _ hx (by omega), IntKind.wrap_u64]
  have a1 : x / c &&& m ≤ m := Nat.and_le_right
  have a2 : x &&& m ≤ m := Nat.and_le_right
  unfold on1
  omega
theorem on3_eq (x : Nat) (hx : x < 9223372036854775808) : bits .and .u64 (IntKind.u64.wrap ((x : Int) / 16 + (x : Int))) 1085102592571150095 = ((on3 x : Nat) : Int) := by
  rw [show IntKind.u64.wrap ((x : Int) / 16 + (x : Int)) = ((x / 16 + x : Nat) : Int) by rw [IntKind.wrap_u64]; omega]
  exact bits_and_u64_nat _ 1085102592571150095 (by omega) (by decide)
theorem on4_eq (x c : Nat) (hc : 2 ≤ c) (hx : x < 9223372036854775808) : IntKind.u64.wrap ((x : Int) + (x : Int) / (c : Int)) = ((on4 x c : Nat) : Int) := by
  have h1 : x / c ≤ x := Nat.div_le_self _ _
  rw [show (x : Int) / (c : Int) = ((x / c : Nat) : Int) from rfl, IntKind.wrap_u64]
  unfold on4
  generalize x / c = d at *
  omega
theorem on3_eq' (x : Nat) (hx : x < 9223372036854775808) : bits .and .u64 ((x : Int) / 16 + (x : Int)) 1085102592571150095 = ((on3 x : Nat) : Int) := by
  rw [show (x : Int) / 16 + (x : Int) = ((x / 16 + x : Nat) : Int) by omega]
  exact bits_and_u64_nat _ 1085102592571150095 (by omega) (by decide)
theorem on4_eq' (x c : Nat) : (x : Int) + (x : Int) / (c : Int) = ((on4 x c : Nat) : Int) := by
  rw [show (x : Int) / (c : Int) = ((x / c : Nat) : Int) from rfl]
  unfold on4
  generalize x / c = d at *
  omega
theorem on_bounds : ∀ M, M < 256 → on1 M 2 6148914691236517205 < 256 ∧ on1 (on1 M 2 6148914691236517205) 4 3689348814741910323 < 256 ∧ on3 (on1 (on1 M 2 6148914691236517205) 4 3689348814741910323) < 256 ∧ on4 (on3 (on1 (on1 M 2 6148914691236517205) 4 3689348814741910323)) 256 < 256 ∧ on4 (on4 (on3 (on1 (on1 M 2 6148914691236517205) 4 3689348814741910323)) 256) 65536 < 256 ∧ onF M < 256 := by decide +kernel
set_option maxRecDepth 100000 in
set_option maxHeartbeats 4000000 in
theorem ones64_any (M : Nat) (h : M < 256) (w : World) : Calls Tryd.prog 73 #[.int .u64 M] w fun e w' => e = .returned (.int .i64 (popM M : Nat)) ∧ w' = w := by
  obtain ⟨b1, b2, b3, b4, b5, b6⟩ := on_bounds M h
  have FF := hide (show popM M = onF M % 128 from rfl)
  have E1 := hide (on1_eq M 2 6148914691236517205 (by omega) (by decide))
  have G1 := hide (show onF M = on4 (on4 (on4 (on3 (on1 (on1 M 2 6148914691236517205) 4 3689348814741910323)) 256) 65536) 4294967296 from rfl)
  obtain ⟨P, hP⟩ : ∃ P, popM M = P := ⟨_, rfl⟩
  rw [hP] at FF ⊢
  generalize onF M = Q at *
  generalize on1 M 2 6148914691236517205 = x1 at *
  have E2 := hide (on1_eq x1 4 3689348814741910323 (by omega) (by decide))
  generalize on1 x1 4 3689348814741910323 = x2 at *
  have E3 := hide (on3_eq x2 (by omega))
  have E3' := hide (on3_eq' x2 (by omega))
  generalize on3 x2 = x3 at *
  have E4 := hide (on4_eq x3 256 (by decide) (by omega))
  have E4' := hide (on4_eq' x3 256)
  generalize on4 x3 256 = x4 at *
  have E5 := hide (on4_eq x4 65536 (by decide) (by omega))
  have E5' := hide (on4_eq' x4 65536)
  generalize on4 x4 65536 = x5 at *
  have E6 := hide (on4_eq x5 4294967296 (by decide) (by omega))
  have E6' := hide (on4_eq' x5 4294967296)
  generalize on4 x5 4294967296 = x6 at *
  clear hP
  go_enter Tryd.func73, Tryd.ntmps73
  go_upto_region 2 with fail
  have e := E1.out
  simp only [Int.cast_ofNat_Int] at e
  rw [e]
  clear e E1
  go_upto_region 3 with fail
  have e := E2.out
  simp only [Int.cast_ofNat_Int] at e
  rw [e]
  clear e E2
  go_upto_region 4 with fail
  (first | rw [E3.out] | rw [E3'.out])
  clear E3 E3'
  go_upto_region 5 with fail
  have e := E4.out
  have e' := E4'.out
  simp only [Int.cast_ofNat_Int] at e e'
  (first | rw [e] | rw [e'])
  clear e e' E4 E4'
  go_upto_region 6 with fail
  have e := E5.out
  have e' := E5'.out
  simp only [Int.cast_ofNat_Int] at e e'
  (first | rw [e] | rw [e'])
  clear e e' E5 E5'
  go_upto_region 7 with fail
  have e := E6.out
  have e' := E6'.out
  simp only [Int.cast_ofNat_Int] at e e'
  (first | rw [e] | rw [e'])
  clear e e' E6 E6'
  have q6 : x6 < 256 := by have := G1.out; omega
  have p6 : P = x6 % 128 := by have := FF.out; have := G1.out; omega
  clear FF G1 b1 b2 b3 b4 b5 b6
  have EG : IntKind.i64.wrap (x6 : Int) = x6 := by simp [IntKind.wrap, go_sem]; omega
  have EH : bits .and .i64 (x6 : Int) 127 = (P : Int) := by rw [i64_and127]; omega
  have EF : bits .and .i64 (IntKind.i64.wrap (x6 : Int)) 127 = (P : Int) := by rw [EG]; exact EH
  have EL := hide (show (x6 : Int) % 128 = (P : Int) by omega)
  go_wp2
  go_ret
  exact ⟨ret_int EL.out, rfl⟩
set_option maxRecDepth 100000 in
theorem ones_any (M : Nat) (h : M < 256) (w : World) : Calls Tryd.prog 48 #[.int .u64 M] w fun e w' => e = .returned (.int .i64 (popM M : Nat)) ∧ w' = w := by
  have C := hide (fun (W : World) => ones64_any M h W)
  have hM : (M : Int) < 256 := by omega
  have hM0 : (0 : Int) ≤ M := by omega
  go_enter Tryd.func48, Tryd.ntmps48
  go_wp2_with (go_at_call 73; refine (C.out _).mono ?_; rintro e w1 ⟨rfl, rfl⟩)
  go_ret
  exact ⟨rfl, rfl⟩
end Go.Proofs.YtdnnidnghaifgaaDoor.nm
set_option linter.unusedVariables false
set_option linter.unusedSimpArgs false
namespace Go.Proofs.YtdnnidnghaifgaaDoor.nm
open Go.RowKit Go.Sort

/-- The table of the library, as it is laid. -/
def TabD (w : World) : Prop := Lib.TabIs Tryd.prog w "math/bits.deBruijn64tab" .u8 (Lib.deBruijn64tab.map fun n : Nat => (n : Int))
theorem TabD.low {w w' : World} (h : TabD w) (hb : Below w.heap.size w w') : TabD w' := Go.Joins.tab_stays (g := 3) (by kernel_rfl) h hb (Nat.le_refl _)
set_option maxHeartbeats 1000000 in
theorem tzD_core (x k idx : Nat) (w : World) (hx0 : ((x : Int) == 0) = false)
    (key : IntKind.u64.wrap (bits BinOp.and IntKind.u64 (x : Int) (IntKind.u64.wrap (-(x : Int))) * 285870213051353865) / 288230376151711744 = (idx : Int))
    (hi : idx < 64) (hk : k < 64) (hcell : w.cell? ⟨3, idx, none⟩ = some (.int .u8 k)) :
    Calls Tryd.prog 75 #[.int .u64 x] w fun e w' => e = .returned (.int .i64 k) ∧ w' = w := by
  go_enter Tryd.func75, Tryd.ntmps75
  go_wp2_with (simp only [key])
  go_ret
  exact ⟨rfl, rfl⟩
theorem getD_castD (l : List Nat) (i k : Nat) (h : l.getD i 0 = k) : (l.map fun n : Nat => (n : Int)).getD i 0 = (k : Int) := by
  subst h
  rw [List.getD_eq_getElem?_getD, List.getD_eq_getElem?_getD, List.getElem?_map]
  cases l[i]? <;> rfl
theorem tzD_any (x : Nat) (w : World) (hx : x < 18446744073709551616) (hx0 : x ≠ 0) (hT : TabD w) :
    Calls Tryd.prog 75 #[.int .u64 x] w fun e w' => e = .returned (.int .i64 (Lib.ctz 64 x)) ∧ w' = w := by
  obtain ⟨hlow, hk⟩ := Lib.lowest_bit 64 x hx0 hx
  obtain ⟨hi, htab⟩ := Lib.deBruijn64_at _ hk
  have key := tz64_key x (2 ^ Lib.ctz 64 x) hx hx0 hlow
  generalize Lib.ctz 64 x = k at *
  generalize 2 ^ k * 285870213051353865 % 18446744073709551616 / 288230376151711744 = i at *
  have hcell := hT.cell (g := 3) (by kernel_rfl) i (by rw [List.length_map]; exact hi)
  rw [getD_castD _ i k htab] at hcell
  exact tzD_core x k i w (by simpa using hx0) key hi hk hcell
theorem ctz_pow {u : Nat} (h1 : 1 ≤ u) (h7 : u ≤ 7) : Lib.ctz 64 (2 ^ u) = u := by
  rcases (show u = 1 ∨ u = 2 ∨ u = 3 ∨ u = 4 ∨ u = 5 ∨ u = 6 ∨ u = 7 by omega) with rfl | rfl | rfl | rfl | rfl | rfl | rfl <;> decide +kernel
theorem pow_lt {u : Nat} (h7 : u ≤ 7) : 2 ^ u < 256 := Nat.lt_of_le_of_lt (Nat.pow_le_pow_right (by decide) h7) (by decide)
set_option maxRecDepth 100000 in
theorem tzM_any (u : Nat) (h1 : 1 ≤ u) (h7 : u ≤ 7) (w : World) (hT : TabD w) : Calls Tryd.prog 49 #[.int .u64 (2 ^ u : Nat)] w fun e w' => e = .returned (.int .i64 u) ∧ w' = w := by
  have C := hide (tzD_any (2 ^ u) w (Nat.lt_trans (pow_lt h7) (by decide)) (Nat.ne_of_gt (Nat.two_pow_pos u)) hT)
  rw [ctz_pow h1 h7] at C
  have hl := pow_lt h7
  generalize 2 ^ u = M at *
  have hM : (M : Int) < 256 := by omega
  have hM0 : (0 : Int) ≤ (M : Int) := by omega
  go_enter Tryd.func49, Tryd.ntmps49
  go_wp2_with (go_at_call 75; refine C.out.mono ?_; rintro e w1 ⟨rfl, rfl⟩)
  go_ret
  exact ⟨rfl, rfl⟩
end Go.Proofs.YtdnnidnghaifgaaDoor.nm
