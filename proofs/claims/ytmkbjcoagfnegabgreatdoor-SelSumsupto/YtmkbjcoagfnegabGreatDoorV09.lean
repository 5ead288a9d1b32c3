/-
  Trailing zero bits; a number's digits: the library's functions at this program.
  The digits of a fraction's decimal, by the program.
  A number of a stylesheet, by the program.
  A number of a stylesheet, by the program: the whole.
-/
import Derived.Test.YtmkbjcoagfnegabGreatDoorV08
import Derived.Test.YtmkbjcoagfnegabGreatDoorShelfP
import Derived.Shelf.Spec.TrailingZeros
import Derived.Lib.SmallJoins
import Derived.Lib.ItoaMem
import Derived.Lib.LaidTab
import Derived.Test.YtmkbjcoagfnegabGreatDoorV07
import Derived.Deep.RegionHeld3
set_option linter.unusedVariables false
set_option linter.unusedSimpArgs false
namespace Go.Proofs.YtmkbjcoagfnegabGreatDoor
open Go.RowKit Go.Sort

/-- The two tables of the library, as they are laid. -/
def Tabs (w : World) : Prop := Lib.TabIs Tryz.prog w "math/bits.deBruijn64tab" .u8 (Lib.deBruijn64tab.map fun n : Nat => (n : Int)) ∧ Lib.TabIs Tryz.prog w "internal/strconv.uint64pow10" .u64 Lib.pow10Tab
theorem Tabs.below {w w' : World} (h : Tabs w) (hb : Below w.heap.size w w') : Tabs w' :=
  ⟨Go.Joins.tab_stays (g := 2) (by kernel_rfl) h.1 hb (Nat.le_refl _), Go.Joins.tab_stays (g := 4) (by kernel_rfl) h.2 hb (Nat.le_refl _)⟩
set_option maxHeartbeats 1000000 in
theorem tz_core (x k idx : Nat) (w : World) (hx0 : ((x : Int) == 0) = false)
    (key : IntKind.u64.wrap (bits BinOp.and IntKind.u64 (x : Int) (IntKind.u64.wrap (-(x : Int))) * 285870213051353865) / 288230376151711744 = (idx : Int))
    (hi : idx < 64) (hk : k < 64) (hcell : w.cell? ⟨2, idx, none⟩ = some (.int .u8 k)) :
    Calls Tryz.prog 137 #[.int .u64 x] w fun e w' => e = .returned (.int .i64 k) ∧ w' = w := by
  go_enter Tryz.func137, Tryz.ntmps137
  go_wp2_with (simp only [key])
  go_ret
  exact ⟨rfl, rfl⟩
theorem getD_cast (l : List Nat) (i k : Nat) (h : l.getD i 0 = k) : (l.map fun n : Nat => (n : Int)).getD i 0 = (k : Int) := by
  subst h
  rw [List.getD_eq_getElem?_getD, List.getD_eq_getElem?_getD, List.getElem?_map]
  cases l[i]? <;> rfl
theorem tz_any (x : Nat) (w : World) (hx : x < 18446744073709551616) (hx0 : x ≠ 0) (hT : Tabs w) :
    Calls Tryz.prog 137 #[.int .u64 x] w fun e w' => e = .returned (.int .i64 (Lib.ctz 64 x)) ∧ w' = w := by
  obtain ⟨hlow, hk⟩ := Lib.lowest_bit 64 x hx0 hx
  obtain ⟨hi, htab⟩ := Lib.deBruijn64_at _ hk
  have key := tz64_key x (2 ^ Lib.ctz 64 x) hx hx0 hlow
  generalize Lib.ctz 64 x = k at *
  generalize 2 ^ k * 285870213051353865 % 18446744073709551616 / 288230376151711744 = i at *
  have hcell := hT.1.cell (g := 2) (by kernel_rfl) i (by rw [List.length_map]; exact hi)
  rw [getD_cast _ i k htab] at hcell
  exact tz_core x k i w (by simpa using hx0) key hi hk hcell
theorem ctz_out (x : Nat) (hx : x < 18446744073709551616) (hx0 : x ≠ 0) : ∃ m, x = 2 ^ Lib.ctz 64 x * (2 * m + 1) ∧ Lib.ctz 64 x < 64 := by
  unfold Lib.ctz
  rw [if_neg hx0]
  exact Lib.ctzFrom_spec 64 x (by omega) hx
theorem zeros_row (w : World) (T : TypeId) (nd : Nat) (hs : nd ≤ 24) : Holds (fun (b : UInt8) => Value.int .u8 (b.toNat : Int)) (w.alloc (.cells Lib.zeros24 T)) w.heap.size 0 (Array.replicate nd (0 : UInt8)) := fun j hj => by
  have hj' : j < nd := by simpa using hj
  refine ⟨?_, World.frozen?_alloc_new _ _ _ _⟩
  rw [World.cell?_alloc_new, Lib.zeros24_at _ (by omega), getElem!_pos _ j hj]
  simp
theorem grow_below (w : World) (o : Obj) (dk : Array UInt8) (k : Nat) : Below w.heap.size w ((putRow (fun (b : UInt8) => Value.int .u8 (b.toNat : Int)) (w.alloc o) w.heap.size 0 dk).drewN k) := by
  rw [alloc_eq_grow]
  obtain ⟨os', _, e⟩ := putRow_grow_new (fun (b : UInt8) => Value.int .u8 (b.toNat : Int)) w #[o] w.heap.size 0 dk (Nat.le_refl _)
  rw [e]
  exact ⟨rfl, rfl, rfl, by simp [grow, World.drewN], fun k hk => heap_grow_old w os' hk⟩
set_option maxHeartbeats 6400000 in
set_option maxRecDepth 100000 in
theorem ifmt_any (u : Nat) (w : World) (hu64 : u < 18446744073709551616) (hT : Tabs w) :
    Calls Tryz.prog 151 #[.int .u64 u, .int .i64 10] w fun e w' => e = .returned (.string ⟨(Lib.decDigits u).toArray⟩) ∧ Below w.heap.size w w' := by
  have htab := hT.2
  clear hT
  by_cases hs : u < 100
  · have hs' : (u : Int) < 100 := by omega
    go_enter Tryz.func151, Tryz.ntmps151
    go_wp2_with (go_at_call 165; refine (sh_internal_strconv_small u hs _).mono ?_; rintro e w' ⟨rfl, rfl⟩)
    go_ret
    exact ⟨rfl, Below.refl _ _⟩
  · have hs' : ¬ (u : Int) < 100 := by omega
    have hu1 : 1 ≤ u := by omega
    have hnd20 : Lib.nDigits u ≤ 20 := by have := Lib.numDigits_eq u hu1 hu64; split at this <;> omega
    have hb3 : Lib.nDigits u ≤ 24 := by omega
    have hsl : ∀ W, (Instr.sliceAt 201 (.pointer (some ⟨w.heap.size, 0, none⟩)) none (some (.int .i64 (Lib.nDigits u : Int))) none).run Tryz.prog W = .ok (.slice (some ⟨w.heap.size, 0, none⟩) (Lib.nDigits u) 24) W := fun W => by
      have hal : Tryz.prog.arrayLen 201 = 24 := by kernel_rfl
      rw [run_sliceAt_array_h W 201 ⟨w.heap.size, 0, none⟩ (by kernel_rfl) .i64 (Lib.nDigits u : Int) (by omega) (by rw [hal]; omega), hal]
      go_simp
    have hH0 := zeros_row w 201 (Lib.nDigits u) (by omega)
    have hfmt := sh_internal_strconv_formatBase10 w.heap.size 0 24 u (Array.replicate (Lib.nDigits u) 0) (w.alloc (.cells Lib.zeros24 201)) hH0 (by rw [Array.size_replicate]; exact Lib.lt_pow_nDigits u) hu64 (by rw [Array.size_replicate]; omega)
    rw [Array.size_replicate] at hfmt
    have HH0 := hide hH0
    have HF := hide hfmt
    clear hH0 hfmt
    go_enter Tryz.func151, Tryz.ntmps151
    go_wp2_with (first
      | (go_at_call 166; refine (sh_internal_strconv_numDigits u hu1 hu64 _ (Lib.tabIs_alloc htab _)).mono ?_; rintro e w' ⟨rfl, rfl⟩))
    go_at_call 167
    refine HF.out.mono ?_
    rintro e w' ⟨rfl, k, v', dk, rfl, hF⟩
    have hcv : (convert 72 9 (.slice (some ⟨w.heap.size, 0, none⟩) (Lib.nDigits u) 24)).run Tryz.prog ((putRow (fun (b : UInt8) => Value.int .u8 (b.toNat : Int)) (w.alloc (.cells Lib.zeros24 201)) w.heap.size 0 dk).drewN k) = .ok (.string ⟨(Lib.decDigits u).toArray⟩) ((putRow (fun (b : UInt8) => Value.int .u8 (b.toNat : Int)) (w.alloc (.cells Lib.zeros24 201)) w.heap.size 0 dk).drewN k) := by
      have h := run_convert_bytes_back (P := Tryz.prog) ((putRow (fun (b : UInt8) => Value.int .u8 (b.toNat : Int)) (w.alloc (.cells Lib.zeros24 201)) w.heap.size 0 dk).drewN k) 72 9 5 ⟨w.heap.size, 0, none⟩ 24 (Lib.decDigits u) Tryz.underlying72 Tryz.underlying5 Tryz.underlying9 (fun j hj => by
        rw [Lib.row_is_numeral hF j hj, Lib.add_plain, World.cell?_drewN]
        exact cell?_putRow (fun (b : UInt8) => Value.int .u8 (b.toNat : Int)) _ w.heap.size 0 _ dk HH0.out (by rw [hF.size, Array.size_replicate]) j (by rw [hF.size]; rw [Lib.decDigits_length] at hj; exact hj))
      rw [Lib.decDigits_length] at h
      exact h
    go_wp2
    go_ret
    exact ⟨rfl, grow_below w _ dk k⟩
theorem fmt_any (u : Nat) (w : World) (hu64 : u < 18446744073709551616) (hT : Tabs w) :
    Calls Tryz.prog 139 #[.int .u64 u, .int .i64 10] w fun e w' => e = .returned (.string ⟨(Lib.decDigits u).toArray⟩) ∧ Below w.heap.size w w' := by
  go_enter Tryz.func139, Tryz.ntmps139
  go_wp2_with (go_at_call 151; refine (ifmt_any u _ hu64 hT).mono ?_; rintro e w' ⟨rfl, hb⟩)
  go_ret
  exact ⟨rfl, hb⟩
theorem bl_dgt (u : Nat) : bl ⟨(Lib.decDigits u).toArray⟩ = dgt u := by unfold bl dgt; simp
end Go.Proofs.YtmkbjcoagfnegabGreatDoor
set_option linter.unusedVariables false
set_option linter.unusedSimpArgs false
namespace Go.Proofs.YtmkbjcoagfnegabGreatDoor
open Go.RowKit

theorem mul2i (n : Nat) (x : Int) (w : World) (n1 : 1 ≤ n) (n2 : n ≤ 9223372036854775807) (h0 : 0 ≤ x) (h1 : x ≤ 1152921504606846976) :
    Calls Tryz.prog 138 #[.int .u64 n, .int .u64 2, .int .i64 x] w fun e w' => e = .returned (mulR (n * 2 ^ x.toNat)) ∧ w' = w := by
  obtain ⟨k, rfl⟩ := Int.eq_ofNat_of_zero_le h0
  exact multiplied2_any n k w n1 n2 (by omega)
theorem mul5i (n : Nat) (x : Int) (w : World) (n1 : 1 ≤ n) (n2 : n ≤ 9223372036854775807) (h0 : 0 ≤ x) (h1 : x ≤ 1152921504606846976) :
    Calls Tryz.prog 138 #[.int .u64 n, .int .u64 5, .int .i64 x] w fun e w' => e = .returned (mulR (n * 5 ^ x.toNat)) ∧ w' = w := by
  obtain ⟨k, rfl⟩ := Int.eq_ofNat_of_zero_le h0
  exact multiplied5_any n k w n1 n2 (by omega)
/-- What is told of a decimal's digits. -/
def FinR (N D : Nat) (s : ByteArray) (p : Int) (ok : Bool) : Prop :=
  (ok = false ∧ ∀ M q, fin N D 0 = some (M, q) → 9223372036854775807 < M) ∨ (ok = true ∧ ∃ M q : Nat, fin N D 0 = some (M, q) ∧ M ≤ 9223372036854775807 ∧ p = q ∧ bl s = dgt M)
def PostFin (N D : Nat) (w : World) (e : Ending) (w' : World) : Prop :=
  ∃ s p ok, e = .returned (.tuple #[.string s, .int .i64 p, .bool ok]) ∧ s.size ≤ 20 ∧ 0 ≤ p ∧ p ≤ 64 ∧ FinR N D s p ok ∧ Below w.heap.size w w'
theorem PostFin.mk {N D : Nat} {w : World} {e : Ending} {w' : World} (s : ByteArray) (p : Int) (ok : Bool) (h1 : e = .returned (.tuple #[.string s, .int .i64 p, .bool ok])) (h2 : s.size ≤ 20) (h3 : 0 ≤ p) (h4 : p ≤ 64) (h5 : FinR N D s p ok) (h6 : Below w.heap.size w w') : PostFin N D w e w' := ⟨s, p, ok, h1, h2, h3, h4, h5, h6⟩
theorem dd_size {u : Nat} (h : u < 18446744073709551616) : (ByteArray.mk (Lib.decDigits u).toArray).size ≤ 20 := by
  have e : (ByteArray.mk (Lib.decDigits u).toArray).size = (Lib.decDigits u).length := by show (Lib.decDigits u).toArray.size = _; simp
  rw [e, Lib.decDigits_length]
  by_cases h1 : 1 ≤ u
  · have := Lib.numDigits_eq u h1 h; split at this <;> omega
  · rw [Lib.nDigits_small (by omega)]; omega
/-- The state of the loop over fives. -/
def RelFv (a D : Nat) (x f : Value) : Prop := ∃ m k : Nat, x = .int .u64 m ∧ f = .int .i64 k ∧ 1 ≤ m ∧ m ≤ 9223372036854775807 ∧ k ≤ 27 ∧ m % 2 = 1 ∧ Hid (D = 2 ^ a * 5 ^ k * m)
theorem RelFv.mk {a D : Nat} {x f : Value} (m k : Nat) (h1 : x = .int .u64 m) (h2 : f = .int .i64 k) (h3 : 1 ≤ m) (h4 : m ≤ 9223372036854775807) (h5 : k ≤ 27) (h6 : m % 2 = 1) (h7 : D = 2 ^ a * 5 ^ k * m) : RelFv a D x f := ⟨m, k, h1, h2, h3, h4, h5, h6, h7⟩
theorem fives_le {a D k m : Nat} (h : D = 2 ^ a * 5 ^ k * m) (hD : D ≤ 9223372036854775807) (hm : 1 ≤ m) : k ≤ 27 := by
  refine Nat.le_of_not_lt fun hk => ?_
  have h1 : 5 ^ 28 ≤ 5 ^ k := Nat.pow_le_pow_right (by omega) hk
  have h2 : 1 * 5 ^ k ≤ 2 ^ a * 5 ^ k := Nat.mul_le_mul_right _ (Nat.pow_pos (by omega))
  have h3 : 2 ^ a * 5 ^ k * 1 ≤ 2 ^ a * 5 ^ k * m := Nat.mul_le_mul_left _ hm
  have h4 : (9223372036854775807 : Nat) < 5 ^ 28 := by decide
  omega
theorem five_step {a D k m : Nat} (h : D = 2 ^ a * 5 ^ k * m) (hm : m % 5 = 0) : D = 2 ^ a * 5 ^ (k + 1) * (m / 5) := by
  have e : m = 5 * (m / 5) := by omega
  rw [h, Nat.pow_succ]
  generalize m / 5 = q at e
  subst e
  grind
theorem ones_zero {a k : Nat} (h : 2 ^ a * 5 ^ k * 1 = 1) : a = 0 ∧ k = 0 := by
  rw [Nat.mul_one] at h
  have h1 := Nat.eq_one_of_mul_eq_one_right h
  have h2 := Nat.eq_one_of_mul_eq_one_left h
  constructor
  · cases a with
    | zero => rfl
    | succ a => rw [Nat.pow_succ] at h1; omega
  · cases k with
    | zero => rfl
    | succ k => rw [Nat.pow_succ] at h2; omega
theorem mul0 (b : Int) (w : World) : Calls Tryz.prog 138 #[.int .u64 0, .int .u64 b, .int .i64 0] w fun e w' => e = .returned (.tuple #[.int .u64 0, .bool true]) ∧ w' = w := by
  go_enter Tryz.func138, Tryz.ntmps138
  go_wp2
  go_loop [0, 2] (fun x t => x = .int .u64 0 ∧ t = .int .i64 0) (fun _ _ => 0)
  case atStart => exact ⟨rfl, rfl⟩
  case round =>
    obtain ⟨rfl, rfl⟩ := hrel
    go_wp2
    go_ret2
    exact ⟨rfl, rfl⟩
theorem shr_odd {D a m : Nat} (h : D = 2 ^ a * (2 * m + 1)) : (D : Int) / 2 ^ a = ((2 * m + 1 : Nat) : Int) := by
  have hp : 0 < 2 ^ a := Nat.pow_pos (by omega)
  have e : D / 2 ^ a = 2 * m + 1 := by rw [h]; exact Nat.mul_div_cancel_left _ hp
  rw [← e, Int.natCast_ediv, Int.natCast_pow]; rfl
set_option maxRecDepth 100000 in
set_option maxHeartbeats 600000 in
theorem finite_any (n : Int) (D : Nat) (w : World) (n1 : -9223372036854775808 ≤ n) (n2 : n ≤ 9223372036854775807) (n3 : n ≠ -9223372036854775808) (D1 : 1 ≤ D) (D2 : D ≤ 9223372036854775807) (hz : n = 0 → D = 1) (hT : Tabs w) :
    Calls Tryz.prog 126 #[.agg #[.int .i64 n, .int .i64 (D : Int)]] w fun e w' => PostFin (ab n).toNat D w e w' := by
  have d1 : (1 : Int) ≤ D := by omega
  have d2 : (D : Int) ≤ 9223372036854775807 := by omega
  obtain ⟨m0, hm0, ha⟩ := ctz_out D (by omega) (by omega)
  generalize ha0 : Lib.ctz 64 D = a at *
  have HA := hide ha0
  have HM := hide hm0
  have HT := hide (hT.below (bplus (Below.refl _ _) (.cells #[.int .i64 n, .int .i64 (D : Int)] 60)))
  clear ha0 hm0 hT
  go_enter Tryz.func126, Tryz.ntmps126
  go_wp2_with (go_at_call 137; refine (tz_any D _ (by omega) (by omega) HT.out).mono ?_; rintro e w' ⟨rfl, rfl⟩; rw [HA.out])
  go_loop [5, 7] (fun x f => RelFv a D x f) (fun x _ => (intOf x).toNat)
  case atStart =>
    refine .mk (2 * m0 + 1) 0 (by rw [shr_odd HM.out]) rfl (by omega) (by have := HM.out; have := Nat.le_mul_of_pos_left (2 * m0 + 1) (show 0 < 2 ^ a from Nat.pow_pos (by omega)); omega) (by omega) (by omega) (by rw [Nat.pow_zero, Nat.mul_one]; exact HM.out)
  case round =>
    obtain ⟨m, k, rfl, rfl, m1, m2, k1, mo, R⟩ := hrel
    by_cases h5 : m % 5 = 0
    · have R2 := hide (five_step R.out h5)
      have K2 := hide (fives_le R2.out D2 (by omega))
      have hb : ((m : Int) % 5 == 0) = true := by simp; omega
      go_wp2
      go_round
      case rel => exact .mk (m / 5) (k + 1) (by go_num) (by go_num) (by omega) (by omega) K2.out (by omega) R2.out
      case measure => simp [intOf]; omega
    · have hb : ((m : Int) % 5 == 0) = false := by simp; omega
      by_cases hm1 : m = 1
      · subst hm1
        have R1 := hide (show D = 2 ^ a * 5 ^ k * 1 from R.out)
        have FE := hide (fun p => fin_eq a k 1 (by omega) (by omega) (ab n).toNat p)
        by_cases hn0 : n = 0
        · obtain ⟨rfl, rfl⟩ := ones_zero (R1.out.symm.trans (hz hn0))
          subst hn0
          have F := hide (show FinR (ab 0).toNat D ⟨(Lib.decDigits 0).toArray⟩ 0 true from .inr ⟨rfl, 0, 0, by rw [R1.out, FE.out, if_pos rfl]; rfl, by omega, rfl, bl_dgt 0⟩)
          have hab : ab 0 = 0 := rfl
          clear hz R FE
          go_wp2_with (first
            | (go_at_call 136; refine (magnitude_any _ _ n1 n2).mono ?_; rintro e w' ⟨rfl, rfl⟩; rw [hab])
            | (go_at_call 138; refine (mul0 _ _).mono ?_; rintro e w' ⟨rfl, rfl⟩)
            | (go_at_call 139; refine (fmt_any 0 _ (by omega) HT.out).mono ?_; rintro e w' ⟨rfl, hb⟩; replace hb := hide hb))
          go_ret3
          exact .mk _ _ _ rfl (dd_size (by omega)) (by omega) (by omega) F.out (bto (bplus (Below.refl _ _) _) hb.out)
        · have N1 : 1 ≤ (ab n).toNat := by unfold ab; split <;> omega
          have N2 : (ab n).toNat ≤ 9223372036854775807 := by unfold ab; split <;> omega
          have hab : ab n = ((ab n).toNat : Int) := (ab_nat n).symm
          generalize hN : (ab n).toNat = N at *
          have k2 : (k : Int) ≤ 27 := by omega
          have a2 : (a : Int) < 64 := by omega
          have R3 := hide (fun p => show fin N D p = some (N * 2 ^ (max a k - a) * 5 ^ (max a k - k), p + max a k) by rw [R1.out, FE.out, if_pos rfl])
          have HN := hide hN
          clear FE R hz hn0 hN
          by_cases hak : a ≤ k
          · have hmx : max (a : Int) (k : Int) = (k : Int) := by omega
            have R4 := hide (show fin N D 0 = some (N * 2 ^ (k - a), k) by rw [R3.out, show max a k = k by omega, Nat.sub_self, Nat.pow_zero, Nat.mul_one, Nat.zero_add])
            obtain ⟨P, hP⟩ : ∃ P, N * 2 ^ (k - a) = P := ⟨_, rfl⟩
            have P1 := hide (show 1 ≤ P by rw [← hP]; exact Nat.mul_pos N1 (Nat.pow_pos (by omega)))
            rw [hP] at R4
            have E1 := hide (show N * 2 ^ ((k : Int) - a).toNat = P by rw [show ((k : Int) - a).toNat = k - a by omega]; exact hP)
            have X1 := hide (show P * 5 ^ ((k : Int) - k).toNat = P by rw [show ((k : Int) - k).toNat = 0 by omega, Nat.pow_zero, Nat.mul_one])
            have X2 := hide (show P * 5 ^ (0 : Int).toNat = P by rw [show (0 : Int).toNat = 0 by rfl, Nat.pow_zero, Nat.mul_one])
            clear R3 hP
            by_cases hM : P ≤ 9223372036854775807
            · have F := hide (show FinR N D ⟨(Lib.decDigits P).toArray⟩ k true from .inr ⟨rfl, _, _, R4.out, hM, rfl, bl_dgt _⟩)
              have B1 := hide (mulB_yes hM)
              have V1 := hide (mulV_yes hM)
              have HM1 := hide hM
              clear hM R4
              go_wp2_with (first
                | (go_at_call 136; refine (magnitude_any _ _ n1 n2).mono ?_; rintro e w' ⟨rfl, rfl⟩; rw [hab])
                | (go_at_call_of 138 (Value.int IntKind.u64 2); refine (mul2i N _ _ N1 N2 (by omega) (by omega)).mono ?_; rintro e w' ⟨rfl, rfl⟩; unfold mulR; rw [E1.out, B1.out, V1.out])
                | (go_at_call 138; refine (mul5i P _ _ P1.out HM1.out (by omega) (by omega)).mono ?_; rintro e w' ⟨rfl, rfl⟩; unfold mulR; (first | rw [X1.out, B1.out, V1.out] | rw [X2.out, B1.out, V1.out] | rw [X1.out, B0.out, V0.out] | rw [X2.out, B0.out, V0.out]))
                | (go_at_call 139; refine (fmt_any P _ (by have := HM1.out; omega) HT.out).mono ?_; rintro e w' ⟨rfl, hb⟩; replace hb := hide hb))
              go_ret3
              exact .mk _ _ _ rfl (dd_size (by have := HM1.out; omega)) (by omega) (by omega) (by rw [HN.out]; exact F.out) (bto (bplus (Below.refl _ _) _) hb.out)
            · have F := hide (show FinR N D ⟨(Lib.decDigits 0).toArray⟩ k false from .inl ⟨rfl, fun M q h => by rw [R4.out] at h; cases h; omega⟩)
              have B1 := hide (mulB_no hM)
              have V1 := hide (mulV_no hM)
              clear hM R4
              go_wp2_with (first
                | (go_at_call 136; refine (magnitude_any _ _ n1 n2).mono ?_; rintro e w' ⟨rfl, rfl⟩; rw [hab])
                | (go_at_call 138; refine (mul2i N _ _ N1 N2 (by omega) (by omega)).mono ?_; rintro e w' ⟨rfl, rfl⟩; unfold mulR; rw [E1.out, B1.out, V1.out])
                | (go_at_call 139; refine (fmt_any 0 _ (by omega) HT.out).mono ?_; rintro e w' ⟨rfl, hb⟩; replace hb := hide hb))
              go_ret3
              exact .mk _ _ _ rfl (dd_size (by omega)) (by omega) (by omega) (by rw [HN.out]; exact F.out) (bto (bplus (Below.refl _ _) _) hb.out)
          · have hmx : max (a : Int) (k : Int) = (a : Int) := by omega
            have R4 := hide (show fin N D 0 = some (N * 5 ^ (a - k), a) by rw [R3.out, show max a k = a by omega, Nat.sub_self, Nat.pow_zero, Nat.mul_one, Nat.zero_add])
            obtain ⟨P, hP⟩ : ∃ P, N * 5 ^ (a - k) = P := ⟨_, rfl⟩
            rw [hP] at R4
            have E1 := hide (show N * 5 ^ ((a : Int) - k).toNat = P by rw [show ((a : Int) - k).toNat = a - k by omega]; exact hP)
            have X1 := hide (show N * 2 ^ ((a : Int) - a).toNat = N by rw [show ((a : Int) - a).toNat = 0 by omega, Nat.pow_zero, Nat.mul_one])
            have X2 := hide (show N * 2 ^ (0 : Int).toNat = N by rw [show (0 : Int).toNat = 0 by rfl, Nat.pow_zero, Nat.mul_one])
            have B0 := hide (mulB_yes N2)
            have V0 := hide (mulV_yes N2)
            clear R3 hP
            by_cases hM : P ≤ 9223372036854775807
            · have F := hide (show FinR N D ⟨(Lib.decDigits P).toArray⟩ a true from .inr ⟨rfl, _, _, R4.out, hM, rfl, bl_dgt _⟩)
              have B1 := hide (mulB_yes hM)
              have V1 := hide (mulV_yes hM)
              have HM1 := hide hM
              clear hM R4
              go_wp2_with (first
                | (go_at_call 136; refine (magnitude_any _ _ n1 n2).mono ?_; rintro e w' ⟨rfl, rfl⟩; rw [hab])
                | (go_at_call_of 138 (Value.int IntKind.u64 2); refine (mul2i N _ _ N1 N2 (by omega) (by omega)).mono ?_; rintro e w' ⟨rfl, rfl⟩; unfold mulR; (first | rw [X1.out, B1.out, V1.out] | rw [X2.out, B1.out, V1.out] | rw [X1.out, B0.out, V0.out] | rw [X2.out, B0.out, V0.out]))
                | (go_at_call 138; refine (mul5i N _ _ N1 N2 (by omega) (by omega)).mono ?_; rintro e w' ⟨rfl, rfl⟩; unfold mulR; rw [E1.out, B1.out, V1.out])
                | (go_at_call 139; refine (fmt_any P _ (by have := HM1.out; omega) HT.out).mono ?_; rintro e w' ⟨rfl, hb⟩; replace hb := hide hb))
              go_ret3
              exact .mk _ _ _ rfl (dd_size (by have := HM1.out; omega)) (by omega) (by omega) (by rw [HN.out]; exact F.out) (bto (bplus (Below.refl _ _) _) hb.out)
            · have F := hide (show FinR N D ⟨(Lib.decDigits 0).toArray⟩ a false from .inl ⟨rfl, fun M q h => by rw [R4.out] at h; cases h; omega⟩)
              have B1 := hide (mulB_no hM)
              have V1 := hide (mulV_no hM)
              clear hM R4
              go_wp2_with (first
                | (go_at_call 136; refine (magnitude_any _ _ n1 n2).mono ?_; rintro e w' ⟨rfl, rfl⟩; rw [hab])
                | (go_at_call_of 138 (Value.int IntKind.u64 2); refine (mul2i N _ _ N1 N2 (by omega) (by omega)).mono ?_; rintro e w' ⟨rfl, rfl⟩; unfold mulR; (first | rw [X1.out, B1.out, V1.out] | rw [X2.out, B1.out, V1.out] | rw [X1.out, B0.out, V0.out] | rw [X2.out, B0.out, V0.out]))
                | (go_at_call 138; refine (mul5i N _ _ N1 N2 (by omega) (by omega)).mono ?_; rintro e w' ⟨rfl, rfl⟩; unfold mulR; rw [E1.out, B1.out, V1.out])
                | (go_at_call 139; refine (fmt_any 0 _ (by omega) HT.out).mono ?_; rintro e w' ⟨rfl, hb⟩; replace hb := hide hb))
              go_ret3
              exact .mk _ _ _ rfl (dd_size (by omega)) (by omega) (by omega) (by rw [HN.out]; exact F.out) (bto (bplus (Below.refl _ _) _) hb.out)
      · have F := hide (show FinR (ab n).toNat D ⟨#[]⟩ 0 false from .inl ⟨rfl, fun M q h => by
          rw [R.out, fin_eq a k m (by omega) h5, if_neg hm1] at h; cases h⟩)
        have hb2 : ((m : Int) != 1) = true := by simp; omega
        go_wp2
        go_ret3
        exact .mk _ _ _ rfl (by decide) (by omega) (by omega) F.out (bplus (Below.refl _ _) _)
/-! ### The point set -/
theorem bl_lit1 (c : UInt8) : bl ⟨#[c]⟩ = [(c.toNat : Int)] := rfl
theorem plainOver_any (wh : Bool) (w : World) : Calls Tryz.prog 125 #[.bool wh] w fun e w' => ∃ s, e = .returned (.string s) ∧ bl s = plO wh ∧ w' = w := by
  cases wh
  all_goals
    go_enter Tryz.func125, Tryz.ntmps125
    go_wp2
    go_ret
    exact ⟨_, rfl, by rfl, rfl⟩
end Go.Proofs.YtmkbjcoagfnegabGreatDoor
set_option linter.unusedVariables false
set_option linter.unusedSimpArgs false
namespace Go.Proofs.YtmkbjcoagfnegabGreatDoor
open Go.RowKit

theorem trimL_bl (s : ByteArray) : bl ⟨(Lib.trimLeftB s.data.toList 48).toArray⟩ = cut0 (bl s) := by
  unfold bl Lib.trimLeftB cut0
  simp only
  generalize s.data.toList = l
  induction l with
  | nil => rfl
  | cons c l ih =>
    by_cases h : c = 48
    · subst h
      rw [List.dropWhile_cons_of_pos (by rfl), List.map_cons, List.dropWhile_cons_of_pos (by rfl)]
      exact ih
    · have h1 : ((c.toNat : Int) == 48) = false := by
        simp only [beq_eq_false_iff_ne]
        intro e
        exact h (UInt8.toNat_inj.1 (by show c.toNat = 48; omega))
      rw [List.dropWhile_cons_of_neg (by simpa using h), List.map_cons, List.dropWhile_cons_of_neg (by simp [h1])]
theorem dropW_map (l : List UInt8) : (l.dropWhile (· == 48)).map (fun b => (b.toNat : Int)) = (l.map fun b => (b.toNat : Int)).dropWhile (· == 48) := by
  induction l with
  | nil => rfl
  | cons c l ih =>
    by_cases h : c = 48
    · subst h
      rw [List.dropWhile_cons_of_pos (by rfl), List.map_cons, List.dropWhile_cons_of_pos (by rfl)]
      exact ih
    · have h1 : ((c.toNat : Int) == 48) = false := by
        simp only [beq_eq_false_iff_ne]
        intro e
        exact h (UInt8.toNat_inj.1 (by show c.toNat = 48; omega))
      rw [List.dropWhile_cons_of_neg (by simpa using h), List.map_cons, List.dropWhile_cons_of_neg (by simp [h1])]
theorem trimR_bl (s : ByteArray) : bl ⟨(Lib.trimRightB s.data.toList 48).toArray⟩ = cutR (bl s) := by
  unfold bl Lib.trimRightB cutR
  show ((s.data.toList.reverse.dropWhile (· == 48)).reverse.toArray.toList.map _) = _
  rw [List.map_reverse]
  rw [dropW_map, List.map_reverse]
/-- A value's post. -/
def PostV (b : Bool) (D : List Int) (k : Int) (w : World) (e : Ending) (w' : World) : Prop := e = .returned (ratV (valOf b D k).1 (valOf b D k).2) ∧ Below w.heap.size w w'
theorem trimR_any (s : ByteArray) (w : World) (hs : s.size ≤ 9223372036854775807) : Calls Tryz.prog 127 #[.string s, .string ⟨#[48]⟩] w fun e w' => ∃ t, e = .returned (.string t) ∧ bl t = cutR (bl s) ∧ w' = w :=
  (sh_strings_TrimRight_one s 48 (by decide) w hs).mono fun _ _ ⟨h1, h2⟩ => ⟨_, h1, trimR_bl s, h2⟩
theorem PostV.mk {b : Bool} {D : List Int} {k : Int} {w w' : World} {e : Ending} {n d : Int} (hv : valOf b D k = (n, d)) (h1 : e = .returned (ratV n d)) (h2 : Below w.heap.size w w') : PostV b D k w e w' := by
  unfold PostV; rw [hv]; exact ⟨h1, h2⟩
end Go.Proofs.YtmkbjcoagfnegabGreatDoor
set_option linter.unusedVariables false
set_option linter.unusedSimpArgs false
namespace Go.Proofs.YtmkbjcoagfnegabGreatDoor
open Go.RowKit

/-- What is told of a text as a number. -/
def dN (S : List Int) : Int := ((dec S).getD ((0, 0), false)).1.1
def dD (S : List Int) : Int := ((dec S).getD ((0, 0), false)).1.2
def dW (S : List Int) : Bool := ((dec S).getD ((0, 0), false)).2
def dE (S : List Int) : Int := if (dec S).isSome then 0 else 3
def decV (S : List Int) : Value := .tuple #[ratV (dN S) (dD S), .bool (dW S), .int .i64 (dE S)]
theorem decV_none {S : List Int} (h : dec S = none) : decV S = .tuple #[ratV 0 0, .bool false, .int .i64 3] := by unfold decV dN dD dW dE; rw [h]; rfl
theorem decV_some {S : List Int} {r : Int × Int} {b : Bool} (h : dec S = some (r, b)) : decV S = .tuple #[ratV r.1 r.2, .bool b, .int .i64 0] := by unfold decV dN dD dW dE; rw [h]; rfl
end Go.Proofs.YtmkbjcoagfnegabGreatDoor
