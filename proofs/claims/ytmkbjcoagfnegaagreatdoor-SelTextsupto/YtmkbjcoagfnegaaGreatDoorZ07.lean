/-
  Plain: a fraction as a decimal, and back.
  Trailing zero bits; a number's digits: the library's functions at this program.
  The digits of a fraction's decimal, by the program.
  A number of a stylesheet, by the program.
-/
import Derived.Test.YtmkbjcoagfnegaaGreatDoorZ04
import Derived.Test.YtmkbjcoagfnegaaGreatDoorZ06
import Derived.Lib.ItoaNum
import Derived.Test.YtmkbjcoagfnegaaGreatDoorShelfP
import Derived.Shelf.Spec.TrailingZeros
import Derived.Lib.SmallJoins
import Derived.Lib.ItoaMem
import Derived.Lib.LaidTab
import Derived.Test.YtmkbjcoagfnegaaGreatDoorZ05
set_option linter.unusedVariables false
set_option linter.unusedSimpArgs false
namespace Go.Proofs.YtmkbjcoagfnegaaGreatDoor
open Go.RowKit

/-! ### A fraction as a decimal -/
/-- The upper part and the places of a decimal, of n over d, p places on; none: it has no end. -/
def fin (n d p : Nat) : Option (Nat × Nat) :=
  if h1 : d ≤ 1 then some (n, p)
  else if h2 : d % 10 = 0 then fin n (d / 10) (p + 1)
  else if h3 : d % 5 = 0 then fin (n * 2) (d / 5) (p + 1)
  else if h4 : d % 2 = 0 then fin (n * 5) (d / 2) (p + 1)
  else none
termination_by d
decreasing_by all_goals omega
theorem fin_one {n d p : Nat} (h : d ≤ 1) : fin n d p = some (n, p) := by rw [fin, dif_pos h]
theorem fin_ten {n d p : Nat} (h1 : 1 < d) (h : d % 10 = 0) : fin n d p = fin n (d / 10) (p + 1) := by rw [fin, dif_neg (by omega), dif_pos h]
theorem fin_five {n d p : Nat} (h1 : 1 < d) (h2 : d % 10 ≠ 0) (h : d % 5 = 0) : fin n d p = fin (n * 2) (d / 5) (p + 1) := by rw [fin, dif_neg (by omega), dif_neg h2, dif_pos h]
theorem fin_two {n d p : Nat} (h1 : 1 < d) (h2 : d % 5 ≠ 0) (h : d % 2 = 0) : fin n d p = fin (n * 5) (d / 2) (p + 1) := by rw [fin, dif_neg (by omega), dif_neg (by omega), dif_neg h2, dif_pos h]
theorem fin_none {n d p : Nat} (h1 : 1 < d) (h2 : d % 5 ≠ 0) (h : d % 2 ≠ 0) : fin n d p = none := by rw [fin, dif_neg (by omega), dif_neg (by omega), dif_neg h2, dif_neg h]
theorem fin_eq (a b m : Nat) (hm2 : m % 2 ≠ 0) (hm5 : m % 5 ≠ 0) : ∀ n p, fin n (2 ^ a * 5 ^ b * m) p = if m = 1 then some (n * 2 ^ (max a b - a) * 5 ^ (max a b - b), p + max a b) else none := by
  have key : ∀ k a b, a + b = k → ∀ n p, fin n (2 ^ a * 5 ^ b * m) p = if m = 1 then some (n * 2 ^ (max a b - a) * 5 ^ (max a b - b), p + max a b) else none := by
    intro k
    induction k using Nat.strongRecOn with
    | _ k ih =>
      intro a b hk n p
      have hm0 : 0 < m := by omega
      cases a with
      | zero =>
        cases b with
        | zero =>
          by_cases h : m = 1
          · subst h; rw [fin_one (by simp)]; simp
          · rw [fin_none (by simp; omega) (by simpa using hm5) (by simpa using hm2), if_neg h]
        | succ b =>
          have e : 2 ^ 0 * 5 ^ (b + 1) * m = 5 * (5 ^ b * m) := by rw [Nat.pow_succ, Nat.pow_zero, Nat.one_mul, Nat.mul_comm (5 ^ b), Nat.mul_assoc]
          have hp : 0 < 5 ^ b := Nat.pow_pos (by omega)
          have hq : 0 < 5 ^ b * m := Nat.mul_pos hp hm0
          have ho : (5 ^ b * m) % 2 = 1 := by
            rw [Nat.mul_mod, Nat.pow_mod]; simp; omega
          rw [e, fin_five (by omega) (by omega) (by omega), show 5 * (5 ^ b * m) / 5 = 2 ^ 0 * 5 ^ b * m by simp, ih b (by omega) 0 b (by omega)]
          by_cases h : m = 1
          · rw [if_pos h, if_pos h]
            simp
            constructor
            · rw [Nat.pow_succ, Nat.mul_assoc, Nat.mul_comm 2]
            · omega
          · rw [if_neg h, if_neg h]
      | succ a =>
        cases b with
        | zero =>
          have e : 2 ^ (a + 1) * 5 ^ 0 * m = 2 * (2 ^ a * m) := by rw [Nat.pow_succ, Nat.pow_zero, Nat.mul_one, Nat.mul_comm (2 ^ a), Nat.mul_assoc]
          have hp : 0 < 2 ^ a := Nat.pow_pos (by omega)
          have hq : 0 < 2 ^ a * m := Nat.mul_pos hp hm0
          have ho : (2 * (2 ^ a * m)) % 5 ≠ 0 := by
            intro h
            have h5 : 5 ∣ 2 ^ a * m := (Nat.Coprime.dvd_of_dvd_mul_left (by decide) (Nat.dvd_of_mod_eq_zero h))
            have h6 : 5 ∣ m := Nat.Coprime.dvd_of_dvd_mul_left (Nat.Coprime.pow_right a (by decide)) h5
            omega
          rw [e, fin_two (by omega) ho (by omega), show 2 * (2 ^ a * m) / 2 = 2 ^ a * 5 ^ 0 * m by simp, ih a (by omega) a 0 (by omega)]
          by_cases h : m = 1
          · rw [if_pos h, if_pos h]
            simp
            constructor
            · rw [Nat.pow_succ, Nat.mul_assoc, Nat.mul_comm 5]
            · omega
          · rw [if_neg h, if_neg h]
        | succ b =>
          have e : 2 ^ (a + 1) * 5 ^ (b + 1) * m = 10 * (2 ^ a * 5 ^ b * m) := by
            rw [Nat.pow_succ, Nat.pow_succ, show 2 ^ a * 2 * (5 ^ b * 5) = 10 * (2 ^ a * 5 ^ b) by grind, Nat.mul_assoc]
          have hp : 0 < 2 ^ a * 5 ^ b * m := Nat.mul_pos (Nat.mul_pos (Nat.pow_pos (by omega)) (Nat.pow_pos (by omega))) hm0
          rw [e, fin_ten (by omega) (by omega), show 10 * (2 ^ a * 5 ^ b * m) / 10 = 2 ^ a * 5 ^ b * m by omega, ih (a + b) (by omega) a b rfl]
          rw [show max (a + 1) (b + 1) = max a b + 1 by omega, show max a b + 1 - (a + 1) = max a b - a by omega, show max a b + 1 - (b + 1) = max a b - b by omega, show p + 1 + max a b = p + (max a b + 1) by omega]
  exact key _ a b rfl
theorem fin_ge {d : Nat} : ∀ {n p M q : Nat}, fin n d p = some (M, q) → n ≤ M := by
  induction d using Nat.strongRecOn with
  | _ d ih =>
    intro n p M q h
    by_cases h1 : d ≤ 1
    · rw [fin_one h1] at h; cases h; exact Nat.le_refl _
    by_cases h2 : d % 10 = 0
    · rw [fin_ten (by omega) h2] at h; exact ih _ (by omega) h
    by_cases h3 : d % 5 = 0
    · rw [fin_five (by omega) h2 h3] at h; have := ih _ (by omega) h; omega
    by_cases h4 : d % 2 = 0
    · rw [fin_two (by omega) h3 h4] at h; have := ih _ (by omega) h; omega
    · rw [fin_none (by omega) h3 h4] at h; cases h
theorem cop_mul {n d f : Nat} (h : Nat.gcd n d = 1) (hf : Nat.gcd f d = 1) : Nat.gcd (n * f) d = 1 := Nat.Coprime.mul_left h hf
theorem cop_dvd {n d e : Nat} (h : Nat.gcd n d = 1) (he : e ∣ d) : Nat.gcd n e = 1 := Nat.Coprime.coprime_dvd_right he h
theorem fin_ten_no {d : Nat} : ∀ {n p M q : Nat}, fin n d p = some (M, q) → 1 < d → Nat.gcd n d = 1 → M % 10 ≠ 0 := by
  induction d using Nat.strongRecOn with
  | _ d ih =>
    intro n p M q h h1 hg
    have co : ∀ k, 1 < k → k ∣ d → n % k ≠ 0 := fun k hk hd h0 => by
      have : k ∣ Nat.gcd n d := Nat.dvd_gcd (Nat.dvd_of_mod_eq_zero h0) hd
      rw [hg] at this
      have := Nat.le_of_dvd (by omega) this
      omega
    by_cases h2 : d % 10 = 0
    · rw [fin_ten (by omega) h2] at h
      have hd : d / 10 ∣ d := ⟨10, by omega⟩
      by_cases e : d / 10 = 1
      · rw [fin_one (by omega)] at h
        cases h
        exact co 10 (by omega) (Nat.dvd_of_mod_eq_zero h2)
      · exact ih _ (by omega) h (by omega) (cop_dvd hg hd)
    by_cases h3 : d % 5 = 0
    · rw [fin_five (by omega) h2 h3] at h
      have hd : d / 5 ∣ d := ⟨5, by omega⟩
      have n5 := co 5 (by omega) (Nat.dvd_of_mod_eq_zero h3)
      by_cases e : d / 5 = 1
      · rw [fin_one (by omega)] at h
        cases h
        omega
      · refine ih _ (by omega) h (by omega) (cop_mul (cop_dvd hg hd) ?_)
        have hodd : (d / 5) % 2 = 1 := by omega
        rw [Nat.gcd_rec, hodd]; rfl
    by_cases h4 : d % 2 = 0
    · rw [fin_two (by omega) h3 h4] at h
      have hd : d / 2 ∣ d := ⟨2, by omega⟩
      have n2 := co 2 (by omega) (Nat.dvd_of_mod_eq_zero h4)
      by_cases e : d / 2 = 1
      · rw [fin_one (by omega)] at h
        cases h
        omega
      · refine ih _ (by omega) h (by omega) (cop_mul (cop_dvd hg hd) ?_)
        have h5 : (d / 2) % 5 = 1 ∨ (d / 2) % 5 = 2 ∨ (d / 2) % 5 = 3 ∨ (d / 2) % 5 = 4 := by omega
        rw [Nat.gcd_rec]
        rcases h5 with h | h | h | h <;> rw [h] <;> rfl
    · rw [fin_none (by omega) h3 h4] at h; cases h
/-- A number's digits. -/
def dgt (u : Nat) : List Int := (Lib.decDigits u).map fun b => (b.toNat : Int)
theorem dgt_small {u : Nat} (h : u < 10) : dgt u = [48 + (u : Int)] := by
  unfold dgt; rw [Lib.decDigits_one h]
  simp [UInt8.toNat_ofNat]; omega
theorem dgt_big {u : Nat} (h : ¬ u < 10) : dgt u = dgt (u / 10) ++ [48 + ((u % 10 : Nat) : Int)] := by
  unfold dgt; rw [Lib.decDigits, dif_neg h, List.map_append]
  simp [UInt8.toNat_ofNat]; omega
theorem dgt_len (u : Nat) : (dgt u).length = Lib.nDigits u := by unfold dgt; rw [List.length_map, Lib.decDigits_length]
theorem cutR_snoc {l : List Int} {c : Int} (h : c ≠ 48) : cutR (l ++ [c]) = l ++ [c] := by
  unfold cutR
  rw [List.reverse_append, List.reverse_singleton, List.singleton_append, List.dropWhile_cons_of_neg (by simpa using h)]
  simp
theorem cutR_zero (l : List Int) : cutR (l ++ [48]) = cutR l := by
  unfold cutR
  rw [List.reverse_append, List.reverse_singleton, List.singleton_append, List.dropWhile_cons_of_pos (by simp)]
theorem cutR_dgt {u : Nat} (h : u % 10 ≠ 0) : cutR (dgt u) = dgt u := by
  by_cases g : u < 10
  · rw [dgt_small g]; exact cutR_snoc (l := []) (by omega)
  · rw [dgt_big g]; exact cutR_snoc (by omega)
theorem dgt_len18 {u : Nat} : 18 < (dgt u).length ↔ 1000000000000000000 ≤ u := by
  rw [dgt_len]
  constructor
  · intro h
    refine Nat.le_of_not_lt fun g => ?_
    have : Lib.nDigits u ≤ 18 := by
      have key : ∀ k u, u < 10 ^ (k + 1) → Lib.nDigits u ≤ k + 1 := by
        intro k
        induction k with
        | zero => intro u hu; rw [Lib.nDigits_small (by simpa using hu)]; omega
        | succ k ih =>
          intro u hu
          by_cases h : u < 10
          · rw [Lib.nDigits_small h]; omega
          · rw [Lib.nDigits_big h]
            have := ih (u / 10) (by rw [Nat.pow_succ] at hu; omega)
            omega
      exact key 17 u (by simpa using g)
    omega
  · intro h
    refine Nat.lt_of_not_le fun g => ?_
    have h1 := Lib.lt_pow_nDigits u
    have h2 : 10 ^ Lib.nDigits u ≤ 10 ^ 18 := Nat.pow_le_pow_right (by omega) g
    have e : (10 : Nat) ^ 18 = 1000000000000000000 := by decide
    omega
/-- The point ahead of the last p digits, one at least on each side. -/
def pad (ds : List Int) (p : Nat) : List Int := List.replicate (p + 1 - ds.length) 48 ++ ds
def ptd (ds : List Int) (p : Nat) : List Int := (pad ds p).take ((pad ds p).length - p) ++ 46 :: (if p = 0 then [48] else (pad ds p).drop ((pad ds p).length - p))
def neg1 (n : Int) : List Int := if n < 0 then [45] else []
/-- A value's decimal. -/
def plV (n d : Int) (wh : Bool) : Option (List Int) :=
  match fin (ab n).toNat d.toNat 0 with
  | none => none
  | some (M, p) => if 18 < (cutR (dgt M)).length then none else some (neg1 n ++ if wh then dgt M else ptd (dgt M) p)
def plO (wh : Bool) : List Int := if wh then [57, 57, 57, 57, 57, 57, 57, 57, 57, 57, 57, 57, 57, 57, 57, 57, 57, 57, 57, 57] else [49, 101, 57, 57]
/-- A fraction as a number of a stylesheet. -/
def plT (n d : Int) (wh : Bool) : Option (List Int) :=
  if mayB n d = false ∨ (wh = true ∧ 1 < d) then none
  else if d = 0 then some (plO wh) else plV n d wh
theorem cutR_ends (l : List Int) : l = cutR l ++ List.replicate (l.length - (cutR l).length) 48 := by
  have key : ∀ n (l : List Int), l.length = n → l = cutR l ++ List.replicate (l.length - (cutR l).length) 48 := by
    intro n
    induction n with
    | zero => intro l h; rw [List.eq_nil_of_length_eq_zero h]; rfl
    | succ n ih =>
      intro l h
      rcases List.eq_nil_or_concat l with rfl | ⟨r, c, rfl⟩
      · simp at h
      · rw [List.concat_eq_append] at *
        have hr : r.length = n := by simpa using h
        by_cases hc : c = 48
        · subst hc
          have e := ih r hr
          have hle : (cutR r).length ≤ r.length := by
            have := congrArg List.length e
            rw [List.length_append] at this
            omega
          rw [cutR_zero]
          rw [show (r ++ [(48 : Int)]).length - (cutR r).length = r.length - (cutR r).length + 1 by simp; omega, List.replicate_succ', ← List.append_assoc, ← e]
        · rw [cutR_snoc hc]; simp
  exact key _ l rfl
/-! ### There and back -/
theorem Digs.app {a b : List Int} (h : Digs a) (g : Digs b) : Digs (a ++ b) := fun x hx => by
  rcases List.mem_append.1 hx with hx | hx
  · exact h x hx
  · exact g x hx
theorem ab_nat (n : Int) : ((ab n).toNat : Int) = ab n := by unfold ab; split <;> omega
theorem isV_out {n d : Int} (h : isV n d = true) : 1 ≤ d ∧ n ≠ -9223372036854775808 ∧ Nat.gcd (ab n).toNat d.toNat = 1 := by
  unfold isV gc at h
  simp at h
  refine ⟨h.1.1, h.1.2, ?_⟩
  have hg := h.2
  have ha := ab_nat n
  obtain ⟨N, hN⟩ : ∃ N : Nat, ab n = N := ⟨_, ha.symm⟩
  obtain ⟨D, hD⟩ : ∃ D : Nat, d = D := ⟨d.toNat, by omega⟩
  rw [hN, hD, Int.gcd_natCast_natCast] at hg
  rw [hN, hD]
  simp
  omega
theorem gcd_zero {D : Nat} (h : Nat.gcd 0 D = 1) : D = 1 := by simpa using h
theorem pad_len (ds : List Int) (p : Nat) : (pad ds p).length = max (p + 1) ds.length := by unfold pad; rw [List.length_append, List.length_replicate]; omega
end Go.Proofs.YtmkbjcoagfnegaaGreatDoor
set_option linter.unusedVariables false
set_option linter.unusedSimpArgs false
namespace Go.Proofs.YtmkbjcoagfnegaaGreatDoor
open Go.RowKit Go.Sort

/-- The two tables of the library, as they are laid. -/
def Tabs (w : World) : Prop := Lib.TabIs Tryz.prog w "math/bits.deBruijn64tab" .u8 (Lib.deBruijn64tab.map fun n : Nat => (n : Int)) ∧ Lib.TabIs Tryz.prog w "internal/strconv.uint64pow10" .u64 Lib.pow10Tab
theorem Tabs.below {w w' : World} (h : Tabs w) (hb : Below w.heap.size w w') : Tabs w' :=
  ⟨Go.Joins.tab_stays (g := 4) (by kernel_rfl) h.1 hb (Nat.le_refl _), Go.Joins.tab_stays (g := 1) (by kernel_rfl) h.2 hb (Nat.le_refl _)⟩
set_option maxHeartbeats 1000000 in
theorem tz_core (x k idx : Nat) (w : World) (hx0 : ((x : Int) == 0) = false)
    (key : IntKind.u64.wrap (bits BinOp.and IntKind.u64 (x : Int) (IntKind.u64.wrap (-(x : Int))) * 285870213051353865) / 288230376151711744 = (idx : Int))
    (hi : idx < 64) (hk : k < 64) (hcell : w.cell? ⟨4, idx, none⟩ = some (.int .u8 k)) :
    Calls Tryz.prog 234 #[.int .u64 x] w fun e w' => e = .returned (.int .i64 k) ∧ w' = w := by
  go_enter Tryz.func234, Tryz.ntmps234
  go_wp2_with (simp only [key])
  go_ret
  exact ⟨rfl, rfl⟩
theorem getD_cast (l : List Nat) (i k : Nat) (h : l.getD i 0 = k) : (l.map fun n : Nat => (n : Int)).getD i 0 = (k : Int) := by
  subst h
  rw [List.getD_eq_getElem?_getD, List.getD_eq_getElem?_getD, List.getElem?_map]
  cases l[i]? <;> rfl
theorem tz_any (x : Nat) (w : World) (hx : x < 18446744073709551616) (hx0 : x ≠ 0) (hT : Tabs w) :
    Calls Tryz.prog 234 #[.int .u64 x] w fun e w' => e = .returned (.int .i64 (Lib.ctz 64 x)) ∧ w' = w := by
  obtain ⟨hlow, hk⟩ := Lib.lowest_bit 64 x hx0 hx
  obtain ⟨hi, htab⟩ := Lib.deBruijn64_at _ hk
  have key := tz64_key x (2 ^ Lib.ctz 64 x) hx hx0 hlow
  generalize Lib.ctz 64 x = k at *
  generalize 2 ^ k * 285870213051353865 % 18446744073709551616 / 288230376151711744 = i at *
  have hcell := hT.1.cell (g := 4) (by kernel_rfl) i (by rw [List.length_map]; exact hi)
  rw [getD_cast _ i k htab] at hcell
  exact tz_core x k i w (by simpa using hx0) key hi hk hcell
theorem ctz_out (x : Nat) (hx : x < 18446744073709551616) (hx0 : x ≠ 0) : ∃ m, x = 2 ^ Lib.ctz 64 x * (2 * m + 1) ∧ Lib.ctz 64 x < 64 := by
  unfold Lib.ctz
  rw [if_neg hx0]
  exact Lib.ctzFrom_spec 64 x (by omega) hx
theorem zeros_row (w : World) (T : TypeId) (nd : Nat) (hs : nd ≤ 24) : Holds (fun (b : UInt8) => Value.int .u8 (b.toNat : Int)) (w.alloc (.cells Lib.zeros24 T)) w.heap.size 0 (Array.replicate nd (0 : UInt8)) := fun j hj => by
  have hj' : j < nd := by simpa using hj
  refine ⟨?_, World.frozen?_alloc_new _ _ _ _⟩
  rw [World.cell?_alloc_new, Lib.zeros24_at _ (by omega), getElem!_pos _ j hj]
  simp
theorem grow_below (w : World) (o : Obj) (dk : Array UInt8) (k : Nat) : Below w.heap.size w ((putRow (fun (b : UInt8) => Value.int .u8 (b.toNat : Int)) (w.alloc o) w.heap.size 0 dk).drewN k) := by
  rw [alloc_eq_grow]
  obtain ⟨os', _, e⟩ := putRow_grow_new (fun (b : UInt8) => Value.int .u8 (b.toNat : Int)) w #[o] w.heap.size 0 dk (Nat.le_refl _)
  rw [e]
  exact ⟨rfl, rfl, rfl, by simp [grow, World.drewN], fun k hk => heap_grow_old w os' hk⟩
set_option maxHeartbeats 6400000 in
set_option maxRecDepth 100000 in
theorem ifmt_any (u : Nat) (w : World) (hu64 : u < 18446744073709551616) (hT : Tabs w) :
    Calls Tryz.prog 171 #[.int .u64 u, .int .i64 10] w fun e w' => e = .returned (.string ⟨(Lib.decDigits u).toArray⟩) ∧ Below w.heap.size w w' := by
  have htab := hT.2
  clear hT
  by_cases hs : u < 100
  · have hs' : (u : Int) < 100 := by omega
    go_enter Tryz.func171, Tryz.ntmps171
    go_wp2_with (go_at_call 185; refine (sh_internal_strconv_small u hs _).mono ?_; rintro e w' ⟨rfl, rfl⟩)
    go_ret
    exact ⟨rfl, Below.refl _ _⟩
  · have hs' : ¬ (u : Int) < 100 := by omega
    have hu1 : 1 ≤ u := by omega
    have hnd20 : Lib.nDigits u ≤ 20 := by have := Lib.numDigits_eq u hu1 hu64; split at this <;> omega
    have hb3 : Lib.nDigits u ≤ 24 := by omega
    have hsl : ∀ W, (Instr.sliceAt 203 (.pointer (some ⟨w.heap.size, 0, none⟩)) none (some (.int .i64 (Lib.nDigits u : Int))) none).run Tryz.prog W = .ok (.slice (some ⟨w.heap.size, 0, none⟩) (Lib.nDigits u) 24) W := fun W => by
      have hal : Tryz.prog.arrayLen 203 = 24 := by kernel_rfl
      rw [run_sliceAt_array_h W 203 ⟨w.heap.size, 0, none⟩ (by kernel_rfl) .i64 (Lib.nDigits u : Int) (by omega) (by rw [hal]; omega), hal]
      go_simp
    have hH0 := zeros_row w 203 (Lib.nDigits u) (by omega)
    have hfmt := sh_internal_strconv_formatBase10 w.heap.size 0 24 u (Array.replicate (Lib.nDigits u) 0) (w.alloc (.cells Lib.zeros24 203)) hH0 (by rw [Array.size_replicate]; exact Lib.lt_pow_nDigits u) hu64 (by rw [Array.size_replicate]; omega)
    rw [Array.size_replicate] at hfmt
    have HH0 := hide hH0
    have HF := hide hfmt
    clear hH0 hfmt
    go_enter Tryz.func171, Tryz.ntmps171
    go_wp2_with (first
      | (go_at_call 186; refine (sh_internal_strconv_numDigits u hu1 hu64 _ (Lib.tabIs_alloc htab _)).mono ?_; rintro e w' ⟨rfl, rfl⟩))
    go_at_call 187
    refine HF.out.mono ?_
    rintro e w' ⟨rfl, k, v', dk, rfl, hF⟩
    have hcv : (convert 30 9 (.slice (some ⟨w.heap.size, 0, none⟩) (Lib.nDigits u) 24)).run Tryz.prog ((putRow (fun (b : UInt8) => Value.int .u8 (b.toNat : Int)) (w.alloc (.cells Lib.zeros24 203)) w.heap.size 0 dk).drewN k) = .ok (.string ⟨(Lib.decDigits u).toArray⟩) ((putRow (fun (b : UInt8) => Value.int .u8 (b.toNat : Int)) (w.alloc (.cells Lib.zeros24 203)) w.heap.size 0 dk).drewN k) := by
      have h := run_convert_bytes_back (P := Tryz.prog) ((putRow (fun (b : UInt8) => Value.int .u8 (b.toNat : Int)) (w.alloc (.cells Lib.zeros24 203)) w.heap.size 0 dk).drewN k) 30 9 5 ⟨w.heap.size, 0, none⟩ 24 (Lib.decDigits u) Tryz.underlying30 Tryz.underlying5 Tryz.underlying9 (fun j hj => by
        rw [Lib.row_is_numeral hF j hj, Lib.add_plain, World.cell?_drewN]
        exact cell?_putRow (fun (b : UInt8) => Value.int .u8 (b.toNat : Int)) _ w.heap.size 0 _ dk HH0.out (by rw [hF.size, Array.size_replicate]) j (by rw [hF.size]; rw [Lib.decDigits_length] at hj; exact hj))
      rw [Lib.decDigits_length] at h
      exact h
    go_wp2
    go_ret
    exact ⟨rfl, grow_below w _ dk k⟩
theorem fmt_any (u : Nat) (w : World) (hu64 : u < 18446744073709551616) (hT : Tabs w) :
    Calls Tryz.prog 153 #[.int .u64 u, .int .i64 10] w fun e w' => e = .returned (.string ⟨(Lib.decDigits u).toArray⟩) ∧ Below w.heap.size w w' := by
  go_enter Tryz.func153, Tryz.ntmps153
  go_wp2_with (go_at_call 171; refine (ifmt_any u _ hu64 hT).mono ?_; rintro e w' ⟨rfl, hb⟩)
  go_ret
  exact ⟨rfl, hb⟩
theorem bl_dgt (u : Nat) : bl ⟨(Lib.decDigits u).toArray⟩ = dgt u := by unfold bl dgt; simp
end Go.Proofs.YtmkbjcoagfnegaaGreatDoor
set_option linter.unusedVariables false
set_option linter.unusedSimpArgs false
namespace Go.Proofs.YtmkbjcoagfnegaaGreatDoor
open Go.RowKit

theorem mul2i (n : Nat) (x : Int) (w : World) (n1 : 1 ≤ n) (n2 : n ≤ 9223372036854775807) (h0 : 0 ≤ x) (h1 : x ≤ 1152921504606846976) :
    Calls Tryz.prog 240 #[.int .u64 n, .int .u64 2, .int .i64 x] w fun e w' => e = .returned (mulR (n * 2 ^ x.toNat)) ∧ w' = w := by
  obtain ⟨k, rfl⟩ := Int.eq_ofNat_of_zero_le h0
  exact multiplied2_any n k w n1 n2 (by omega)
theorem mul5i (n : Nat) (x : Int) (w : World) (n1 : 1 ≤ n) (n2 : n ≤ 9223372036854775807) (h0 : 0 ≤ x) (h1 : x ≤ 1152921504606846976) :
    Calls Tryz.prog 240 #[.int .u64 n, .int .u64 5, .int .i64 x] w fun e w' => e = .returned (mulR (n * 5 ^ x.toNat)) ∧ w' = w := by
  obtain ⟨k, rfl⟩ := Int.eq_ofNat_of_zero_le h0
  exact multiplied5_any n k w n1 n2 (by omega)
/-- What is told of a decimal's digits. -/
def FinR (N D : Nat) (s : ByteArray) (p : Int) (ok : Bool) : Prop :=
  (ok = false ∧ ∀ M q, fin N D 0 = some (M, q) → 9223372036854775807 < M) ∨ (ok = true ∧ ∃ M q : Nat, fin N D 0 = some (M, q) ∧ M ≤ 9223372036854775807 ∧ p = q ∧ bl s = dgt M)
def PostFin (N D : Nat) (w : World) (e : Ending) (w' : World) : Prop :=
  ∃ s p ok, e = .returned (.tuple #[.string s, .int .i64 p, .bool ok]) ∧ s.size ≤ 20 ∧ 0 ≤ p ∧ p ≤ 64 ∧ FinR N D s p ok ∧ Below w.heap.size w w'
theorem PostFin.mk {N D : Nat} {w : World} {e : Ending} {w' : World} (s : ByteArray) (p : Int) (ok : Bool) (h1 : e = .returned (.tuple #[.string s, .int .i64 p, .bool ok])) (h2 : s.size ≤ 20) (h3 : 0 ≤ p) (h4 : p ≤ 64) (h5 : FinR N D s p ok) (h6 : Below w.heap.size w w') : PostFin N D w e w' := ⟨s, p, ok, h1, h2, h3, h4, h5, h6⟩
theorem dd_size {u : Nat} (h : u < 18446744073709551616) : (ByteArray.mk (Lib.decDigits u).toArray).size ≤ 20 := by
  have e : (ByteArray.mk (Lib.decDigits u).toArray).size = (Lib.decDigits u).length := by show (Lib.decDigits u).toArray.size = _; simp
  rw [e, Lib.decDigits_length]
  by_cases h1 : 1 ≤ u
  · have := Lib.numDigits_eq u h1 h; split at this <;> omega
  · rw [Lib.nDigits_small (by omega)]; omega
/-- The state of the loop over fives. -/
def RelFv (a D : Nat) (x f : Value) : Prop := ∃ m k : Nat, x = .int .u64 m ∧ f = .int .i64 k ∧ 1 ≤ m ∧ m ≤ 9223372036854775807 ∧ k ≤ 27 ∧ m % 2 = 1 ∧ Hid (D = 2 ^ a * 5 ^ k * m)
theorem RelFv.mk {a D : Nat} {x f : Value} (m k : Nat) (h1 : x = .int .u64 m) (h2 : f = .int .i64 k) (h3 : 1 ≤ m) (h4 : m ≤ 9223372036854775807) (h5 : k ≤ 27) (h6 : m % 2 = 1) (h7 : D = 2 ^ a * 5 ^ k * m) : RelFv a D x f := ⟨m, k, h1, h2, h3, h4, h5, h6, h7⟩
theorem fives_le {a D k m : Nat} (h : D = 2 ^ a * 5 ^ k * m) (hD : D ≤ 9223372036854775807) (hm : 1 ≤ m) : k ≤ 27 := by
  refine Nat.le_of_not_lt fun hk => ?_
  have h1 : 5 ^ 28 ≤ 5 ^ k := Nat.pow_le_pow_right (by omega) hk
  have h2 : 1 * 5 ^ k ≤ 2 ^ a * 5 ^ k := Nat.mul_le_mul_right _ (Nat.pow_pos (by omega))
  have h3 : 2 ^ a * 5 ^ k * 1 ≤ 2 ^ a * 5 ^ k * m := Nat.mul_le_mul_left _ hm
  have h4 : (9223372036854775807 : Nat) < 5 ^ 28 := by decide
  omega
theorem five_step {a D k m : Nat} (h : D = 2 ^ a * 5 ^ k * m) (hm : m % 5 = 0) : D = 2 ^ a * 5 ^ (k + 1) * (m / 5) := by
  have e : m = 5 * (m / 5) := by omega
  rw [h, Nat.pow_succ]
  generalize m / 5 = q at e
  subst e
  grind
theorem ones_zero {a k : Nat} (h : 2 ^ a * 5 ^ k * 1 = 1) : a = 0 ∧ k = 0 := by
  rw [Nat.mul_one] at h
  have h1 := Nat.eq_one_of_mul_eq_one_right h
  have h2 := Nat.eq_one_of_mul_eq_one_left h
  constructor
  · cases a with
    | zero => rfl
    | succ a => rw [Nat.pow_succ] at h1; omega
  · cases k with
    | zero => rfl
    | succ k => rw [Nat.pow_succ] at h2; omega
theorem mul0 (b : Int) (w : World) : Calls Tryz.prog 240 #[.int .u64 0, .int .u64 b, .int .i64 0] w fun e w' => e = .returned (.tuple #[.int .u64 0, .bool true]) ∧ w' = w := by
  go_enter Tryz.func240, Tryz.ntmps240
  go_wp2
  go_loop [0, 2] (fun x t => x = .int .u64 0 ∧ t = .int .i64 0) (fun _ _ => 0)
  case atStart => exact ⟨rfl, rfl⟩
  case round =>
    obtain ⟨rfl, rfl⟩ := hrel
    go_wp2
    go_ret2
    exact ⟨rfl, rfl⟩
theorem shr_odd {D a m : Nat} (h : D = 2 ^ a * (2 * m + 1)) : (D : Int) / 2 ^ a = ((2 * m + 1 : Nat) : Int) := by
  have hp : 0 < 2 ^ a := Nat.pow_pos (by omega)
  have e : D / 2 ^ a = 2 * m + 1 := by rw [h]; exact Nat.mul_div_cancel_left _ hp
  rw [← e, Int.natCast_ediv, Int.natCast_pow]; rfl
set_option maxRecDepth 100000 in
set_option maxHeartbeats 600000 in
theorem finite_any (n : Int) (D : Nat) (w : World) (n1 : -9223372036854775808 ≤ n) (n2 : n ≤ 9223372036854775807) (n3 : n ≠ -9223372036854775808) (D1 : 1 ≤ D) (D2 : D ≤ 9223372036854775807) (hz : n = 0 → D = 1) (hT : Tabs w) :
    Calls Tryz.prog 219 #[.agg #[.int .i64 n, .int .i64 (D : Int)]] w fun e w' => PostFin (ab n).toNat D w e w' := by
  have d1 : (1 : Int) ≤ D := by omega
  have d2 : (D : Int) ≤ 9223372036854775807 := by omega
  obtain ⟨m0, hm0, ha⟩ := ctz_out D (by omega) (by omega)
  generalize ha0 : Lib.ctz 64 D = a at *
  have HA := hide ha0
  have HM := hide hm0
  have HT := hide (hT.below (bplus (Below.refl _ _) (.cells #[.int .i64 n, .int .i64 (D : Int)] 71)))
  clear ha0 hm0 hT
  go_enter Tryz.func219, Tryz.ntmps219
  go_wp2_with (go_at_call 234; refine (tz_any D _ (by omega) (by omega) HT.out).mono ?_; rintro e w' ⟨rfl, rfl⟩; rw [HA.out])
  go_loop [5, 7] (fun x f => RelFv a D x f) (fun x _ => (intOf x).toNat)
  case atStart =>
    refine .mk (2 * m0 + 1) 0 (by rw [shr_odd HM.out]) rfl (by omega) (by have := HM.out; have := Nat.le_mul_of_pos_left (2 * m0 + 1) (show 0 < 2 ^ a from Nat.pow_pos (by omega)); omega) (by omega) (by omega) (by rw [Nat.pow_zero, Nat.mul_one]; exact HM.out)
  case round =>
    obtain ⟨m, k, rfl, rfl, m1, m2, k1, mo, R⟩ := hrel
    by_cases h5 : m % 5 = 0
    · have R2 := hide (five_step R.out h5)
      have K2 := hide (fives_le R2.out D2 (by omega))
      have hb : ((m : Int) % 5 == 0) = true := by simp; omega
      go_wp2
      go_round
      case rel => exact .mk (m / 5) (k + 1) (by go_num) (by go_num) (by omega) (by omega) K2.out (by omega) R2.out
      case measure => simp [intOf]; omega
    · have hb : ((m : Int) % 5 == 0) = false := by simp; omega
      by_cases hm1 : m = 1
      · subst hm1
        have R1 := hide (show D = 2 ^ a * 5 ^ k * 1 from R.out)
        have FE := hide (fun p => fin_eq a k 1 (by omega) (by omega) (ab n).toNat p)
        by_cases hn0 : n = 0
        · obtain ⟨rfl, rfl⟩ := ones_zero (R1.out.symm.trans (hz hn0))
          subst hn0
          have F := hide (show FinR (ab 0).toNat D ⟨(Lib.decDigits 0).toArray⟩ 0 true from .inr ⟨rfl, 0, 0, by rw [R1.out, FE.out, if_pos rfl]; rfl, by omega, rfl, bl_dgt 0⟩)
          have hab : ab 0 = 0 := rfl
          clear hz R FE
          go_wp2_with (first
            | (go_at_call 239; refine (magnitude_any _ _ n1 n2).mono ?_; rintro e w' ⟨rfl, rfl⟩; rw [hab])
            | (go_at_call 240; refine (mul0 _ _).mono ?_; rintro e w' ⟨rfl, rfl⟩)
            | (go_at_call 153; refine (fmt_any 0 _ (by omega) HT.out).mono ?_; rintro e w' ⟨rfl, hb⟩; replace hb := hide hb))
          go_ret3
          exact .mk _ _ _ rfl (dd_size (by omega)) (by omega) (by omega) F.out (bto (bplus (Below.refl _ _) _) hb.out)
        · have N1 : 1 ≤ (ab n).toNat := by unfold ab; split <;> omega
          have N2 : (ab n).toNat ≤ 9223372036854775807 := by unfold ab; split <;> omega
          have hab : ab n = ((ab n).toNat : Int) := (ab_nat n).symm
          generalize hN : (ab n).toNat = N at *
          have k2 : (k : Int) ≤ 27 := by omega
          have a2 : (a : Int) < 64 := by omega
          have R3 := hide (fun p => show fin N D p = some (N * 2 ^ (max a k - a) * 5 ^ (max a k - k), p + max a k) by rw [R1.out, FE.out, if_pos rfl])
          have HN := hide hN
          clear FE R hz hn0 hN
          by_cases hak : a ≤ k
          · have hmx : max (a : Int) (k : Int) = (k : Int) := by omega
            have R4 := hide (show fin N D 0 = some (N * 2 ^ (k - a), k) by rw [R3.out, show max a k = k by omega, Nat.sub_self, Nat.pow_zero, Nat.mul_one, Nat.zero_add])
            obtain ⟨P, hP⟩ : ∃ P, N * 2 ^ (k - a) = P := ⟨_, rfl⟩
            have P1 := hide (show 1 ≤ P by rw [← hP]; exact Nat.mul_pos N1 (Nat.pow_pos (by omega)))
            rw [hP] at R4
            have E1 := hide (show N * 2 ^ ((k : Int) - a).toNat = P by rw [show ((k : Int) - a).toNat = k - a by omega]; exact hP)
            have X1 := hide (show P * 5 ^ ((k : Int) - k).toNat = P by rw [show ((k : Int) - k).toNat = 0 by omega, Nat.pow_zero, Nat.mul_one])
            have X2 := hide (show P * 5 ^ (0 : Int).toNat = P by rw [show (0 : Int).toNat = 0 by rfl, Nat.pow_zero, Nat.mul_one])
            clear R3 hP
            by_cases hM : P ≤ 9223372036854775807
            · have F := hide (show FinR N D ⟨(Lib.decDigits P).toArray⟩ k true from .inr ⟨rfl, _, _, R4.out, hM, rfl, bl_dgt _⟩)
              have B1 := hide (mulB_yes hM)
              have V1 := hide (mulV_yes hM)
              have HM1 := hide hM
              clear hM R4
              go_wp2_with (first
                | (go_at_call 239; refine (magnitude_any _ _ n1 n2).mono ?_; rintro e w' ⟨rfl, rfl⟩; rw [hab])
                | (go_at_call_of 240 (Value.int IntKind.u64 2); refine (mul2i N _ _ N1 N2 (by omega) (by omega)).mono ?_; rintro e w' ⟨rfl, rfl⟩; unfold mulR; rw [E1.out, B1.out, V1.out])
                | (go_at_call 240; refine (mul5i P _ _ P1.out HM1.out (by omega) (by omega)).mono ?_; rintro e w' ⟨rfl, rfl⟩; unfold mulR; (first | rw [X1.out, B1.out, V1.out] | rw [X2.out, B1.out, V1.out] | rw [X1.out, B0.out, V0.out] | rw [X2.out, B0.out, V0.out]))
                | (go_at_call 153; refine (fmt_any P _ (by have := HM1.out; omega) HT.out).mono ?_; rintro e w' ⟨rfl, hb⟩; replace hb := hide hb))
              go_ret3
              exact .mk _ _ _ rfl (dd_size (by have := HM1.out; omega)) (by omega) (by omega) (by rw [HN.out]; exact F.out) (bto (bplus (Below.refl _ _) _) hb.out)
            · have F := hide (show FinR N D ⟨(Lib.decDigits 0).toArray⟩ k false from .inl ⟨rfl, fun M q h => by rw [R4.out] at h; cases h; omega⟩)
              have B1 := hide (mulB_no hM)
              have V1 := hide (mulV_no hM)
              clear hM R4
              go_wp2_with (first
                | (go_at_call 239; refine (magnitude_any _ _ n1 n2).mono ?_; rintro e w' ⟨rfl, rfl⟩; rw [hab])
                | (go_at_call 240; refine (mul2i N _ _ N1 N2 (by omega) (by omega)).mono ?_; rintro e w' ⟨rfl, rfl⟩; unfold mulR; rw [E1.out, B1.out, V1.out])
                | (go_at_call 153; refine (fmt_any 0 _ (by omega) HT.out).mono ?_; rintro e w' ⟨rfl, hb⟩; replace hb := hide hb))
              go_ret3
              exact .mk _ _ _ rfl (dd_size (by omega)) (by omega) (by omega) (by rw [HN.out]; exact F.out) (bto (bplus (Below.refl _ _) _) hb.out)
          · have hmx : max (a : Int) (k : Int) = (a : Int) := by omega
            have R4 := hide (show fin N D 0 = some (N * 5 ^ (a - k), a) by rw [R3.out, show max a k = a by omega, Nat.sub_self, Nat.pow_zero, Nat.mul_one, Nat.zero_add])
            obtain ⟨P, hP⟩ : ∃ P, N * 5 ^ (a - k) = P := ⟨_, rfl⟩
            rw [hP] at R4
            have E1 := hide (show N * 5 ^ ((a : Int) - k).toNat = P by rw [show ((a : Int) - k).toNat = a - k by omega]; exact hP)
            have X1 := hide (show N * 2 ^ ((a : Int) - a).toNat = N by rw [show ((a : Int) - a).toNat = 0 by omega, Nat.pow_zero, Nat.mul_one])
            have X2 := hide (show N * 2 ^ (0 : Int).toNat = N by rw [show (0 : Int).toNat = 0 by rfl, Nat.pow_zero, Nat.mul_one])
            have B0 := hide (mulB_yes N2)
            have V0 := hide (mulV_yes N2)
            clear R3 hP
            by_cases hM : P ≤ 9223372036854775807
            · have F := hide (show FinR N D ⟨(Lib.decDigits P).toArray⟩ a true from .inr ⟨rfl, _, _, R4.out, hM, rfl, bl_dgt _⟩)
              have B1 := hide (mulB_yes hM)
              have V1 := hide (mulV_yes hM)
              have HM1 := hide hM
              clear hM R4
              go_wp2_with (first
                | (go_at_call 239; refine (magnitude_any _ _ n1 n2).mono ?_; rintro e w' ⟨rfl, rfl⟩; rw [hab])
                | (go_at_call_of 240 (Value.int IntKind.u64 2); refine (mul2i N _ _ N1 N2 (by omega) (by omega)).mono ?_; rintro e w' ⟨rfl, rfl⟩; unfold mulR; (first | rw [X1.out, B1.out, V1.out] | rw [X2.out, B1.out, V1.out] | rw [X1.out, B0.out, V0.out] | rw [X2.out, B0.out, V0.out]))
                | (go_at_call 240; refine (mul5i N _ _ N1 N2 (by omega) (by omega)).mono ?_; rintro e w' ⟨rfl, rfl⟩; unfold mulR; rw [E1.out, B1.out, V1.out])
                | (go_at_call 153; refine (fmt_any P _ (by have := HM1.out; omega) HT.out).mono ?_; rintro e w' ⟨rfl, hb⟩; replace hb := hide hb))
              go_ret3
              exact .mk _ _ _ rfl (dd_size (by have := HM1.out; omega)) (by omega) (by omega) (by rw [HN.out]; exact F.out) (bto (bplus (Below.refl _ _) _) hb.out)
            · have F := hide (show FinR N D ⟨(Lib.decDigits 0).toArray⟩ a false from .inl ⟨rfl, fun M q h => by rw [R4.out] at h; cases h; omega⟩)
              have B1 := hide (mulB_no hM)
              have V1 := hide (mulV_no hM)
              clear hM R4
              go_wp2_with (first
                | (go_at_call 239; refine (magnitude_any _ _ n1 n2).mono ?_; rintro e w' ⟨rfl, rfl⟩; rw [hab])
                | (go_at_call_of 240 (Value.int IntKind.u64 2); refine (mul2i N _ _ N1 N2 (by omega) (by omega)).mono ?_; rintro e w' ⟨rfl, rfl⟩; unfold mulR; (first | rw [X1.out, B1.out, V1.out] | rw [X2.out, B1.out, V1.out] | rw [X1.out, B0.out, V0.out] | rw [X2.out, B0.out, V0.out]))
                | (go_at_call 240; refine (mul5i N _ _ N1 N2 (by omega) (by omega)).mono ?_; rintro e w' ⟨rfl, rfl⟩; unfold mulR; rw [E1.out, B1.out, V1.out])
                | (go_at_call 153; refine (fmt_any 0 _ (by omega) HT.out).mono ?_; rintro e w' ⟨rfl, hb⟩; replace hb := hide hb))
              go_ret3
              exact .mk _ _ _ rfl (dd_size (by omega)) (by omega) (by omega) (by rw [HN.out]; exact F.out) (bto (bplus (Below.refl _ _) _) hb.out)
      · have F := hide (show FinR (ab n).toNat D ⟨#[]⟩ 0 false from .inl ⟨rfl, fun M q h => by
          rw [R.out, fin_eq a k m (by omega) h5, if_neg hm1] at h; cases h⟩)
        have hb2 : ((m : Int) != 1) = true := by simp; omega
        go_wp2
        go_ret3
        exact .mk _ _ _ rfl (by decide) (by omega) (by omega) F.out (bplus (Below.refl _ _) _)
/-! ### The point set -/
theorem plainOver_any (wh : Bool) (w : World) : Calls Tryz.prog 218 #[.bool wh] w fun e w' => ∃ s, e = .returned (.string s) ∧ bl s = plO wh ∧ w' = w := by
  cases wh
  all_goals
    go_enter Tryz.func218, Tryz.ntmps218
    go_wp2
    go_ret
    exact ⟨_, rfl, by rfl, rfl⟩
end Go.Proofs.YtmkbjcoagfnegaaGreatDoor
set_option linter.unusedVariables false
set_option linter.unusedSimpArgs false
namespace Go.Proofs.YtmkbjcoagfnegaaGreatDoor
open Go.RowKit

theorem dropW_map (l : List UInt8) : (l.dropWhile (· == 48)).map (fun b => (b.toNat : Int)) = (l.map fun b => (b.toNat : Int)).dropWhile (· == 48) := by
  induction l with
  | nil => rfl
  | cons c l ih =>
    by_cases h : c = 48
    · subst h
      rw [List.dropWhile_cons_of_pos (by rfl), List.map_cons, List.dropWhile_cons_of_pos (by rfl)]
      exact ih
    · have h1 : ((c.toNat : Int) == 48) = false := by
        simp only [beq_eq_false_iff_ne]
        intro e
        exact h (UInt8.toNat_inj.1 (by show c.toNat = 48; omega))
      rw [List.dropWhile_cons_of_neg (by simpa using h), List.map_cons, List.dropWhile_cons_of_neg (by simp [h1])]
theorem trimR_bl (s : ByteArray) : bl ⟨(Lib.trimRightB s.data.toList 48).toArray⟩ = cutR (bl s) := by
  unfold bl Lib.trimRightB cutR
  show ((s.data.toList.reverse.dropWhile (· == 48)).reverse.toArray.toList.map _) = _
  rw [List.map_reverse]
  rw [dropW_map, List.map_reverse]
/-- A value's post. -/
def PostV (b : Bool) (D : List Int) (k : Int) (w : World) (e : Ending) (w' : World) : Prop := e = .returned (ratV (valOf b D k).1 (valOf b D k).2) ∧ Below w.heap.size w w'
theorem trimR_any (s : ByteArray) (w : World) (hs : s.size ≤ 9223372036854775807) : Calls Tryz.prog 220 #[.string s, .string ⟨#[48]⟩] w fun e w' => ∃ t, e = .returned (.string t) ∧ bl t = cutR (bl s) ∧ w' = w :=
  (sh_strings_TrimRight_one s 48 (by decide) w hs).mono fun _ _ ⟨h1, h2⟩ => ⟨_, h1, trimR_bl s, h2⟩
theorem PostV.mk {b : Bool} {D : List Int} {k : Int} {w w' : World} {e : Ending} {n d : Int} (hv : valOf b D k = (n, d)) (h1 : e = .returned (ratV n d)) (h2 : Below w.heap.size w w') : PostV b D k w e w' := by
  unfold PostV; rw [hv]; exact ⟨h1, h2⟩
end Go.Proofs.YtmkbjcoagfnegaaGreatDoor

