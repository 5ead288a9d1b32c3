/-
  A fraction as a number of a stylesheet, by the reference: the walk.
-/
import Derived.Test.YtcclhdiphcfdfabGreatDoorKn
set_option linter.unusedVariables false
set_option linter.unusedSimpArgs false
namespace Go.Proofs.YtcclhdiphcfdfabGreatDoor
open Go.RowKit

def mS (v : Value) : Nat := match v with | .string s => s.size | _ => 0
/-! ### How long such a text is -/
theorem plT_len {n d : Int} {wh : Bool} {t : List Int} (n1 : -9223372036854775808 ≤ n) (n2 : n ≤ 9223372036854775807) (d2 : d ≤ 9223372036854775807) (h : plT n d wh = some t) : t.length ≤ 100 := by
  unfold plT at h
  split at h
  · cases h
  split at h
  · cases h; cases wh <;> decide
  rename_i h1 h0
  have hm : mayB n d = true := by
    cases hb : mayB n d with
    | true => rfl
    | false => exact absurd (.inl hb) h1
  have hv : isV n d = true := by unfold mayB at hm; simp [h0] at hm; exact hm
  obtain ⟨hd, _, hg⟩ := isV_out hv
  unfold plV at h
  cases hf : fin (ab n).toNat d.toNat 0 with
  | none => rw [hf] at h; cases h
  | some r =>
    obtain ⟨M, p⟩ := r
    rw [hf] at h
    simp only at h
    split at h
    · cases h
    rename_i hl
    cases h
    have hp : p ≤ 63 := by
      obtain ⟨a, b, m, hs, m2, m5⟩ := split10 d.toNat (by omega)
      have hf2 := hf
      rw [hs, fin_eq a b m m2 m5] at hf2
      split at hf2
      · rename_i hm1
        cases hf2
        have hb := fives_le (k := b) (m := m) hs (by omega) (by omega)
        have ha : a ≤ 62 := by
          refine Nat.le_of_not_lt fun h => ?_
          have h1 : 2 ^ 63 ≤ 2 ^ a := Nat.pow_le_pow_right (by omega) h
          have h2 : 2 ^ a * 1 ≤ 2 ^ a * 5 ^ b := Nat.mul_le_mul_left _ (Nat.pow_pos (by omega))
          have h3 : (2 : Nat) ^ 63 = 9223372036854775808 := by decide
          rw [hm1, Nat.mul_one] at hs
          omega
        omega
      · cases hf2
    have hM : (dgt M).length ≤ 20 := by
      by_cases hd1 : d.toNat ≤ 1
      · rw [fin_one hd1] at hf
        cases hf
        have hN : (ab n).toNat ≤ 9223372036854775807 := by unfold ab; split <;> omega
        have := dd_size (u := (ab n).toNat) (by omega)
        rw [← bl_len, bl_dgt] at this
        exact this
      · rw [cutR_dgt (fin_ten_no hf (by omega) hg)] at hl; omega
    have hn : (neg1 n).length ≤ 1 := by unfold neg1; split <;> simp
    have hpt := ptd_len (dgt M) p
    rw [List.length_append]
    split <;> omega
end Go.Proofs.YtcclhdiphcfdfabGreatDoor
