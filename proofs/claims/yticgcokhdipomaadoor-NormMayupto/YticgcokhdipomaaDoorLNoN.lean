/-
  Which units a form uses: by the program.
-/
import Derived.Test.YticgcokhdipomaaDoorLNoM
set_option linter.unusedVariables false
set_option linter.unusedSimpArgs false
namespace Go.Proofs.YticgcokhdipomaaDoor.nm
open Go.RowKit

def orI (a b : Int) : Int := bits BinOp.or IntKind.i64 a b
def bitK (k : Nat) : Int := wrap64 (2 ^ ((k : Int) + 1).toNat)
def orU (m : Int) : List (Int × Int) → Nat → Int
  | [], _ => m
  | r :: rs, k => orU (if r = (0, 1) then m else orI m (bitK k)) rs (k + 1)
/-- The units of forms, at most so deep, beside those that are there. -/
def usX : Nat → List Fo → Int → Int
  | 0, _, m => m
  | n + 1, l, m => l.foldl (fun m a => orI m (a.ps.foldl (fun m p => usX n p.2 m) (orU 0 a.us 0))) m
def usG (n : Nat) (us : List (Int × Int)) (ps : List Pa) : Int := ps.foldl (fun m p => usX n p.2 m) (orU 0 us 0)
theorem usX_succ (n : Nat) (l : List Fo) (m : Int) : usX (n + 1) l m = l.foldl (fun m a => orI m (usG n a.us a.ps)) m := rfl
def RelUo (W1 : World) (us : List (Int × Int)) (i u : Value) (wr : World) : Prop := ∃ (k : Nat) (m : Int), i = .int .i64 k ∧ u = .int .i64 m ∧ k ≤ 7 ∧ Below W1.heap.size W1 wr ∧ Hid (orU 0 us 0 = orU m (us.drop k) k)
theorem RelUo.mk {W1 : World} {us : List (Int × Int)} {i u : Value} {wr : World} (k : Nat) (m : Int) (h1 : i = .int .i64 k) (h2 : u = .int .i64 m) (h3 : k ≤ 7) (h4 : Below W1.heap.size W1 wr) (h5 : orU 0 us 0 = orU m (us.drop k) k) : RelUo W1 us i u wr := ⟨k, m, h1, h2, h3, h4, h5⟩
theorem orU_step {us : List (Int × Int)} {k : Nat} {r : Int × Int} {m : Int} (h : orU 0 us 0 = orU m (us.drop k) k) (hr : us[k]? = some r) : orU 0 us 0 = orU (if r = (0, 1) then m else orI m (bitK k)) (us.drop (k + 1)) (k + 1) := by
  rw [h, drop_atE hr, orU]
set_option maxRecDepth 100000 in
set_option maxHeartbeats 8000000 in
theorem usedOf_any (us : List (Int × Int)) (w : World) (hN : Nth w) (hus : Us us) : Calls Tryd.prog 51 #[usV us] w fun e w' => e = .returned (.int .i64 (orU 0 us 0)) ∧ Below w.heap.size w w' := by
  have HUS := hide hus
  have HN := hide hN
  obtain ⟨n0, d0, n1, d1, n2, d2, n3, d3, n4, d4, n5, d5, n6, d6, rfl⟩ := us7 hus
  rw [usV_eq]
  clear hus hN
  obtain ⟨r, hr⟩ : ∃ r, orU 0 [(n0, d0), (n1, d1), (n2, d2), (n3, d3), (n4, d4), (n5, d5), (n6, d6)] 0 = r := ⟨_, rfl⟩
  have HR := hide hr
  rw [hr]
  clear hr
  obtain ⟨W1, hW1⟩ : ∃ W1, w.alloc (.cells #[.int .i64 n0, .int .i64 d0, .int .i64 n1, .int .i64 d1, .int .i64 n2, .int .i64 d2, .int .i64 n3, .int .i64 d3, .int .i64 n4, .int .i64 d4, .int .i64 n5, .int .i64 d5, .int .i64 n6, .int .i64 d6] 60) = W1 := ⟨_, rfl⟩
  have B0 := hide (show Below w.heap.size w W1 by rw [← hW1]; exact bplus (Below.refl _ _) _)
  have HW1 := hide hW1
  have N1 := hide (HN.out.low B0.out)
  clear hW1 HN
  generalize hU : [(n0, d0), (n1, d1), (n2, d2), (n3, d3), (n4, d4), (n5, d5), (n6, d6)] = US at *
  go_enter Tryd.func51, Tryd.ntmps51
  go_wp2
  rw [HW1.out]
  go_loopw [7, 3] (fun i u wr => RelUo W1 US i u wr) (fun i _ _ => 7 - (intOf i).toNat)
  case atStart => exact .mk 0 0 rfl rfl (by omega) (Below.refl _ _) rfl
  case round =>
    obtain ⟨k, m, rfl, rfl, hk, BE, R⟩ := hrel
    replace BE := hide BE
    by_cases hlt : k < 7
    · obtain ⟨rn, rd, hr, ⟨rn1, rn2⟩, ⟨rd1, rd2⟩⟩ := us_at HUS.out hlt
      have IX := ix7 (n0 := n0) (d0 := d0) (n1 := n1) (d1 := d1) (n2 := n2) (d2 := d2) (n3 := n3) (d3 := d3) (n4 := n4) (d4 := d4) (n5 := n5) (d5 := d5) (n6 := n6) (d6 := d6) hlt 60 (.inr rfl) (n := rn) (d := rd) (by rw [hU]; exact hr)
      have R2 := hide (orU_step R.out hr)
      have hlt' : (k : Int) < 7 := by omega
      obtain ⟨g0, g1, g2⟩ := N1.out.low BE.out
      have g3 : 0 ≠ wr.heap.size := by omega
      have BX := hide (bplus BE.out (.cells #[.int .i64 rn, .int .i64 rd] 24))
      clear hr R
      by_cases hz : rn = 0 ∧ rd = 1
      · obtain ⟨rfl, rfl⟩ := hz
        rw [if_pos rfl] at R2
        go_wp2
        go_roundw
        case rel => exact .mk (k + 1) m (by go_num) rfl (by omega) BX.out R2.out
        case measure => simp [intOf]; omega
      · rw [if_neg (by simpa using hz)] at R2
        go_wp2
        all_goals (first | (exfalso; omega) | skip)
        all_goals
          (try subst_vars)
          go_roundw
          case rel => exact .mk (k + 1) (orI m (bitK k)) (by go_num) rfl (by omega) BX.out R2.out
          case measure => simp [intOf]; omega
    · obtain rfl : k = 7 := by omega
      have F := hide (show m = r by rw [← HR.out, R.out, List.drop_of_length_le (by rw [HUS.out.1]; omega)]; rfl)
      have hlt' : ¬ ((7 : Nat) : Int) < 7 := by omega
      clear R
      go_wp2
      go_ret
      exact ⟨ret_int F.out, bto B0.out BE.out⟩
end Go.Proofs.YticgcokhdipomaaDoor.nm
