/-
  Any token, written: by the reference, whole.
  Tokens, written: by the reference; the law of tokens.
-/
import Derived.Test.YtbdacepomdlcbaaGreatDoorJx
import Derived.Test.YtbdacepomdlcbaaGreatDoorJb
import Derived.Lib.AppendStr
set_option linter.unusedVariables false
set_option linter.unusedSimpArgs false
namespace Go.Proofs.YtbdacepomdlcbaaGreatDoor
open Go.RowKit Go.Shelf

theorem ix6 (W : World) : (Instr.index 91 (.agg #[.string ⟨#[]⟩, .string ⟨#[]⟩, .string ⟨#[]⟩, .string ⟨#[]⟩, .string ⟨#[]⟩, .string ⟨#[]⟩, .string ⟨#[34, 10]⟩, .string ⟨#[]⟩, .string ⟨#[117, 114, 108, 40, 40, 41]⟩, .string ⟨#[]⟩, .string ⟨#[]⟩, .string ⟨#[]⟩, .string ⟨#[]⟩, .string ⟨#[32]⟩, .string ⟨#[60, 33, 45, 45]⟩, .string ⟨#[45, 45, 62]⟩, .string ⟨#[58]⟩, .string ⟨#[59]⟩, .string ⟨#[44]⟩, .string ⟨#[91]⟩, .string ⟨#[93]⟩, .string ⟨#[40]⟩, .string ⟨#[41]⟩, .string ⟨#[123]⟩, .string ⟨#[125]⟩]) (.int .i64 6)).run Tryz.prog W = .ok (.string ⟨#[34, 10]⟩) W := by kernel_rfl
theorem ix8 (W : World) : (Instr.index 91 (.agg #[.string ⟨#[]⟩, .string ⟨#[]⟩, .string ⟨#[]⟩, .string ⟨#[]⟩, .string ⟨#[]⟩, .string ⟨#[]⟩, .string ⟨#[34, 10]⟩, .string ⟨#[]⟩, .string ⟨#[117, 114, 108, 40, 40, 41]⟩, .string ⟨#[]⟩, .string ⟨#[]⟩, .string ⟨#[]⟩, .string ⟨#[]⟩, .string ⟨#[32]⟩, .string ⟨#[60, 33, 45, 45]⟩, .string ⟨#[45, 45, 62]⟩, .string ⟨#[58]⟩, .string ⟨#[59]⟩, .string ⟨#[44]⟩, .string ⟨#[91]⟩, .string ⟨#[93]⟩, .string ⟨#[40]⟩, .string ⟨#[41]⟩, .string ⟨#[123]⟩, .string ⟨#[125]⟩]) (.int .i64 8)).run Tryz.prog W = .ok (.string ⟨#[117, 114, 108, 40, 40, 41]⟩) W := by kernel_rfl
theorem ix13 (W : World) : (Instr.index 91 (.agg #[.string ⟨#[]⟩, .string ⟨#[]⟩, .string ⟨#[]⟩, .string ⟨#[]⟩, .string ⟨#[]⟩, .string ⟨#[]⟩, .string ⟨#[34, 10]⟩, .string ⟨#[]⟩, .string ⟨#[117, 114, 108, 40, 40, 41]⟩, .string ⟨#[]⟩, .string ⟨#[]⟩, .string ⟨#[]⟩, .string ⟨#[]⟩, .string ⟨#[32]⟩, .string ⟨#[60, 33, 45, 45]⟩, .string ⟨#[45, 45, 62]⟩, .string ⟨#[58]⟩, .string ⟨#[59]⟩, .string ⟨#[44]⟩, .string ⟨#[91]⟩, .string ⟨#[93]⟩, .string ⟨#[40]⟩, .string ⟨#[41]⟩, .string ⟨#[123]⟩, .string ⟨#[125]⟩]) (.int .i64 13)).run Tryz.prog W = .ok (.string ⟨#[32]⟩) W := by kernel_rfl
theorem ix14 (W : World) : (Instr.index 91 (.agg #[.string ⟨#[]⟩, .string ⟨#[]⟩, .string ⟨#[]⟩, .string ⟨#[]⟩, .string ⟨#[]⟩, .string ⟨#[]⟩, .string ⟨#[34, 10]⟩, .string ⟨#[]⟩, .string ⟨#[117, 114, 108, 40, 40, 41]⟩, .string ⟨#[]⟩, .string ⟨#[]⟩, .string ⟨#[]⟩, .string ⟨#[]⟩, .string ⟨#[32]⟩, .string ⟨#[60, 33, 45, 45]⟩, .string ⟨#[45, 45, 62]⟩, .string ⟨#[58]⟩, .string ⟨#[59]⟩, .string ⟨#[44]⟩, .string ⟨#[91]⟩, .string ⟨#[93]⟩, .string ⟨#[40]⟩, .string ⟨#[41]⟩, .string ⟨#[123]⟩, .string ⟨#[125]⟩]) (.int .i64 14)).run Tryz.prog W = .ok (.string ⟨#[60, 33, 45, 45]⟩) W := by kernel_rfl
theorem ix15 (W : World) : (Instr.index 91 (.agg #[.string ⟨#[]⟩, .string ⟨#[]⟩, .string ⟨#[]⟩, .string ⟨#[]⟩, .string ⟨#[]⟩, .string ⟨#[]⟩, .string ⟨#[34, 10]⟩, .string ⟨#[]⟩, .string ⟨#[117, 114, 108, 40, 40, 41]⟩, .string ⟨#[]⟩, .string ⟨#[]⟩, .string ⟨#[]⟩, .string ⟨#[]⟩, .string ⟨#[32]⟩, .string ⟨#[60, 33, 45, 45]⟩, .string ⟨#[45, 45, 62]⟩, .string ⟨#[58]⟩, .string ⟨#[59]⟩, .string ⟨#[44]⟩, .string ⟨#[91]⟩, .string ⟨#[93]⟩, .string ⟨#[40]⟩, .string ⟨#[41]⟩, .string ⟨#[123]⟩, .string ⟨#[125]⟩]) (.int .i64 15)).run Tryz.prog W = .ok (.string ⟨#[45, 45, 62]⟩) W := by kernel_rfl
theorem ix16 (W : World) : (Instr.index 91 (.agg #[.string ⟨#[]⟩, .string ⟨#[]⟩, .string ⟨#[]⟩, .string ⟨#[]⟩, .string ⟨#[]⟩, .string ⟨#[]⟩, .string ⟨#[34, 10]⟩, .string ⟨#[]⟩, .string ⟨#[117, 114, 108, 40, 40, 41]⟩, .string ⟨#[]⟩, .string ⟨#[]⟩, .string ⟨#[]⟩, .string ⟨#[]⟩, .string ⟨#[32]⟩, .string ⟨#[60, 33, 45, 45]⟩, .string ⟨#[45, 45, 62]⟩, .string ⟨#[58]⟩, .string ⟨#[59]⟩, .string ⟨#[44]⟩, .string ⟨#[91]⟩, .string ⟨#[93]⟩, .string ⟨#[40]⟩, .string ⟨#[41]⟩, .string ⟨#[123]⟩, .string ⟨#[125]⟩]) (.int .i64 16)).run Tryz.prog W = .ok (.string ⟨#[58]⟩) W := by kernel_rfl
theorem ix17 (W : World) : (Instr.index 91 (.agg #[.string ⟨#[]⟩, .string ⟨#[]⟩, .string ⟨#[]⟩, .string ⟨#[]⟩, .string ⟨#[]⟩, .string ⟨#[]⟩, .string ⟨#[34, 10]⟩, .string ⟨#[]⟩, .string ⟨#[117, 114, 108, 40, 40, 41]⟩, .string ⟨#[]⟩, .string ⟨#[]⟩, .string ⟨#[]⟩, .string ⟨#[]⟩, .string ⟨#[32]⟩, .string ⟨#[60, 33, 45, 45]⟩, .string ⟨#[45, 45, 62]⟩, .string ⟨#[58]⟩, .string ⟨#[59]⟩, .string ⟨#[44]⟩, .string ⟨#[91]⟩, .string ⟨#[93]⟩, .string ⟨#[40]⟩, .string ⟨#[41]⟩, .string ⟨#[123]⟩, .string ⟨#[125]⟩]) (.int .i64 17)).run Tryz.prog W = .ok (.string ⟨#[59]⟩) W := by kernel_rfl
theorem ix18 (W : World) : (Instr.index 91 (.agg #[.string ⟨#[]⟩, .string ⟨#[]⟩, .string ⟨#[]⟩, .string ⟨#[]⟩, .string ⟨#[]⟩, .string ⟨#[]⟩, .string ⟨#[34, 10]⟩, .string ⟨#[]⟩, .string ⟨#[117, 114, 108, 40, 40, 41]⟩, .string ⟨#[]⟩, .string ⟨#[]⟩, .string ⟨#[]⟩, .string ⟨#[]⟩, .string ⟨#[32]⟩, .string ⟨#[60, 33, 45, 45]⟩, .string ⟨#[45, 45, 62]⟩, .string ⟨#[58]⟩, .string ⟨#[59]⟩, .string ⟨#[44]⟩, .string ⟨#[91]⟩, .string ⟨#[93]⟩, .string ⟨#[40]⟩, .string ⟨#[41]⟩, .string ⟨#[123]⟩, .string ⟨#[125]⟩]) (.int .i64 18)).run Tryz.prog W = .ok (.string ⟨#[44]⟩) W := by kernel_rfl
theorem ix19 (W : World) : (Instr.index 91 (.agg #[.string ⟨#[]⟩, .string ⟨#[]⟩, .string ⟨#[]⟩, .string ⟨#[]⟩, .string ⟨#[]⟩, .string ⟨#[]⟩, .string ⟨#[34, 10]⟩, .string ⟨#[]⟩, .string ⟨#[117, 114, 108, 40, 40, 41]⟩, .string ⟨#[]⟩, .string ⟨#[]⟩, .string ⟨#[]⟩, .string ⟨#[]⟩, .string ⟨#[32]⟩, .string ⟨#[60, 33, 45, 45]⟩, .string ⟨#[45, 45, 62]⟩, .string ⟨#[58]⟩, .string ⟨#[59]⟩, .string ⟨#[44]⟩, .string ⟨#[91]⟩, .string ⟨#[93]⟩, .string ⟨#[40]⟩, .string ⟨#[41]⟩, .string ⟨#[123]⟩, .string ⟨#[125]⟩]) (.int .i64 19)).run Tryz.prog W = .ok (.string ⟨#[91]⟩) W := by kernel_rfl
theorem ix20 (W : World) : (Instr.index 91 (.agg #[.string ⟨#[]⟩, .string ⟨#[]⟩, .string ⟨#[]⟩, .string ⟨#[]⟩, .string ⟨#[]⟩, .string ⟨#[]⟩, .string ⟨#[34, 10]⟩, .string ⟨#[]⟩, .string ⟨#[117, 114, 108, 40, 40, 41]⟩, .string ⟨#[]⟩, .string ⟨#[]⟩, .string ⟨#[]⟩, .string ⟨#[]⟩, .string ⟨#[32]⟩, .string ⟨#[60, 33, 45, 45]⟩, .string ⟨#[45, 45, 62]⟩, .string ⟨#[58]⟩, .string ⟨#[59]⟩, .string ⟨#[44]⟩, .string ⟨#[91]⟩, .string ⟨#[93]⟩, .string ⟨#[40]⟩, .string ⟨#[41]⟩, .string ⟨#[123]⟩, .string ⟨#[125]⟩]) (.int .i64 20)).run Tryz.prog W = .ok (.string ⟨#[93]⟩) W := by kernel_rfl
theorem ix21 (W : World) : (Instr.index 91 (.agg #[.string ⟨#[]⟩, .string ⟨#[]⟩, .string ⟨#[]⟩, .string ⟨#[]⟩, .string ⟨#[]⟩, .string ⟨#[]⟩, .string ⟨#[34, 10]⟩, .string ⟨#[]⟩, .string ⟨#[117, 114, 108, 40, 40, 41]⟩, .string ⟨#[]⟩, .string ⟨#[]⟩, .string ⟨#[]⟩, .string ⟨#[]⟩, .string ⟨#[32]⟩, .string ⟨#[60, 33, 45, 45]⟩, .string ⟨#[45, 45, 62]⟩, .string ⟨#[58]⟩, .string ⟨#[59]⟩, .string ⟨#[44]⟩, .string ⟨#[91]⟩, .string ⟨#[93]⟩, .string ⟨#[40]⟩, .string ⟨#[41]⟩, .string ⟨#[123]⟩, .string ⟨#[125]⟩]) (.int .i64 21)).run Tryz.prog W = .ok (.string ⟨#[40]⟩) W := by kernel_rfl
theorem ix22 (W : World) : (Instr.index 91 (.agg #[.string ⟨#[]⟩, .string ⟨#[]⟩, .string ⟨#[]⟩, .string ⟨#[]⟩, .string ⟨#[]⟩, .string ⟨#[]⟩, .string ⟨#[34, 10]⟩, .string ⟨#[]⟩, .string ⟨#[117, 114, 108, 40, 40, 41]⟩, .string ⟨#[]⟩, .string ⟨#[]⟩, .string ⟨#[]⟩, .string ⟨#[]⟩, .string ⟨#[32]⟩, .string ⟨#[60, 33, 45, 45]⟩, .string ⟨#[45, 45, 62]⟩, .string ⟨#[58]⟩, .string ⟨#[59]⟩, .string ⟨#[44]⟩, .string ⟨#[91]⟩, .string ⟨#[93]⟩, .string ⟨#[40]⟩, .string ⟨#[41]⟩, .string ⟨#[123]⟩, .string ⟨#[125]⟩]) (.int .i64 22)).run Tryz.prog W = .ok (.string ⟨#[41]⟩) W := by kernel_rfl
theorem ix23 (W : World) : (Instr.index 91 (.agg #[.string ⟨#[]⟩, .string ⟨#[]⟩, .string ⟨#[]⟩, .string ⟨#[]⟩, .string ⟨#[]⟩, .string ⟨#[]⟩, .string ⟨#[34, 10]⟩, .string ⟨#[]⟩, .string ⟨#[117, 114, 108, 40, 40, 41]⟩, .string ⟨#[]⟩, .string ⟨#[]⟩, .string ⟨#[]⟩, .string ⟨#[]⟩, .string ⟨#[32]⟩, .string ⟨#[60, 33, 45, 45]⟩, .string ⟨#[45, 45, 62]⟩, .string ⟨#[58]⟩, .string ⟨#[59]⟩, .string ⟨#[44]⟩, .string ⟨#[91]⟩, .string ⟨#[93]⟩, .string ⟨#[40]⟩, .string ⟨#[41]⟩, .string ⟨#[123]⟩, .string ⟨#[125]⟩]) (.int .i64 23)).run Tryz.prog W = .ok (.string ⟨#[123]⟩) W := by kernel_rfl
theorem ix24 (W : World) : (Instr.index 91 (.agg #[.string ⟨#[]⟩, .string ⟨#[]⟩, .string ⟨#[]⟩, .string ⟨#[]⟩, .string ⟨#[]⟩, .string ⟨#[]⟩, .string ⟨#[34, 10]⟩, .string ⟨#[]⟩, .string ⟨#[117, 114, 108, 40, 40, 41]⟩, .string ⟨#[]⟩, .string ⟨#[]⟩, .string ⟨#[]⟩, .string ⟨#[]⟩, .string ⟨#[32]⟩, .string ⟨#[60, 33, 45, 45]⟩, .string ⟨#[45, 45, 62]⟩, .string ⟨#[58]⟩, .string ⟨#[59]⟩, .string ⟨#[44]⟩, .string ⟨#[91]⟩, .string ⟨#[93]⟩, .string ⟨#[40]⟩, .string ⟨#[41]⟩, .string ⟨#[123]⟩, .string ⟨#[125]⟩]) (.int .i64 24)).run Tryz.prog W = .ok (.string ⟨#[125]⟩) W := by kernel_rfl
theorem fix_ways {k : Int} (hk : ¬ (k = 1 ∨ k = 2 ∨ k = 3 ∨ k = 4 ∨ k = 5 ∨ k = 7 ∨ k = 9 ∨ k = 10 ∨ k = 11 ∨ k = 12)) (h1 : 1 ≤ k) (h2 : k ≤ 24) : k = 6 ∨ k = 8 ∨ k = 13 ∨ k = 14 ∨ k = 15 ∨ k = 16 ∨ k = 17 ∨ k = 18 ∨ k = 19 ∨ k = 20 ∨ k = 21 ∨ k = 22 ∨ k = 23 ∨ k = 24 := by omega
set_option maxRecDepth 100000 in
set_option maxHeartbeats 4000000 in
theorem token4_fix (k : Int) (s : ByteArray) (w : World) (hs : s.size ≤ 1099511627776) (hT : Tabs w) (hk : ¬ (k = 1 ∨ k = 2 ∨ k = 3 ∨ k = 4 ∨ k = 5 ∨ k = 7 ∨ k = 9 ∨ k = 10 ∨ k = 11 ∨ k = 12)) (h1 : 1 ≤ k) (h2 : k ≤ 24) (hm : (⟨k, s, 0, 0, false, false⟩ : TS).may = true) :
    Calls Tryz.prog 26 #[.agg #[.int .i64 k, .string s, .int .i64 0, .int .i64 0, .bool false, .bool false]] w fun e w' => PostR ⟨k, s, 0, 0, false, false⟩ w e w' := by
  have TX := hide (Tok6.box w k s 0 0 false false 41)
  have B0 := hide (bplus (Below.refl w.heap.size w) (.cells #[.int .i64 k, .string s, .int .i64 0, .int .i64 0, .bool false, .bool false] 41))
  have CM := hide (mayR_any k s 0 0 false false (w.alloc (.cells #[.int .i64 k, .string s, .int .i64 0, .int .i64 0, .bool false, .bool false] 41)) hs (by omega) (by omega) (by omega) (by omega) (hT.below B0.out))
  have E := hide (show mayT k (bl s) 0 0 false false = true from hm)
  have FIN := hide (fun (u : ByteArray) (hu : bl u = bl (fx k)) => fin4 hm (hu.trans (wt_fixed hk).symm))
  have wy := fix_ways hk h1 h2
  clear hT hm hk h1 h2
  unfold tokV at CM
  have j6 := ix6
  have j8 := ix8
  have j13 := ix13
  have j14 := ix14
  have j15 := ix15
  have j16 := ix16
  have j17 := ix17
  have j18 := ix18
  have j19 := ix19
  have j20 := ix20
  have j21 := ix21
  have j22 := ix22
  have j23 := ix23
  have j24 := ix24
  rcases wy with rfl | rfl | rfl | rfl | rfl | rfl | rfl | rfl | rfl | rfl | rfl | rfl | rfl | rfl
  all_goals
    go_enter Tryz.func26, Tryz.ntmps26
    go_wp2_with (go_at_call 48; refine CM.out.mono ?_; rintro e w1 ⟨rfl, B1⟩; rw [E.out]; have T1 := hide (TX.out.below B1); obtain ⟨z1, q0, q1, q2, q3, q4, q5⟩ := T1.out; replace B1 := hide (show Below w.heap.size w w1 from bto B0.out B1))
    go_ret2
    exact ⟨_, 0, rfl, FIN.out _ rfl, B1.out⟩
/-- The reference's text of any token. -/
theorem token4_any (t : TS) (w : World) (ho : t.Ok) (hT : Tabs w) : Calls Tryz.prog 26 #[t.v] w fun e w' => PostR t w e w' := by
  cases hm : t.may with
  | false => exact token4_no t w ho hm hT
  | true =>
    obtain ⟨k, s, n, d, i, h⟩ := t
    obtain ⟨k1, k2, hs, n1, n2, d1, d2⟩ := ho
    have hm' : mayT k (bl s) n d i h = true := hm
    simp only at k1 k2 hs n1 n2 d1 d2
    unfold TS.v tokV
    by_cases e1 : k = 1 ∨ k = 2 ∨ k = 3
    · rw [may_name e1] at hm'
      simp only [Bool.and_eq_true] at hm'
      obtain ⟨⟨hz, hh⟩, hc, hn⟩ := hm'
      obtain ⟨rfl, rfl, rfl⟩ := zB_out hz
      obtain rfl : h = false := by simpa using hh
      rcases e1 with rfl | rfl | rfl
      · exact token4_1 s w hs hT hm
      · exact token4_2 s w hs hT hm
      · exact token4_3 s w hs hT hm
    by_cases e4 : k = 4
    · subst e4
      rw [may_hash] at hm'
      simp only [Bool.and_eq_true] at hm'
      obtain ⟨hz, ⟨hc, hn⟩, _⟩ := hm'
      obtain ⟨rfl, rfl, rfl⟩ := zB_out hz
      cases h with
      | true => exact token4_4t s w hs hT hm
      | false => exact token4_4f s w hs hT hm
    by_cases e5 : k = 5 ∨ k = 7
    · rw [may_text e5] at hm'
      simp only [Bool.and_eq_true] at hm'
      obtain ⟨⟨hz, hh⟩, hc⟩ := hm'
      obtain ⟨rfl, rfl, rfl⟩ := zB_out hz
      obtain rfl : h = false := by simpa using hh
      rcases e5 with rfl | rfl
      · exact token4_5 s w hs hT hm
      · exact token4_7 s w hs hT hm
    by_cases e9 : k = 9
    · subst e9
      rw [may_delim] at hm'
      simp only [Bool.and_eq_true] at hm'
      obtain ⟨⟨hz, hh⟩, _⟩ := hm'
      obtain ⟨rfl, rfl, rfl⟩ := zB_out hz
      obtain rfl : h = false := by simpa using hh
      exact token4_9 s w hs hT hm
    by_cases e10 : k = 10 ∨ k = 11
    · rw [may_num e10] at hm'
      simp only [Bool.and_eq_true] at hm'
      obtain ⟨⟨_, hh⟩, hp⟩ := hm'
      obtain rfl : h = false := by simpa using hh
      rcases e10 with rfl | rfl
      · exact token4_10 s n d i n1 n2 d1 d2 w hs hT hm
      · exact token4_11 s n d i n1 n2 d1 d2 w hs hT hm
    by_cases e12 : k = 12
    · subst e12
      rw [may_dim] at hm'
      simp only [Bool.and_eq_true] at hm'
      obtain ⟨_, hh, _⟩ := hm'
      obtain rfl : h = false := by simpa using hh
      exact token4_12 s n d i n1 n2 d1 d2 w hs hT hm
    · have hk : ¬ (k = 1 ∨ k = 2 ∨ k = 3 ∨ k = 4 ∨ k = 5 ∨ k = 7 ∨ k = 9 ∨ k = 10 ∨ k = 11 ∨ k = 12) := by omega
      rw [may_rest hk] at hm'
      simp only [Bool.and_eq_true, decide_eq_true_eq] at hm'
      obtain ⟨⟨r1, r2⟩, _, hz, hh⟩ := hm'
      obtain ⟨rfl, rfl, rfl⟩ := zB_out hz
      obtain rfl : h = false := by simpa using hh
      exact token4_fix k s w hs hT hk r1 r2 hm
/-! ### The law of one token -/
end Go.Proofs.YtbdacepomdlcbaaGreatDoor
set_option linter.unusedVariables false
set_option linter.unusedSimpArgs false
namespace Go.Proofs.YtbdacepomdlcbaaGreatDoor
open Go.RowKit Go.Shelf

theorem info8t : (Tryz.prog.info? 5).map (fun i => (i.zero, i.size, i.bytes)) = some (some (.int .u8 0), 1, 1) := by kernel_rfl
/-- 'append(own, s...)', s a text. -/
theorem wpList_append_str {W wr : World} {ops : Array Oper} {rest : List Oper} {o : Oper} {a : Act} {Q : Exit → Act → World → Prop} (hgd : o.guard = none) (sl x : Operand)
    (ho : o.op = .call { callee := .builtin .append, args := #[sl, x], argTypes := #[47, 9] })
    (v : Value) (xs : List Int) (hs : a.eval sl = v) (hown : Own W .u8 5 wr v xs) (s : ByteArray) (hx : a.eval x = .string s)
    (hb : xs.length + s.size ≤ 140737488355328)
    (h : ∀ v' w', Own W .u8 5 w' v' (xs ++ bl s) → wpList Tryz.prog ops Q rest (a.put o.dst v') w') : wpList Tryz.prog ops Q (o :: rest) a wr := by
  obtain ⟨i0, hi, hz0, hz1, hz2⟩ := info_parts info8t
  refine Lib.wpList_append_own_string (P := Tryz.prog) (w := wr) hgd sl x 47 9 ho W.heap.size 5 i0 Tryz.underlying47 Tryz.underlying9 hi hz0 hz1 hz2 v xs.length (xs.map (Value.int .u8)) hs hown.1 s hx (by unfold maxLen; omega) hb hown.2.size ?_
  intro v' w' h1 h2 _
  refine h v' w' ?_
  have e : Lib.strCells s = (bl s).map (Value.int .u8) := strCells_bl s
  rw [e, ← bl_len] at h1
  exact hown.grow' (ys := bl s) h1 h2
theorem Own.on {W wr w1 : World} {k : IntKind} {e : TypeId} {v : Value} {xs : List Int} (h : Own W k e wr v xs) (hb : Below wr.heap.size wr w1) : Own W k e w1 v xs :=
  ⟨h.1.kept (row := none) ⟨hb.os, hb.tape, hb.output, hb.size, fun k hk _ => hb.block k hk⟩ (by cases v.ownBlock <;> simp), h.2.trans (hb.mono h.2.size)⟩
theorem conv_nil (w : World) : (convert 47 9 (.slice none 0 0)).run Tryz.prog w = .ok (.string ⟨#[]⟩) w := by kernel_rfl
theorem Own.conv {W wr : World} {v : Value} {xs : List Int} (h : Own W .u8 5 wr v xs) (hl : xs.length ≤ 4611686018427387904) (hb : By xs) : ∃ s, bl s = xs ∧ (convert 47 9 v).run Tryz.prog wr = .ok (.string s) wr := by
  by_cases h0 : 0 < xs.length
  · exact nums_back (h.nums hl) h0 hb
  · obtain rfl : xs = [] := List.eq_nil_of_length_eq_zero (by omega)
    rcases h.1.2 with ⟨rfl, _⟩ | ⟨g, cap, cur, rfl, _⟩
    · exact ⟨_, rfl, conv_nil wr⟩
    · exact ⟨⟨#[]⟩, rfl, run_convert_bytes_back (P := Tryz.prog) wr 47 9 5 ⟨g, 0, none⟩ cap [] Tryz.underlying47 Tryz.underlying5 Tryz.underlying9 (fun j hj => by cases hj)⟩
def RelTr (ts : List TS) (w : World) (i o : Value) (wr : World) : Prop := ∃ k : Nat, i = .int .i64 k ∧ k ≤ ts.length ∧ Hid (Own w .u8 5 wr o (spK wtA ts k) ∧ ∀ j t, j < k → ts[j]? = some t → t.may = true)
theorem RelTr.mk {ts : List TS} {w : World} {i o : Value} {wr : World} (k : Nat) (h1 : i = .int .i64 k) (h2 : k ≤ ts.length) (h3 : Own w .u8 5 wr o (spK wtA ts k) ∧ ∀ j t, j < k → ts[j]? = some t → t.may = true) : RelTr ts w i o wr := ⟨k, h1, h2, h3⟩
theorem sp2_yes {t : TS} (hm : t.may = true) {u : ByteArray} {c : Int} (h : Sp2 wtA [t] u c) : c = 0 ∧ bl u = wtA t := by
  rcases h with ⟨_, h2, h3⟩ | ⟨⟨x, hx, h1⟩, _, _⟩
  · exact ⟨h2, h3.trans (spK_one wtA t)⟩
  · rw [List.mem_singleton.1 hx, hm] at h1; cases h1
theorem sp2_not {t : TS} (hm : t.may = false) {u : ByteArray} {c : Int} (h : Sp2 wtA [t] u c) : c = 1 ∧ u = ⟨#[]⟩ := by
  rcases h with ⟨h1, _, _⟩ | ⟨_, h2, h3⟩
  · rw [h1 t (by simp)] at hm; cases hm
  · exact ⟨h2, h3⟩
set_option maxRecDepth 100000 in
set_option maxHeartbeats 4000000 in
theorem tokens4_any (ts : List TS) (v : Value) (w : World) (hv : Toks4 w v ts) (hok : ∀ t ∈ ts, t.Ok) (hl9 : (spK wtA ts ts.length).length ≤ 35184372088000) (hT : Tabs w) :
    Calls Tryz.prog 21 #[v] w fun e w' => PostSp wtA ts w e w' := by
  rcases hv with ⟨a, c, rfl, rfl⟩ | ⟨b, o, n, c, rfl, hn, h0, hbw, hl, hn9, hc9, hcell⟩
  · have cn := conv_nil
    go_enter Tryz.func21, Tryz.ntmps21
    go_wp2
    refine wp_loop_rounds 1 ?_
    rw [rounds_succ]
    go_wp2
    go_ret2
    exact ⟨Below.refl _ _, .inl ⟨fun t ht => (by cases ht), ⟨#[]⟩, rfl, rfl⟩⟩
  · have HN := hide hn
    have HC := hide hcell
    have HOK := hide hok
    have HL := hide hl9
    have TT := hide (fun (W : World) (h : Below w.heap.size w W) => hT.below h)
    clear hn hcell hok hl9 hT
    go_enter Tryz.func21, Tryz.ntmps21
    go_wp2
    go_loopw [11, 4] (fun i x wr => RelTr ts w i x wr) (fun i x wr => n - (intOf i).toNat)
    case atStart => exact .mk 0 rfl (Nat.zero_le _) ⟨Own.nil w .u8 5, fun j t hj => absurd hj (Nat.not_lt_zero _)⟩
    case round =>
      obtain ⟨k, rfl, k1, R⟩ := id hrel
      clear hrel
      rw [← HN.out] at k1
      by_cases hk : k < n
      · obtain ⟨t, ht⟩ : ∃ t, ts[k]? = some t := ⟨_, List.getElem?_eq_getElem (by rw [← HN.out]; exact hk)⟩
        have O1 := hide R.out.1
        have S1 := (HC.out k t ht).below O1.out.2 hbw
        have hmem : t ∈ ts := List.mem_of_getElem? ht
        have OK := hide (HOK.out t hmem)
        obtain ⟨p0, p1, p2, p3, p4, p5⟩ := id S1
        have hk' : (k : Int) < n := by omega
        have H2 := hide (heap_alloc_new wr (boxT t))
        have OW := hide (O1.out.on (bplus (Below.refl wr.heap.size wr) (boxT t)))
        have CM := hide (token4_any t (wr.alloc (boxT t)) OK.out (TT.out _ OW.out.2))
        unfold TS.v tokV at CM
        unfold boxT at CM
        cases hm : t.may with
        | false =>
          have NO := hide (fun u c (h : Sp2 wtA [t] u c) => sp2_not hm h)
          have FIN := hide (show ∃ t ∈ ts, t.may = false from ⟨t, hmem, hm⟩)
          clear hm hmem ht S1 R
          go_wp2_with (go_at_call 26; refine CM.out.mono ?_; rintro e w1 ⟨u, c, rfl, H1, B1⟩; obtain ⟨rfl, rfl⟩ := NO.out u c H1.out; replace B1 := hide (OW.out.on B1).2)
          go_ret2
          exact ⟨B1.out, .inr ⟨FIN.out, rfl⟩⟩
        | true =>
          have YES := hide (fun u c (h : Sp2 wtA [t] u c) => sp2_yes hm h)
          have LU := hide (fun (u : ByteArray) (hu : bl u = wtA t) => show u.size ≤ 6 * t.s.size + 200 by rw [← bl_len, hu]; exact wtA_len t OK.out)
          have LS := hide OK.out.hs
          have MAY := hide (show ∀ j t, j < k + 1 → ts[j]? = some t → t.may = true from fun j t' hj h' => by
            by_cases hjk : j < k
            · exact R.out.2 j t' hjk h'
            · obtain rfl : j = k := by omega
              rw [ht] at h'; cases h'; exact hm)
          have LK := hide (show (spK wtA ts k).length ≤ 35184372088000 from Nat.le_trans (spK_le wtA ts (by rw [← HN.out]; exact k1)) HL.out)
          have HT9 := hide ht
          clear hm hmem ht S1
          have FIN := hide (show ∀ x W xs, spK wtA ts (k + 1) = xs → Own w .u8 5 W x xs → RelTr ts w (.int .i64 ((k + 1 : Nat) : Int)) x W from fun x W xs hx hP => .mk (k + 1) rfl (by rw [← HN.out]; omega) ⟨by rw [hx]; exact hP, MAY.out⟩)
          by_cases hz : k = 0
          · have ST := hide (show spK wtA ts (k + 1) = spK wtA ts k ++ wtA t by subst hz; exact spK_zero (wt := wtA) HT9.out)
            have hkz : decide (0 < k) = false := by simp; exact hz
            clear hz R
            go_wp2_with (go_at_call 26; refine CM.out.mono ?_; rintro e w1 ⟨u, c, rfl, H1, B1⟩; obtain ⟨rfl, hu⟩ := YES.out u c H1.out; have hz := LU.out u hu; replace hu := hide hu; replace H2 := hide ((B1.block wr.heap.size (by simp)).trans H2.out); replace OW := hide (OW.out.on B1); clear B1 H1)
            obtain ⟨q9, q0, q1, q2, q3, q4, q5⟩ := tok_box H2.out
            go_quiet (fail)
            replace OW := hide (OW.out.on (below_drewN (Below.refl _ _) nq))
            go_wp2_with (at_builtin; refine wpList_append_str rfl (.tmp 37) (.tmp 38) rfl _ _ rfl OW.out u rfl (by have := LK.out; have := LS.out; omega) ?_; intro v4 w4 O4; rw [hu.out] at O4; replace O4 := hide O4)
            go_roundw
            case rel => exact FIN.out _ _ _ ST.out O4.out
            case measure => simp [intOf]; omega
          · obtain ⟨j, hj⟩ : ∃ j, k = j + 1 := ⟨k - 1, by omega⟩
            obtain ⟨p, hp⟩ : ∃ p, ts[j]? = some p := ⟨_, List.getElem?_eq_getElem (by rw [← HN.out]; omega)⟩
            have SP := hide (HC.out j p hp)
            have SAP := hide (fun (ha : apB p.k t.k = true) => show spK wtA ts (k + 1) = (spK wtA ts k ++ [47, 42, 42, 47]) ++ wtA t by subst hj; exact spK_apart HT9.out hp ha)
            have SCL := hide (fun (ha : apB p.k t.k = false) => show spK wtA ts (k + 1) = spK wtA ts k ++ wtA t by subst hj; exact spK_close HT9.out hp ha)
            have hkz : (0 : Int) < k := by omega
            have hkd : decide (0 < k) = true := by simp; omega
            have hkn : 0 < k := by omega
            have hki : IntKind.i64.wrap ((k : Int) - 1) = (j : Int) := by rw [show (k : Int) - 1 = j by omega]; simp [IntKind.wrap, go_sem]; omega
            have hj0 : (0 : Int) ≤ j := by omega
            have hjn : (j : Int) < n := by omega
            have hj9 : j < n := by omega
            clear hz hj hp R
            go_wp2_with (go_at_call 26; refine CM.out.mono ?_; rintro e w1 ⟨u, c, rfl, H1, B1⟩; obtain ⟨rfl, hu⟩ := YES.out u c H1.out; have hz := LU.out u hu; replace hu := hide hu; replace H2 := hide ((B1.block wr.heap.size (by simp)).trans H2.out); replace OW := hide (OW.out.on B1); clear B1 H1)
            have SP1 := hide (SP.out.below OW.out.2 hbw)
            have CA := hide (fun (W : World) => apartR_any p.k p.s p.n p.d p.i p.h t.k t.s t.n t.d t.i t.h W)
            have hb1 : b < w1.heap.size := Nat.lt_of_lt_of_le hbw OW.out.2.size
            unfold tokV at CA
            have GR := hide (fun (W : World) (hb : Below w1.heap.size w1 W) => OW.out.on hb)
            cases ha : apB p.k t.k with
            | true =>
              have HA := hide ha
              have ST := hide (SAP.out ha)
              have SE := hide (show bl ⟨#[47, 42, 42, 47]⟩ = [47, 42, 42, 47] from rfl)
              clear ha SAP SCL
              go_region_held3 (fun w' => w'.cell? ⟨b, o + j * 6, none⟩ = some (.int .i64 p.k) ∧ w'.cell? ⟨b, o + j * 6 + 1, none⟩ = some (.string p.s) ∧ w'.cell? ⟨b, o + j * 6 + 2, none⟩ = some (.int .i64 p.n) ∧ w'.cell? ⟨b, o + j * 6 + 3, none⟩ = some (.int .i64 p.d) ∧ w'.cell? ⟨b, o + j * 6 + 4, none⟩ = some (.bool p.i) ∧ w'.cell? ⟨b, o + j * 6 + 5, none⟩ = some (.bool p.h) ∧ w'.cell? ⟨wr.heap.size, 0, none⟩ = some (.int .i64 t.k) ∧ w'.cell? ⟨wr.heap.size, 1, none⟩ = some (.string t.s) ∧ w'.cell? ⟨wr.heap.size, 2, none⟩ = some (.int .i64 t.n) ∧ w'.cell? ⟨wr.heap.size, 3, none⟩ = some (.int .i64 t.d) ∧ w'.cell? ⟨wr.heap.size, 4, none⟩ = some (.bool t.i) ∧ w'.cell? ⟨wr.heap.size, 5, none⟩ = some (.bool t.h))
                (exact keep12t (by repeat (first | exact Below.refl _ _ | (with_reducible refine Below.drew ?_) | (with_reducible refine below_drewN ?_ _) | (refine bto ?_ (by assumption)))) H2.out SP1.out hb1)
                ((go_at_call 43; refine (CA.out _).mono ?_; rintro _ wl ⟨rfl, hl9⟩; rw [HA.out]))
              go_wp2_with (first
                | (at_builtin; refine wpList_append_str rfl (.tmp 35) (.const (.string ⟨#[47, 42, 42, 47]⟩)) rfl _ _ rfl (GR.out _ (by repeat (first | exact Below.refl _ _ | (with_reducible refine Below.drew ?_) | (with_reducible refine below_drewN ?_ _) | (refine bto ?_ (by assumption))))) ⟨#[47, 42, 42, 47]⟩ rfl (by have := LK.out; show _ + 4 ≤ _; omega) ?_; intro v3 w3 O3; rw [SE.out] at O3; replace O3 := hide O3)
                | (at_builtin; refine wpList_append_str rfl (.tmp 37) (.tmp 38) rfl _ _ rfl O3.out u rfl (by have := LK.out; have := LS.out; rw [List.length_append]; show _ + 4 + _ ≤ _; omega) ?_; intro v4 w4 O4; rw [hu.out] at O4; replace O4 := hide O4))
              go_roundw
              case rel => exact FIN.out _ _ _ ST.out O4.out
              case measure => simp [intOf]; omega
            | false =>
              have HA := hide ha
              have ST := hide (SCL.out ha)
              clear ha SAP SCL
              go_region_held3 (fun w' => w'.cell? ⟨b, o + j * 6, none⟩ = some (.int .i64 p.k) ∧ w'.cell? ⟨b, o + j * 6 + 1, none⟩ = some (.string p.s) ∧ w'.cell? ⟨b, o + j * 6 + 2, none⟩ = some (.int .i64 p.n) ∧ w'.cell? ⟨b, o + j * 6 + 3, none⟩ = some (.int .i64 p.d) ∧ w'.cell? ⟨b, o + j * 6 + 4, none⟩ = some (.bool p.i) ∧ w'.cell? ⟨b, o + j * 6 + 5, none⟩ = some (.bool p.h) ∧ w'.cell? ⟨wr.heap.size, 0, none⟩ = some (.int .i64 t.k) ∧ w'.cell? ⟨wr.heap.size, 1, none⟩ = some (.string t.s) ∧ w'.cell? ⟨wr.heap.size, 2, none⟩ = some (.int .i64 t.n) ∧ w'.cell? ⟨wr.heap.size, 3, none⟩ = some (.int .i64 t.d) ∧ w'.cell? ⟨wr.heap.size, 4, none⟩ = some (.bool t.i) ∧ w'.cell? ⟨wr.heap.size, 5, none⟩ = some (.bool t.h))
                (exact keep12t (by repeat (first | exact Below.refl _ _ | (with_reducible refine Below.drew ?_) | (with_reducible refine below_drewN ?_ _) | (refine bto ?_ (by assumption)))) H2.out SP1.out hb1)
                ((go_at_call 43; refine (CA.out _).mono ?_; rintro _ wl ⟨rfl, hl9⟩; rw [HA.out]))
              go_wp2_with (at_builtin; refine wpList_append_str rfl (.tmp 37) (.tmp 38) rfl _ _ rfl (GR.out _ (by repeat (first | exact Below.refl _ _ | (with_reducible refine Below.drew ?_) | (with_reducible refine below_drewN ?_ _) | (refine bto ?_ (by assumption))))) u rfl (by have := LK.out; have := LS.out; omega) ?_; intro v4 w4 O4; rw [hu.out] at O4; replace O4 := hide O4)
              go_roundw
              case rel => exact FIN.out _ _ _ ST.out O4.out
              case measure => simp [intOf]; omega
      · have hk' : ¬ (k : Int) < n := by omega
        have hkn : k = ts.length := by rw [← HN.out]; omega
        have AL := hide (show ∀ t ∈ ts, t.may = true from fun t ht => by
          obtain ⟨j, hj, rfl⟩ := List.mem_iff_getElem.1 ht
          exact R.out.2 j _ (by omega) (List.getElem?_eq_getElem hj))
        have O1 := hide R.out.1
        rw [hkn] at O1
        obtain ⟨u, hu, hcv⟩ := O1.out.conv (by have := HL.out; omega) (spA_by ts ts.length)
        replace hu := hide hu
        clear hkn
        go_wp2
        go_ret2
        exact ⟨O1.out.2, .inl ⟨AL.out, u, rfl, hu.out⟩⟩
/-! ### The law of tokens -/
theorem Toks4.below {w W : World} {v : Value} {ts : List TS} (h : Toks4 w v ts) (hb : Below w.heap.size w W) : Toks4 W v ts := by
  rcases h with h | ⟨b, o, n, c, rfl, hn, h0, hbw, hl, hn9, hc9, hcell⟩
  · exact .inl h
  · exact .inr ⟨b, o, n, c, rfl, hn, h0, Nat.lt_of_lt_of_le hbw hb.size, hl, hn9, hc9, fun i t hi => (hcell i t hi).below hb hbw⟩
end Go.Proofs.YtbdacepomdlcbaaGreatDoor
