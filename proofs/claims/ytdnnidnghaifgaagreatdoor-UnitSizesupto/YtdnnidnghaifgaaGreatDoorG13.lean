/-
  The names of units.
  The law of units: how great they are, what they are called.
-/
import Derived.Test.YtdnnidnghaifgaaGreatDoorG06
import Derived.Test.YtdnnidnghaifgaaGreatDoorG07
import Derived.Laws.Bits128
import Derived.Test.YtdnnidnghaifgaaGreatDoorG10
set_option linter.unusedVariables false
set_option linter.unusedSimpArgs false
namespace Go.Proofs.YtdnnidnghaifgaaGreatDoor.nm
open Go.RowKit cc

theorem and_one64 (n : Int) : bits .and .i64 n 1 = n % 2 := by
  have h1 : (BitVec.ofInt 64 1).toNat = 2 ^ 1 - 1 := by decide
  have key : (BitVec.ofInt 64 n &&& BitVec.ofInt 64 1).toNat = (n % ((2 ^ 64 : Nat) : Int)).toNat % 2 ^ 1 := by
    rw [BitVec.toNat_and, BitVec.toNat_ofInt, h1, Nat.and_two_pow_sub_one_eq_mod]
  show IntKind.i64.wrap ((BitVec.ofInt 64 n &&& BitVec.ofInt 64 1).toNat : Nat) = n % 2
  rw [key, IntKind.wrap_i64]
  omega
theorem nat_and_pow (N k : Nat) : N &&& 2 ^ k = (N.testBit k).toNat * 2 ^ k := by
  refine Nat.eq_of_testBit_eq fun i => ?_
  rw [Nat.testBit_and, Nat.testBit_two_pow]
  cases h : N.testBit k with
  | false =>
    by_cases e : k = i
    · subst e; simp [h]
    · simp [e]
  | true =>
    by_cases e : k = i
    · subst e; simp [h, Nat.testBit_two_pow]
    · simp [e, Nat.testBit_two_pow]
theorem and_pow64 (n p : Int) (k : Nat) (hk : k < 8) (hp : p = 2 ^ k) : bits .and .i64 n p = if n / p % 2 = 1 then p else 0 := by
  have key : ∀ q : Nat, (BitVec.ofInt 64 p).toNat = 2 ^ k → (BitVec.ofInt 64 n &&& BitVec.ofInt 64 p).toNat = ((n % ((2 ^ 64 : Nat) : Int)).toNat.testBit k).toNat * 2 ^ k := by
    intro _ h
    rw [BitVec.toNat_and, BitVec.toNat_ofInt, h, nat_and_pow]
  show IntKind.i64.wrap ((BitVec.ofInt 64 n &&& BitVec.ofInt 64 p).toNat : Nat) = _
  rcases (show k = 0 ∨ k = 1 ∨ k = 2 ∨ k = 3 ∨ k = 4 ∨ k = 5 ∨ k = 6 ∨ k = 7 by omega) with rfl | rfl | rfl | rfl | rfl | rfl | rfl | rfl
  all_goals
    subst hp
    rw [key 0 (by decide), IntKind.wrap_i64, Nat.testBit_eq_decide_div_mod_eq]
    split
    · rename_i h
      rw [decide_eq_true (by omega)]
      simp
    · rename_i h
      rw [decide_eq_false (by omega)]
      simp
/-- Is the unit's bit in the mask? -/
def mB (mask : Int) (u : Nat) : Bool := decide (mask / 2 ^ u % 2 = 1)
def unNm (k : Nat) : ByteArray := ([⟨#[]⟩, ⟨#[112, 120]⟩, ⟨#[101, 109]⟩, ⟨#[114, 101, 109]⟩, ⟨#[118, 119]⟩, ⟨#[118, 104]⟩, ⟨#[99, 113, 119]⟩, ⟨#[99, 113, 104]⟩] : List ByteArray).getD k ⟨#[]⟩
/-- The names of the first j units that are in the mask. -/
def nmJ (mask : Int) : Nat → List Value
  | 0 => []
  | j + 1 => nmJ mask j ++ (if mB mask (j + 1) = true then [.string (unNm (j + 1))] else [])
theorem nmJ_len (mask : Int) : ∀ j, (nmJ mask j).length ≤ j := by
  intro j
  induction j with
  | zero => exact Nat.le_refl _
  | succ j ih =>
    rw [nmJ, List.length_append]
    split <;> simp <;> omega
theorem nmJ_pre (mask : Int) (j : Nat) : ∀ d, ∃ r, nmJ mask (j + d) = nmJ mask j ++ r := by
  intro d
  induction d with
  | zero => exact ⟨[], by simp⟩
  | succ d ih =>
    obtain ⟨r, hr⟩ := ih
    exact ⟨r ++ (if mB mask (j + d + 1) = true then [.string (unNm (j + d + 1))] else []), by rw [show j + (d + 1) = j + d + 1 from rfl, nmJ, hr, List.append_assoc]⟩
theorem nmJ_at {mask : Int} {j : Nat} (hj : j < 7) (hb : mB mask (j + 1) = true) : (nmJ mask 7)[(nmJ mask j).length]? = some (.string (unNm (j + 1))) := by
  obtain ⟨r, hr⟩ := nmJ_pre mask (j + 1) (6 - j)
  rw [show j + 1 + (6 - j) = 7 by omega] at hr
  rw [hr, nmJ, if_pos hb, List.append_assoc, List.getElem?_append_right (Nat.le_refl _), Nat.sub_self]
  rfl
def tabV : List Value := [.string ⟨#[]⟩, .string ⟨#[112, 120]⟩, .string ⟨#[101, 109]⟩, .string ⟨#[114, 101, 109]⟩, .string ⟨#[118, 119]⟩, .string ⟨#[118, 104]⟩, .string ⟨#[99, 113, 119]⟩, .string ⟨#[99, 113, 104]⟩]
theorem ixN {k : Nat} (h : k < 8) (W : World) : (Instr.index 68 (.agg #[.string ⟨#[]⟩, .string ⟨#[112, 120]⟩, .string ⟨#[101, 109]⟩, .string ⟨#[114, 101, 109]⟩, .string ⟨#[118, 119]⟩, .string ⟨#[118, 104]⟩, .string ⟨#[99, 113, 119]⟩, .string ⟨#[99, 113, 104]⟩]) (.int .i64 k)).run Tryz.prog W = .ok (.string (unNm k)) W := by
  rcases (show k = 0 ∨ k = 1 ∨ k = 2 ∨ k = 3 ∨ k = 4 ∨ k = 5 ∨ k = 6 ∨ k = 7 by omega) with rfl | rfl | rfl | rfl | rfl | rfl | rfl | rfl <;> kernel_rfl
theorem nameR_any (k : Nat) (hk : k < 8) (w : World) : Calls Tryz.prog 14 #[.int .i64 k] w fun e w' => e = .returned (.string (unNm k)) ∧ Below w.heap.size w w' := by
  have ix := fun W => ixN hk W
  go_enter Tryz.func14, Tryz.ntmps14
  go_wp2
  go_ret
  exact ⟨rfl, Below.refl _ _⟩
theorem namesT_any (w : World) : Calls Tryz.prog 40 #[] w fun e w' => e = .returned (.agg #[.string ⟨#[]⟩, .string ⟨#[112, 120]⟩, .string ⟨#[101, 109]⟩, .string ⟨#[114, 101, 109]⟩, .string ⟨#[118, 119]⟩, .string ⟨#[118, 104]⟩, .string ⟨#[99, 113, 119]⟩, .string ⟨#[99, 113, 104]⟩]) ∧ Below w.heap.size w w' := by
  go_enter Tryz.func40, Tryz.ntmps40
  go_wp2
  exact bodyPost_ret (v := .agg #[.string ⟨#[]⟩, .string ⟨#[112, 120]⟩, .string ⟨#[101, 109]⟩, .string ⟨#[114, 101, 109]⟩, .string ⟨#[118, 119]⟩, .string ⟨#[118, 104]⟩, .string ⟨#[99, 113, 119]⟩, .string ⟨#[99, 113, 104]⟩]) (by simp [results, Tryz.results40, go_sem]) rfl ⟨rfl, by repeat (first | exact Below.refl _ _ | (refine bplus ?_ _) | (refine Below.setCell ?_ (by first | (simp; done) | (simp; omega)) _))⟩
theorem infoStr : (Tryz.prog.info? 9).map (fun i => (i.zero, i.size, i.bytes)) = some (some (.string ⟨#[]⟩), 1, 16) := by kernel_rfl
def RelNm (w : World) (tb : Nat) (mask : Int) (lv i : Value) (wr : World) : Prop := ∃ (j : Nat) (l : Value), l = lv ∧ i = .int .i64 (j + 1 : Nat) ∧ j ≤ 7 ∧ Hid (wr.ownsRow (tb + 1) 9 1 lv (nmJ mask j).length (nmJ mask j) ∧ Bk wr tb 68 tabV ∧ Below w.heap.size w wr)
theorem RelNm.mk {w : World} {tb : Nat} {mask : Int} {lv i : Value} {wr : World} (j : Nat) (h1 : i = .int .i64 (j + 1 : Nat)) (h2 : j ≤ 7) (h3 : wr.ownsRow (tb + 1) 9 1 lv (nmJ mask j).length (nmJ mask j)) (h4 : Bk wr tb 68 tabV) (h5 : Below w.heap.size w wr) : RelNm w tb mask lv i wr := ⟨j, lv, rfl, h1, h2, h3, h4, h5⟩
theorem news1s (w : World) (u : Value) (t : TypeId) : ∀ j x, [u][j]? = some x → (w.alloc (.cells #[u] t)).cell? ((⟨w.heap.size, 0, none⟩ : Addr).add j) = some x := fun j x hx => by
  match j, hx with
  | 0, hx => simp at hx; subst hx; simp [Addr.add]
set_option maxRecDepth 100000 in
set_option maxHeartbeats 16000000 in
theorem names_any (mask : Int) (w : World) : Calls Tryz.prog 13 #[.int .i64 mask] w fun e w' => ∃ v b, e = .returned v ∧ w'.ownsRow b 9 1 v (nmJ mask 7).length (nmJ mask 7) ∧ Below w.heap.size w w' := by
  have CT := hide (fun (W : World) => namesT_any W)
  go_enter Tryz.func13, Tryz.ntmps13
  go_upto_region 3 with (go_at_call 40; refine (CT.out _).mono ?_; rintro e wz ⟨rfl, BZ⟩; replace BZ := hide BZ; clear CT)
  obtain ⟨W2, hW2⟩ : ∃ W2, wz.alloc (.cells #[.string ⟨#[]⟩, .string ⟨#[112, 120]⟩, .string ⟨#[101, 109]⟩, .string ⟨#[114, 101, 109]⟩, .string ⟨#[118, 119]⟩, .string ⟨#[118, 104]⟩, .string ⟨#[99, 113, 119]⟩, .string ⟨#[99, 113, 104]⟩] 68) = W2 := ⟨_, rfl⟩
  have B2 := hide (show Below w.heap.size w W2 by rw [← hW2]; exact bplus BZ.out _)
  have hz : w.heap.size ≤ wz.heap.size := BZ.out.size
  have NB := hide (show Bk W2 wz.heap.size 68 tabV by rw [← hW2]; exact Bk.new wz _ tabV)
  have K3 := hide (show W2.ownsRow (wz.heap.size + 1) 9 1 (.slice none 0 0) (nmJ mask 0).length (nmJ mask 0) from World.ownsRow_nil _ _ _ _)
  rw [hW2]
  clear hW2 BZ
  generalize wz.heap.size = tb at *
  go_wp2_with fail
  go_loopw [3, 5] (fun lv i wr => RelNm w tb mask lv i wr) (fun _ i _ => 8 - (intOf i).toNat)
  case atStart => exact .mk 0 rfl (by omega) K3.out NB.out B2.out
  case round =>
    obtain ⟨j, lv, rfl, rfl, hj, R⟩ := hrel
    have Q0 := hide R.out.1
    have Q1 := hide R.out.2.1
    have BW := hide R.out.2.2
    clear R K3 NB B2
    by_cases hlt : j < 7
    · obtain ⟨i0, hj0, hy0, hy1, hy2⟩ := info_parts infoStr
      have LE := nmJ_len mask j
      have hbt : tb + 1 ≤ wr.heap.size := Bk.lt Q1.out
      have EQ := hide (show nmJ mask (j + 1) = nmJ mask j ++ (if mB mask (j + 1) = true then [.string (unNm (j + 1))] else []) from rfl)
      obtain ⟨nj, hnj⟩ : ∃ q, nmJ mask j = q := ⟨_, rfl⟩
      rw [hnj] at Q0 LE EQ
      obtain ⟨nq, hnq⟩ : ∃ q, nj.length = q := ⟨_, rfl⟩
      have HNQ := hide hnq
      rw [hnq] at Q0 LE
      clear hnj hnq
      rcases (show j = 0 ∨ j = 1 ∨ j = 2 ∨ j = 3 ∨ j = 4 ∨ j = 5 ∨ j = 6 by omega) with rfl | rfl | rfl | rfl | rfl | rfl | rfl
      · have P := and_pow64 mask 2 1 (by decide) (by decide)
        have cu := Bk.cell Q1.out 1
        simp [tabV] at cu
        by_cases hb : mask / 2 % 2 = 1
        · rw [if_pos hb] at P
          replace EQ := hide (show nmJ mask 1 = nj ++ [.string (unNm 1)] by rw [EQ.out, if_pos (show mB mask 1 = true from decide_eq_true hb)])
          clear hb
          go_wp2_with (at_builtin; refine wpList_append_own _ rfl _ _ 27 rfl (tb + 1) 9 i0 _ 1 16 Tryz.underlying27 hj0 hy0 hy1 hy2 rfl (by decide) _ _ _ rfl (Q0.out.alloc _) ⟨_, 0, none⟩ 1 1 [.string (unNm 1)] rfl rfl (news1s _ _ _) (by intro u hu; simp at hu; subst hu; rfl) (by unfold maxLen; omega) (by omega) (by simp; omega) ?_; intro v' w1 hown' hgrow _; have HN2 := hide (show w1.ownsRow (tb + 1) 9 1 v' (nmJ mask 1).length (nmJ mask 1) by rw [EQ.out, List.length_append, HNQ.out]; exact hown'); have NB := hide (show Bk w1 tb 68 tabV from Bk.low Q1.out (show Below (tb + 1) wr w1 from (Below.alloc (Below.refl _ _) hbt _).grown hgrow (by simp; omega) (fun k hk => (Q0.out.lt k hk).1)) (by omega)); have BN := hide (show Below w.heap.size w w1 from (bplus BW.out _).grown hgrow (bplus BW.out _).size (fun k hk => Nat.le_trans (Nat.le_succ_of_le hz) (Q0.out.lt k hk).1)); clear hown' hgrow)
          go_roundw
          case rel => exact .mk 1 (by go_num) (by omega) HN2.out NB.out BN.out
          case measure => simp [intOf]
        · rw [if_neg hb] at P
          replace EQ := hide (show nmJ mask 1 = nj by rw [EQ.out, if_neg (show ¬ mB mask 1 = true from fun h => hb (of_decide_eq_true h)), List.append_nil])
          clear hb
          go_wp2
          go_roundw
          case rel => exact .mk 1 (by go_num) (by omega) (by rw [EQ.out, HNQ.out]; exact Q0.out) Q1.out BW.out
          case measure => simp [intOf]
      · have P := and_pow64 mask 4 2 (by decide) (by decide)
        have cu := Bk.cell Q1.out 2
        simp [tabV] at cu
        by_cases hb : mask / 4 % 2 = 1
        · rw [if_pos hb] at P
          replace EQ := hide (show nmJ mask 2 = nj ++ [.string (unNm 2)] by rw [EQ.out, if_pos (show mB mask 2 = true from decide_eq_true hb)])
          clear hb
          go_wp2_with (at_builtin; refine wpList_append_own _ rfl _ _ 27 rfl (tb + 1) 9 i0 _ 1 16 Tryz.underlying27 hj0 hy0 hy1 hy2 rfl (by decide) _ _ _ rfl (Q0.out.alloc _) ⟨_, 0, none⟩ 1 1 [.string (unNm 2)] rfl rfl (news1s _ _ _) (by intro u hu; simp at hu; subst hu; rfl) (by unfold maxLen; omega) (by omega) (by simp; omega) ?_; intro v' w1 hown' hgrow _; have HN2 := hide (show w1.ownsRow (tb + 1) 9 1 v' (nmJ mask 2).length (nmJ mask 2) by rw [EQ.out, List.length_append, HNQ.out]; exact hown'); have NB := hide (show Bk w1 tb 68 tabV from Bk.low Q1.out (show Below (tb + 1) wr w1 from (Below.alloc (Below.refl _ _) hbt _).grown hgrow (by simp; omega) (fun k hk => (Q0.out.lt k hk).1)) (by omega)); have BN := hide (show Below w.heap.size w w1 from (bplus BW.out _).grown hgrow (bplus BW.out _).size (fun k hk => Nat.le_trans (Nat.le_succ_of_le hz) (Q0.out.lt k hk).1)); clear hown' hgrow)
          go_roundw
          case rel => exact .mk 2 (by go_num) (by omega) HN2.out NB.out BN.out
          case measure => simp [intOf]
        · rw [if_neg hb] at P
          replace EQ := hide (show nmJ mask 2 = nj by rw [EQ.out, if_neg (show ¬ mB mask 2 = true from fun h => hb (of_decide_eq_true h)), List.append_nil])
          clear hb
          go_wp2
          go_roundw
          case rel => exact .mk 2 (by go_num) (by omega) (by rw [EQ.out, HNQ.out]; exact Q0.out) Q1.out BW.out
          case measure => simp [intOf]
      · have P := and_pow64 mask 8 3 (by decide) (by decide)
        have cu := Bk.cell Q1.out 3
        simp [tabV] at cu
        by_cases hb : mask / 8 % 2 = 1
        · rw [if_pos hb] at P
          replace EQ := hide (show nmJ mask 3 = nj ++ [.string (unNm 3)] by rw [EQ.out, if_pos (show mB mask 3 = true from decide_eq_true hb)])
          clear hb
          go_wp2_with (at_builtin; refine wpList_append_own _ rfl _ _ 27 rfl (tb + 1) 9 i0 _ 1 16 Tryz.underlying27 hj0 hy0 hy1 hy2 rfl (by decide) _ _ _ rfl (Q0.out.alloc _) ⟨_, 0, none⟩ 1 1 [.string (unNm 3)] rfl rfl (news1s _ _ _) (by intro u hu; simp at hu; subst hu; rfl) (by unfold maxLen; omega) (by omega) (by simp; omega) ?_; intro v' w1 hown' hgrow _; have HN2 := hide (show w1.ownsRow (tb + 1) 9 1 v' (nmJ mask 3).length (nmJ mask 3) by rw [EQ.out, List.length_append, HNQ.out]; exact hown'); have NB := hide (show Bk w1 tb 68 tabV from Bk.low Q1.out (show Below (tb + 1) wr w1 from (Below.alloc (Below.refl _ _) hbt _).grown hgrow (by simp; omega) (fun k hk => (Q0.out.lt k hk).1)) (by omega)); have BN := hide (show Below w.heap.size w w1 from (bplus BW.out _).grown hgrow (bplus BW.out _).size (fun k hk => Nat.le_trans (Nat.le_succ_of_le hz) (Q0.out.lt k hk).1)); clear hown' hgrow)
          go_roundw
          case rel => exact .mk 3 (by go_num) (by omega) HN2.out NB.out BN.out
          case measure => simp [intOf]
        · rw [if_neg hb] at P
          replace EQ := hide (show nmJ mask 3 = nj by rw [EQ.out, if_neg (show ¬ mB mask 3 = true from fun h => hb (of_decide_eq_true h)), List.append_nil])
          clear hb
          go_wp2
          go_roundw
          case rel => exact .mk 3 (by go_num) (by omega) (by rw [EQ.out, HNQ.out]; exact Q0.out) Q1.out BW.out
          case measure => simp [intOf]
      · have P := and_pow64 mask 16 4 (by decide) (by decide)
        have cu := Bk.cell Q1.out 4
        simp [tabV] at cu
        by_cases hb : mask / 16 % 2 = 1
        · rw [if_pos hb] at P
          replace EQ := hide (show nmJ mask 4 = nj ++ [.string (unNm 4)] by rw [EQ.out, if_pos (show mB mask 4 = true from decide_eq_true hb)])
          clear hb
          go_wp2_with (at_builtin; refine wpList_append_own _ rfl _ _ 27 rfl (tb + 1) 9 i0 _ 1 16 Tryz.underlying27 hj0 hy0 hy1 hy2 rfl (by decide) _ _ _ rfl (Q0.out.alloc _) ⟨_, 0, none⟩ 1 1 [.string (unNm 4)] rfl rfl (news1s _ _ _) (by intro u hu; simp at hu; subst hu; rfl) (by unfold maxLen; omega) (by omega) (by simp; omega) ?_; intro v' w1 hown' hgrow _; have HN2 := hide (show w1.ownsRow (tb + 1) 9 1 v' (nmJ mask 4).length (nmJ mask 4) by rw [EQ.out, List.length_append, HNQ.out]; exact hown'); have NB := hide (show Bk w1 tb 68 tabV from Bk.low Q1.out (show Below (tb + 1) wr w1 from (Below.alloc (Below.refl _ _) hbt _).grown hgrow (by simp; omega) (fun k hk => (Q0.out.lt k hk).1)) (by omega)); have BN := hide (show Below w.heap.size w w1 from (bplus BW.out _).grown hgrow (bplus BW.out _).size (fun k hk => Nat.le_trans (Nat.le_succ_of_le hz) (Q0.out.lt k hk).1)); clear hown' hgrow)
          go_roundw
          case rel => exact .mk 4 (by go_num) (by omega) HN2.out NB.out BN.out
          case measure => simp [intOf]
        · rw [if_neg hb] at P
          replace EQ := hide (show nmJ mask 4 = nj by rw [EQ.out, if_neg (show ¬ mB mask 4 = true from fun h => hb (of_decide_eq_true h)), List.append_nil])
          clear hb
          go_wp2
          go_roundw
          case rel => exact .mk 4 (by go_num) (by omega) (by rw [EQ.out, HNQ.out]; exact Q0.out) Q1.out BW.out
          case measure => simp [intOf]
      · have P := and_pow64 mask 32 5 (by decide) (by decide)
        have cu := Bk.cell Q1.out 5
        simp [tabV] at cu
        by_cases hb : mask / 32 % 2 = 1
        · rw [if_pos hb] at P
          replace EQ := hide (show nmJ mask 5 = nj ++ [.string (unNm 5)] by rw [EQ.out, if_pos (show mB mask 5 = true from decide_eq_true hb)])
          clear hb
          go_wp2_with (at_builtin; refine wpList_append_own _ rfl _ _ 27 rfl (tb + 1) 9 i0 _ 1 16 Tryz.underlying27 hj0 hy0 hy1 hy2 rfl (by decide) _ _ _ rfl (Q0.out.alloc _) ⟨_, 0, none⟩ 1 1 [.string (unNm 5)] rfl rfl (news1s _ _ _) (by intro u hu; simp at hu; subst hu; rfl) (by unfold maxLen; omega) (by omega) (by simp; omega) ?_; intro v' w1 hown' hgrow _; have HN2 := hide (show w1.ownsRow (tb + 1) 9 1 v' (nmJ mask 5).length (nmJ mask 5) by rw [EQ.out, List.length_append, HNQ.out]; exact hown'); have NB := hide (show Bk w1 tb 68 tabV from Bk.low Q1.out (show Below (tb + 1) wr w1 from (Below.alloc (Below.refl _ _) hbt _).grown hgrow (by simp; omega) (fun k hk => (Q0.out.lt k hk).1)) (by omega)); have BN := hide (show Below w.heap.size w w1 from (bplus BW.out _).grown hgrow (bplus BW.out _).size (fun k hk => Nat.le_trans (Nat.le_succ_of_le hz) (Q0.out.lt k hk).1)); clear hown' hgrow)
          go_roundw
          case rel => exact .mk 5 (by go_num) (by omega) HN2.out NB.out BN.out
          case measure => simp [intOf]
        · rw [if_neg hb] at P
          replace EQ := hide (show nmJ mask 5 = nj by rw [EQ.out, if_neg (show ¬ mB mask 5 = true from fun h => hb (of_decide_eq_true h)), List.append_nil])
          clear hb
          go_wp2
          go_roundw
          case rel => exact .mk 5 (by go_num) (by omega) (by rw [EQ.out, HNQ.out]; exact Q0.out) Q1.out BW.out
          case measure => simp [intOf]
      · have P := and_pow64 mask 64 6 (by decide) (by decide)
        have cu := Bk.cell Q1.out 6
        simp [tabV] at cu
        by_cases hb : mask / 64 % 2 = 1
        · rw [if_pos hb] at P
          replace EQ := hide (show nmJ mask 6 = nj ++ [.string (unNm 6)] by rw [EQ.out, if_pos (show mB mask 6 = true from decide_eq_true hb)])
          clear hb
          go_wp2_with (at_builtin; refine wpList_append_own _ rfl _ _ 27 rfl (tb + 1) 9 i0 _ 1 16 Tryz.underlying27 hj0 hy0 hy1 hy2 rfl (by decide) _ _ _ rfl (Q0.out.alloc _) ⟨_, 0, none⟩ 1 1 [.string (unNm 6)] rfl rfl (news1s _ _ _) (by intro u hu; simp at hu; subst hu; rfl) (by unfold maxLen; omega) (by omega) (by simp; omega) ?_; intro v' w1 hown' hgrow _; have HN2 := hide (show w1.ownsRow (tb + 1) 9 1 v' (nmJ mask 6).length (nmJ mask 6) by rw [EQ.out, List.length_append, HNQ.out]; exact hown'); have NB := hide (show Bk w1 tb 68 tabV from Bk.low Q1.out (show Below (tb + 1) wr w1 from (Below.alloc (Below.refl _ _) hbt _).grown hgrow (by simp; omega) (fun k hk => (Q0.out.lt k hk).1)) (by omega)); have BN := hide (show Below w.heap.size w w1 from (bplus BW.out _).grown hgrow (bplus BW.out _).size (fun k hk => Nat.le_trans (Nat.le_succ_of_le hz) (Q0.out.lt k hk).1)); clear hown' hgrow)
          go_roundw
          case rel => exact .mk 6 (by go_num) (by omega) HN2.out NB.out BN.out
          case measure => simp [intOf]
        · rw [if_neg hb] at P
          replace EQ := hide (show nmJ mask 6 = nj by rw [EQ.out, if_neg (show ¬ mB mask 6 = true from fun h => hb (of_decide_eq_true h)), List.append_nil])
          clear hb
          go_wp2
          go_roundw
          case rel => exact .mk 6 (by go_num) (by omega) (by rw [EQ.out, HNQ.out]; exact Q0.out) Q1.out BW.out
          case measure => simp [intOf]
      · have P := and_pow64 mask 128 7 (by decide) (by decide)
        have cu := Bk.cell Q1.out 7
        simp [tabV] at cu
        by_cases hb : mask / 128 % 2 = 1
        · rw [if_pos hb] at P
          replace EQ := hide (show nmJ mask 7 = nj ++ [.string (unNm 7)] by rw [EQ.out, if_pos (show mB mask 7 = true from decide_eq_true hb)])
          clear hb
          go_wp2_with (at_builtin; refine wpList_append_own _ rfl _ _ 27 rfl (tb + 1) 9 i0 _ 1 16 Tryz.underlying27 hj0 hy0 hy1 hy2 rfl (by decide) _ _ _ rfl (Q0.out.alloc _) ⟨_, 0, none⟩ 1 1 [.string (unNm 7)] rfl rfl (news1s _ _ _) (by intro u hu; simp at hu; subst hu; rfl) (by unfold maxLen; omega) (by omega) (by simp; omega) ?_; intro v' w1 hown' hgrow _; have HN2 := hide (show w1.ownsRow (tb + 1) 9 1 v' (nmJ mask 7).length (nmJ mask 7) by rw [EQ.out, List.length_append, HNQ.out]; exact hown'); have NB := hide (show Bk w1 tb 68 tabV from Bk.low Q1.out (show Below (tb + 1) wr w1 from (Below.alloc (Below.refl _ _) hbt _).grown hgrow (by simp; omega) (fun k hk => (Q0.out.lt k hk).1)) (by omega)); have BN := hide (show Below w.heap.size w w1 from (bplus BW.out _).grown hgrow (bplus BW.out _).size (fun k hk => Nat.le_trans (Nat.le_succ_of_le hz) (Q0.out.lt k hk).1)); clear hown' hgrow)
          go_roundw
          case rel => exact .mk 7 (by go_num) (by omega) HN2.out NB.out BN.out
          case measure => simp [intOf]
        · rw [if_neg hb] at P
          replace EQ := hide (show nmJ mask 7 = nj by rw [EQ.out, if_neg (show ¬ mB mask 7 = true from fun h => hb (of_decide_eq_true h)), List.append_nil])
          clear hb
          go_wp2
          go_roundw
          case rel => exact .mk 7 (by go_num) (by omega) (by rw [EQ.out, HNQ.out]; exact Q0.out) Q1.out BW.out
          case measure => simp [intOf]
    · obtain rfl : j = 7 := by omega
      go_wp2
      go_ret
      exact ⟨_, _, rfl, Q0.out, BW.out⟩
end Go.Proofs.YtdnnidnghaifgaaGreatDoor.nm
set_option linter.unusedVariables false
set_option linter.unusedSimpArgs false
namespace Go.Proofs.YtdnnidnghaifgaaGreatDoor.nm
open Go.RowKit cc be

theorem own_shape {w : World} {b : Nat} {e : TypeId} {sz : Nat} {v : Value} {n : Nat} {xs : List Value} (h : w.ownsRow b e sz v n xs) : ∃ a c, v = .slice a n c := by
  obtain ⟨h1, ⟨rfl, h2⟩ | ⟨g, cap, cur, rfl, hb, hg, hr⟩⟩ := h
  · obtain rfl : n = 0 := by first | exact h2 | exact h2.1
    exact ⟨_, _, rfl⟩
  · exact ⟨_, _, rfl⟩
theorem own_cell1 {w : World} {b : Nat} {e : TypeId} {v : Value} {n : Nat} {xs : List Value} (h : w.ownsRow b e 1 v n xs) {q : Nat} {u : Value} (hq : xs[q]? = some u) : ∃ g cap, v = .slice (some ⟨g, 0, none⟩) n cap ∧ w.cell? ⟨g, q, none⟩ = some u := by
  have hql := (List.getElem?_eq_some_iff.1 hq).1
  obtain ⟨h1, ⟨rfl, h2⟩ | ⟨g, cap, cur, rfl, hb, hg, hn, hm, hs, ht⟩⟩ := h
  · exfalso
    obtain rfl : n = 0 := by first | exact h2 | exact h2.1
    simp at h1
    subst h1
    cases hq
  · refine ⟨g, cap, rfl, ?_⟩
    rw [row_blk hg]
    have hjn : q < n * 1 := by rw [← h1]; exact hql
    rw [← ht, List.getElem?_take_of_lt hjn] at hq
    simpa using hq
theorem run_lenS {ρ : Operand → Value} {w : World} {o : Oper} {x : Operand} {a : Option Addr} {n c : Nat} {ty : Array TypeId} (ho : o.op = .call { callee := .builtin .len, args := #[x], argTypes := ty }) (ht : ty = #[27]) (hx : ρ x = .slice a n c) : (execOp ρ o).run Tryz.prog w = .ok (.value (.int .i64 n)) w := by
  subst ht
  unfold execOp
  rw [ho]
  simp [go_sem, hx]
theorem run_geF {ρ : Operand → Value} {w : World} {o : Oper} {x y : Operand} {n m : Nat} (ho : o.op = .binOp .geq 3 x y 3) (hx : ρ x = .int .i64 n) (hy : ρ y = .int .i64 m) (h : n < m) : (execOp ρ o).run Tryz.prog w = .ok (.value (.bool false)) w := by
  have h1 : ¬ m ≤ n := by omega
  unfold execOp
  rw [ho]
  simp [go_sem, hx, hy, h1]
theorem run_ixS {ρ : Operand → Value} {w : World} {o : Oper} {x y : Operand} {b n c k : Nat} (ho : o.op = .indexAddr 27 x y) (hx : ρ x = .slice (some ⟨b, 0, none⟩) n c) (hy : ρ y = .int .i64 k) (hk : k < n) : (execOp ρ o).run Tryz.prog w = .ok (.value (.pointer (some ⟨b, k, none⟩))) w := by
  have hk0 : (k : Int) < n := by omega
  unfold execOp
  rw [ho]
  simp [go_sem, hx, hy, hk, hk0]
theorem run_ldS {ρ : Operand → Value} {w : World} {o : Oper} {x : Operand} {b off : Nat} {s : ByteArray} (ho : o.op = .load 9 x) (hx : ρ x = .pointer (some ⟨b, off, none⟩)) (c0 : w.cell? ⟨b, off, none⟩ = some (.string s)) : (execOp ρ o).run Tryz.prog w = .ok (.value (.string s)) w := by
  unfold execOp
  rw [ho]
  simp [go_sem, hx, c0]
theorem run_neS {ρ : Operand → Value} {w : World} {o : Oper} {x y : Operand} {s : ByteArray} (ho : o.op = .binOp .neq 9 x y 9) (hx : ρ x = .string s) (hy : ρ y = .string s) : (execOp ρ o).run Tryz.prog w = .ok (.value (.bool false)) w := by
  unfold execOp
  rw [ho]
  simp [go_sem, hx, hy]
def RelSz (wN : World) (mask : Int) (k8 i : Value) (wr : World) : Prop := ∃ j : Nat, i = .int .i64 (j + 1 : Nat) ∧ k8 = .int .i64 (nmJ mask j).length ∧ j ≤ 7 ∧ Below wN.heap.size wN wr
theorem RelSz.mk {wN : World} {mask : Int} {k8 i : Value} {wr : World} (j : Nat) (h1 : i = .int .i64 (j + 1 : Nat)) (h2 : k8 = .int .i64 (nmJ mask j).length) (h3 : j ≤ 7) (h4 : Below wN.heap.size wN wr) : RelSz wN mask k8 i wr := ⟨j, h1, h2, h3, h4⟩
def kdS1 (u : Int) (csA : List Value) (X : Int × Int) : Nat → Kd
  | 0 => .val (.int .i64 u)
  | 1 => .val (.agg csA.toArray)
  | 2 => .val (.agg #[.int .i64 X.1, .int .i64 X.2])
  | 3 => .val (.int .i64 u)
  | 4 => .val (.agg csA.toArray)
  | 5 => .val (.agg #[.int .i64 X.1, .int .i64 X.2])
  | 6 => .val (.bool false)
  | _ => .val undef
def kdS9 (gb nn cap q un : Nat) : Nat → Kd
  | 0 => .val (.int .i64 (q : Nat))
  | 1 => .val (.slice (some ⟨gb, 0, none⟩) nn cap)
  | 2 => .val (.int .i64 (nn : Nat))
  | 3 => .val (.bool false)
  | 4 => .val (.bool false)
  | 5 => .val (.slice (some ⟨gb, 0, none⟩) nn cap)
  | 6 => .val (.int .i64 (q : Nat))
  | 7 => .val (.pointer (some ⟨gb, q, none⟩))
  | 8 => .val (.string (unNm un))
  | 9 => .val (.int .i64 (un : Nat))
  | 10 => .val (.string (unNm un))
  | 11 => .val (.bool false)
  | 12 => .val (.bool false)
  | _ => .val undef
set_option maxRecDepth 100000 in
set_option maxHeartbeats 32000000 in
theorem law_sizes (u : Int) (cs : List (Int × Int)) (mask : Int) (w : World) (hN : Nth w) (hM : NthU w) (hu : i64 u) (hcs : cs.length = 6) (h64 : ∀ r ∈ cs, R64 r) (hmk : i64 mask) : Calls Tryz.prog 3 #[.int .i64 u, cxV cs, .int .i64 mask] w fun e w' => e = .returned (.bool true) ∧ Below w.heap.size w w' := by
  have C1 := hide (fun (W : World) => sizeU_any u cs W hcs h64 hu)
  have C2 := hide (fun (W : World) => size_any u cs W hcs h64)
  have CN := hide (fun (W : World) => names_any mask W)
  have CA := hide (fun (W : World) (h : Below w.heap.size w W) => awakeU_any W (hN.low h) (hM.low h))
  have CL := hide (show (Tryz.prog.info? 25).map (·.size) = some (usL cs).length by rw [usL_len, hcs]; kernel_rfl)
  have C12 := hide (show (usL cs).length = 12 by rw [usL_len, hcs])
  unfold cxV at *
  unfold ratV at C1 C2
  generalize usL cs = csA at *
  generalize szC cs u = X at *
  clear hcs h64 hN hM hu hmk
  obtain ⟨ca, hca⟩ : ∃ q : Array Value, csA.toArray = q := ⟨_, rfl⟩
  have ca12 : ca.size = 12 := by rw [← hca, List.size_toArray, C12.out]
  obtain ⟨W1, hW1⟩ : ∃ W1, w.alloc (.cells ca 25) = W1 := ⟨_, rfl⟩
  have B0 := hide (show Below w.heap.size w W1 by rw [← hW1]; exact bplus (Below.refl _ _) _)
  have RC := hide (fun (W : World) (h : Below W1.heap.size W1 W) => show W.rangeAt w.heap.size 0 csA from range_blk (Bk.up (show Bk W1 w.heap.size 25 csA by rw [← hW1, ← hca]; exact Bk.new w _ _) h))
  rw [hca]
  have HW1 := hide hW1
  replace C1 := hide (fun (W : World) (h : Below W1.heap.size W1 W) => C1.out W)
  replace C2 := hide (fun (W : World) (h : Below W1.heap.size W1 W) => C2.out W)
  clear hW1 hca
  go_enter Tryz.func3, Tryz.ntmps3
  go_upto_region 1 with fail
  rw [HW1.out]
  clear HW1
  refine wp_region_kdQ (by kernel_rfl) (kdS1 u csA X) (Stat.of (by kernel_rfl)) (acy_of (by kernel_rfl)) ?_ ?_
  · as_aux_lemma =>
      intro Q' i o ho blk listed a wx I hd
      have hi : i < 7 := (Array.getElem?_eq_some_iff.1 ho).1
      rcases (show i = 0 ∨ i = 1 ∨ i = 2 ∨ i = 3 ∨ i = 4 ∨ i = 5 ∨ i = 6 by omega) with rfl | rfl | rfl | rfl | rfl | rfl | rfl
      · obtain rfl := Option.some.inj ho
        exact wpOp_valW rfl (wn rfl) (run_mv rfl (show a.tmps.getD 0 undef = _ from (I.oth_at (by kernel_rfl)).trans rfl)) (show _ ∧ _ from ⟨rfl, be.Up.refl _⟩)
      · obtain rfl := Option.some.inj ho
        exact wpOp_valW rfl (wn rfl) (run_ldF rfl (show a.tmps.getD 4 undef = _ from (I.oth_at (by kernel_rfl)).trans rfl) (RC.out wx I.up) Tryz.underlying25 rfl CL.out) (show _ ∧ _ from ⟨rfl, be.Up.refl _⟩)
      · obtain rfl := Option.some.inj ho
        have v0 := (I.val_at (i := 0) (by decide) (hd ⟨0, .data⟩ (by simp) rfl) (.inl rfl) rfl)
        have v1 := (I.val_at (i := 1) (by decide) (hd ⟨1, .data⟩ (by simp) rfl) (.inl rfl) rfl)
        refine wpOp_callW rfl (wn rfl) (run_cl2 rfl rfl (fun v u => enters_of Tryz.func11 (by kernel_rfl) rfl #[v, u] wx)) ?_
        refine (show Calls Tryz.prog 11 #[a.tmps.getD _ undef, a.tmps.getD _ undef] wx _ from ?_)
        rw [v0, v1]
        exact (C1.out wx I.up).mono (by rintro e w' ⟨rfl, hu⟩; exact ⟨_, rfl, (show _ ∧ _ from ⟨rfl, hu⟩)⟩)
      · obtain rfl := Option.some.inj ho
        exact wpOp_valW rfl (wn rfl) (run_mv rfl (show a.tmps.getD 0 undef = _ from (I.oth_at (by kernel_rfl)).trans rfl)) (show _ ∧ _ from ⟨rfl, be.Up.refl _⟩)
      · obtain rfl := Option.some.inj ho
        exact wpOp_valW rfl (wn rfl) (run_ldF rfl (show a.tmps.getD 4 undef = _ from (I.oth_at (by kernel_rfl)).trans rfl) (RC.out wx I.up) Tryz.underlying25 rfl CL.out) (show _ ∧ _ from ⟨rfl, be.Up.refl _⟩)
      · obtain rfl := Option.some.inj ho
        have v0 := (I.val_at (i := 3) (by decide) (hd ⟨3, .data⟩ (by simp) rfl) (.inl rfl) rfl)
        have v1 := (I.val_at (i := 4) (by decide) (hd ⟨4, .data⟩ (by simp) rfl) (.inl rfl) rfl)
        refine wpOp_callW rfl (wn rfl) (run_cl2 rfl rfl (fun v u => enters_of Tryz.func12 (by kernel_rfl) rfl #[v, u] wx)) ?_
        refine (show Calls Tryz.prog 12 #[a.tmps.getD _ undef, a.tmps.getD _ undef] wx _ from ?_)
        rw [v0, v1]
        exact (C2.out wx I.up).mono (by rintro e w' ⟨rfl, hu⟩; exact ⟨_, rfl, (show _ ∧ _ from ⟨rfl, hu⟩)⟩)
      · obtain rfl := Option.some.inj ho
        exact wpOp_valW rfl (wn rfl) (run_neR (p := X) (q := X) rfl (I.val_at (i := 2) (by decide) (hd ⟨2, .data⟩ (by simp) rfl) (.inl rfl) rfl) (I.val_at (i := 5) (by decide) (hd ⟨5, .data⟩ (by simp) rfl) (.inl rfl) rfl) (by simp)) (show _ ∧ _ from ⟨rfl, be.Up.refl _⟩)
  · intro blk listed a' wx I hall
    have fr := I.frameL [(10, (.int .i64 u)), (11, (.agg csA.toArray)), (12, (.agg #[.int .i64 X.1, .int .i64 X.2])), (13, (.int .i64 u)), (14, (.agg csA.toArray)), (15, (.agg #[.int .i64 X.1, .int .i64 X.2])), (16, (.bool false))] (by
      intro p hp
      simp only [List.mem_cons, List.not_mem_nil, or_false] at hp
      rcases hp with rfl | rfl | rfl | rfl | rfl | rfl | rfl
      · exact ⟨by simp, I.val_at (i := 0) (by decide) (hall _ (by decide)) (.inl rfl) rfl⟩
      · exact ⟨by simp, I.val_at (i := 1) (by decide) (hall _ (by decide)) (.inl rfl) rfl⟩
      · exact ⟨by simp, I.val_at (i := 2) (by decide) (hall _ (by decide)) (.inl rfl) rfl⟩
      · exact ⟨by simp, I.val_at (i := 3) (by decide) (hall _ (by decide)) (.inl rfl) rfl⟩
      · exact ⟨by simp, I.val_at (i := 4) (by decide) (hall _ (by decide)) (.inl rfl) rfl⟩
      · exact ⟨by simp, I.val_at (i := 5) (by decide) (hall _ (by decide)) (.inl rfl) rfl⟩
      · exact ⟨by simp, I.val_at (i := 6) (by decide) (hall _ (by decide)) (.inl rfl) rfl⟩) (by kernel_rfl)
    have BY := hide (show Below w.heap.size w wx from bto B0.out I.up)
    clear I hall
    subst fr
    dsimp only [setsL, List.set_cons_zero, List.set_cons_succ]
    clear C1 C2 RC B0
    go_upto_region 4 with (go_at_call 13; refine (CN.out _).mono ?_; rintro e wN ⟨lv, lb, rfl, OWN, BN⟩; replace OWN := hide OWN; replace BN := hide (bto BY.out BN))
    obtain ⟨sa, sc, rfl⟩ := own_shape OWN.out
    obtain ⟨nn, hnn⟩ : ∃ q, (nmJ mask 7).length = q := ⟨_, rfl⟩
    rw [hnn] at OWN
    (try rw [hnn])
    have HNN := hide hnn
    clear hnn CN BY
    go_wp2_with fail
    go_loopw [8, 9] (fun k8 i wr => RelSz wN mask k8 i wr) (fun _ i _ => 8 - (intOf i).toNat)
    case atStart => exact .mk 0 rfl rfl (by omega) (Below.refl _ _)
    case round =>
      obtain ⟨j, rfl, rfl, hj, BE⟩ := hrel
      replace BE := hide BE
      by_cases hlt : j < 7
      · have EQ := hide (show nmJ mask (j + 1) = nmJ mask j ++ (if mB mask (j + 1) = true then [.string (unNm (j + 1))] else []) from rfl)
        have AT := hide (fun (hb : mB mask (j + 1) = true) => nmJ_at (mask := mask) hlt hb)
        have CNm0 := hide (fun (W : World) => nameR_any (j + 1) (by omega) W)
        obtain ⟨q, hq⟩ : ∃ q, (nmJ mask j).length = q := ⟨_, rfl⟩
        have LE := nmJ_len mask j
        have HQ := hide hq
        (try rw [hq])
        rw [hq] at AT LE
        clear hq
        rcases (show j = 0 ∨ j = 1 ∨ j = 2 ∨ j = 3 ∨ j = 4 ∨ j = 5 ∨ j = 6 by omega) with rfl | rfl | rfl | rfl | rfl | rfl | rfl
        · by_cases hb : mask / 2 % 2 = 1
          · have hm : mB mask 1 = true := decide_eq_true hb
            have P1 : bits .and .i64 (mask / 2) 1 = 1 := by rw [and_one64]; exact hb
            have P2 : bits .and .i64 (mask.fdiv 2) 1 = 1 := by rw [Int.fdiv_eq_ediv_of_nonneg _ (by decide)]; exact P1
            replace EQ := hide (show (nmJ mask 1).length = q + 1 by rw [EQ.out, if_pos hm, List.length_append, HQ.out]; rfl)
            obtain ⟨gb, cap, hlv, hcell⟩ := own_cell1 OWN.out (AT.out hm)
            obtain ⟨rfl, rfl⟩ : sa = some ⟨gb, 0, none⟩ ∧ sc = cap := by cases hlv; exact ⟨rfl, rfl⟩
            have HQN := hide (show q < nn by have := (List.getElem?_eq_some_iff.1 (AT.out hm)).1; have h2 := HNN.out; omega)
            have hgb := World.block_lt_of_cell? _ _ hcell
            have CQ := hide (fun (W : World) (h : Below wr.heap.size wr W) => show W.cell? ⟨gb, q, none⟩ = some (.string (unNm 1)) from ((bto BE.out h).cell (p := ⟨gb, q, none⟩) hgb).trans hcell)
            have CNm := hide (fun (W : World) (h : Below wr.heap.size wr W) => CNm0.out W)
            clear hb hm AT CNm0 hcell hgb
            (try clear hlv)
            go_upto_region 9 with fail
            refine wp_region_kdQ (by kernel_rfl) (kdS9 gb nn sc q 1) (Stat.of (by kernel_rfl)) (acy_of (by kernel_rfl)) ?_ ?_
            · as_aux_lemma =>
                intro Q' i o ho blk listed a wx I hd
                have hi : i < 13 := (Array.getElem?_eq_some_iff.1 ho).1
                rcases (show i = 0 ∨ i = 1 ∨ i = 2 ∨ i = 3 ∨ i = 4 ∨ i = 5 ∨ i = 6 ∨ i = 7 ∨ i = 8 ∨ i = 9 ∨ i = 10 ∨ i = 11 ∨ i = 12 by omega) with rfl | rfl | rfl | rfl | rfl | rfl | rfl | rfl | rfl | rfl | rfl | rfl | rfl
                · obtain rfl := Option.some.inj ho
                  exact wpOp_valW rfl (wn rfl) (run_mv rfl (show a.tmps.getD 8 undef = _ from (I.oth_at (by kernel_rfl)).trans rfl)) (show _ ∧ _ from ⟨rfl, be.Up.refl _⟩)
                · obtain rfl := Option.some.inj ho
                  exact wpOp_valW rfl (wn rfl) (run_mv rfl (show a.tmps.getD 7 undef = _ from (I.oth_at (by kernel_rfl)).trans rfl)) (show _ ∧ _ from ⟨rfl, be.Up.refl _⟩)
                · obtain rfl := Option.some.inj ho
                  exact wpOp_valW rfl (wn rfl) (run_lenS rfl rfl (I.val_at (i := 1) (by decide) (hd ⟨1, .data⟩ (by simp) rfl) (.inl rfl) rfl)) (show _ ∧ _ from ⟨rfl, be.Up.refl _⟩)
                · obtain rfl := Option.some.inj ho
                  exact wpOp_valW rfl (wn rfl) (run_geF rfl (I.val_at (i := 0) (by decide) (hd ⟨0, .data⟩ (by simp) rfl) (.inl rfl) rfl) (I.val_at (i := 2) (by decide) (hd ⟨2, .data⟩ (by simp) rfl) (.inl rfl) rfl) HQN.out) (show _ ∧ _ from ⟨rfl, be.Up.refl _⟩)
                · obtain rfl := Option.some.inj ho
                  exact wpOp_valW rfl (wn rfl) (run_mv rfl (I.val_at (i := 3) (by decide) (hd ⟨3, .data⟩ (by simp) rfl) (.inl rfl) rfl)) (show _ ∧ _ from ⟨rfl, be.Up.refl _⟩)
                · obtain rfl := Option.some.inj ho
                  exact wpOp_valW rfl (wgT (c := false) rfl rfl (I.val_at (i := 4) (by decide) (hd ⟨4, .guard⟩ (by simp) rfl) (.inl rfl) rfl) rfl) (run_mv rfl (show a.tmps.getD 7 undef = _ from (I.oth_at (by kernel_rfl)).trans rfl)) (show _ ∧ _ from ⟨rfl, be.Up.refl _⟩)
                · obtain rfl := Option.some.inj ho
                  exact wpOp_valW rfl (wgT (c := false) rfl rfl (I.val_at (i := 4) (by decide) (hd ⟨4, .guard⟩ (by simp) rfl) (.inl rfl) rfl) rfl) (run_mv rfl (show a.tmps.getD 8 undef = _ from (I.oth_at (by kernel_rfl)).trans rfl)) (show _ ∧ _ from ⟨rfl, be.Up.refl _⟩)
                · obtain rfl := Option.some.inj ho
                  exact wpOp_valW rfl (wgT (c := false) rfl rfl (I.val_at (i := 4) (by decide) (hd ⟨4, .guard⟩ (by simp) rfl) (.inl rfl) rfl) rfl) (run_ixS rfl (I.val_at (i := 5) (by decide) (hd ⟨5, .data⟩ (by simp) rfl) (.inl rfl) rfl) (I.val_at (i := 6) (by decide) (hd ⟨6, .data⟩ (by simp) rfl) (.inl rfl) rfl) HQN.out) (show _ ∧ _ from ⟨rfl, be.Up.refl _⟩)
                · obtain rfl := Option.some.inj ho
                  exact wpOp_valW rfl (wgT (c := false) rfl rfl (I.val_at (i := 4) (by decide) (hd ⟨4, .guard⟩ (by simp) rfl) (.inl rfl) rfl) rfl) (run_ldS rfl (I.val_at (i := 7) (by decide) (hd ⟨7, .data⟩ (by simp) rfl) (.inl rfl) rfl) (CQ.out wx I.up)) (show _ ∧ _ from ⟨rfl, be.Up.refl _⟩)
                · obtain rfl := Option.some.inj ho
                  exact wpOp_valW rfl (wgT (c := false) rfl rfl (I.val_at (i := 4) (by decide) (hd ⟨4, .guard⟩ (by simp) rfl) (.inl rfl) rfl) rfl) (run_mv rfl (show a.tmps.getD 9 undef = _ from (I.oth_at (by kernel_rfl)).trans rfl)) (show _ ∧ _ from ⟨rfl, be.Up.refl _⟩)
                · obtain rfl := Option.some.inj ho
                  have v0 := (I.val_at (i := 9) (by decide) (hd ⟨9, .data⟩ (by simp) rfl) (.inl rfl) rfl)
                  refine wpOp_callW rfl (wgT (c := false) rfl rfl (I.val_at (i := 4) (by decide) (hd ⟨4, .guard⟩ (by simp) rfl) (.inl rfl) rfl) rfl) (run_cl1 rfl rfl (fun v => enters_of Tryz.func14 (by kernel_rfl) rfl #[v] wx)) ?_
                  refine (show Calls Tryz.prog 14 #[a.tmps.getD _ undef] wx _ from ?_)
                  rw [v0]
                  exact (CNm.out wx I.up).mono (by rintro e w' ⟨rfl, hu⟩; exact ⟨_, rfl, (show _ ∧ _ from ⟨rfl, hu⟩)⟩)
                · obtain rfl := Option.some.inj ho
                  exact wpOp_valW rfl (wgT (c := false) rfl rfl (I.val_at (i := 4) (by decide) (hd ⟨4, .guard⟩ (by simp) rfl) (.inl rfl) rfl) rfl) (run_neS rfl (I.val_at (i := 8) (by decide) (hd ⟨8, .data⟩ (by simp) rfl) (.inl rfl) rfl) (I.val_at (i := 10) (by decide) (hd ⟨10, .data⟩ (by simp) rfl) (.inl rfl) rfl)) (show _ ∧ _ from ⟨rfl, be.Up.refl _⟩)
                · obtain rfl := Option.some.inj ho
                  exact wpOp_valW rfl (wn rfl) (run_pickF rfl (I.val_at (i := 4) (by decide) (hd ⟨4, .data⟩ (by simp) rfl) (.inl rfl) rfl) (I.val_at (i := 11) (by decide) (hd ⟨11, .data⟩ (by simp) rfl) (.inl rfl) rfl)) (show _ ∧ _ from ⟨rfl, be.Up.refl _⟩)
            · intro blk listed a' wx I hall
              have fr := I.frameL [(29, (.int .i64 (q : Nat))), (30, (.slice (some ⟨gb, 0, none⟩) nn sc)), (31, (.int .i64 (nn : Nat))), (32, (.bool false)), (33, (.bool false)), (34, (.slice (some ⟨gb, 0, none⟩) nn sc)), (35, (.int .i64 (q : Nat))), (36, (.pointer (some ⟨gb, q, none⟩))), (37, (.string (unNm 1))), (38, (.int .i64 (1 : Nat))), (39, (.string (unNm 1))), (40, (.bool false)), (41, (.bool false))] (by
                intro p hp
                simp only [List.mem_cons, List.not_mem_nil, or_false] at hp
                rcases hp with rfl | rfl | rfl | rfl | rfl | rfl | rfl | rfl | rfl | rfl | rfl | rfl | rfl
                · exact ⟨by simp, I.val_at (i := 0) (by decide) (hall _ (by decide)) (.inl rfl) rfl⟩
                · exact ⟨by simp, I.val_at (i := 1) (by decide) (hall _ (by decide)) (.inl rfl) rfl⟩
                · exact ⟨by simp, I.val_at (i := 2) (by decide) (hall _ (by decide)) (.inl rfl) rfl⟩
                · exact ⟨by simp, I.val_at (i := 3) (by decide) (hall _ (by decide)) (.inl rfl) rfl⟩
                · exact ⟨by simp, I.val_at (i := 4) (by decide) (hall _ (by decide)) (.inl rfl) rfl⟩
                · exact ⟨by simp, I.val_at (i := 5) (by decide) (hall _ (by decide)) (.inl rfl) rfl⟩
                · exact ⟨by simp, I.val_at (i := 6) (by decide) (hall _ (by decide)) (.inl rfl) rfl⟩
                · exact ⟨by simp, I.val_at (i := 7) (by decide) (hall _ (by decide)) (.inl rfl) rfl⟩
                · exact ⟨by simp, I.val_at (i := 8) (by decide) (hall _ (by decide)) (.inl rfl) rfl⟩
                · exact ⟨by simp, I.val_at (i := 9) (by decide) (hall _ (by decide)) (.inl rfl) rfl⟩
                · exact ⟨by simp, I.val_at (i := 10) (by decide) (hall _ (by decide)) (.inl rfl) rfl⟩
                · exact ⟨by simp, I.val_at (i := 11) (by decide) (hall _ (by decide)) (.inl rfl) rfl⟩
                · exact ⟨by simp, I.val_at (i := 12) (by decide) (hall _ (by decide)) (.inl rfl) rfl⟩) (by kernel_rfl)
              have BY := hide (show Below wN.heap.size wN wx from bto BE.out I.up)
              clear I hall
              subst fr
              dsimp only [setsL, List.set_cons_zero, List.set_cons_succ]
              have LQ : q < 100 := by omega
              go_wp2
              go_roundw
              case rel => exact .mk 1 (by go_num) (by rw [EQ.out]; go_num) (by omega) BY.out
              case measure => simp [intOf]
          · have h0 : mask / 2 % 2 = 0 := by omega
            have hm : ¬ mB mask 1 = true := fun h => hb (of_decide_eq_true h)
            have P1 : bits .and .i64 (mask / 2) 1 = 0 := by rw [and_one64]; exact h0
            have P2 : bits .and .i64 (mask.fdiv 2) 1 = 0 := by rw [Int.fdiv_eq_ediv_of_nonneg _ (by decide)]; exact P1
            replace EQ := hide (show (nmJ mask 1).length = q by rw [EQ.out, if_neg hm, List.append_nil, HQ.out])
            clear hb hm AT CNm0 h0
            go_wp2
            go_roundw
            case rel => exact .mk 1 (by go_num) (by rw [EQ.out]) (by omega) BE.out
            case measure => simp [intOf]
        · by_cases hb : mask / 4 % 2 = 1
          · have hm : mB mask 2 = true := decide_eq_true hb
            have P1 : bits .and .i64 (mask / 4) 1 = 1 := by rw [and_one64]; exact hb
            have P2 : bits .and .i64 (mask.fdiv 4) 1 = 1 := by rw [Int.fdiv_eq_ediv_of_nonneg _ (by decide)]; exact P1
            replace EQ := hide (show (nmJ mask 2).length = q + 1 by rw [EQ.out, if_pos hm, List.length_append, HQ.out]; rfl)
            obtain ⟨gb, cap, hlv, hcell⟩ := own_cell1 OWN.out (AT.out hm)
            obtain ⟨rfl, rfl⟩ : sa = some ⟨gb, 0, none⟩ ∧ sc = cap := by cases hlv; exact ⟨rfl, rfl⟩
            have HQN := hide (show q < nn by have := (List.getElem?_eq_some_iff.1 (AT.out hm)).1; have h2 := HNN.out; omega)
            have hgb := World.block_lt_of_cell? _ _ hcell
            have CQ := hide (fun (W : World) (h : Below wr.heap.size wr W) => show W.cell? ⟨gb, q, none⟩ = some (.string (unNm 2)) from ((bto BE.out h).cell (p := ⟨gb, q, none⟩) hgb).trans hcell)
            have CNm := hide (fun (W : World) (h : Below wr.heap.size wr W) => CNm0.out W)
            clear hb hm AT CNm0 hcell hgb
            (try clear hlv)
            go_upto_region 9 with fail
            refine wp_region_kdQ (by kernel_rfl) (kdS9 gb nn sc q 2) (Stat.of (by kernel_rfl)) (acy_of (by kernel_rfl)) ?_ ?_
            · as_aux_lemma =>
                intro Q' i o ho blk listed a wx I hd
                have hi : i < 13 := (Array.getElem?_eq_some_iff.1 ho).1
                rcases (show i = 0 ∨ i = 1 ∨ i = 2 ∨ i = 3 ∨ i = 4 ∨ i = 5 ∨ i = 6 ∨ i = 7 ∨ i = 8 ∨ i = 9 ∨ i = 10 ∨ i = 11 ∨ i = 12 by omega) with rfl | rfl | rfl | rfl | rfl | rfl | rfl | rfl | rfl | rfl | rfl | rfl | rfl
                · obtain rfl := Option.some.inj ho
                  exact wpOp_valW rfl (wn rfl) (run_mv rfl (show a.tmps.getD 8 undef = _ from (I.oth_at (by kernel_rfl)).trans rfl)) (show _ ∧ _ from ⟨rfl, be.Up.refl _⟩)
                · obtain rfl := Option.some.inj ho
                  exact wpOp_valW rfl (wn rfl) (run_mv rfl (show a.tmps.getD 7 undef = _ from (I.oth_at (by kernel_rfl)).trans rfl)) (show _ ∧ _ from ⟨rfl, be.Up.refl _⟩)
                · obtain rfl := Option.some.inj ho
                  exact wpOp_valW rfl (wn rfl) (run_lenS rfl rfl (I.val_at (i := 1) (by decide) (hd ⟨1, .data⟩ (by simp) rfl) (.inl rfl) rfl)) (show _ ∧ _ from ⟨rfl, be.Up.refl _⟩)
                · obtain rfl := Option.some.inj ho
                  exact wpOp_valW rfl (wn rfl) (run_geF rfl (I.val_at (i := 0) (by decide) (hd ⟨0, .data⟩ (by simp) rfl) (.inl rfl) rfl) (I.val_at (i := 2) (by decide) (hd ⟨2, .data⟩ (by simp) rfl) (.inl rfl) rfl) HQN.out) (show _ ∧ _ from ⟨rfl, be.Up.refl _⟩)
                · obtain rfl := Option.some.inj ho
                  exact wpOp_valW rfl (wn rfl) (run_mv rfl (I.val_at (i := 3) (by decide) (hd ⟨3, .data⟩ (by simp) rfl) (.inl rfl) rfl)) (show _ ∧ _ from ⟨rfl, be.Up.refl _⟩)
                · obtain rfl := Option.some.inj ho
                  exact wpOp_valW rfl (wgT (c := false) rfl rfl (I.val_at (i := 4) (by decide) (hd ⟨4, .guard⟩ (by simp) rfl) (.inl rfl) rfl) rfl) (run_mv rfl (show a.tmps.getD 7 undef = _ from (I.oth_at (by kernel_rfl)).trans rfl)) (show _ ∧ _ from ⟨rfl, be.Up.refl _⟩)
                · obtain rfl := Option.some.inj ho
                  exact wpOp_valW rfl (wgT (c := false) rfl rfl (I.val_at (i := 4) (by decide) (hd ⟨4, .guard⟩ (by simp) rfl) (.inl rfl) rfl) rfl) (run_mv rfl (show a.tmps.getD 8 undef = _ from (I.oth_at (by kernel_rfl)).trans rfl)) (show _ ∧ _ from ⟨rfl, be.Up.refl _⟩)
                · obtain rfl := Option.some.inj ho
                  exact wpOp_valW rfl (wgT (c := false) rfl rfl (I.val_at (i := 4) (by decide) (hd ⟨4, .guard⟩ (by simp) rfl) (.inl rfl) rfl) rfl) (run_ixS rfl (I.val_at (i := 5) (by decide) (hd ⟨5, .data⟩ (by simp) rfl) (.inl rfl) rfl) (I.val_at (i := 6) (by decide) (hd ⟨6, .data⟩ (by simp) rfl) (.inl rfl) rfl) HQN.out) (show _ ∧ _ from ⟨rfl, be.Up.refl _⟩)
                · obtain rfl := Option.some.inj ho
                  exact wpOp_valW rfl (wgT (c := false) rfl rfl (I.val_at (i := 4) (by decide) (hd ⟨4, .guard⟩ (by simp) rfl) (.inl rfl) rfl) rfl) (run_ldS rfl (I.val_at (i := 7) (by decide) (hd ⟨7, .data⟩ (by simp) rfl) (.inl rfl) rfl) (CQ.out wx I.up)) (show _ ∧ _ from ⟨rfl, be.Up.refl _⟩)
                · obtain rfl := Option.some.inj ho
                  exact wpOp_valW rfl (wgT (c := false) rfl rfl (I.val_at (i := 4) (by decide) (hd ⟨4, .guard⟩ (by simp) rfl) (.inl rfl) rfl) rfl) (run_mv rfl (show a.tmps.getD 9 undef = _ from (I.oth_at (by kernel_rfl)).trans rfl)) (show _ ∧ _ from ⟨rfl, be.Up.refl _⟩)
                · obtain rfl := Option.some.inj ho
                  have v0 := (I.val_at (i := 9) (by decide) (hd ⟨9, .data⟩ (by simp) rfl) (.inl rfl) rfl)
                  refine wpOp_callW rfl (wgT (c := false) rfl rfl (I.val_at (i := 4) (by decide) (hd ⟨4, .guard⟩ (by simp) rfl) (.inl rfl) rfl) rfl) (run_cl1 rfl rfl (fun v => enters_of Tryz.func14 (by kernel_rfl) rfl #[v] wx)) ?_
                  refine (show Calls Tryz.prog 14 #[a.tmps.getD _ undef] wx _ from ?_)
                  rw [v0]
                  exact (CNm.out wx I.up).mono (by rintro e w' ⟨rfl, hu⟩; exact ⟨_, rfl, (show _ ∧ _ from ⟨rfl, hu⟩)⟩)
                · obtain rfl := Option.some.inj ho
                  exact wpOp_valW rfl (wgT (c := false) rfl rfl (I.val_at (i := 4) (by decide) (hd ⟨4, .guard⟩ (by simp) rfl) (.inl rfl) rfl) rfl) (run_neS rfl (I.val_at (i := 8) (by decide) (hd ⟨8, .data⟩ (by simp) rfl) (.inl rfl) rfl) (I.val_at (i := 10) (by decide) (hd ⟨10, .data⟩ (by simp) rfl) (.inl rfl) rfl)) (show _ ∧ _ from ⟨rfl, be.Up.refl _⟩)
                · obtain rfl := Option.some.inj ho
                  exact wpOp_valW rfl (wn rfl) (run_pickF rfl (I.val_at (i := 4) (by decide) (hd ⟨4, .data⟩ (by simp) rfl) (.inl rfl) rfl) (I.val_at (i := 11) (by decide) (hd ⟨11, .data⟩ (by simp) rfl) (.inl rfl) rfl)) (show _ ∧ _ from ⟨rfl, be.Up.refl _⟩)
            · intro blk listed a' wx I hall
              have fr := I.frameL [(29, (.int .i64 (q : Nat))), (30, (.slice (some ⟨gb, 0, none⟩) nn sc)), (31, (.int .i64 (nn : Nat))), (32, (.bool false)), (33, (.bool false)), (34, (.slice (some ⟨gb, 0, none⟩) nn sc)), (35, (.int .i64 (q : Nat))), (36, (.pointer (some ⟨gb, q, none⟩))), (37, (.string (unNm 2))), (38, (.int .i64 (2 : Nat))), (39, (.string (unNm 2))), (40, (.bool false)), (41, (.bool false))] (by
                intro p hp
                simp only [List.mem_cons, List.not_mem_nil, or_false] at hp
                rcases hp with rfl | rfl | rfl | rfl | rfl | rfl | rfl | rfl | rfl | rfl | rfl | rfl | rfl
                · exact ⟨by simp, I.val_at (i := 0) (by decide) (hall _ (by decide)) (.inl rfl) rfl⟩
                · exact ⟨by simp, I.val_at (i := 1) (by decide) (hall _ (by decide)) (.inl rfl) rfl⟩
                · exact ⟨by simp, I.val_at (i := 2) (by decide) (hall _ (by decide)) (.inl rfl) rfl⟩
                · exact ⟨by simp, I.val_at (i := 3) (by decide) (hall _ (by decide)) (.inl rfl) rfl⟩
                · exact ⟨by simp, I.val_at (i := 4) (by decide) (hall _ (by decide)) (.inl rfl) rfl⟩
                · exact ⟨by simp, I.val_at (i := 5) (by decide) (hall _ (by decide)) (.inl rfl) rfl⟩
                · exact ⟨by simp, I.val_at (i := 6) (by decide) (hall _ (by decide)) (.inl rfl) rfl⟩
                · exact ⟨by simp, I.val_at (i := 7) (by decide) (hall _ (by decide)) (.inl rfl) rfl⟩
                · exact ⟨by simp, I.val_at (i := 8) (by decide) (hall _ (by decide)) (.inl rfl) rfl⟩
                · exact ⟨by simp, I.val_at (i := 9) (by decide) (hall _ (by decide)) (.inl rfl) rfl⟩
                · exact ⟨by simp, I.val_at (i := 10) (by decide) (hall _ (by decide)) (.inl rfl) rfl⟩
                · exact ⟨by simp, I.val_at (i := 11) (by decide) (hall _ (by decide)) (.inl rfl) rfl⟩
                · exact ⟨by simp, I.val_at (i := 12) (by decide) (hall _ (by decide)) (.inl rfl) rfl⟩) (by kernel_rfl)
              have BY := hide (show Below wN.heap.size wN wx from bto BE.out I.up)
              clear I hall
              subst fr
              dsimp only [setsL, List.set_cons_zero, List.set_cons_succ]
              have LQ : q < 100 := by omega
              go_wp2
              go_roundw
              case rel => exact .mk 2 (by go_num) (by rw [EQ.out]; go_num) (by omega) BY.out
              case measure => simp [intOf]
          · have h0 : mask / 4 % 2 = 0 := by omega
            have hm : ¬ mB mask 2 = true := fun h => hb (of_decide_eq_true h)
            have P1 : bits .and .i64 (mask / 4) 1 = 0 := by rw [and_one64]; exact h0
            have P2 : bits .and .i64 (mask.fdiv 4) 1 = 0 := by rw [Int.fdiv_eq_ediv_of_nonneg _ (by decide)]; exact P1
            replace EQ := hide (show (nmJ mask 2).length = q by rw [EQ.out, if_neg hm, List.append_nil, HQ.out])
            clear hb hm AT CNm0 h0
            go_wp2
            go_roundw
            case rel => exact .mk 2 (by go_num) (by rw [EQ.out]) (by omega) BE.out
            case measure => simp [intOf]
        · by_cases hb : mask / 8 % 2 = 1
          · have hm : mB mask 3 = true := decide_eq_true hb
            have P1 : bits .and .i64 (mask / 8) 1 = 1 := by rw [and_one64]; exact hb
            have P2 : bits .and .i64 (mask.fdiv 8) 1 = 1 := by rw [Int.fdiv_eq_ediv_of_nonneg _ (by decide)]; exact P1
            replace EQ := hide (show (nmJ mask 3).length = q + 1 by rw [EQ.out, if_pos hm, List.length_append, HQ.out]; rfl)
            obtain ⟨gb, cap, hlv, hcell⟩ := own_cell1 OWN.out (AT.out hm)
            obtain ⟨rfl, rfl⟩ : sa = some ⟨gb, 0, none⟩ ∧ sc = cap := by cases hlv; exact ⟨rfl, rfl⟩
            have HQN := hide (show q < nn by have := (List.getElem?_eq_some_iff.1 (AT.out hm)).1; have h2 := HNN.out; omega)
            have hgb := World.block_lt_of_cell? _ _ hcell
            have CQ := hide (fun (W : World) (h : Below wr.heap.size wr W) => show W.cell? ⟨gb, q, none⟩ = some (.string (unNm 3)) from ((bto BE.out h).cell (p := ⟨gb, q, none⟩) hgb).trans hcell)
            have CNm := hide (fun (W : World) (h : Below wr.heap.size wr W) => CNm0.out W)
            clear hb hm AT CNm0 hcell hgb
            (try clear hlv)
            go_upto_region 9 with fail
            refine wp_region_kdQ (by kernel_rfl) (kdS9 gb nn sc q 3) (Stat.of (by kernel_rfl)) (acy_of (by kernel_rfl)) ?_ ?_
            · as_aux_lemma =>
                intro Q' i o ho blk listed a wx I hd
                have hi : i < 13 := (Array.getElem?_eq_some_iff.1 ho).1
                rcases (show i = 0 ∨ i = 1 ∨ i = 2 ∨ i = 3 ∨ i = 4 ∨ i = 5 ∨ i = 6 ∨ i = 7 ∨ i = 8 ∨ i = 9 ∨ i = 10 ∨ i = 11 ∨ i = 12 by omega) with rfl | rfl | rfl | rfl | rfl | rfl | rfl | rfl | rfl | rfl | rfl | rfl | rfl
                · obtain rfl := Option.some.inj ho
                  exact wpOp_valW rfl (wn rfl) (run_mv rfl (show a.tmps.getD 8 undef = _ from (I.oth_at (by kernel_rfl)).trans rfl)) (show _ ∧ _ from ⟨rfl, be.Up.refl _⟩)
                · obtain rfl := Option.some.inj ho
                  exact wpOp_valW rfl (wn rfl) (run_mv rfl (show a.tmps.getD 7 undef = _ from (I.oth_at (by kernel_rfl)).trans rfl)) (show _ ∧ _ from ⟨rfl, be.Up.refl _⟩)
                · obtain rfl := Option.some.inj ho
                  exact wpOp_valW rfl (wn rfl) (run_lenS rfl rfl (I.val_at (i := 1) (by decide) (hd ⟨1, .data⟩ (by simp) rfl) (.inl rfl) rfl)) (show _ ∧ _ from ⟨rfl, be.Up.refl _⟩)
                · obtain rfl := Option.some.inj ho
                  exact wpOp_valW rfl (wn rfl) (run_geF rfl (I.val_at (i := 0) (by decide) (hd ⟨0, .data⟩ (by simp) rfl) (.inl rfl) rfl) (I.val_at (i := 2) (by decide) (hd ⟨2, .data⟩ (by simp) rfl) (.inl rfl) rfl) HQN.out) (show _ ∧ _ from ⟨rfl, be.Up.refl _⟩)
                · obtain rfl := Option.some.inj ho
                  exact wpOp_valW rfl (wn rfl) (run_mv rfl (I.val_at (i := 3) (by decide) (hd ⟨3, .data⟩ (by simp) rfl) (.inl rfl) rfl)) (show _ ∧ _ from ⟨rfl, be.Up.refl _⟩)
                · obtain rfl := Option.some.inj ho
                  exact wpOp_valW rfl (wgT (c := false) rfl rfl (I.val_at (i := 4) (by decide) (hd ⟨4, .guard⟩ (by simp) rfl) (.inl rfl) rfl) rfl) (run_mv rfl (show a.tmps.getD 7 undef = _ from (I.oth_at (by kernel_rfl)).trans rfl)) (show _ ∧ _ from ⟨rfl, be.Up.refl _⟩)
                · obtain rfl := Option.some.inj ho
                  exact wpOp_valW rfl (wgT (c := false) rfl rfl (I.val_at (i := 4) (by decide) (hd ⟨4, .guard⟩ (by simp) rfl) (.inl rfl) rfl) rfl) (run_mv rfl (show a.tmps.getD 8 undef = _ from (I.oth_at (by kernel_rfl)).trans rfl)) (show _ ∧ _ from ⟨rfl, be.Up.refl _⟩)
                · obtain rfl := Option.some.inj ho
                  exact wpOp_valW rfl (wgT (c := false) rfl rfl (I.val_at (i := 4) (by decide) (hd ⟨4, .guard⟩ (by simp) rfl) (.inl rfl) rfl) rfl) (run_ixS rfl (I.val_at (i := 5) (by decide) (hd ⟨5, .data⟩ (by simp) rfl) (.inl rfl) rfl) (I.val_at (i := 6) (by decide) (hd ⟨6, .data⟩ (by simp) rfl) (.inl rfl) rfl) HQN.out) (show _ ∧ _ from ⟨rfl, be.Up.refl _⟩)
                · obtain rfl := Option.some.inj ho
                  exact wpOp_valW rfl (wgT (c := false) rfl rfl (I.val_at (i := 4) (by decide) (hd ⟨4, .guard⟩ (by simp) rfl) (.inl rfl) rfl) rfl) (run_ldS rfl (I.val_at (i := 7) (by decide) (hd ⟨7, .data⟩ (by simp) rfl) (.inl rfl) rfl) (CQ.out wx I.up)) (show _ ∧ _ from ⟨rfl, be.Up.refl _⟩)
                · obtain rfl := Option.some.inj ho
                  exact wpOp_valW rfl (wgT (c := false) rfl rfl (I.val_at (i := 4) (by decide) (hd ⟨4, .guard⟩ (by simp) rfl) (.inl rfl) rfl) rfl) (run_mv rfl (show a.tmps.getD 9 undef = _ from (I.oth_at (by kernel_rfl)).trans rfl)) (show _ ∧ _ from ⟨rfl, be.Up.refl _⟩)
                · obtain rfl := Option.some.inj ho
                  have v0 := (I.val_at (i := 9) (by decide) (hd ⟨9, .data⟩ (by simp) rfl) (.inl rfl) rfl)
                  refine wpOp_callW rfl (wgT (c := false) rfl rfl (I.val_at (i := 4) (by decide) (hd ⟨4, .guard⟩ (by simp) rfl) (.inl rfl) rfl) rfl) (run_cl1 rfl rfl (fun v => enters_of Tryz.func14 (by kernel_rfl) rfl #[v] wx)) ?_
                  refine (show Calls Tryz.prog 14 #[a.tmps.getD _ undef] wx _ from ?_)
                  rw [v0]
                  exact (CNm.out wx I.up).mono (by rintro e w' ⟨rfl, hu⟩; exact ⟨_, rfl, (show _ ∧ _ from ⟨rfl, hu⟩)⟩)
                · obtain rfl := Option.some.inj ho
                  exact wpOp_valW rfl (wgT (c := false) rfl rfl (I.val_at (i := 4) (by decide) (hd ⟨4, .guard⟩ (by simp) rfl) (.inl rfl) rfl) rfl) (run_neS rfl (I.val_at (i := 8) (by decide) (hd ⟨8, .data⟩ (by simp) rfl) (.inl rfl) rfl) (I.val_at (i := 10) (by decide) (hd ⟨10, .data⟩ (by simp) rfl) (.inl rfl) rfl)) (show _ ∧ _ from ⟨rfl, be.Up.refl _⟩)
                · obtain rfl := Option.some.inj ho
                  exact wpOp_valW rfl (wn rfl) (run_pickF rfl (I.val_at (i := 4) (by decide) (hd ⟨4, .data⟩ (by simp) rfl) (.inl rfl) rfl) (I.val_at (i := 11) (by decide) (hd ⟨11, .data⟩ (by simp) rfl) (.inl rfl) rfl)) (show _ ∧ _ from ⟨rfl, be.Up.refl _⟩)
            · intro blk listed a' wx I hall
              have fr := I.frameL [(29, (.int .i64 (q : Nat))), (30, (.slice (some ⟨gb, 0, none⟩) nn sc)), (31, (.int .i64 (nn : Nat))), (32, (.bool false)), (33, (.bool false)), (34, (.slice (some ⟨gb, 0, none⟩) nn sc)), (35, (.int .i64 (q : Nat))), (36, (.pointer (some ⟨gb, q, none⟩))), (37, (.string (unNm 3))), (38, (.int .i64 (3 : Nat))), (39, (.string (unNm 3))), (40, (.bool false)), (41, (.bool false))] (by
                intro p hp
                simp only [List.mem_cons, List.not_mem_nil, or_false] at hp
                rcases hp with rfl | rfl | rfl | rfl | rfl | rfl | rfl | rfl | rfl | rfl | rfl | rfl | rfl
                · exact ⟨by simp, I.val_at (i := 0) (by decide) (hall _ (by decide)) (.inl rfl) rfl⟩
                · exact ⟨by simp, I.val_at (i := 1) (by decide) (hall _ (by decide)) (.inl rfl) rfl⟩
                · exact ⟨by simp, I.val_at (i := 2) (by decide) (hall _ (by decide)) (.inl rfl) rfl⟩
                · exact ⟨by simp, I.val_at (i := 3) (by decide) (hall _ (by decide)) (.inl rfl) rfl⟩
                · exact ⟨by simp, I.val_at (i := 4) (by decide) (hall _ (by decide)) (.inl rfl) rfl⟩
                · exact ⟨by simp, I.val_at (i := 5) (by decide) (hall _ (by decide)) (.inl rfl) rfl⟩
                · exact ⟨by simp, I.val_at (i := 6) (by decide) (hall _ (by decide)) (.inl rfl) rfl⟩
                · exact ⟨by simp, I.val_at (i := 7) (by decide) (hall _ (by decide)) (.inl rfl) rfl⟩
                · exact ⟨by simp, I.val_at (i := 8) (by decide) (hall _ (by decide)) (.inl rfl) rfl⟩
                · exact ⟨by simp, I.val_at (i := 9) (by decide) (hall _ (by decide)) (.inl rfl) rfl⟩
                · exact ⟨by simp, I.val_at (i := 10) (by decide) (hall _ (by decide)) (.inl rfl) rfl⟩
                · exact ⟨by simp, I.val_at (i := 11) (by decide) (hall _ (by decide)) (.inl rfl) rfl⟩
                · exact ⟨by simp, I.val_at (i := 12) (by decide) (hall _ (by decide)) (.inl rfl) rfl⟩) (by kernel_rfl)
              have BY := hide (show Below wN.heap.size wN wx from bto BE.out I.up)
              clear I hall
              subst fr
              dsimp only [setsL, List.set_cons_zero, List.set_cons_succ]
              have LQ : q < 100 := by omega
              go_wp2
              go_roundw
              case rel => exact .mk 3 (by go_num) (by rw [EQ.out]; go_num) (by omega) BY.out
              case measure => simp [intOf]
          · have h0 : mask / 8 % 2 = 0 := by omega
            have hm : ¬ mB mask 3 = true := fun h => hb (of_decide_eq_true h)
            have P1 : bits .and .i64 (mask / 8) 1 = 0 := by rw [and_one64]; exact h0
            have P2 : bits .and .i64 (mask.fdiv 8) 1 = 0 := by rw [Int.fdiv_eq_ediv_of_nonneg _ (by decide)]; exact P1
            replace EQ := hide (show (nmJ mask 3).length = q by rw [EQ.out, if_neg hm, List.append_nil, HQ.out])
            clear hb hm AT CNm0 h0
            go_wp2
            go_roundw
            case rel => exact .mk 3 (by go_num) (by rw [EQ.out]) (by omega) BE.out
            case measure => simp [intOf]
        · by_cases hb : mask / 16 % 2 = 1
          · have hm : mB mask 4 = true := decide_eq_true hb
            have P1 : bits .and .i64 (mask / 16) 1 = 1 := by rw [and_one64]; exact hb
            have P2 : bits .and .i64 (mask.fdiv 16) 1 = 1 := by rw [Int.fdiv_eq_ediv_of_nonneg _ (by decide)]; exact P1
            replace EQ := hide (show (nmJ mask 4).length = q + 1 by rw [EQ.out, if_pos hm, List.length_append, HQ.out]; rfl)
            obtain ⟨gb, cap, hlv, hcell⟩ := own_cell1 OWN.out (AT.out hm)
            obtain ⟨rfl, rfl⟩ : sa = some ⟨gb, 0, none⟩ ∧ sc = cap := by cases hlv; exact ⟨rfl, rfl⟩
            have HQN := hide (show q < nn by have := (List.getElem?_eq_some_iff.1 (AT.out hm)).1; have h2 := HNN.out; omega)
            have hgb := World.block_lt_of_cell? _ _ hcell
            have CQ := hide (fun (W : World) (h : Below wr.heap.size wr W) => show W.cell? ⟨gb, q, none⟩ = some (.string (unNm 4)) from ((bto BE.out h).cell (p := ⟨gb, q, none⟩) hgb).trans hcell)
            have CNm := hide (fun (W : World) (h : Below wr.heap.size wr W) => CNm0.out W)
            clear hb hm AT CNm0 hcell hgb
            (try clear hlv)
            go_upto_region 9 with fail
            refine wp_region_kdQ (by kernel_rfl) (kdS9 gb nn sc q 4) (Stat.of (by kernel_rfl)) (acy_of (by kernel_rfl)) ?_ ?_
            · as_aux_lemma =>
                intro Q' i o ho blk listed a wx I hd
                have hi : i < 13 := (Array.getElem?_eq_some_iff.1 ho).1
                rcases (show i = 0 ∨ i = 1 ∨ i = 2 ∨ i = 3 ∨ i = 4 ∨ i = 5 ∨ i = 6 ∨ i = 7 ∨ i = 8 ∨ i = 9 ∨ i = 10 ∨ i = 11 ∨ i = 12 by omega) with rfl | rfl | rfl | rfl | rfl | rfl | rfl | rfl | rfl | rfl | rfl | rfl | rfl
                · obtain rfl := Option.some.inj ho
                  exact wpOp_valW rfl (wn rfl) (run_mv rfl (show a.tmps.getD 8 undef = _ from (I.oth_at (by kernel_rfl)).trans rfl)) (show _ ∧ _ from ⟨rfl, be.Up.refl _⟩)
                · obtain rfl := Option.some.inj ho
                  exact wpOp_valW rfl (wn rfl) (run_mv rfl (show a.tmps.getD 7 undef = _ from (I.oth_at (by kernel_rfl)).trans rfl)) (show _ ∧ _ from ⟨rfl, be.Up.refl _⟩)
                · obtain rfl := Option.some.inj ho
                  exact wpOp_valW rfl (wn rfl) (run_lenS rfl rfl (I.val_at (i := 1) (by decide) (hd ⟨1, .data⟩ (by simp) rfl) (.inl rfl) rfl)) (show _ ∧ _ from ⟨rfl, be.Up.refl _⟩)
                · obtain rfl := Option.some.inj ho
                  exact wpOp_valW rfl (wn rfl) (run_geF rfl (I.val_at (i := 0) (by decide) (hd ⟨0, .data⟩ (by simp) rfl) (.inl rfl) rfl) (I.val_at (i := 2) (by decide) (hd ⟨2, .data⟩ (by simp) rfl) (.inl rfl) rfl) HQN.out) (show _ ∧ _ from ⟨rfl, be.Up.refl _⟩)
                · obtain rfl := Option.some.inj ho
                  exact wpOp_valW rfl (wn rfl) (run_mv rfl (I.val_at (i := 3) (by decide) (hd ⟨3, .data⟩ (by simp) rfl) (.inl rfl) rfl)) (show _ ∧ _ from ⟨rfl, be.Up.refl _⟩)
                · obtain rfl := Option.some.inj ho
                  exact wpOp_valW rfl (wgT (c := false) rfl rfl (I.val_at (i := 4) (by decide) (hd ⟨4, .guard⟩ (by simp) rfl) (.inl rfl) rfl) rfl) (run_mv rfl (show a.tmps.getD 7 undef = _ from (I.oth_at (by kernel_rfl)).trans rfl)) (show _ ∧ _ from ⟨rfl, be.Up.refl _⟩)
                · obtain rfl := Option.some.inj ho
                  exact wpOp_valW rfl (wgT (c := false) rfl rfl (I.val_at (i := 4) (by decide) (hd ⟨4, .guard⟩ (by simp) rfl) (.inl rfl) rfl) rfl) (run_mv rfl (show a.tmps.getD 8 undef = _ from (I.oth_at (by kernel_rfl)).trans rfl)) (show _ ∧ _ from ⟨rfl, be.Up.refl _⟩)
                · obtain rfl := Option.some.inj ho
                  exact wpOp_valW rfl (wgT (c := false) rfl rfl (I.val_at (i := 4) (by decide) (hd ⟨4, .guard⟩ (by simp) rfl) (.inl rfl) rfl) rfl) (run_ixS rfl (I.val_at (i := 5) (by decide) (hd ⟨5, .data⟩ (by simp) rfl) (.inl rfl) rfl) (I.val_at (i := 6) (by decide) (hd ⟨6, .data⟩ (by simp) rfl) (.inl rfl) rfl) HQN.out) (show _ ∧ _ from ⟨rfl, be.Up.refl _⟩)
                · obtain rfl := Option.some.inj ho
                  exact wpOp_valW rfl (wgT (c := false) rfl rfl (I.val_at (i := 4) (by decide) (hd ⟨4, .guard⟩ (by simp) rfl) (.inl rfl) rfl) rfl) (run_ldS rfl (I.val_at (i := 7) (by decide) (hd ⟨7, .data⟩ (by simp) rfl) (.inl rfl) rfl) (CQ.out wx I.up)) (show _ ∧ _ from ⟨rfl, be.Up.refl _⟩)
                · obtain rfl := Option.some.inj ho
                  exact wpOp_valW rfl (wgT (c := false) rfl rfl (I.val_at (i := 4) (by decide) (hd ⟨4, .guard⟩ (by simp) rfl) (.inl rfl) rfl) rfl) (run_mv rfl (show a.tmps.getD 9 undef = _ from (I.oth_at (by kernel_rfl)).trans rfl)) (show _ ∧ _ from ⟨rfl, be.Up.refl _⟩)
                · obtain rfl := Option.some.inj ho
                  have v0 := (I.val_at (i := 9) (by decide) (hd ⟨9, .data⟩ (by simp) rfl) (.inl rfl) rfl)
                  refine wpOp_callW rfl (wgT (c := false) rfl rfl (I.val_at (i := 4) (by decide) (hd ⟨4, .guard⟩ (by simp) rfl) (.inl rfl) rfl) rfl) (run_cl1 rfl rfl (fun v => enters_of Tryz.func14 (by kernel_rfl) rfl #[v] wx)) ?_
                  refine (show Calls Tryz.prog 14 #[a.tmps.getD _ undef] wx _ from ?_)
                  rw [v0]
                  exact (CNm.out wx I.up).mono (by rintro e w' ⟨rfl, hu⟩; exact ⟨_, rfl, (show _ ∧ _ from ⟨rfl, hu⟩)⟩)
                · obtain rfl := Option.some.inj ho
                  exact wpOp_valW rfl (wgT (c := false) rfl rfl (I.val_at (i := 4) (by decide) (hd ⟨4, .guard⟩ (by simp) rfl) (.inl rfl) rfl) rfl) (run_neS rfl (I.val_at (i := 8) (by decide) (hd ⟨8, .data⟩ (by simp) rfl) (.inl rfl) rfl) (I.val_at (i := 10) (by decide) (hd ⟨10, .data⟩ (by simp) rfl) (.inl rfl) rfl)) (show _ ∧ _ from ⟨rfl, be.Up.refl _⟩)
                · obtain rfl := Option.some.inj ho
                  exact wpOp_valW rfl (wn rfl) (run_pickF rfl (I.val_at (i := 4) (by decide) (hd ⟨4, .data⟩ (by simp) rfl) (.inl rfl) rfl) (I.val_at (i := 11) (by decide) (hd ⟨11, .data⟩ (by simp) rfl) (.inl rfl) rfl)) (show _ ∧ _ from ⟨rfl, be.Up.refl _⟩)
            · intro blk listed a' wx I hall
              have fr := I.frameL [(29, (.int .i64 (q : Nat))), (30, (.slice (some ⟨gb, 0, none⟩) nn sc)), (31, (.int .i64 (nn : Nat))), (32, (.bool false)), (33, (.bool false)), (34, (.slice (some ⟨gb, 0, none⟩) nn sc)), (35, (.int .i64 (q : Nat))), (36, (.pointer (some ⟨gb, q, none⟩))), (37, (.string (unNm 4))), (38, (.int .i64 (4 : Nat))), (39, (.string (unNm 4))), (40, (.bool false)), (41, (.bool false))] (by
                intro p hp
                simp only [List.mem_cons, List.not_mem_nil, or_false] at hp
                rcases hp with rfl | rfl | rfl | rfl | rfl | rfl | rfl | rfl | rfl | rfl | rfl | rfl | rfl
                · exact ⟨by simp, I.val_at (i := 0) (by decide) (hall _ (by decide)) (.inl rfl) rfl⟩
                · exact ⟨by simp, I.val_at (i := 1) (by decide) (hall _ (by decide)) (.inl rfl) rfl⟩
                · exact ⟨by simp, I.val_at (i := 2) (by decide) (hall _ (by decide)) (.inl rfl) rfl⟩
                · exact ⟨by simp, I.val_at (i := 3) (by decide) (hall _ (by decide)) (.inl rfl) rfl⟩
                · exact ⟨by simp, I.val_at (i := 4) (by decide) (hall _ (by decide)) (.inl rfl) rfl⟩
                · exact ⟨by simp, I.val_at (i := 5) (by decide) (hall _ (by decide)) (.inl rfl) rfl⟩
                · exact ⟨by simp, I.val_at (i := 6) (by decide) (hall _ (by decide)) (.inl rfl) rfl⟩
                · exact ⟨by simp, I.val_at (i := 7) (by decide) (hall _ (by decide)) (.inl rfl) rfl⟩
                · exact ⟨by simp, I.val_at (i := 8) (by decide) (hall _ (by decide)) (.inl rfl) rfl⟩
                · exact ⟨by simp, I.val_at (i := 9) (by decide) (hall _ (by decide)) (.inl rfl) rfl⟩
                · exact ⟨by simp, I.val_at (i := 10) (by decide) (hall _ (by decide)) (.inl rfl) rfl⟩
                · exact ⟨by simp, I.val_at (i := 11) (by decide) (hall _ (by decide)) (.inl rfl) rfl⟩
                · exact ⟨by simp, I.val_at (i := 12) (by decide) (hall _ (by decide)) (.inl rfl) rfl⟩) (by kernel_rfl)
              have BY := hide (show Below wN.heap.size wN wx from bto BE.out I.up)
              clear I hall
              subst fr
              dsimp only [setsL, List.set_cons_zero, List.set_cons_succ]
              have LQ : q < 100 := by omega
              go_wp2
              go_roundw
              case rel => exact .mk 4 (by go_num) (by rw [EQ.out]; go_num) (by omega) BY.out
              case measure => simp [intOf]
          · have h0 : mask / 16 % 2 = 0 := by omega
            have hm : ¬ mB mask 4 = true := fun h => hb (of_decide_eq_true h)
            have P1 : bits .and .i64 (mask / 16) 1 = 0 := by rw [and_one64]; exact h0
            have P2 : bits .and .i64 (mask.fdiv 16) 1 = 0 := by rw [Int.fdiv_eq_ediv_of_nonneg _ (by decide)]; exact P1
            replace EQ := hide (show (nmJ mask 4).length = q by rw [EQ.out, if_neg hm, List.append_nil, HQ.out])
            clear hb hm AT CNm0 h0
            go_wp2
            go_roundw
            case rel => exact .mk 4 (by go_num) (by rw [EQ.out]) (by omega) BE.out
            case measure => simp [intOf]
        · by_cases hb : mask / 32 % 2 = 1
          · have hm : mB mask 5 = true := decide_eq_true hb
            have P1 : bits .and .i64 (mask / 32) 1 = 1 := by rw [and_one64]; exact hb
            have P2 : bits .and .i64 (mask.fdiv 32) 1 = 1 := by rw [Int.fdiv_eq_ediv_of_nonneg _ (by decide)]; exact P1
            replace EQ := hide (show (nmJ mask 5).length = q + 1 by rw [EQ.out, if_pos hm, List.length_append, HQ.out]; rfl)
            obtain ⟨gb, cap, hlv, hcell⟩ := own_cell1 OWN.out (AT.out hm)
            obtain ⟨rfl, rfl⟩ : sa = some ⟨gb, 0, none⟩ ∧ sc = cap := by cases hlv; exact ⟨rfl, rfl⟩
            have HQN := hide (show q < nn by have := (List.getElem?_eq_some_iff.1 (AT.out hm)).1; have h2 := HNN.out; omega)
            have hgb := World.block_lt_of_cell? _ _ hcell
            have CQ := hide (fun (W : World) (h : Below wr.heap.size wr W) => show W.cell? ⟨gb, q, none⟩ = some (.string (unNm 5)) from ((bto BE.out h).cell (p := ⟨gb, q, none⟩) hgb).trans hcell)
            have CNm := hide (fun (W : World) (h : Below wr.heap.size wr W) => CNm0.out W)
            clear hb hm AT CNm0 hcell hgb
            (try clear hlv)
            go_upto_region 9 with fail
            refine wp_region_kdQ (by kernel_rfl) (kdS9 gb nn sc q 5) (Stat.of (by kernel_rfl)) (acy_of (by kernel_rfl)) ?_ ?_
            · as_aux_lemma =>
                intro Q' i o ho blk listed a wx I hd
                have hi : i < 13 := (Array.getElem?_eq_some_iff.1 ho).1
                rcases (show i = 0 ∨ i = 1 ∨ i = 2 ∨ i = 3 ∨ i = 4 ∨ i = 5 ∨ i = 6 ∨ i = 7 ∨ i = 8 ∨ i = 9 ∨ i = 10 ∨ i = 11 ∨ i = 12 by omega) with rfl | rfl | rfl | rfl | rfl | rfl | rfl | rfl | rfl | rfl | rfl | rfl | rfl
                · obtain rfl := Option.some.inj ho
                  exact wpOp_valW rfl (wn rfl) (run_mv rfl (show a.tmps.getD 8 undef = _ from (I.oth_at (by kernel_rfl)).trans rfl)) (show _ ∧ _ from ⟨rfl, be.Up.refl _⟩)
                · obtain rfl := Option.some.inj ho
                  exact wpOp_valW rfl (wn rfl) (run_mv rfl (show a.tmps.getD 7 undef = _ from (I.oth_at (by kernel_rfl)).trans rfl)) (show _ ∧ _ from ⟨rfl, be.Up.refl _⟩)
                · obtain rfl := Option.some.inj ho
                  exact wpOp_valW rfl (wn rfl) (run_lenS rfl rfl (I.val_at (i := 1) (by decide) (hd ⟨1, .data⟩ (by simp) rfl) (.inl rfl) rfl)) (show _ ∧ _ from ⟨rfl, be.Up.refl _⟩)
                · obtain rfl := Option.some.inj ho
                  exact wpOp_valW rfl (wn rfl) (run_geF rfl (I.val_at (i := 0) (by decide) (hd ⟨0, .data⟩ (by simp) rfl) (.inl rfl) rfl) (I.val_at (i := 2) (by decide) (hd ⟨2, .data⟩ (by simp) rfl) (.inl rfl) rfl) HQN.out) (show _ ∧ _ from ⟨rfl, be.Up.refl _⟩)
                · obtain rfl := Option.some.inj ho
                  exact wpOp_valW rfl (wn rfl) (run_mv rfl (I.val_at (i := 3) (by decide) (hd ⟨3, .data⟩ (by simp) rfl) (.inl rfl) rfl)) (show _ ∧ _ from ⟨rfl, be.Up.refl _⟩)
                · obtain rfl := Option.some.inj ho
                  exact wpOp_valW rfl (wgT (c := false) rfl rfl (I.val_at (i := 4) (by decide) (hd ⟨4, .guard⟩ (by simp) rfl) (.inl rfl) rfl) rfl) (run_mv rfl (show a.tmps.getD 7 undef = _ from (I.oth_at (by kernel_rfl)).trans rfl)) (show _ ∧ _ from ⟨rfl, be.Up.refl _⟩)
                · obtain rfl := Option.some.inj ho
                  exact wpOp_valW rfl (wgT (c := false) rfl rfl (I.val_at (i := 4) (by decide) (hd ⟨4, .guard⟩ (by simp) rfl) (.inl rfl) rfl) rfl) (run_mv rfl (show a.tmps.getD 8 undef = _ from (I.oth_at (by kernel_rfl)).trans rfl)) (show _ ∧ _ from ⟨rfl, be.Up.refl _⟩)
                · obtain rfl := Option.some.inj ho
                  exact wpOp_valW rfl (wgT (c := false) rfl rfl (I.val_at (i := 4) (by decide) (hd ⟨4, .guard⟩ (by simp) rfl) (.inl rfl) rfl) rfl) (run_ixS rfl (I.val_at (i := 5) (by decide) (hd ⟨5, .data⟩ (by simp) rfl) (.inl rfl) rfl) (I.val_at (i := 6) (by decide) (hd ⟨6, .data⟩ (by simp) rfl) (.inl rfl) rfl) HQN.out) (show _ ∧ _ from ⟨rfl, be.Up.refl _⟩)
                · obtain rfl := Option.some.inj ho
                  exact wpOp_valW rfl (wgT (c := false) rfl rfl (I.val_at (i := 4) (by decide) (hd ⟨4, .guard⟩ (by simp) rfl) (.inl rfl) rfl) rfl) (run_ldS rfl (I.val_at (i := 7) (by decide) (hd ⟨7, .data⟩ (by simp) rfl) (.inl rfl) rfl) (CQ.out wx I.up)) (show _ ∧ _ from ⟨rfl, be.Up.refl _⟩)
                · obtain rfl := Option.some.inj ho
                  exact wpOp_valW rfl (wgT (c := false) rfl rfl (I.val_at (i := 4) (by decide) (hd ⟨4, .guard⟩ (by simp) rfl) (.inl rfl) rfl) rfl) (run_mv rfl (show a.tmps.getD 9 undef = _ from (I.oth_at (by kernel_rfl)).trans rfl)) (show _ ∧ _ from ⟨rfl, be.Up.refl _⟩)
                · obtain rfl := Option.some.inj ho
                  have v0 := (I.val_at (i := 9) (by decide) (hd ⟨9, .data⟩ (by simp) rfl) (.inl rfl) rfl)
                  refine wpOp_callW rfl (wgT (c := false) rfl rfl (I.val_at (i := 4) (by decide) (hd ⟨4, .guard⟩ (by simp) rfl) (.inl rfl) rfl) rfl) (run_cl1 rfl rfl (fun v => enters_of Tryz.func14 (by kernel_rfl) rfl #[v] wx)) ?_
                  refine (show Calls Tryz.prog 14 #[a.tmps.getD _ undef] wx _ from ?_)
                  rw [v0]
                  exact (CNm.out wx I.up).mono (by rintro e w' ⟨rfl, hu⟩; exact ⟨_, rfl, (show _ ∧ _ from ⟨rfl, hu⟩)⟩)
                · obtain rfl := Option.some.inj ho
                  exact wpOp_valW rfl (wgT (c := false) rfl rfl (I.val_at (i := 4) (by decide) (hd ⟨4, .guard⟩ (by simp) rfl) (.inl rfl) rfl) rfl) (run_neS rfl (I.val_at (i := 8) (by decide) (hd ⟨8, .data⟩ (by simp) rfl) (.inl rfl) rfl) (I.val_at (i := 10) (by decide) (hd ⟨10, .data⟩ (by simp) rfl) (.inl rfl) rfl)) (show _ ∧ _ from ⟨rfl, be.Up.refl _⟩)
                · obtain rfl := Option.some.inj ho
                  exact wpOp_valW rfl (wn rfl) (run_pickF rfl (I.val_at (i := 4) (by decide) (hd ⟨4, .data⟩ (by simp) rfl) (.inl rfl) rfl) (I.val_at (i := 11) (by decide) (hd ⟨11, .data⟩ (by simp) rfl) (.inl rfl) rfl)) (show _ ∧ _ from ⟨rfl, be.Up.refl _⟩)
            · intro blk listed a' wx I hall
              have fr := I.frameL [(29, (.int .i64 (q : Nat))), (30, (.slice (some ⟨gb, 0, none⟩) nn sc)), (31, (.int .i64 (nn : Nat))), (32, (.bool false)), (33, (.bool false)), (34, (.slice (some ⟨gb, 0, none⟩) nn sc)), (35, (.int .i64 (q : Nat))), (36, (.pointer (some ⟨gb, q, none⟩))), (37, (.string (unNm 5))), (38, (.int .i64 (5 : Nat))), (39, (.string (unNm 5))), (40, (.bool false)), (41, (.bool false))] (by
                intro p hp
                simp only [List.mem_cons, List.not_mem_nil, or_false] at hp
                rcases hp with rfl | rfl | rfl | rfl | rfl | rfl | rfl | rfl | rfl | rfl | rfl | rfl | rfl
                · exact ⟨by simp, I.val_at (i := 0) (by decide) (hall _ (by decide)) (.inl rfl) rfl⟩
                · exact ⟨by simp, I.val_at (i := 1) (by decide) (hall _ (by decide)) (.inl rfl) rfl⟩
                · exact ⟨by simp, I.val_at (i := 2) (by decide) (hall _ (by decide)) (.inl rfl) rfl⟩
                · exact ⟨by simp, I.val_at (i := 3) (by decide) (hall _ (by decide)) (.inl rfl) rfl⟩
                · exact ⟨by simp, I.val_at (i := 4) (by decide) (hall _ (by decide)) (.inl rfl) rfl⟩
                · exact ⟨by simp, I.val_at (i := 5) (by decide) (hall _ (by decide)) (.inl rfl) rfl⟩
                · exact ⟨by simp, I.val_at (i := 6) (by decide) (hall _ (by decide)) (.inl rfl) rfl⟩
                · exact ⟨by simp, I.val_at (i := 7) (by decide) (hall _ (by decide)) (.inl rfl) rfl⟩
                · exact ⟨by simp, I.val_at (i := 8) (by decide) (hall _ (by decide)) (.inl rfl) rfl⟩
                · exact ⟨by simp, I.val_at (i := 9) (by decide) (hall _ (by decide)) (.inl rfl) rfl⟩
                · exact ⟨by simp, I.val_at (i := 10) (by decide) (hall _ (by decide)) (.inl rfl) rfl⟩
                · exact ⟨by simp, I.val_at (i := 11) (by decide) (hall _ (by decide)) (.inl rfl) rfl⟩
                · exact ⟨by simp, I.val_at (i := 12) (by decide) (hall _ (by decide)) (.inl rfl) rfl⟩) (by kernel_rfl)
              have BY := hide (show Below wN.heap.size wN wx from bto BE.out I.up)
              clear I hall
              subst fr
              dsimp only [setsL, List.set_cons_zero, List.set_cons_succ]
              have LQ : q < 100 := by omega
              go_wp2
              go_roundw
              case rel => exact .mk 5 (by go_num) (by rw [EQ.out]; go_num) (by omega) BY.out
              case measure => simp [intOf]
          · have h0 : mask / 32 % 2 = 0 := by omega
            have hm : ¬ mB mask 5 = true := fun h => hb (of_decide_eq_true h)
            have P1 : bits .and .i64 (mask / 32) 1 = 0 := by rw [and_one64]; exact h0
            have P2 : bits .and .i64 (mask.fdiv 32) 1 = 0 := by rw [Int.fdiv_eq_ediv_of_nonneg _ (by decide)]; exact P1
            replace EQ := hide (show (nmJ mask 5).length = q by rw [EQ.out, if_neg hm, List.append_nil, HQ.out])
            clear hb hm AT CNm0 h0
            go_wp2
            go_roundw
            case rel => exact .mk 5 (by go_num) (by rw [EQ.out]) (by omega) BE.out
            case measure => simp [intOf]
        · by_cases hb : mask / 64 % 2 = 1
          · have hm : mB mask 6 = true := decide_eq_true hb
            have P1 : bits .and .i64 (mask / 64) 1 = 1 := by rw [and_one64]; exact hb
            have P2 : bits .and .i64 (mask.fdiv 64) 1 = 1 := by rw [Int.fdiv_eq_ediv_of_nonneg _ (by decide)]; exact P1
            replace EQ := hide (show (nmJ mask 6).length = q + 1 by rw [EQ.out, if_pos hm, List.length_append, HQ.out]; rfl)
            obtain ⟨gb, cap, hlv, hcell⟩ := own_cell1 OWN.out (AT.out hm)
            obtain ⟨rfl, rfl⟩ : sa = some ⟨gb, 0, none⟩ ∧ sc = cap := by cases hlv; exact ⟨rfl, rfl⟩
            have HQN := hide (show q < nn by have := (List.getElem?_eq_some_iff.1 (AT.out hm)).1; have h2 := HNN.out; omega)
            have hgb := World.block_lt_of_cell? _ _ hcell
            have CQ := hide (fun (W : World) (h : Below wr.heap.size wr W) => show W.cell? ⟨gb, q, none⟩ = some (.string (unNm 6)) from ((bto BE.out h).cell (p := ⟨gb, q, none⟩) hgb).trans hcell)
            have CNm := hide (fun (W : World) (h : Below wr.heap.size wr W) => CNm0.out W)
            clear hb hm AT CNm0 hcell hgb
            (try clear hlv)
            go_upto_region 9 with fail
            refine wp_region_kdQ (by kernel_rfl) (kdS9 gb nn sc q 6) (Stat.of (by kernel_rfl)) (acy_of (by kernel_rfl)) ?_ ?_
            · as_aux_lemma =>
                intro Q' i o ho blk listed a wx I hd
                have hi : i < 13 := (Array.getElem?_eq_some_iff.1 ho).1
                rcases (show i = 0 ∨ i = 1 ∨ i = 2 ∨ i = 3 ∨ i = 4 ∨ i = 5 ∨ i = 6 ∨ i = 7 ∨ i = 8 ∨ i = 9 ∨ i = 10 ∨ i = 11 ∨ i = 12 by omega) with rfl | rfl | rfl | rfl | rfl | rfl | rfl | rfl | rfl | rfl | rfl | rfl | rfl
                · obtain rfl := Option.some.inj ho
                  exact wpOp_valW rfl (wn rfl) (run_mv rfl (show a.tmps.getD 8 undef = _ from (I.oth_at (by kernel_rfl)).trans rfl)) (show _ ∧ _ from ⟨rfl, be.Up.refl _⟩)
                · obtain rfl := Option.some.inj ho
                  exact wpOp_valW rfl (wn rfl) (run_mv rfl (show a.tmps.getD 7 undef = _ from (I.oth_at (by kernel_rfl)).trans rfl)) (show _ ∧ _ from ⟨rfl, be.Up.refl _⟩)
                · obtain rfl := Option.some.inj ho
                  exact wpOp_valW rfl (wn rfl) (run_lenS rfl rfl (I.val_at (i := 1) (by decide) (hd ⟨1, .data⟩ (by simp) rfl) (.inl rfl) rfl)) (show _ ∧ _ from ⟨rfl, be.Up.refl _⟩)
                · obtain rfl := Option.some.inj ho
                  exact wpOp_valW rfl (wn rfl) (run_geF rfl (I.val_at (i := 0) (by decide) (hd ⟨0, .data⟩ (by simp) rfl) (.inl rfl) rfl) (I.val_at (i := 2) (by decide) (hd ⟨2, .data⟩ (by simp) rfl) (.inl rfl) rfl) HQN.out) (show _ ∧ _ from ⟨rfl, be.Up.refl _⟩)
                · obtain rfl := Option.some.inj ho
                  exact wpOp_valW rfl (wn rfl) (run_mv rfl (I.val_at (i := 3) (by decide) (hd ⟨3, .data⟩ (by simp) rfl) (.inl rfl) rfl)) (show _ ∧ _ from ⟨rfl, be.Up.refl _⟩)
                · obtain rfl := Option.some.inj ho
                  exact wpOp_valW rfl (wgT (c := false) rfl rfl (I.val_at (i := 4) (by decide) (hd ⟨4, .guard⟩ (by simp) rfl) (.inl rfl) rfl) rfl) (run_mv rfl (show a.tmps.getD 7 undef = _ from (I.oth_at (by kernel_rfl)).trans rfl)) (show _ ∧ _ from ⟨rfl, be.Up.refl _⟩)
                · obtain rfl := Option.some.inj ho
                  exact wpOp_valW rfl (wgT (c := false) rfl rfl (I.val_at (i := 4) (by decide) (hd ⟨4, .guard⟩ (by simp) rfl) (.inl rfl) rfl) rfl) (run_mv rfl (show a.tmps.getD 8 undef = _ from (I.oth_at (by kernel_rfl)).trans rfl)) (show _ ∧ _ from ⟨rfl, be.Up.refl _⟩)
                · obtain rfl := Option.some.inj ho
                  exact wpOp_valW rfl (wgT (c := false) rfl rfl (I.val_at (i := 4) (by decide) (hd ⟨4, .guard⟩ (by simp) rfl) (.inl rfl) rfl) rfl) (run_ixS rfl (I.val_at (i := 5) (by decide) (hd ⟨5, .data⟩ (by simp) rfl) (.inl rfl) rfl) (I.val_at (i := 6) (by decide) (hd ⟨6, .data⟩ (by simp) rfl) (.inl rfl) rfl) HQN.out) (show _ ∧ _ from ⟨rfl, be.Up.refl _⟩)
                · obtain rfl := Option.some.inj ho
                  exact wpOp_valW rfl (wgT (c := false) rfl rfl (I.val_at (i := 4) (by decide) (hd ⟨4, .guard⟩ (by simp) rfl) (.inl rfl) rfl) rfl) (run_ldS rfl (I.val_at (i := 7) (by decide) (hd ⟨7, .data⟩ (by simp) rfl) (.inl rfl) rfl) (CQ.out wx I.up)) (show _ ∧ _ from ⟨rfl, be.Up.refl _⟩)
                · obtain rfl := Option.some.inj ho
                  exact wpOp_valW rfl (wgT (c := false) rfl rfl (I.val_at (i := 4) (by decide) (hd ⟨4, .guard⟩ (by simp) rfl) (.inl rfl) rfl) rfl) (run_mv rfl (show a.tmps.getD 9 undef = _ from (I.oth_at (by kernel_rfl)).trans rfl)) (show _ ∧ _ from ⟨rfl, be.Up.refl _⟩)
                · obtain rfl := Option.some.inj ho
                  have v0 := (I.val_at (i := 9) (by decide) (hd ⟨9, .data⟩ (by simp) rfl) (.inl rfl) rfl)
                  refine wpOp_callW rfl (wgT (c := false) rfl rfl (I.val_at (i := 4) (by decide) (hd ⟨4, .guard⟩ (by simp) rfl) (.inl rfl) rfl) rfl) (run_cl1 rfl rfl (fun v => enters_of Tryz.func14 (by kernel_rfl) rfl #[v] wx)) ?_
                  refine (show Calls Tryz.prog 14 #[a.tmps.getD _ undef] wx _ from ?_)
                  rw [v0]
                  exact (CNm.out wx I.up).mono (by rintro e w' ⟨rfl, hu⟩; exact ⟨_, rfl, (show _ ∧ _ from ⟨rfl, hu⟩)⟩)
                · obtain rfl := Option.some.inj ho
                  exact wpOp_valW rfl (wgT (c := false) rfl rfl (I.val_at (i := 4) (by decide) (hd ⟨4, .guard⟩ (by simp) rfl) (.inl rfl) rfl) rfl) (run_neS rfl (I.val_at (i := 8) (by decide) (hd ⟨8, .data⟩ (by simp) rfl) (.inl rfl) rfl) (I.val_at (i := 10) (by decide) (hd ⟨10, .data⟩ (by simp) rfl) (.inl rfl) rfl)) (show _ ∧ _ from ⟨rfl, be.Up.refl _⟩)
                · obtain rfl := Option.some.inj ho
                  exact wpOp_valW rfl (wn rfl) (run_pickF rfl (I.val_at (i := 4) (by decide) (hd ⟨4, .data⟩ (by simp) rfl) (.inl rfl) rfl) (I.val_at (i := 11) (by decide) (hd ⟨11, .data⟩ (by simp) rfl) (.inl rfl) rfl)) (show _ ∧ _ from ⟨rfl, be.Up.refl _⟩)
            · intro blk listed a' wx I hall
              have fr := I.frameL [(29, (.int .i64 (q : Nat))), (30, (.slice (some ⟨gb, 0, none⟩) nn sc)), (31, (.int .i64 (nn : Nat))), (32, (.bool false)), (33, (.bool false)), (34, (.slice (some ⟨gb, 0, none⟩) nn sc)), (35, (.int .i64 (q : Nat))), (36, (.pointer (some ⟨gb, q, none⟩))), (37, (.string (unNm 6))), (38, (.int .i64 (6 : Nat))), (39, (.string (unNm 6))), (40, (.bool false)), (41, (.bool false))] (by
                intro p hp
                simp only [List.mem_cons, List.not_mem_nil, or_false] at hp
                rcases hp with rfl | rfl | rfl | rfl | rfl | rfl | rfl | rfl | rfl | rfl | rfl | rfl | rfl
                · exact ⟨by simp, I.val_at (i := 0) (by decide) (hall _ (by decide)) (.inl rfl) rfl⟩
                · exact ⟨by simp, I.val_at (i := 1) (by decide) (hall _ (by decide)) (.inl rfl) rfl⟩
                · exact ⟨by simp, I.val_at (i := 2) (by decide) (hall _ (by decide)) (.inl rfl) rfl⟩
                · exact ⟨by simp, I.val_at (i := 3) (by decide) (hall _ (by decide)) (.inl rfl) rfl⟩
                · exact ⟨by simp, I.val_at (i := 4) (by decide) (hall _ (by decide)) (.inl rfl) rfl⟩
                · exact ⟨by simp, I.val_at (i := 5) (by decide) (hall _ (by decide)) (.inl rfl) rfl⟩
                · exact ⟨by simp, I.val_at (i := 6) (by decide) (hall _ (by decide)) (.inl rfl) rfl⟩
                · exact ⟨by simp, I.val_at (i := 7) (by decide) (hall _ (by decide)) (.inl rfl) rfl⟩
                · exact ⟨by simp, I.val_at (i := 8) (by decide) (hall _ (by decide)) (.inl rfl) rfl⟩
                · exact ⟨by simp, I.val_at (i := 9) (by decide) (hall _ (by decide)) (.inl rfl) rfl⟩
                · exact ⟨by simp, I.val_at (i := 10) (by decide) (hall _ (by decide)) (.inl rfl) rfl⟩
                · exact ⟨by simp, I.val_at (i := 11) (by decide) (hall _ (by decide)) (.inl rfl) rfl⟩
                · exact ⟨by simp, I.val_at (i := 12) (by decide) (hall _ (by decide)) (.inl rfl) rfl⟩) (by kernel_rfl)
              have BY := hide (show Below wN.heap.size wN wx from bto BE.out I.up)
              clear I hall
              subst fr
              dsimp only [setsL, List.set_cons_zero, List.set_cons_succ]
              have LQ : q < 100 := by omega
              go_wp2
              go_roundw
              case rel => exact .mk 6 (by go_num) (by rw [EQ.out]; go_num) (by omega) BY.out
              case measure => simp [intOf]
          · have h0 : mask / 64 % 2 = 0 := by omega
            have hm : ¬ mB mask 6 = true := fun h => hb (of_decide_eq_true h)
            have P1 : bits .and .i64 (mask / 64) 1 = 0 := by rw [and_one64]; exact h0
            have P2 : bits .and .i64 (mask.fdiv 64) 1 = 0 := by rw [Int.fdiv_eq_ediv_of_nonneg _ (by decide)]; exact P1
            replace EQ := hide (show (nmJ mask 6).length = q by rw [EQ.out, if_neg hm, List.append_nil, HQ.out])
            clear hb hm AT CNm0 h0
            go_wp2
            go_roundw
            case rel => exact .mk 6 (by go_num) (by rw [EQ.out]) (by omega) BE.out
            case measure => simp [intOf]
        · by_cases hb : mask / 128 % 2 = 1
          · have hm : mB mask 7 = true := decide_eq_true hb
            have P1 : bits .and .i64 (mask / 128) 1 = 1 := by rw [and_one64]; exact hb
            have P2 : bits .and .i64 (mask.fdiv 128) 1 = 1 := by rw [Int.fdiv_eq_ediv_of_nonneg _ (by decide)]; exact P1
            replace EQ := hide (show (nmJ mask 7).length = q + 1 by rw [EQ.out, if_pos hm, List.length_append, HQ.out]; rfl)
            obtain ⟨gb, cap, hlv, hcell⟩ := own_cell1 OWN.out (AT.out hm)
            obtain ⟨rfl, rfl⟩ : sa = some ⟨gb, 0, none⟩ ∧ sc = cap := by cases hlv; exact ⟨rfl, rfl⟩
            have HQN := hide (show q < nn by have := (List.getElem?_eq_some_iff.1 (AT.out hm)).1; have h2 := HNN.out; omega)
            have hgb := World.block_lt_of_cell? _ _ hcell
            have CQ := hide (fun (W : World) (h : Below wr.heap.size wr W) => show W.cell? ⟨gb, q, none⟩ = some (.string (unNm 7)) from ((bto BE.out h).cell (p := ⟨gb, q, none⟩) hgb).trans hcell)
            have CNm := hide (fun (W : World) (h : Below wr.heap.size wr W) => CNm0.out W)
            clear hb hm AT CNm0 hcell hgb
            (try clear hlv)
            go_upto_region 9 with fail
            refine wp_region_kdQ (by kernel_rfl) (kdS9 gb nn sc q 7) (Stat.of (by kernel_rfl)) (acy_of (by kernel_rfl)) ?_ ?_
            · as_aux_lemma =>
                intro Q' i o ho blk listed a wx I hd
                have hi : i < 13 := (Array.getElem?_eq_some_iff.1 ho).1
                rcases (show i = 0 ∨ i = 1 ∨ i = 2 ∨ i = 3 ∨ i = 4 ∨ i = 5 ∨ i = 6 ∨ i = 7 ∨ i = 8 ∨ i = 9 ∨ i = 10 ∨ i = 11 ∨ i = 12 by omega) with rfl | rfl | rfl | rfl | rfl | rfl | rfl | rfl | rfl | rfl | rfl | rfl | rfl
                · obtain rfl := Option.some.inj ho
                  exact wpOp_valW rfl (wn rfl) (run_mv rfl (show a.tmps.getD 8 undef = _ from (I.oth_at (by kernel_rfl)).trans rfl)) (show _ ∧ _ from ⟨rfl, be.Up.refl _⟩)
                · obtain rfl := Option.some.inj ho
                  exact wpOp_valW rfl (wn rfl) (run_mv rfl (show a.tmps.getD 7 undef = _ from (I.oth_at (by kernel_rfl)).trans rfl)) (show _ ∧ _ from ⟨rfl, be.Up.refl _⟩)
                · obtain rfl := Option.some.inj ho
                  exact wpOp_valW rfl (wn rfl) (run_lenS rfl rfl (I.val_at (i := 1) (by decide) (hd ⟨1, .data⟩ (by simp) rfl) (.inl rfl) rfl)) (show _ ∧ _ from ⟨rfl, be.Up.refl _⟩)
                · obtain rfl := Option.some.inj ho
                  exact wpOp_valW rfl (wn rfl) (run_geF rfl (I.val_at (i := 0) (by decide) (hd ⟨0, .data⟩ (by simp) rfl) (.inl rfl) rfl) (I.val_at (i := 2) (by decide) (hd ⟨2, .data⟩ (by simp) rfl) (.inl rfl) rfl) HQN.out) (show _ ∧ _ from ⟨rfl, be.Up.refl _⟩)
                · obtain rfl := Option.some.inj ho
                  exact wpOp_valW rfl (wn rfl) (run_mv rfl (I.val_at (i := 3) (by decide) (hd ⟨3, .data⟩ (by simp) rfl) (.inl rfl) rfl)) (show _ ∧ _ from ⟨rfl, be.Up.refl _⟩)
                · obtain rfl := Option.some.inj ho
                  exact wpOp_valW rfl (wgT (c := false) rfl rfl (I.val_at (i := 4) (by decide) (hd ⟨4, .guard⟩ (by simp) rfl) (.inl rfl) rfl) rfl) (run_mv rfl (show a.tmps.getD 7 undef = _ from (I.oth_at (by kernel_rfl)).trans rfl)) (show _ ∧ _ from ⟨rfl, be.Up.refl _⟩)
                · obtain rfl := Option.some.inj ho
                  exact wpOp_valW rfl (wgT (c := false) rfl rfl (I.val_at (i := 4) (by decide) (hd ⟨4, .guard⟩ (by simp) rfl) (.inl rfl) rfl) rfl) (run_mv rfl (show a.tmps.getD 8 undef = _ from (I.oth_at (by kernel_rfl)).trans rfl)) (show _ ∧ _ from ⟨rfl, be.Up.refl _⟩)
                · obtain rfl := Option.some.inj ho
                  exact wpOp_valW rfl (wgT (c := false) rfl rfl (I.val_at (i := 4) (by decide) (hd ⟨4, .guard⟩ (by simp) rfl) (.inl rfl) rfl) rfl) (run_ixS rfl (I.val_at (i := 5) (by decide) (hd ⟨5, .data⟩ (by simp) rfl) (.inl rfl) rfl) (I.val_at (i := 6) (by decide) (hd ⟨6, .data⟩ (by simp) rfl) (.inl rfl) rfl) HQN.out) (show _ ∧ _ from ⟨rfl, be.Up.refl _⟩)
                · obtain rfl := Option.some.inj ho
                  exact wpOp_valW rfl (wgT (c := false) rfl rfl (I.val_at (i := 4) (by decide) (hd ⟨4, .guard⟩ (by simp) rfl) (.inl rfl) rfl) rfl) (run_ldS rfl (I.val_at (i := 7) (by decide) (hd ⟨7, .data⟩ (by simp) rfl) (.inl rfl) rfl) (CQ.out wx I.up)) (show _ ∧ _ from ⟨rfl, be.Up.refl _⟩)
                · obtain rfl := Option.some.inj ho
                  exact wpOp_valW rfl (wgT (c := false) rfl rfl (I.val_at (i := 4) (by decide) (hd ⟨4, .guard⟩ (by simp) rfl) (.inl rfl) rfl) rfl) (run_mv rfl (show a.tmps.getD 9 undef = _ from (I.oth_at (by kernel_rfl)).trans rfl)) (show _ ∧ _ from ⟨rfl, be.Up.refl _⟩)
                · obtain rfl := Option.some.inj ho
                  have v0 := (I.val_at (i := 9) (by decide) (hd ⟨9, .data⟩ (by simp) rfl) (.inl rfl) rfl)
                  refine wpOp_callW rfl (wgT (c := false) rfl rfl (I.val_at (i := 4) (by decide) (hd ⟨4, .guard⟩ (by simp) rfl) (.inl rfl) rfl) rfl) (run_cl1 rfl rfl (fun v => enters_of Tryz.func14 (by kernel_rfl) rfl #[v] wx)) ?_
                  refine (show Calls Tryz.prog 14 #[a.tmps.getD _ undef] wx _ from ?_)
                  rw [v0]
                  exact (CNm.out wx I.up).mono (by rintro e w' ⟨rfl, hu⟩; exact ⟨_, rfl, (show _ ∧ _ from ⟨rfl, hu⟩)⟩)
                · obtain rfl := Option.some.inj ho
                  exact wpOp_valW rfl (wgT (c := false) rfl rfl (I.val_at (i := 4) (by decide) (hd ⟨4, .guard⟩ (by simp) rfl) (.inl rfl) rfl) rfl) (run_neS rfl (I.val_at (i := 8) (by decide) (hd ⟨8, .data⟩ (by simp) rfl) (.inl rfl) rfl) (I.val_at (i := 10) (by decide) (hd ⟨10, .data⟩ (by simp) rfl) (.inl rfl) rfl)) (show _ ∧ _ from ⟨rfl, be.Up.refl _⟩)
                · obtain rfl := Option.some.inj ho
                  exact wpOp_valW rfl (wn rfl) (run_pickF rfl (I.val_at (i := 4) (by decide) (hd ⟨4, .data⟩ (by simp) rfl) (.inl rfl) rfl) (I.val_at (i := 11) (by decide) (hd ⟨11, .data⟩ (by simp) rfl) (.inl rfl) rfl)) (show _ ∧ _ from ⟨rfl, be.Up.refl _⟩)
            · intro blk listed a' wx I hall
              have fr := I.frameL [(29, (.int .i64 (q : Nat))), (30, (.slice (some ⟨gb, 0, none⟩) nn sc)), (31, (.int .i64 (nn : Nat))), (32, (.bool false)), (33, (.bool false)), (34, (.slice (some ⟨gb, 0, none⟩) nn sc)), (35, (.int .i64 (q : Nat))), (36, (.pointer (some ⟨gb, q, none⟩))), (37, (.string (unNm 7))), (38, (.int .i64 (7 : Nat))), (39, (.string (unNm 7))), (40, (.bool false)), (41, (.bool false))] (by
                intro p hp
                simp only [List.mem_cons, List.not_mem_nil, or_false] at hp
                rcases hp with rfl | rfl | rfl | rfl | rfl | rfl | rfl | rfl | rfl | rfl | rfl | rfl | rfl
                · exact ⟨by simp, I.val_at (i := 0) (by decide) (hall _ (by decide)) (.inl rfl) rfl⟩
                · exact ⟨by simp, I.val_at (i := 1) (by decide) (hall _ (by decide)) (.inl rfl) rfl⟩
                · exact ⟨by simp, I.val_at (i := 2) (by decide) (hall _ (by decide)) (.inl rfl) rfl⟩
                · exact ⟨by simp, I.val_at (i := 3) (by decide) (hall _ (by decide)) (.inl rfl) rfl⟩
                · exact ⟨by simp, I.val_at (i := 4) (by decide) (hall _ (by decide)) (.inl rfl) rfl⟩
                · exact ⟨by simp, I.val_at (i := 5) (by decide) (hall _ (by decide)) (.inl rfl) rfl⟩
                · exact ⟨by simp, I.val_at (i := 6) (by decide) (hall _ (by decide)) (.inl rfl) rfl⟩
                · exact ⟨by simp, I.val_at (i := 7) (by decide) (hall _ (by decide)) (.inl rfl) rfl⟩
                · exact ⟨by simp, I.val_at (i := 8) (by decide) (hall _ (by decide)) (.inl rfl) rfl⟩
                · exact ⟨by simp, I.val_at (i := 9) (by decide) (hall _ (by decide)) (.inl rfl) rfl⟩
                · exact ⟨by simp, I.val_at (i := 10) (by decide) (hall _ (by decide)) (.inl rfl) rfl⟩
                · exact ⟨by simp, I.val_at (i := 11) (by decide) (hall _ (by decide)) (.inl rfl) rfl⟩
                · exact ⟨by simp, I.val_at (i := 12) (by decide) (hall _ (by decide)) (.inl rfl) rfl⟩) (by kernel_rfl)
              have BY := hide (show Below wN.heap.size wN wx from bto BE.out I.up)
              clear I hall
              subst fr
              dsimp only [setsL, List.set_cons_zero, List.set_cons_succ]
              have LQ : q < 100 := by omega
              go_wp2
              go_roundw
              case rel => exact .mk 7 (by go_num) (by rw [EQ.out]; go_num) (by omega) BY.out
              case measure => simp [intOf]
          · have h0 : mask / 128 % 2 = 0 := by omega
            have hm : ¬ mB mask 7 = true := fun h => hb (of_decide_eq_true h)
            have P1 : bits .and .i64 (mask / 128) 1 = 0 := by rw [and_one64]; exact h0
            have P2 : bits .and .i64 (mask.fdiv 128) 1 = 0 := by rw [Int.fdiv_eq_ediv_of_nonneg _ (by decide)]; exact P1
            replace EQ := hide (show (nmJ mask 7).length = q by rw [EQ.out, if_neg hm, List.append_nil, HQ.out])
            clear hb hm AT CNm0 h0
            go_wp2
            go_roundw
            case rel => exact .mk 7 (by go_num) (by rw [EQ.out]) (by omega) BE.out
            case measure => simp [intOf]
      · obtain rfl : j = 7 := by omega
        have CA2 := hide (CA.out wr (bto BN.out BE.out))
        have HE := HNN.out
        (try rw [HE])
        go_wp2_with (go_at_call 15; refine CA2.out.mono ?_; rintro e w5 ⟨rfl, B5⟩; have BB := hide (bto (bto BN.out BE.out) B5))
        go_ret
        exact ⟨rfl, BB.out⟩
end Go.Proofs.YtdnnidnghaifgaaGreatDoor.nm
