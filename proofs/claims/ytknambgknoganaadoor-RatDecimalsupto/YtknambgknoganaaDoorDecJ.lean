/-
  Digits times a power of ten, by the reference.
-/
import Derived.Test.YtknambgknoganaaDoorDecG
import Derived.Lib.SmallJoins
import Derived.Lib.ConvBytes
import Derived.Deep.RegionWith
set_option linter.unusedVariables false
set_option linter.unusedSimpArgs false
namespace Go.Proofs.YtknambgknoganaaDoor
open Go.RowKit

theorem c0_go {D : List Int} {k : Nat} (h : nx D k = 48) : cut0 (D.drop k) = cut0 (D.drop (k + 1)) := by
  rw [nx_cons (by omega), h]
  unfold cut0
  rw [List.dropWhile_cons_of_pos (by rfl)]
theorem c0_stop {D : List Int} {k : Nat} (h : nx D k ≠ 48) : cut0 (D.drop k) = D.drop k := by
  by_cases hk : k < D.length
  · have e : D.drop k = nx D k :: D.drop (k + 1) := by
      rw [List.drop_eq_getElem_cons hk]
      congr 1
      simp [nx, List.getD_eq_getElem?_getD, List.getElem?_eq_getElem hk]
    rw [e]; unfold cut0
    rw [List.dropWhile_cons_of_neg (by simpa using h)]
  · rw [List.drop_of_length_le (by omega)]; rfl
theorem cR_go {F : List Int} {j : Nat} (h : nx F j = 48) : cutR (F.take (j + 1)) = cutR (F.take j) := by
  rw [nx_take (by omega), h]
  unfold cutR
  rw [List.reverse_append]
  show ((48 :: (F.take j).reverse).dropWhile _).reverse = _
  rw [List.dropWhile_cons_of_pos (by rfl)]
theorem cR_stop {F : List Int} {j : Nat} (h : nx F j ≠ 48) (h2 : nx F j ≠ -1) : cutR (F.take (j + 1)) = F.take (j + 1) := by
  rw [nx_take h2]
  unfold cutR
  rw [List.reverse_append]
  show ((nx F j :: (F.take j).reverse).dropWhile _).reverse = _
  rw [List.dropWhile_cons_of_neg (by simpa using h)]
  simp
def Rel1 (D : List Int) (n : Nat) (a : Value) : Prop := ∃ k : Nat, k ≤ n ∧ a = .int .i64 k ∧ Hid (cut0 D = cut0 (D.drop k))
theorem Rel1.mk {D : List Int} {n : Nat} {a : Value} (k : Nat) (h1 : k ≤ n) (h2 : a = .int .i64 k) (h3 : cut0 D = cut0 (D.drop k)) : Rel1 D n a := ⟨k, h1, h2, h3⟩
def Rel2 (D : List Int) (n k : Nat) (e0 : Int) (e b : Value) : Prop := ∃ m : Nat, k + 1 ≤ m ∧ m ≤ n ∧ b = .int .i64 m ∧ e = .int .i64 (e0 + ((n - m : Nat) : Int)) ∧ Hid (cutR (D.drop k) = cutR ((D.drop k).take (m - k)))
theorem Rel2.mk {D : List Int} {n k : Nat} {e0 : Int} {e b : Value} (m : Nat) (h0 : k + 1 ≤ m) (h1 : m ≤ n) (h2 : b = .int .i64 m) (h3 : e = .int .i64 (e0 + ((n - m : Nat) : Int))) (h4 : cutR (D.drop k) = cutR ((D.drop k).take (m - k))) : Rel2 D n k e0 e b := ⟨m, h0, h1, h2, h3, h4⟩
def Rel3 (ds : List Int) (n i : Value) : Prop := ∃ k m : Nat, k ≤ ds.length ∧ i = .int .i64 k ∧ n = .int .u64 m ∧ m < 1000000000000000000 ∧ Hid (m = natOf (ds.take k))
theorem Rel3.mk {ds : List Int} {n i : Value} (k m : Nat) (h1 : k ≤ ds.length) (h2 : i = .int .i64 k) (h3 : n = .int .u64 m) (h4 : m < 1000000000000000000) (h5 : m = natOf (ds.take k)) : Rel3 ds n i := ⟨k, m, h1, h2, h3, h4, h5⟩
theorem natOf_take_lt {l : List Int} (h : Digs l) (hl : l.length ≤ 18) (k : Nat) : natOf (l.take k) < 1000000000000000000 := Nat.lt_of_le_of_lt (natOf_take l k) (natOf_lt h hl)
theorem over_any (w : World) : Calls Tryd.prog 9 #[] w fun e w' => e = .returned (.agg #[.int .i64 0, .int .i64 0]) ∧ ∃ c, w' = w.alloc (.cells c 23) := by
  go_enter Tryd.func9, Tryd.ntmps9
  go_wp2
  refine bodyPost_ret (v := .agg #[.int .i64 0, .int .i64 0]) (by simp [results, Tryd.results9, go_sem]) rfl ⟨rfl, _, rfl⟩
theorem intR_any (n : Int) (w : World) : Calls Tryd.prog 21 #[.int .i64 n] w fun e w' => e = .returned (.agg #[.int .i64 n, .int .i64 1]) ∧ ∃ c, w' = w.alloc (.cells c 23) := by
  go_enter Tryd.func21, Tryd.ntmps21
  go_wp2
  refine bodyPost_ret (v := .agg #[.int .i64 n, .int .i64 1]) (by simp [results, Tryd.results21, go_sem]) rfl ⟨rfl, _, rfl⟩
def RelPw (P : Nat) (d t : Value) : Prop := ∃ m k : Nat, d = .int .u64 m ∧ t = .int .i64 k ∧ 1 ≤ m ∧ m ≤ 4611686018427387904 ∧ k ≤ 62 ∧ Hid (m * 2 ^ k = P)
theorem RelPw.mk {P : Nat} {d t : Value} (m k : Nat) (h1 : d = .int .u64 m) (h2 : t = .int .i64 k) (h3 : 1 ≤ m) (h4 : m ≤ 4611686018427387904) (h5 : k ≤ 62) (h6 : m * 2 ^ k = P) : RelPw P d t := ⟨m, k, h1, h2, h3, h4, h5, h6⟩
theorem pw_le {m k t : Nat} (h : m * 2 ^ k = 2 ^ t) (hk : 1 ≤ k) (ht : t ≤ 62) : m * 2 ≤ 4611686018427387904 := by
  obtain ⟨j, rfl⟩ : ∃ j, k = j + 1 := ⟨k - 1, by omega⟩
  have h1 : 1 ≤ 2 ^ j := Nat.pow_pos (by omega)
  have h2 : m * 2 * 1 ≤ m * 2 * 2 ^ j := Nat.mul_le_mul_left _ h1
  have h3 : 2 ^ t ≤ 2 ^ 62 := Nat.pow_le_pow_right (by omega) ht
  have h4 : (2 : Nat) ^ 62 = 4611686018427387904 := by decide
  rw [Nat.pow_succ, Nat.mul_comm (2 ^ j), ← Nat.mul_assoc] at h
  omega
theorem dn_over2 {a b : Nat} (h : 62 < a ∨ 27 < b) : ¬ 2 ^ a * 5 ^ b ≤ 9223372036854775807 := by
  have p5 : 1 ≤ 5 ^ b := Nat.pow_pos (by omega)
  have p2 : 1 ≤ 2 ^ a := Nat.pow_pos (by omega)
  rcases h with h | h
  · have h1 : 2 ^ 63 ≤ 2 ^ a := Nat.pow_le_pow_right (by omega) h
    have h2 : (2 : Nat) ^ 63 = 9223372036854775808 := by decide
    have h3 : 2 ^ a * 1 ≤ 2 ^ a * 5 ^ b := Nat.mul_le_mul_left _ p5
    omega
  · have h1 : 5 ^ 28 ≤ 5 ^ b := Nat.pow_le_pow_right (by omega) h
    have h2 : (9223372036854775807 : Nat) < 5 ^ 28 := by decide
    have h3 : 1 * 5 ^ b ≤ 2 ^ a * 5 ^ b := Nat.mul_le_mul_right _ p2
    omega
theorem fr_up {n q : Nat} : fr n (q : Int) = fracUp n q := by unfold fr; rw [if_pos (by omega)]; simp
theorem fr_dn {n q : Nat} (h : 1 ≤ q) : fr n (-(q : Int)) = fracDn n q := by unfold fr; rw [if_neg (by omega)]; simp
theorem fracUp_no {n q P : Nat} (h : n * 10 ^ q = P) (g : ¬ P ≤ 9223372036854775807) : fracUp n q = (0, 0) := by unfold fracUp; rw [h, if_neg g]
theorem fracUp_yes {n q P : Nat} (h : n * 10 ^ q = P) (g : P ≤ 9223372036854775807) : fracUp n q = ((P : Int), 1) := by unfold fracUp; rw [h, if_pos g]
theorem fracDn_no {n q m t m' t' : Nat} (h : strip 2 n q = (m, t)) (h' : strip 5 m q = (m', t')) (g : ¬ 2 ^ t * 5 ^ t' ≤ 9223372036854775807) : fracDn n q = (0, 0) := by
  unfold fracDn; rw [h]; dsimp only; rw [h']; dsimp only; rw [if_neg g]
theorem fracDn_yes {n q m t m' t' P : Nat} (h : strip 2 n q = (m, t)) (h' : strip 5 m q = (m', t')) (hP : 2 ^ t * 5 ^ t' = P) (g : P ≤ 9223372036854775807) : fracDn n q = ((m' : Int), (P : Int)) := by
  unfold fracDn; rw [h]; dsimp only; rw [h']; dsimp only; rw [hP, if_pos g]
set_option maxRecDepth 100000 in
set_option maxHeartbeats 4000000 in
theorem valueR_any (b : Bool) (s : ByteArray) (e : Int) (w : World) (hl : s.size ≤ 1000000000) (he : -18014398509481984 ≤ e ∧ e ≤ 18014398509481984) (hd : Digs (bl s)) :
    Calls Tryd.prog 10 #[.bool b, .string s, .int .i64 e] w fun e' w' => e' = .returned (ratV (valOf b (bl s) e).1 (valOf b (bl s) e).2) ∧ Below w.heap.size w w' := by
  have BEL := hide (Below.refl w.heap.size w)
  go_enter Tryd.func10, Tryd.ntmps10
  go_wp2
  go_loop [7] (fun a => Rel1 (bl s) s.size a) (fun a => s.size - (intOf a).toNat)
  case atStart => exact .mk 0 (by omega) rfl rfl
  case round =>
    obtain ⟨k, hk, rfl, R1⟩ := hrel
    by_cases hlt : k < s.size
    · have cx := bl_nx s k hlt
      by_cases hz : nx (bl s) k = 48
      · have R2 := hide (R1.out.trans (c0_go hz))
        have hb : ((s[k].toNat : Int) == 48) = true := by rw [← cx, hz]; rfl
        clear cx hz
        go_wp2
        go_round
        case rel => exact .mk (k + 1) (by omega) (by go_num) R2.out
        case measure => simp [intOf]; omega
      · have C0 := hide (R1.out.trans (c0_stop hz))
        have NZ := hide hz
        have hb : ((s[k].toNat : Int) == 48) = false := by rw [← cx]; simpa using hz
        have hne : ((k : Int) == s.size) = false := by simp; omega
        clear cx hz R1
        go_wp2
        clear hb hne
        go_loop [2, 8] (fun e' b' => Rel2 (bl s) s.size k e e' b') (fun _ b' => (intOf b').toNat)
        case atStart => exact .mk s.size (by omega) (Nat.le_refl _) rfl (by congr 1; omega) (by rw [List.take_of_length_le (by rw [List.length_drop, bl_len]; omega)])
        case round =>
          obtain ⟨m, hm0, hm, rfl, rfl, R2⟩ := hrel
          obtain ⟨j, rfl⟩ : ∃ j, m = j + 1 := ⟨m - 1, by omega⟩
          have hj : j < s.size := by omega
          have cy := bl_nx s j hj
          have X := hide (show nx ((bl s).drop k) (j - k) = nx (bl s) j by rw [nx_drop]; congr 1; omega)
          have J := hide (show j + 1 - k = (j - k) + 1 by omega)
          have hj1 : ((j + 1 : Nat) : Int) - 1 = j := by omega
          by_cases hz2 : nx (bl s) j = 48
          · have hjk : j ≠ k := by rintro rfl; exact NZ.out hz2
            have R3 := hide (show cutR ((bl s).drop k) = cutR (((bl s).drop k).take (j - k)) by
              rw [R2.out, J.out]; exact cR_go (X.out.trans hz2))
            have hb : ((s[j].toNat : Int) == 48) = true := by rw [← cy, hz2]; rfl
            clear cy hz2
            go_wp2
            go_round
            case rel => exact .mk j (by omega) (by omega) (by go_num) (by congr 1; omega) R3.out
            case measure => first | (simp [intOf]; done) | (simp [intOf]; omega)
          · have CN := hide (show cutR (cut0 (bl s)) = ((bl s).drop k).take (j + 1 - k) by
              rw [C0.out, R2.out, J.out]; exact cR_stop (by rw [X.out]; exact hz2) (by rw [X.out, cy]; omega))
            have hb : ((s[j].toNat : Int) == 48) = false := by rw [← cy]; simpa using hz2
            have LC := hide (show (cutR (cut0 (bl s))).length = j + 1 - k by rw [CN.out, List.length_take, List.length_drop, bl_len]; omega)
            have L0 := hide (show (cut0 (bl s)).length = s.size - k by rw [C0.out, List.length_drop, bl_len])
            have NE := hide (show cutR (cut0 (bl s)) ≠ [] by intro h; have := LC.out; rw [h] at this; simp at this; omega)
            have hjk : k ≤ j := by omega
            clear cy hz2 R2
            by_cases h18 : 18 < j + 1 - k
            · have V := hide (val_over (b := b) (k := e) NE.out (by rw [LC.out]; exact h18))
              have h18' : (18 : Int) < ((j + 1 : Nat) : Int) - k := by omega
              go_wp2_with (go_at_call 9; refine (over_any _).mono ?_; rintro e1 w1 ⟨rfl, c, rfl⟩)
              refine bodyPost_ret (v := .agg #[.int .i64 0, .int .i64 0]) (by simp [results, Tryd.results10, go_sem]) rfl ?_
              exact ⟨by rw [V.out]; rfl, by repeat (first | (with_reducible exact BEL.out) | (with_reducible refine Below.setCell ?_ (by simp) _) | (with_reducible refine bplus ?_ _) | (with_reducible exact Below.refl _ _))⟩
            · have h18' : ¬ (18 : Int) < ((j + 1 : Nat) : Int) - k := by omega
              have h18n : j + 1 - k ≤ 18 := by omega
              have V := hide (val_fr (b := b) (k := e) NE.out (by rw [LC.out]; exact h18n))
              have DG := hide hd.cut.2
              have TS := hide (show (s.extract k (j + 1)).size = j + 1 - k by rw [← bl_len, bl_mid, List.length_take, List.length_drop, bl_len]; omega)
              have TB := hide (show bl (s.extract k (j + 1)) = cutR (cut0 (bl s)) by rw [bl_mid, CN.out])
              obtain ⟨t, ht⟩ : ∃ t, s.extract k (j + 1) = t := ⟨_, rfl⟩
              obtain ⟨cs, hcs⟩ : ∃ cs, cutR (cut0 (bl s)) = cs := ⟨_, rfl⟩
              have CS := hide hcs
              rw [ht] at TS TB
              rw [hcs] at TB DG V LC NE
              have kc := fun W => Lib.run_convert_string_bytes (P := Tryd.prog) W 9 53 5 t (u := .string) Tryd.underlying9 Tryd.underlying53 Tryd.underlying5
              have hkj : (k : Int) ≤ ((j + 1 : Nat) : Int) := by omega
              have hjs : ((j + 1 : Nat) : Int) ≤ s.size := by omega
              go_wp2
              have hB0 : Below (w.alloc (.cells #[.int .i64 0, .int .i64 0] 23)).heap.size (w.alloc (.cells #[.int .i64 0, .int .i64 0] 23)) (Lib.bytesWorld (w.alloc (.cells #[.int .i64 0, .int .i64 0] 23)) 5 t) := Joins.below_bytesWorld _ _ _ _ (Nat.le_refl _)
              have BEL := hide (show Below w.heap.size w (Lib.bytesWorld (w.alloc (.cells #[.int .i64 0, .int .i64 0] 23)) 5 t) from bto (bplus (Below.refl _ _) _) hB0)
              have CB := hide (show ∀ i, i < t.size → ((Lib.bytesWorld (w.alloc (.cells #[.int .i64 0, .int .i64 0] 23)) 5 t)).cell? ⟨w.heap.size + 1, i, none⟩ = some (.int .u8 (nx cs i)) from fun i hi => by
                have h1 := Lib.bytesWorld_cell (w.alloc (.cells #[.int .i64 0, .int .i64 0] 23)) 5 t i hi
                rw [show (w.alloc (.cells #[.int .i64 0, .int .i64 0] 23)).heap.size = w.heap.size + 1 by simp] at h1
                rw [h1, ← TB.out, bl_nx t i hi]
                congr 3
                rw [List.getD_eq_getElem?_getD, List.getElem?_eq_getElem (show i < t.data.toList.length by rw [Array.length_toList]; exact hi)]
                simp [ByteArray.getElem_eq_getElem_data])
              have m0 : ((Lib.bytesWorld (w.alloc (.cells #[.int .i64 0, .int .i64 0] 23)) 5 t)).cell? ⟨w.heap.size, 0, none⟩ = some (.int .i64 0) := by rw [hB0.cell (p := ⟨w.heap.size, 0, none⟩) (by simp)]; simp [go_sem]
              have m1 : ((Lib.bytesWorld (w.alloc (.cells #[.int .i64 0, .int .i64 0] 23)) 5 t)).cell? ⟨w.heap.size, 1, none⟩ = some (.int .i64 0) := by rw [hB0.cell (p := ⟨w.heap.size, 1, none⟩) (by simp)]; simp [go_sem]
              have f0 : ((Lib.bytesWorld (w.alloc (.cells #[.int .i64 0, .int .i64 0] 23)) 5 t)).frozen? ⟨w.heap.size, 0, none⟩ = false := by rw [hB0.frozen (p := ⟨w.heap.size, 0, none⟩) (by simp)]; simp [go_sem]
              have f1 : ((Lib.bytesWorld (w.alloc (.cells #[.int .i64 0, .int .i64 0] 23)) 5 t)).frozen? ⟨w.heap.size, 1, none⟩ = false := by rw [hB0.frozen (p := ⟨w.heap.size, 1, none⟩) (by simp)]; simp [go_sem]
              have zN := World.block_lt_of_cell? _ _ m0
              generalize grownCap (w.alloc (.cells #[.int .i64 0, .int .i64 0] 23)) t.size 0 5 = gc at *
              clear hB0 kc
              generalize (Lib.bytesWorld (w.alloc (.cells #[.int .i64 0, .int .i64 0] 23)) 5 t) = W3 at *
              have ht9 : t.size ≤ 18 := by rw [TS.out]; exact h18n
              have TL := hide (show cs.length = t.size by rw [← bl_len, TB.out])
              have H18 := hide h18n
              have P0 := hide (show e + ((s.size - (j + 1) : Nat) : Int) = e + ((((cut0 (bl s)).length - cs.length) : Nat) : Int) by rw [L0.out, LC.out]; congr 2; omega)
              have hp1 : -18014398509481984 ≤ e + ((s.size - (j + 1) : Nat) : Int) ∧ e + ((s.size - (j + 1) : Nat) : Int) ≤ 18014399509481984 := by omega
              rw [← P0.out] at V
              generalize e + ((s.size - (j + 1) : Nat) : Int) = p at *
              clear h18 h18' h18n hjk hj1 hkj hjs hb ht hcs
              go_loop [9, 52] (fun n i => Rel3 cs n i) (fun _ i => cs.length - (intOf i).toNat)
              case atStart => exact .mk 0 0 (by omega) rfl rfl (by omega) (by simp [natOf])
              case round =>
                obtain ⟨i, m, hi, rfl, rfl, hm, R3⟩ := hrel
                by_cases hil : i < cs.length
                · have hit : i < t.size := by rw [← TL.out]; exact hil
                  have cz := CB.out i hit
                  obtain ⟨s1, s2, s3⟩ := natOf_step DG.out hil
                  have hm' := natOf_take_lt DG.out (by rw [TL.out]; exact ht9) (i + 1)
                  rw [s1, ← R3.out] at hm'
                  have S := hide s1
                  have HI := hide hil
                  have hit2 : (i : Int) < t.size := by omega
                  clear s1 hil
                  generalize nx cs i = x at *
                  go_wp2
                  go_round
                  case rel => exact .mk (i + 1) (m * 10 + (x - 48).toNat) HI.out (by go_num) (by congr 1; omega) (by omega) (by rw [S.out, ← R3.out])
                  case measure => have := HI.out; simp [intOf]; omega
                · have N := hide (show m = natOf cs by rw [R3.out, List.take_of_length_le (by omega)])
                  have hit2 : ¬ (i : Int) < t.size := by rw [TL.out] at hil; omega
                  have m1' : 1 ≤ m := by
                    rw [N.out, ← CS.out]
                    exact cnt_pos hd (by rw [CS.out]; exact NE.out)
                  rw [← N.out] at V
                  clear hil R3
                  by_cases hp : 0 ≤ p
                  · obtain ⟨q, rfl⟩ := Int.eq_ofNat_of_zero_le hp
                    rw [fr_up] at V
                    have hq9 : q ≤ 1152921504606846976 := by omega
                    obtain ⟨P, hP⟩ : ∃ P, m * 10 ^ q = P := ⟨_, rfl⟩
                    have HP := hide hP
                    clear hP hp hp1
                    go_wp2
                    go_loop [2, 9] (fun e n => RelMul 10 P n e) (fun e _ => (intOf e).toNat)
                    case atStart => exact .mk m q rfl rfl m1' (by omega) hq9 HP.out
                    case round =>
                      obtain ⟨m2, k2, rfl, rfl, a1, a2, a3, R4⟩ := hrel
                      by_cases hk : 0 < k2
                      · by_cases hm2 : m2 ≤ 922337203685477580
                        · have R5 := hide (pow_go R4.out hk)
                          have b1 : (m2 : Int) ≤ 922337203685477580 := by omega
                          have b2 : (0 : Int) < k2 := by omega
                          go_wp2
                          go_round
                          case rel => exact .mk (m2 * 10) (k2 - 1) (by go_num) (by go_num) (by omega) (by omega) (by omega) R5.out
                          case measure => first | (simp [intOf]; done) | (simp [intOf]; omega)
                        · have F := hide (fracUp_no HP.out (show ¬ P ≤ 9223372036854775807 by rw [← R4.out]; exact pow_over (by omega) (by omega) hk))
                          have b1 : 922337203685477580 < (m2 : Int) := by omega
                          have b2 : (0 : Int) < k2 := by omega
                          go_wp2_with (go_at_call 9; refine (over_any _).mono ?_; rintro e1 w1 ⟨rfl, c, rfl⟩)
                          refine bodyPost_ret (v := .agg #[.int .i64 0, .int .i64 0]) (by simp [results, Tryd.results10, go_sem, m0, m1, zN, Nat.ne_of_lt zN, Nat.ne_of_gt zN]) rfl ?_
                          exact ⟨by rw [V.out, F.out]; cases b <;> rfl, by repeat (first | (with_reducible exact BEL.out) | (with_reducible refine Below.setCell ?_ (by simp) _) | (with_reducible refine bplus ?_ _))⟩
                      · obtain rfl : k2 = 0 := by omega
                        have PM := hide (show m2 = P by have := R4.out; rw [Nat.pow_zero, Nat.mul_one] at this; exact this)
                        have F := hide (fracUp_yes HP.out (show P ≤ 9223372036854775807 by rw [← PM.out]; exact a2))
                        rw [← PM.out] at F
                        clear R4
                        cases b
                        · go_wp2
                          refine wp_loop_rounds 1 ?_
                          rw [rounds_succ]
                          go_wp2
                          refine wp_loop_rounds 1 ?_
                          rw [rounds_succ]
                          go_wp2
                          refine wp_loop_rounds 1 ?_
                          rw [rounds_succ]
                          go_wp2
                          refine wp_loop_rounds 1 ?_
                          rw [rounds_succ]
                          go_wp2
                          refine bodyPost_ret (v := .agg #[.int .i64 ((m2 : Int)), .int .i64 1]) (by simp [results, Tryd.results10, go_sem, m0, m1, zN, Nat.ne_of_lt zN, Nat.ne_of_gt zN]) rfl ?_
                          exact ⟨by rw [V.out, F.out]; rfl, by repeat (first | (with_reducible exact BEL.out) | (with_reducible refine Below.setCell ?_ (by simp) _) | (with_reducible refine bplus ?_ _))⟩
                        · go_wp2
                          refine wp_loop_rounds 1 ?_
                          rw [rounds_succ]
                          go_wp2
                          refine wp_loop_rounds 1 ?_
                          rw [rounds_succ]
                          go_wp2
                          refine wp_loop_rounds 1 ?_
                          rw [rounds_succ]
                          go_wp2
                          refine wp_loop_rounds 1 ?_
                          rw [rounds_succ]
                          go_wp2
                          refine bodyPost_ret (v := .agg #[.int .i64 (-(m2 : Int)), .int .i64 1]) (by simp [results, Tryd.results10, go_sem, m0, m1, zN, Nat.ne_of_lt zN, Nat.ne_of_gt zN]) rfl ?_
                          exact ⟨by rw [V.out, F.out]; rfl, by repeat (first | (with_reducible exact BEL.out) | (with_reducible refine Below.setCell ?_ (by simp) _) | (with_reducible refine bplus ?_ _))⟩
                  · obtain ⟨q, hq⟩ := Int.eq_ofNat_of_zero_le (show 0 ≤ -p by omega)
                    obtain rfl : p = -(q : Int) := by omega
                    have hq1 : 1 ≤ q := by omega
                    have hq9 : q ≤ 1152921504606846976 := by omega
                    rw [fr_dn hq1] at V
                    have hq2 : (0 : Int) < q := by omega
                    clear hq hp hp1 P0
                    go_wp2
                    refine wp_loop_rounds 1 ?_
                    rw [rounds_succ]
                    go_wp2
                    go_loop [9, 13] (fun n t => RelDiv 2 m q n t) (fun _ t => (intOf t).toNat)
                    case atStart => exact .mk m q rfl (by first | rfl | (congr 1; omega)) m1' (by omega) hq9 rfl
                    case round =>
                      obtain ⟨m2, t2, rfl, rfl, a1, a2, a3, R4⟩ := hrel
                      by_cases hg : 0 < t2 ∧ m2 % 2 = 0
                      · obtain ⟨hk, hm2⟩ := hg
                        obtain ⟨j2, rfl⟩ : ∃ j2, t2 = j2 + 1 := ⟨t2 - 1, by omega⟩
                        have R5 := hide (R4.out.trans (strip_go hm2))
                        have hk2 : (0 : Int) < ((j2 + 1 : Nat) : Int) := by omega
                        have hb2 : ((m2 : Int) % 2 == 0) = true := by simp; omega
                        go_wp2
                        go_round
                        case rel => exact .mk (m2 / 2) j2 (by go_num) (by go_num) (by omega) (by omega) (by omega) R5.out
                        case measure => first | (simp [intOf]; done) | (simp [intOf]; omega)
                      · have E2 := hide (show strip 2 m q = (m2, t2) by
                          rw [R4.out]
                          by_cases hk : t2 = 0
                          · subst hk; rfl
                          · exact strip_stop (fun h => hg ⟨by omega, h⟩))
                        clear R4
                        by_cases hk : 0 < t2
                        · have hb3 : ((m2 : Int) % 2 == 0) = false := by simp; omega
                          have hk2 : (0 : Int) < (t2 : Int) := by omega
                          clear hg
                          go_wp2
                          go_loop [9, 14] (fun n t => RelDiv 5 m2 q n t) (fun _ t => (intOf t).toNat)
                          case atStart => exact .mk m2 q rfl (by first | rfl | (congr 1; omega)) a1 (by omega) hq9 rfl
                          case round =>
                            obtain ⟨m5, t5, rfl, rfl, a1, a2, a3, R6⟩ := hrel
                            by_cases hg : 0 < t5 ∧ m5 % 5 = 0
                            · obtain ⟨hk, hm2⟩ := hg
                              obtain ⟨j5, rfl⟩ : ∃ j5, t5 = j5 + 1 := ⟨t5 - 1, by omega⟩
                              have R5 := hide (R6.out.trans (strip_go hm2))
                              have hk2 : (0 : Int) < ((j5 + 1 : Nat) : Int) := by omega
                              have hb2 : ((m5 : Int) % 5 == 0) = true := by simp; omega
                              go_wp2
                              go_round
                              case rel => exact .mk (m5 / 5) j5 (by go_num) (by go_num) (by omega) (by omega) (by omega) R5.out
                              case measure => first | (simp [intOf]; done) | (simp [intOf]; omega)
                            · have E5 := hide (show strip 5 m2 q = (m5, t5) by
                                rw [R6.out]
                                by_cases hk : t5 = 0
                                · subst hk; rfl
                                · exact strip_stop (fun h => hg ⟨by omega, h⟩))
                              clear R6
                              by_cases hk : 0 < t5
                              · have hb3 : ((m5 : Int) % 5 == 0) = false := by simp; omega
                                have hk2 : (0 : Int) < (t5 : Int) := by omega
                                clear hg
                                by_cases hov : 62 < t2 ∨ 27 < t5
                                · have F := hide (fracDn_no E2.out E5.out (dn_over2 hov))
                                  rcases (show 62 < t2 ∨ (t2 ≤ 62 ∧ 27 < t5) by omega) with o1 | ⟨o1, o2⟩
                                  · have o3 : (62 : Int) < ((t2 : Nat) : Int) := by omega
                                    clear hov
                                    go_wp2_with (go_at_call 9; refine (over_any _).mono ?_; rintro e1 w1 ⟨rfl, c, rfl⟩)
                                    refine bodyPost_ret (v := .agg #[.int .i64 0, .int .i64 0]) (by simp [results, Tryd.results10, go_sem, m0, m1, zN, Nat.ne_of_lt zN, Nat.ne_of_gt zN]) rfl ?_
                                    exact ⟨by rw [V.out, F.out]; cases b <;> rfl, by repeat (first | (with_reducible exact BEL.out) | (with_reducible refine Below.setCell ?_ (by simp) _) | (with_reducible refine bplus ?_ _))⟩
                                  · have o3 : ¬ (62 : Int) < ((t2 : Nat) : Int) := by omega
                                    have o4 : (27 : Int) < ((t5 : Nat) : Int) := by omega
                                    clear hov
                                    go_wp2_with (go_at_call 9; refine (over_any _).mono ?_; rintro e1 w1 ⟨rfl, c, rfl⟩)
                                    refine bodyPost_ret (v := .agg #[.int .i64 0, .int .i64 0]) (by simp [results, Tryd.results10, go_sem, m0, m1, zN, Nat.ne_of_lt zN, Nat.ne_of_gt zN]) rfl ?_
                                    exact ⟨by rw [V.out, F.out]; cases b <;> rfl, by repeat (first | (with_reducible exact BEL.out) | (with_reducible refine Below.setCell ?_ (by simp) _) | (with_reducible refine bplus ?_ _))⟩
                                · have o1 : t2 ≤ 62 := by omega
                                  have o2 : t5 ≤ 27 := by omega
                                  have o3 : ¬ (62 : Int) < ((t2 : Nat) : Int) := by omega
                                  have o4 : ¬ (27 : Int) < ((t5 : Nat) : Int) := by omega
                                  clear hov
                                  go_wp2
                                  go_loop [12, 13] (fun d t => RelPw (2 ^ t2) d t) (fun _ t => (intOf t).toNat)
                                  case atStart => exact .mk 1 t2 rfl rfl (by omega) (by omega) o1 (by omega)
                                  case round =>
                                    obtain ⟨d, x2, rfl, rfl, d1, d2, d3, R7⟩ := hrel
                                    by_cases hx : 0 < x2
                                    · have R8 := hide (pow_go R7.out hx)
                                      have d4 := pw_le R7.out hx o1
                                      have hx2 : (0 : Int) < x2 := by omega
                                      go_wp2
                                      go_round
                                      case rel => exact .mk (d * 2) (x2 - 1) (by go_num) (by go_num) (by omega) (by omega) (by omega) R8.out
                                      case measure => first | (simp [intOf]; done) | (simp [intOf]; omega)
                                    · obtain rfl : x2 = 0 := by omega
                                      have PD := hide (show d = 2 ^ t2 by have := R7.out; rw [Nat.pow_zero, Nat.mul_one] at this; exact this)
                                      obtain ⟨P, hP⟩ : ∃ P, 2 ^ t2 * 5 ^ t5 = P := ⟨_, rfl⟩
                                      have HP := hide hP
                                      clear hP R7
                                      go_wp2
                                      go_loop [12, 14] (fun d t => RelMul 5 P d t) (fun _ t => (intOf t).toNat)
                                      case atStart => exact .mk d t5 rfl rfl d1 (by omega) (by omega) (by rw [PD.out]; exact HP.out)
                                      case round =>
                                        obtain ⟨d', x5, rfl, rfl, b1, b2, b3, R9⟩ := hrel
                                        by_cases hx5 : 0 < x5
                                        · by_cases hd5 : d' ≤ 1844674407370955161
                                          · have R8 := hide (pow_go R9.out hx5)
                                            have g1 : (d' : Int) ≤ 1844674407370955161 := by omega
                                            have g2 : (0 : Int) < x5 := by omega
                                            go_wp2
                                            go_round
                                            case rel => exact .mk (d' * 5) (x5 - 1) (by go_num) (by go_num) (by omega) (by omega) (by omega) R8.out
                                            case measure => first | (simp [intOf]; done) | (simp [intOf]; omega)
                                          · have F := hide (fracDn_no E2.out E5.out (show ¬ 2 ^ t2 * 5 ^ t5 ≤ 9223372036854775807 by rw [HP.out, ← R9.out]; exact pow_over (by omega) (by omega) hx5))
                                            have g1 : 1844674407370955161 < (d' : Int) := by omega
                                            have g2 : (0 : Int) < x5 := by omega
                                            go_wp2_with (go_at_call 9; refine (over_any _).mono ?_; rintro e1 w1 ⟨rfl, c, rfl⟩)
                                            refine bodyPost_ret (v := .agg #[.int .i64 0, .int .i64 0]) (by simp [results, Tryd.results10, go_sem, m0, m1, zN, Nat.ne_of_lt zN, Nat.ne_of_gt zN]) rfl ?_
                                            exact ⟨by rw [V.out, F.out]; cases b <;> rfl, by repeat (first | (with_reducible exact BEL.out) | (with_reducible refine Below.setCell ?_ (by simp) _) | (with_reducible refine bplus ?_ _))⟩
                                        · obtain rfl : x5 = 0 := by omega
                                          have PM := hide (show d' = P by have := R9.out; rw [Nat.pow_zero, Nat.mul_one] at this; exact this)
                                          have F := hide (fracDn_yes E2.out E5.out HP.out (show P ≤ 9223372036854775807 by rw [← PM.out]; exact b2))
                                          rw [← PM.out] at F
                                          clear R9
                                          cases b
                                          · go_wp2
                                            refine bodyPost_ret (v := .agg #[.int .i64 ((m5 : Nat) : Int), .int .i64 (d' : Int)]) (by simp [results, Tryd.results10, go_sem, m0, m1, zN, Nat.ne_of_lt zN, Nat.ne_of_gt zN]) rfl ?_
                                            exact ⟨by rw [V.out, F.out]; rfl, by repeat (first | (with_reducible exact BEL.out) | (with_reducible refine Below.setCell ?_ (by simp) _) | (with_reducible refine bplus ?_ _))⟩
                                          · go_wp2
                                            refine bodyPost_ret (v := .agg #[.int .i64 (-((m5 : Nat) : Int)), .int .i64 (d' : Int)]) (by simp [results, Tryd.results10, go_sem, m0, m1, zN, Nat.ne_of_lt zN, Nat.ne_of_gt zN]) rfl ?_
                                            exact ⟨by rw [V.out, F.out]; rfl, by repeat (first | (with_reducible exact BEL.out) | (with_reducible refine Below.setCell ?_ (by simp) _) | (with_reducible refine bplus ?_ _))⟩
                              · obtain rfl : t5 = 0 := by omega
                                clear hg
                                by_cases hov : 62 < t2 ∨ 27 < 0
                                · have F := hide (fracDn_no E2.out E5.out (dn_over2 hov))
                                  rcases (show 62 < t2 ∨ (t2 ≤ 62 ∧ 27 < 0) by omega) with o1 | ⟨o1, o2⟩
                                  · have o3 : (62 : Int) < ((t2 : Nat) : Int) := by omega
                                    clear hov
                                    go_wp2_with (go_at_call 9; refine (over_any _).mono ?_; rintro e1 w1 ⟨rfl, c, rfl⟩)
                                    refine bodyPost_ret (v := .agg #[.int .i64 0, .int .i64 0]) (by simp [results, Tryd.results10, go_sem, m0, m1, zN, Nat.ne_of_lt zN, Nat.ne_of_gt zN]) rfl ?_
                                    exact ⟨by rw [V.out, F.out]; cases b <;> rfl, by repeat (first | (with_reducible exact BEL.out) | (with_reducible refine Below.setCell ?_ (by simp) _) | (with_reducible refine bplus ?_ _))⟩
                                  · exact absurd o2 (by omega)
                                · have o1 : t2 ≤ 62 := by omega
                                  have o2 : 0 ≤ 27 := by omega
                                  have o3 : ¬ (62 : Int) < ((t2 : Nat) : Int) := by omega
                                  have o4 : ¬ (27 : Int) < ((0 : Nat) : Int) := by omega
                                  clear hov
                                  go_wp2
                                  go_loop [12, 13] (fun d t => RelPw (2 ^ t2) d t) (fun _ t => (intOf t).toNat)
                                  case atStart => exact .mk 1 t2 rfl rfl (by omega) (by omega) o1 (by omega)
                                  case round =>
                                    obtain ⟨d, x2, rfl, rfl, d1, d2, d3, R7⟩ := hrel
                                    by_cases hx : 0 < x2
                                    · have R8 := hide (pow_go R7.out hx)
                                      have d4 := pw_le R7.out hx o1
                                      have hx2 : (0 : Int) < x2 := by omega
                                      go_wp2
                                      go_round
                                      case rel => exact .mk (d * 2) (x2 - 1) (by go_num) (by go_num) (by omega) (by omega) (by omega) R8.out
                                      case measure => first | (simp [intOf]; done) | (simp [intOf]; omega)
                                    · obtain rfl : x2 = 0 := by omega
                                      have PD := hide (show d = 2 ^ t2 by have := R7.out; rw [Nat.pow_zero, Nat.mul_one] at this; exact this)
                                      obtain ⟨P, hP⟩ : ∃ P, 2 ^ t2 * 5 ^ 0 = P := ⟨_, rfl⟩
                                      have HP := hide hP
                                      clear hP R7
                                      go_wp2
                                      go_loop [12, 14] (fun d t => RelMul 5 P d t) (fun _ t => (intOf t).toNat)
                                      case atStart => exact .mk d 0 rfl rfl d1 (by omega) (by omega) (by rw [PD.out]; exact HP.out)
                                      case round =>
                                        obtain ⟨d', x5, rfl, rfl, b1, b2, b3, R9⟩ := hrel
                                        by_cases hx5 : 0 < x5
                                        · by_cases hd5 : d' ≤ 1844674407370955161
                                          · have R8 := hide (pow_go R9.out hx5)
                                            have g1 : (d' : Int) ≤ 1844674407370955161 := by omega
                                            have g2 : (0 : Int) < x5 := by omega
                                            go_wp2
                                            go_round
                                            case rel => exact .mk (d' * 5) (x5 - 1) (by go_num) (by go_num) (by omega) (by omega) (by omega) R8.out
                                            case measure => first | (simp [intOf]; done) | (simp [intOf]; omega)
                                          · have F := hide (fracDn_no E2.out E5.out (show ¬ 2 ^ t2 * 5 ^ 0 ≤ 9223372036854775807 by rw [HP.out, ← R9.out]; exact pow_over (by omega) (by omega) hx5))
                                            have g1 : 1844674407370955161 < (d' : Int) := by omega
                                            have g2 : (0 : Int) < x5 := by omega
                                            go_wp2_with (go_at_call 9; refine (over_any _).mono ?_; rintro e1 w1 ⟨rfl, c, rfl⟩)
                                            refine bodyPost_ret (v := .agg #[.int .i64 0, .int .i64 0]) (by simp [results, Tryd.results10, go_sem, m0, m1, zN, Nat.ne_of_lt zN, Nat.ne_of_gt zN]) rfl ?_
                                            exact ⟨by rw [V.out, F.out]; cases b <;> rfl, by repeat (first | (with_reducible exact BEL.out) | (with_reducible refine Below.setCell ?_ (by simp) _) | (with_reducible refine bplus ?_ _))⟩
                                        · obtain rfl : x5 = 0 := by omega
                                          have PM := hide (show d' = P by have := R9.out; rw [Nat.pow_zero, Nat.mul_one] at this; exact this)
                                          have F := hide (fracDn_yes E2.out E5.out HP.out (show P ≤ 9223372036854775807 by rw [← PM.out]; exact b2))
                                          rw [← PM.out] at F
                                          clear R9
                                          cases b
                                          · go_wp2
                                            refine bodyPost_ret (v := .agg #[.int .i64 ((m5 : Nat) : Int), .int .i64 (d' : Int)]) (by simp [results, Tryd.results10, go_sem, m0, m1, zN, Nat.ne_of_lt zN, Nat.ne_of_gt zN]) rfl ?_
                                            exact ⟨by rw [V.out, F.out]; rfl, by repeat (first | (with_reducible exact BEL.out) | (with_reducible refine Below.setCell ?_ (by simp) _) | (with_reducible refine bplus ?_ _))⟩
                                          · go_wp2
                                            refine bodyPost_ret (v := .agg #[.int .i64 (-((m5 : Nat) : Int)), .int .i64 (d' : Int)]) (by simp [results, Tryd.results10, go_sem, m0, m1, zN, Nat.ne_of_lt zN, Nat.ne_of_gt zN]) rfl ?_
                                            exact ⟨by rw [V.out, F.out]; rfl, by repeat (first | (with_reducible exact BEL.out) | (with_reducible refine Below.setCell ?_ (by simp) _) | (with_reducible refine bplus ?_ _))⟩
                        · obtain rfl : t2 = 0 := by omega
                          clear hg
                          go_wp2
                          go_loop [9, 14] (fun n t => RelDiv 5 m2 q n t) (fun _ t => (intOf t).toNat)
                          case atStart => exact .mk m2 q rfl (by first | rfl | (congr 1; omega)) a1 (by omega) hq9 rfl
                          case round =>
                            obtain ⟨m5, t5, rfl, rfl, a1, a2, a3, R6⟩ := hrel
                            by_cases hg : 0 < t5 ∧ m5 % 5 = 0
                            · obtain ⟨hk, hm2⟩ := hg
                              obtain ⟨j5, rfl⟩ : ∃ j5, t5 = j5 + 1 := ⟨t5 - 1, by omega⟩
                              have R5 := hide (R6.out.trans (strip_go hm2))
                              have hk2 : (0 : Int) < ((j5 + 1 : Nat) : Int) := by omega
                              have hb2 : ((m5 : Int) % 5 == 0) = true := by simp; omega
                              go_wp2
                              go_round
                              case rel => exact .mk (m5 / 5) j5 (by go_num) (by go_num) (by omega) (by omega) (by omega) R5.out
                              case measure => first | (simp [intOf]; done) | (simp [intOf]; omega)
                            · have E5 := hide (show strip 5 m2 q = (m5, t5) by
                                rw [R6.out]
                                by_cases hk : t5 = 0
                                · subst hk; rfl
                                · exact strip_stop (fun h => hg ⟨by omega, h⟩))
                              clear R6
                              by_cases hk : 0 < t5
                              · have hb3 : ((m5 : Int) % 5 == 0) = false := by simp; omega
                                have hk2 : (0 : Int) < (t5 : Int) := by omega
                                clear hg
                                by_cases hov : 62 < 0 ∨ 27 < t5
                                · have F := hide (fracDn_no E2.out E5.out (dn_over2 hov))
                                  rcases (show 62 < 0 ∨ (0 ≤ 62 ∧ 27 < t5) by omega) with o1 | ⟨o1, o2⟩
                                  · exact absurd o1 (by omega)
                                  · have o3 : ¬ (62 : Int) < ((0 : Nat) : Int) := by omega
                                    have o4 : (27 : Int) < ((t5 : Nat) : Int) := by omega
                                    clear hov
                                    go_wp2_with (go_at_call 9; refine (over_any _).mono ?_; rintro e1 w1 ⟨rfl, c, rfl⟩)
                                    refine bodyPost_ret (v := .agg #[.int .i64 0, .int .i64 0]) (by simp [results, Tryd.results10, go_sem, m0, m1, zN, Nat.ne_of_lt zN, Nat.ne_of_gt zN]) rfl ?_
                                    exact ⟨by rw [V.out, F.out]; cases b <;> rfl, by repeat (first | (with_reducible exact BEL.out) | (with_reducible refine Below.setCell ?_ (by simp) _) | (with_reducible refine bplus ?_ _))⟩
                                · have o1 : 0 ≤ 62 := by omega
                                  have o2 : t5 ≤ 27 := by omega
                                  have o3 : ¬ (62 : Int) < ((0 : Nat) : Int) := by omega
                                  have o4 : ¬ (27 : Int) < ((t5 : Nat) : Int) := by omega
                                  clear hov
                                  go_wp2
                                  go_loop [12, 13] (fun d t => RelPw (2 ^ 0) d t) (fun _ t => (intOf t).toNat)
                                  case atStart => exact .mk 1 0 rfl rfl (by omega) (by omega) o1 (by omega)
                                  case round =>
                                    obtain ⟨d, x2, rfl, rfl, d1, d2, d3, R7⟩ := hrel
                                    by_cases hx : 0 < x2
                                    · have R8 := hide (pow_go R7.out hx)
                                      have d4 := pw_le R7.out hx o1
                                      have hx2 : (0 : Int) < x2 := by omega
                                      go_wp2
                                      go_round
                                      case rel => exact .mk (d * 2) (x2 - 1) (by go_num) (by go_num) (by omega) (by omega) (by omega) R8.out
                                      case measure => first | (simp [intOf]; done) | (simp [intOf]; omega)
                                    · obtain rfl : x2 = 0 := by omega
                                      have PD := hide (show d = 2 ^ 0 by have := R7.out; rw [Nat.pow_zero, Nat.mul_one] at this; exact this)
                                      obtain ⟨P, hP⟩ : ∃ P, 2 ^ 0 * 5 ^ t5 = P := ⟨_, rfl⟩
                                      have HP := hide hP
                                      clear hP R7
                                      go_wp2
                                      go_loop [12, 14] (fun d t => RelMul 5 P d t) (fun _ t => (intOf t).toNat)
                                      case atStart => exact .mk d t5 rfl rfl d1 (by omega) (by omega) (by rw [PD.out]; exact HP.out)
                                      case round =>
                                        obtain ⟨d', x5, rfl, rfl, b1, b2, b3, R9⟩ := hrel
                                        by_cases hx5 : 0 < x5
                                        · by_cases hd5 : d' ≤ 1844674407370955161
                                          · have R8 := hide (pow_go R9.out hx5)
                                            have g1 : (d' : Int) ≤ 1844674407370955161 := by omega
                                            have g2 : (0 : Int) < x5 := by omega
                                            go_wp2
                                            go_round
                                            case rel => exact .mk (d' * 5) (x5 - 1) (by go_num) (by go_num) (by omega) (by omega) (by omega) R8.out
                                            case measure => first | (simp [intOf]; done) | (simp [intOf]; omega)
                                          · have F := hide (fracDn_no E2.out E5.out (show ¬ 2 ^ 0 * 5 ^ t5 ≤ 9223372036854775807 by rw [HP.out, ← R9.out]; exact pow_over (by omega) (by omega) hx5))
                                            have g1 : 1844674407370955161 < (d' : Int) := by omega
                                            have g2 : (0 : Int) < x5 := by omega
                                            go_wp2_with (go_at_call 9; refine (over_any _).mono ?_; rintro e1 w1 ⟨rfl, c, rfl⟩)
                                            refine bodyPost_ret (v := .agg #[.int .i64 0, .int .i64 0]) (by simp [results, Tryd.results10, go_sem, m0, m1, zN, Nat.ne_of_lt zN, Nat.ne_of_gt zN]) rfl ?_
                                            exact ⟨by rw [V.out, F.out]; cases b <;> rfl, by repeat (first | (with_reducible exact BEL.out) | (with_reducible refine Below.setCell ?_ (by simp) _) | (with_reducible refine bplus ?_ _))⟩
                                        · obtain rfl : x5 = 0 := by omega
                                          have PM := hide (show d' = P by have := R9.out; rw [Nat.pow_zero, Nat.mul_one] at this; exact this)
                                          have F := hide (fracDn_yes E2.out E5.out HP.out (show P ≤ 9223372036854775807 by rw [← PM.out]; exact b2))
                                          rw [← PM.out] at F
                                          clear R9
                                          cases b
                                          · go_wp2
                                            refine bodyPost_ret (v := .agg #[.int .i64 ((m5 : Nat) : Int), .int .i64 (d' : Int)]) (by simp [results, Tryd.results10, go_sem, m0, m1, zN, Nat.ne_of_lt zN, Nat.ne_of_gt zN]) rfl ?_
                                            exact ⟨by rw [V.out, F.out]; rfl, by repeat (first | (with_reducible exact BEL.out) | (with_reducible refine Below.setCell ?_ (by simp) _) | (with_reducible refine bplus ?_ _))⟩
                                          · go_wp2
                                            refine bodyPost_ret (v := .agg #[.int .i64 (-((m5 : Nat) : Int)), .int .i64 (d' : Int)]) (by simp [results, Tryd.results10, go_sem, m0, m1, zN, Nat.ne_of_lt zN, Nat.ne_of_gt zN]) rfl ?_
                                            exact ⟨by rw [V.out, F.out]; rfl, by repeat (first | (with_reducible exact BEL.out) | (with_reducible refine Below.setCell ?_ (by simp) _) | (with_reducible refine bplus ?_ _))⟩
                              · obtain rfl : t5 = 0 := by omega
                                clear hg
                                by_cases hov : 62 < 0 ∨ 27 < 0
                                · have F := hide (fracDn_no E2.out E5.out (dn_over2 hov))
                                  rcases (show 62 < 0 ∨ (0 ≤ 62 ∧ 27 < 0) by omega) with o1 | ⟨o1, o2⟩
                                  · exact absurd o1 (by omega)
                                  · exact absurd o2 (by omega)
                                · have o1 : 0 ≤ 62 := by omega
                                  have o2 : 0 ≤ 27 := by omega
                                  have o3 : ¬ (62 : Int) < ((0 : Nat) : Int) := by omega
                                  have o4 : ¬ (27 : Int) < ((0 : Nat) : Int) := by omega
                                  clear hov
                                  go_wp2
                                  go_loop [12, 13] (fun d t => RelPw (2 ^ 0) d t) (fun _ t => (intOf t).toNat)
                                  case atStart => exact .mk 1 0 rfl rfl (by omega) (by omega) o1 (by omega)
                                  case round =>
                                    obtain ⟨d, x2, rfl, rfl, d1, d2, d3, R7⟩ := hrel
                                    by_cases hx : 0 < x2
                                    · have R8 := hide (pow_go R7.out hx)
                                      have d4 := pw_le R7.out hx o1
                                      have hx2 : (0 : Int) < x2 := by omega
                                      go_wp2
                                      go_round
                                      case rel => exact .mk (d * 2) (x2 - 1) (by go_num) (by go_num) (by omega) (by omega) (by omega) R8.out
                                      case measure => first | (simp [intOf]; done) | (simp [intOf]; omega)
                                    · obtain rfl : x2 = 0 := by omega
                                      have PD := hide (show d = 2 ^ 0 by have := R7.out; rw [Nat.pow_zero, Nat.mul_one] at this; exact this)
                                      obtain ⟨P, hP⟩ : ∃ P, 2 ^ 0 * 5 ^ 0 = P := ⟨_, rfl⟩
                                      have HP := hide hP
                                      clear hP R7
                                      go_wp2
                                      go_loop [12, 14] (fun d t => RelMul 5 P d t) (fun _ t => (intOf t).toNat)
                                      case atStart => exact .mk d 0 rfl rfl d1 (by omega) (by omega) (by rw [PD.out]; exact HP.out)
                                      case round =>
                                        obtain ⟨d', x5, rfl, rfl, b1, b2, b3, R9⟩ := hrel
                                        by_cases hx5 : 0 < x5
                                        · by_cases hd5 : d' ≤ 1844674407370955161
                                          · have R8 := hide (pow_go R9.out hx5)
                                            have g1 : (d' : Int) ≤ 1844674407370955161 := by omega
                                            have g2 : (0 : Int) < x5 := by omega
                                            go_wp2
                                            go_round
                                            case rel => exact .mk (d' * 5) (x5 - 1) (by go_num) (by go_num) (by omega) (by omega) (by omega) R8.out
                                            case measure => first | (simp [intOf]; done) | (simp [intOf]; omega)
                                          · have F := hide (fracDn_no E2.out E5.out (show ¬ 2 ^ 0 * 5 ^ 0 ≤ 9223372036854775807 by rw [HP.out, ← R9.out]; exact pow_over (by omega) (by omega) hx5))
                                            have g1 : 1844674407370955161 < (d' : Int) := by omega
                                            have g2 : (0 : Int) < x5 := by omega
                                            go_wp2_with (go_at_call 9; refine (over_any _).mono ?_; rintro e1 w1 ⟨rfl, c, rfl⟩)
                                            refine bodyPost_ret (v := .agg #[.int .i64 0, .int .i64 0]) (by simp [results, Tryd.results10, go_sem, m0, m1, zN, Nat.ne_of_lt zN, Nat.ne_of_gt zN]) rfl ?_
                                            exact ⟨by rw [V.out, F.out]; cases b <;> rfl, by repeat (first | (with_reducible exact BEL.out) | (with_reducible refine Below.setCell ?_ (by simp) _) | (with_reducible refine bplus ?_ _))⟩
                                        · obtain rfl : x5 = 0 := by omega
                                          have PM := hide (show d' = P by have := R9.out; rw [Nat.pow_zero, Nat.mul_one] at this; exact this)
                                          have F := hide (fracDn_yes E2.out E5.out HP.out (show P ≤ 9223372036854775807 by rw [← PM.out]; exact b2))
                                          rw [← PM.out] at F
                                          clear R9
                                          cases b
                                          · go_wp2
                                            refine bodyPost_ret (v := .agg #[.int .i64 ((m5 : Nat) : Int), .int .i64 (d' : Int)]) (by simp [results, Tryd.results10, go_sem, m0, m1, zN, Nat.ne_of_lt zN, Nat.ne_of_gt zN]) rfl ?_
                                            exact ⟨by rw [V.out, F.out]; rfl, by repeat (first | (with_reducible exact BEL.out) | (with_reducible refine Below.setCell ?_ (by simp) _) | (with_reducible refine bplus ?_ _))⟩
                                          · go_wp2
                                            refine bodyPost_ret (v := .agg #[.int .i64 (-((m5 : Nat) : Int)), .int .i64 (d' : Int)]) (by simp [results, Tryd.results10, go_sem, m0, m1, zN, Nat.ne_of_lt zN, Nat.ne_of_gt zN]) rfl ?_
                                            exact ⟨by rw [V.out, F.out]; rfl, by repeat (first | (with_reducible exact BEL.out) | (with_reducible refine Below.setCell ?_ (by simp) _) | (with_reducible refine bplus ?_ _))⟩
    · have hkn : k = s.size := by omega
      have V := hide (val_zero (b := b) (D := bl s) (k := e) (show cutR (cut0 (bl s)) = [] by rw [R1.out, List.drop_of_length_le (by rw [bl_len]; omega)]; rfl))
      have hne : ((k : Int) == s.size) = true := by simp; omega
      clear hkn
      go_wp2_with (go_at_call 21; refine (intR_any _ _).mono ?_; rintro e1 w1 ⟨rfl, c, rfl⟩)
      refine bodyPost_ret (v := .agg #[.int .i64 0, .int .i64 1]) (by simp [results, Tryd.results10, go_sem]) rfl ?_
      exact ⟨by rw [V.out]; rfl, by repeat (first | (with_reducible exact BEL.out) | (with_reducible refine Below.setCell ?_ (by simp) _) | (with_reducible refine bplus ?_ _) | (with_reducible exact Below.refl _ _))⟩
end Go.Proofs.YtknambgknoganaaDoor
