/-
  Digits times a power of ten, by the reference.
  A number of a stylesheet, by the reference.
-/
import Derived.Test.YtckefmhleklciaaGreatDoorMh
import Derived.Lib.SmallJoins
import Derived.Lib.ConvBytes
import Derived.Deep.RegionWith
import Derived.Test.YtckefmhleklciaaGreatDoorMi
import Derived.Deep.DeepCutAuto
set_option linter.unusedVariables false
set_option linter.unusedSimpArgs false
namespace Go.Proofs.YtckefmhleklciaaGreatDoor
open Go.RowKit

theorem c0_go {D : List Int} {k : Nat} (h : nx D k = 48) : cut0 (D.drop k) = cut0 (D.drop (k + 1)) := by
  rw [nx_cons (by omega), h]
  unfold cut0
  rw [List.dropWhile_cons_of_pos (by rfl)]
theorem c0_stop {D : List Int} {k : Nat} (h : nx D k ≠ 48) : cut0 (D.drop k) = D.drop k := by
  by_cases hk : k < D.length
  · have e : D.drop k = nx D k :: D.drop (k + 1) := by
      rw [List.drop_eq_getElem_cons hk]
      congr 1
      simp [nx, List.getD_eq_getElem?_getD, List.getElem?_eq_getElem hk]
    rw [e]; unfold cut0
    rw [List.dropWhile_cons_of_neg (by simpa using h)]
  · rw [List.drop_of_length_le (by omega)]; rfl
theorem cR_go {F : List Int} {j : Nat} (h : nx F j = 48) : cutR (F.take (j + 1)) = cutR (F.take j) := by
  rw [nx_take (by omega), h]
  unfold cutR
  rw [List.reverse_append]
  show ((48 :: (F.take j).reverse).dropWhile _).reverse = _
  rw [List.dropWhile_cons_of_pos (by rfl)]
theorem cR_stop {F : List Int} {j : Nat} (h : nx F j ≠ 48) (h2 : nx F j ≠ -1) : cutR (F.take (j + 1)) = F.take (j + 1) := by
  rw [nx_take h2]
  unfold cutR
  rw [List.reverse_append]
  show ((nx F j :: (F.take j).reverse).dropWhile _).reverse = _
  rw [List.dropWhile_cons_of_neg (by simpa using h)]
  simp
def Rel1 (D : List Int) (n : Nat) (a : Value) : Prop := ∃ k : Nat, k ≤ n ∧ a = .int .i64 k ∧ Hid (cut0 D = cut0 (D.drop k))
theorem Rel1.mk {D : List Int} {n : Nat} {a : Value} (k : Nat) (h1 : k ≤ n) (h2 : a = .int .i64 k) (h3 : cut0 D = cut0 (D.drop k)) : Rel1 D n a := ⟨k, h1, h2, h3⟩
def Rel2 (D : List Int) (n k : Nat) (e0 : Int) (e b : Value) : Prop := ∃ m : Nat, k + 1 ≤ m ∧ m ≤ n ∧ b = .int .i64 m ∧ e = .int .i64 (e0 + ((n - m : Nat) : Int)) ∧ Hid (cutR (D.drop k) = cutR ((D.drop k).take (m - k)))
theorem Rel2.mk {D : List Int} {n k : Nat} {e0 : Int} {e b : Value} (m : Nat) (h0 : k + 1 ≤ m) (h1 : m ≤ n) (h2 : b = .int .i64 m) (h3 : e = .int .i64 (e0 + ((n - m : Nat) : Int))) (h4 : cutR (D.drop k) = cutR ((D.drop k).take (m - k))) : Rel2 D n k e0 e b := ⟨m, h0, h1, h2, h3, h4⟩
def Rel3 (ds : List Int) (n i : Value) : Prop := ∃ k m : Nat, k ≤ ds.length ∧ i = .int .i64 k ∧ n = .int .u64 m ∧ m < 1000000000000000000 ∧ Hid (m = natOf (ds.take k))
theorem Rel3.mk {ds : List Int} {n i : Value} (k m : Nat) (h1 : k ≤ ds.length) (h2 : i = .int .i64 k) (h3 : n = .int .u64 m) (h4 : m < 1000000000000000000) (h5 : m = natOf (ds.take k)) : Rel3 ds n i := ⟨k, m, h1, h2, h3, h4, h5⟩
theorem natOf_take_lt {l : List Int} (h : Digs l) (hl : l.length ≤ 18) (k : Nat) : natOf (l.take k) < 1000000000000000000 := Nat.lt_of_le_of_lt (natOf_take l k) (natOf_lt h hl)
theorem over_any (w : World) : Calls Tryz.prog 95 #[] w fun e w' => e = .returned (.agg #[.int .i64 0, .int .i64 0]) ∧ ∃ c, w' = w.alloc (.cells c 32) := by
  go_enter Tryz.func95, Tryz.ntmps95
  go_wp2
  refine bodyPost_ret (v := .agg #[.int .i64 0, .int .i64 0]) (by simp [results, Tryz.results95, go_sem]) rfl ⟨rfl, _, rfl⟩
theorem intR_any (n : Int) (w : World) : Calls Tryz.prog 120 #[.int .i64 n] w fun e w' => e = .returned (.agg #[.int .i64 n, .int .i64 1]) ∧ ∃ c, w' = w.alloc (.cells c 32) := by
  go_enter Tryz.func120, Tryz.ntmps120
  go_wp2
  refine bodyPost_ret (v := .agg #[.int .i64 n, .int .i64 1]) (by simp [results, Tryz.results120, go_sem]) rfl ⟨rfl, _, rfl⟩
def RelPw (P : Nat) (d t : Value) : Prop := ∃ m k : Nat, d = .int .u64 m ∧ t = .int .i64 k ∧ 1 ≤ m ∧ m ≤ 4611686018427387904 ∧ k ≤ 62 ∧ Hid (m * 2 ^ k = P)
theorem RelPw.mk {P : Nat} {d t : Value} (m k : Nat) (h1 : d = .int .u64 m) (h2 : t = .int .i64 k) (h3 : 1 ≤ m) (h4 : m ≤ 4611686018427387904) (h5 : k ≤ 62) (h6 : m * 2 ^ k = P) : RelPw P d t := ⟨m, k, h1, h2, h3, h4, h5, h6⟩
theorem pw_le {m k t : Nat} (h : m * 2 ^ k = 2 ^ t) (hk : 1 ≤ k) (ht : t ≤ 62) : m * 2 ≤ 4611686018427387904 := by
  obtain ⟨j, rfl⟩ : ∃ j, k = j + 1 := ⟨k - 1, by omega⟩
  have h1 : 1 ≤ 2 ^ j := Nat.pow_pos (by omega)
  have h2 : m * 2 * 1 ≤ m * 2 * 2 ^ j := Nat.mul_le_mul_left _ h1
  have h3 : 2 ^ t ≤ 2 ^ 62 := Nat.pow_le_pow_right (by omega) ht
  have h4 : (2 : Nat) ^ 62 = 4611686018427387904 := by decide
  rw [Nat.pow_succ, Nat.mul_comm (2 ^ j), ← Nat.mul_assoc] at h
  omega
theorem dn_over2 {a b : Nat} (h : 62 < a ∨ 27 < b) : ¬ 2 ^ a * 5 ^ b ≤ 9223372036854775807 := by
  have p5 : 1 ≤ 5 ^ b := Nat.pow_pos (by omega)
  have p2 : 1 ≤ 2 ^ a := Nat.pow_pos (by omega)
  rcases h with h | h
  · have h1 : 2 ^ 63 ≤ 2 ^ a := Nat.pow_le_pow_right (by omega) h
    have h2 : (2 : Nat) ^ 63 = 9223372036854775808 := by decide
    have h3 : 2 ^ a * 1 ≤ 2 ^ a * 5 ^ b := Nat.mul_le_mul_left _ p5
    omega
  · have h1 : 5 ^ 28 ≤ 5 ^ b := Nat.pow_le_pow_right (by omega) h
    have h2 : (9223372036854775807 : Nat) < 5 ^ 28 := by decide
    have h3 : 1 * 5 ^ b ≤ 2 ^ a * 5 ^ b := Nat.mul_le_mul_right _ p2
    omega
theorem fr_up {n q : Nat} : fr n (q : Int) = fracUp n q := by unfold fr; rw [if_pos (by omega)]; simp
theorem fr_dn {n q : Nat} (h : 1 ≤ q) : fr n (-(q : Int)) = fracDn n q := by unfold fr; rw [if_neg (by omega)]; simp
theorem fracUp_no {n q P : Nat} (h : n * 10 ^ q = P) (g : ¬ P ≤ 9223372036854775807) : fracUp n q = (0, 0) := by unfold fracUp; rw [h, if_neg g]
theorem fracUp_yes {n q P : Nat} (h : n * 10 ^ q = P) (g : P ≤ 9223372036854775807) : fracUp n q = ((P : Int), 1) := by unfold fracUp; rw [h, if_pos g]
theorem fracDn_no {n q m t m' t' : Nat} (h : strip 2 n q = (m, t)) (h' : strip 5 m q = (m', t')) (g : ¬ 2 ^ t * 5 ^ t' ≤ 9223372036854775807) : fracDn n q = (0, 0) := by
  unfold fracDn; rw [h]; dsimp only; rw [h']; dsimp only; rw [if_neg g]
theorem fracDn_yes {n q m t m' t' P : Nat} (h : strip 2 n q = (m, t)) (h' : strip 5 m q = (m', t')) (hP : 2 ^ t * 5 ^ t' = P) (g : P ≤ 9223372036854775807) : fracDn n q = ((m' : Int), (P : Int)) := by
  unfold fracDn; rw [h]; dsimp only; rw [h']; dsimp only; rw [hP, if_pos g]
set_option maxRecDepth 100000 in
set_option maxHeartbeats 4000000 in
theorem valueR_any (b : Bool) (s : ByteArray) (e : Int) (w : World) (hl : s.size ≤ 1000000000) (he : -18014398509481984 ≤ e ∧ e ≤ 18014398509481984) (hd : Digs (bl s)) :
    Calls Tryz.prog 96 #[.bool b, .string s, .int .i64 e] w fun e' w' => e' = .returned (ratV (valOf b (bl s) e).1 (valOf b (bl s) e).2) ∧ Below w.heap.size w w' := by
  have BEL := hide (Below.refl w.heap.size w)
  go_enter Tryz.func96, Tryz.ntmps96
  go_wp2
  go_loop [7] (fun a => Rel1 (bl s) s.size a) (fun a => s.size - (intOf a).toNat)
  case atStart => exact .mk 0 (by omega) rfl rfl
  case round =>
    obtain ⟨k, hk, rfl, R1⟩ := hrel
    by_cases hlt : k < s.size
    · have cx := bl_nx s k hlt
      by_cases hz : nx (bl s) k = 48
      · have R2 := hide (R1.out.trans (c0_go hz))
        have hb : ((s[k].toNat : Int) == 48) = true := by rw [← cx, hz]; rfl
        clear cx hz
        go_wp2
        go_round
        case rel => exact .mk (k + 1) (by omega) (by go_num) R2.out
        case measure => simp [intOf]; omega
      · have C0 := hide (R1.out.trans (c0_stop hz))
        have NZ := hide hz
        have hb : ((s[k].toNat : Int) == 48) = false := by rw [← cx]; simpa using hz
        have hne : ((k : Int) == s.size) = false := by simp; omega
        clear cx hz R1
        go_wp2
        clear hb hne
        go_loop [2, 8] (fun e' b' => Rel2 (bl s) s.size k e e' b') (fun _ b' => (intOf b').toNat)
        case atStart => exact .mk s.size (by omega) (Nat.le_refl _) rfl (by congr 1; omega) (by rw [List.take_of_length_le (by rw [List.length_drop, bl_len]; omega)])
        case round =>
          obtain ⟨m, hm0, hm, rfl, rfl, R2⟩ := hrel
          obtain ⟨j, rfl⟩ : ∃ j, m = j + 1 := ⟨m - 1, by omega⟩
          have hj : j < s.size := by omega
          have cy := bl_nx s j hj
          have X := hide (show nx ((bl s).drop k) (j - k) = nx (bl s) j by rw [nx_drop]; congr 1; omega)
          have J := hide (show j + 1 - k = (j - k) + 1 by omega)
          have hj1 : ((j + 1 : Nat) : Int) - 1 = j := by omega
          by_cases hz2 : nx (bl s) j = 48
          · have hjk : j ≠ k := by rintro rfl; exact NZ.out hz2
            have R3 := hide (show cutR ((bl s).drop k) = cutR (((bl s).drop k).take (j - k)) by
              rw [R2.out, J.out]; exact cR_go (X.out.trans hz2))
            have hb : ((s[j].toNat : Int) == 48) = true := by rw [← cy, hz2]; rfl
            clear cy hz2
            go_wp2
            go_round
            case rel => exact .mk j (by omega) (by omega) (by go_num) (by congr 1; omega) R3.out
            case measure => first | (simp [intOf]; done) | (simp [intOf]; omega)
          · have CN := hide (show cutR (cut0 (bl s)) = ((bl s).drop k).take (j + 1 - k) by
              rw [C0.out, R2.out, J.out]; exact cR_stop (by rw [X.out]; exact hz2) (by rw [X.out, cy]; omega))
            have hb : ((s[j].toNat : Int) == 48) = false := by rw [← cy]; simpa using hz2
            have LC := hide (show (cutR (cut0 (bl s))).length = j + 1 - k by rw [CN.out, List.length_take, List.length_drop, bl_len]; omega)
            have L0 := hide (show (cut0 (bl s)).length = s.size - k by rw [C0.out, List.length_drop, bl_len])
            have NE := hide (show cutR (cut0 (bl s)) ≠ [] by intro h; have := LC.out; rw [h] at this; simp at this; omega)
            have hjk : k ≤ j := by omega
            clear cy hz2 R2
            by_cases h18 : 18 < j + 1 - k
            · have V := hide (val_over (b := b) (k := e) NE.out (by rw [LC.out]; exact h18))
              have h18' : (18 : Int) < ((j + 1 : Nat) : Int) - k := by omega
              go_wp2_with (go_at_call 95; refine (over_any _).mono ?_; rintro e1 w1 ⟨rfl, c, rfl⟩)
              refine bodyPost_ret (v := .agg #[.int .i64 0, .int .i64 0]) (by simp [results, Tryz.results96, go_sem]) rfl ?_
              exact ⟨by rw [V.out]; rfl, by repeat (first | (with_reducible exact BEL.out) | (with_reducible refine Below.setCell ?_ (by simp) _) | (with_reducible refine bplus ?_ _) | (with_reducible exact Below.refl _ _))⟩
            · have h18' : ¬ (18 : Int) < ((j + 1 : Nat) : Int) - k := by omega
              have h18n : j + 1 - k ≤ 18 := by omega
              have V := hide (val_fr (b := b) (k := e) NE.out (by rw [LC.out]; exact h18n))
              have DG := hide hd.cut.2
              have TS := hide (show (s.extract k (j + 1)).size = j + 1 - k by rw [← bl_len, bl_mid, List.length_take, List.length_drop, bl_len]; omega)
              have TB := hide (show bl (s.extract k (j + 1)) = cutR (cut0 (bl s)) by rw [bl_mid, CN.out])
              obtain ⟨t, ht⟩ : ∃ t, s.extract k (j + 1) = t := ⟨_, rfl⟩
              obtain ⟨cs, hcs⟩ : ∃ cs, cutR (cut0 (bl s)) = cs := ⟨_, rfl⟩
              have CS := hide hcs
              rw [ht] at TS TB
              rw [hcs] at TB DG V LC NE
              have kc := fun W => Lib.run_convert_string_bytes (P := Tryz.prog) W 9 28 5 t (u := .string) Tryz.underlying9 Tryz.underlying28 Tryz.underlying5
              have hkj : (k : Int) ≤ ((j + 1 : Nat) : Int) := by omega
              have hjs : ((j + 1 : Nat) : Int) ≤ s.size := by omega
              go_wp2
              have hB0 : Below (w.alloc (.cells #[.int .i64 0, .int .i64 0] 32)).heap.size (w.alloc (.cells #[.int .i64 0, .int .i64 0] 32)) (Lib.bytesWorld (w.alloc (.cells #[.int .i64 0, .int .i64 0] 32)) 5 t) := Joins.below_bytesWorld _ _ _ _ (Nat.le_refl _)
              have BEL := hide (show Below w.heap.size w (Lib.bytesWorld (w.alloc (.cells #[.int .i64 0, .int .i64 0] 32)) 5 t) from bto (bplus (Below.refl _ _) _) hB0)
              have CB := hide (show ∀ i, i < t.size → ((Lib.bytesWorld (w.alloc (.cells #[.int .i64 0, .int .i64 0] 32)) 5 t)).cell? ⟨w.heap.size + 1, i, none⟩ = some (.int .u8 (nx cs i)) from fun i hi => by
                have h1 := Lib.bytesWorld_cell (w.alloc (.cells #[.int .i64 0, .int .i64 0] 32)) 5 t i hi
                rw [show (w.alloc (.cells #[.int .i64 0, .int .i64 0] 32)).heap.size = w.heap.size + 1 by simp] at h1
                rw [h1, ← TB.out, bl_nx t i hi]
                congr 3
                rw [List.getD_eq_getElem?_getD, List.getElem?_eq_getElem (show i < t.data.toList.length by rw [Array.length_toList]; exact hi)]
                simp [ByteArray.getElem_eq_getElem_data])
              have m0 : ((Lib.bytesWorld (w.alloc (.cells #[.int .i64 0, .int .i64 0] 32)) 5 t)).cell? ⟨w.heap.size, 0, none⟩ = some (.int .i64 0) := by rw [hB0.cell (p := ⟨w.heap.size, 0, none⟩) (by simp)]; simp [go_sem]
              have m1 : ((Lib.bytesWorld (w.alloc (.cells #[.int .i64 0, .int .i64 0] 32)) 5 t)).cell? ⟨w.heap.size, 1, none⟩ = some (.int .i64 0) := by rw [hB0.cell (p := ⟨w.heap.size, 1, none⟩) (by simp)]; simp [go_sem]
              have f0 : ((Lib.bytesWorld (w.alloc (.cells #[.int .i64 0, .int .i64 0] 32)) 5 t)).frozen? ⟨w.heap.size, 0, none⟩ = false := by rw [hB0.frozen (p := ⟨w.heap.size, 0, none⟩) (by simp)]; simp [go_sem]
              have f1 : ((Lib.bytesWorld (w.alloc (.cells #[.int .i64 0, .int .i64 0] 32)) 5 t)).frozen? ⟨w.heap.size, 1, none⟩ = false := by rw [hB0.frozen (p := ⟨w.heap.size, 1, none⟩) (by simp)]; simp [go_sem]
              have zN := World.block_lt_of_cell? _ _ m0
              generalize grownCap (w.alloc (.cells #[.int .i64 0, .int .i64 0] 32)) t.size 0 5 = gc at *
              clear hB0 kc
              generalize (Lib.bytesWorld (w.alloc (.cells #[.int .i64 0, .int .i64 0] 32)) 5 t) = W3 at *
              have ht9 : t.size ≤ 18 := by rw [TS.out]; exact h18n
              have TL := hide (show cs.length = t.size by rw [← bl_len, TB.out])
              have H18 := hide h18n
              have P0 := hide (show e + ((s.size - (j + 1) : Nat) : Int) = e + ((((cut0 (bl s)).length - cs.length) : Nat) : Int) by rw [L0.out, LC.out]; congr 2; omega)
              have hp1 : -18014398509481984 ≤ e + ((s.size - (j + 1) : Nat) : Int) ∧ e + ((s.size - (j + 1) : Nat) : Int) ≤ 18014399509481984 := by omega
              rw [← P0.out] at V
              generalize e + ((s.size - (j + 1) : Nat) : Int) = p at *
              clear h18 h18' h18n hjk hj1 hkj hjs hb ht hcs
              go_loop [9, 52] (fun n i => Rel3 cs n i) (fun _ i => cs.length - (intOf i).toNat)
              case atStart => exact .mk 0 0 (by omega) rfl rfl (by omega) (by simp [natOf])
              case round =>
                obtain ⟨i, m, hi, rfl, rfl, hm, R3⟩ := hrel
                by_cases hil : i < cs.length
                · have hit : i < t.size := by rw [← TL.out]; exact hil
                  have cz := CB.out i hit
                  obtain ⟨s1, s2, s3⟩ := natOf_step DG.out hil
                  have hm' := natOf_take_lt DG.out (by rw [TL.out]; exact ht9) (i + 1)
                  rw [s1, ← R3.out] at hm'
                  have S := hide s1
                  have HI := hide hil
                  have hit2 : (i : Int) < t.size := by omega
                  clear s1 hil
                  generalize nx cs i = x at *
                  go_wp2
                  go_round
                  case rel => exact .mk (i + 1) (m * 10 + (x - 48).toNat) HI.out (by go_num) (by congr 1; omega) (by omega) (by rw [S.out, ← R3.out])
                  case measure => have := HI.out; simp [intOf]; omega
                · have N := hide (show m = natOf cs by rw [R3.out, List.take_of_length_le (by omega)])
                  have hit2 : ¬ (i : Int) < t.size := by rw [TL.out] at hil; omega
                  have m1' : 1 ≤ m := by
                    rw [N.out, ← CS.out]
                    exact cnt_pos hd (by rw [CS.out]; exact NE.out)
                  rw [← N.out] at V
                  clear hil R3
                  by_cases hp : 0 ≤ p
                  · obtain ⟨q, rfl⟩ := Int.eq_ofNat_of_zero_le hp
                    rw [fr_up] at V
                    have hq9 : q ≤ 1152921504606846976 := by omega
                    obtain ⟨P, hP⟩ : ∃ P, m * 10 ^ q = P := ⟨_, rfl⟩
                    have HP := hide hP
                    clear hP hp hp1
                    go_wp2
                    go_loop [2, 9] (fun e n => RelMul 10 P n e) (fun e _ => (intOf e).toNat)
                    case atStart => exact .mk m q rfl rfl m1' (by omega) hq9 HP.out
                    case round =>
                      obtain ⟨m2, k2, rfl, rfl, a1, a2, a3, R4⟩ := hrel
                      by_cases hk : 0 < k2
                      · by_cases hm2 : m2 ≤ 922337203685477580
                        · have R5 := hide (pow_go R4.out hk)
                          have b1 : (m2 : Int) ≤ 922337203685477580 := by omega
                          have b2 : (0 : Int) < k2 := by omega
                          go_wp2
                          go_round
                          case rel => exact .mk (m2 * 10) (k2 - 1) (by go_num) (by go_num) (by omega) (by omega) (by omega) R5.out
                          case measure => first | (simp [intOf]; done) | (simp [intOf]; omega)
                        · have F := hide (fracUp_no HP.out (show ¬ P ≤ 9223372036854775807 by rw [← R4.out]; exact pow_over (by omega) (by omega) hk))
                          have b1 : 922337203685477580 < (m2 : Int) := by omega
                          have b2 : (0 : Int) < k2 := by omega
                          go_wp2_with (go_at_call 95; refine (over_any _).mono ?_; rintro e1 w1 ⟨rfl, c, rfl⟩)
                          refine bodyPost_ret (v := .agg #[.int .i64 0, .int .i64 0]) (by simp [results, Tryz.results96, go_sem, m0, m1, zN, Nat.ne_of_lt zN, Nat.ne_of_gt zN]) rfl ?_
                          exact ⟨by rw [V.out, F.out]; cases b <;> rfl, by repeat (first | (with_reducible exact BEL.out) | (with_reducible refine Below.setCell ?_ (by simp) _) | (with_reducible refine bplus ?_ _))⟩
                      · obtain rfl : k2 = 0 := by omega
                        have PM := hide (show m2 = P by have := R4.out; rw [Nat.pow_zero, Nat.mul_one] at this; exact this)
                        have F := hide (fracUp_yes HP.out (show P ≤ 9223372036854775807 by rw [← PM.out]; exact a2))
                        rw [← PM.out] at F
                        clear R4
                        cases b
                        · go_wp2
                          refine wp_loop_rounds 1 ?_
                          rw [rounds_succ]
                          go_wp2
                          refine wp_loop_rounds 1 ?_
                          rw [rounds_succ]
                          go_wp2
                          refine wp_loop_rounds 1 ?_
                          rw [rounds_succ]
                          go_wp2
                          refine wp_loop_rounds 1 ?_
                          rw [rounds_succ]
                          go_wp2
                          refine bodyPost_ret (v := .agg #[.int .i64 ((m2 : Int)), .int .i64 1]) (by simp [results, Tryz.results96, go_sem, m0, m1, zN, Nat.ne_of_lt zN, Nat.ne_of_gt zN]) rfl ?_
                          exact ⟨by rw [V.out, F.out]; rfl, by repeat (first | (with_reducible exact BEL.out) | (with_reducible refine Below.setCell ?_ (by simp) _) | (with_reducible refine bplus ?_ _))⟩
                        · go_wp2
                          refine wp_loop_rounds 1 ?_
                          rw [rounds_succ]
                          go_wp2
                          refine wp_loop_rounds 1 ?_
                          rw [rounds_succ]
                          go_wp2
                          refine wp_loop_rounds 1 ?_
                          rw [rounds_succ]
                          go_wp2
                          refine wp_loop_rounds 1 ?_
                          rw [rounds_succ]
                          go_wp2
                          refine bodyPost_ret (v := .agg #[.int .i64 (-(m2 : Int)), .int .i64 1]) (by simp [results, Tryz.results96, go_sem, m0, m1, zN, Nat.ne_of_lt zN, Nat.ne_of_gt zN]) rfl ?_
                          exact ⟨by rw [V.out, F.out]; rfl, by repeat (first | (with_reducible exact BEL.out) | (with_reducible refine Below.setCell ?_ (by simp) _) | (with_reducible refine bplus ?_ _))⟩
                  · obtain ⟨q, hq⟩ := Int.eq_ofNat_of_zero_le (show 0 ≤ -p by omega)
                    obtain rfl : p = -(q : Int) := by omega
                    have hq1 : 1 ≤ q := by omega
                    have hq9 : q ≤ 1152921504606846976 := by omega
                    rw [fr_dn hq1] at V
                    have hq2 : (0 : Int) < q := by omega
                    clear hq hp hp1 P0
                    go_wp2
                    refine wp_loop_rounds 1 ?_
                    rw [rounds_succ]
                    go_wp2
                    go_loop [9, 13] (fun n t => RelDiv 2 m q n t) (fun _ t => (intOf t).toNat)
                    case atStart => exact .mk m q rfl (by first | rfl | (congr 1; omega)) m1' (by omega) hq9 rfl
                    case round =>
                      obtain ⟨m2, t2, rfl, rfl, a1, a2, a3, R4⟩ := hrel
                      by_cases hg : 0 < t2 ∧ m2 % 2 = 0
                      · obtain ⟨hk, hm2⟩ := hg
                        obtain ⟨j2, rfl⟩ : ∃ j2, t2 = j2 + 1 := ⟨t2 - 1, by omega⟩
                        have R5 := hide (R4.out.trans (strip_go hm2))
                        have hk2 : (0 : Int) < ((j2 + 1 : Nat) : Int) := by omega
                        have hb2 : ((m2 : Int) % 2 == 0) = true := by simp; omega
                        go_wp2
                        go_round
                        case rel => exact .mk (m2 / 2) j2 (by go_num) (by go_num) (by omega) (by omega) (by omega) R5.out
                        case measure => first | (simp [intOf]; done) | (simp [intOf]; omega)
                      · have E2 := hide (show strip 2 m q = (m2, t2) by
                          rw [R4.out]
                          by_cases hk : t2 = 0
                          · subst hk; rfl
                          · exact strip_stop (fun h => hg ⟨by omega, h⟩))
                        clear R4
                        by_cases hk : 0 < t2
                        · have hb3 : ((m2 : Int) % 2 == 0) = false := by simp; omega
                          have hk2 : (0 : Int) < (t2 : Int) := by omega
                          clear hg
                          go_wp2
                          go_loop [9, 14] (fun n t => RelDiv 5 m2 q n t) (fun _ t => (intOf t).toNat)
                          case atStart => exact .mk m2 q rfl (by first | rfl | (congr 1; omega)) a1 (by omega) hq9 rfl
                          case round =>
                            obtain ⟨m5, t5, rfl, rfl, a1, a2, a3, R6⟩ := hrel
                            by_cases hg : 0 < t5 ∧ m5 % 5 = 0
                            · obtain ⟨hk, hm2⟩ := hg
                              obtain ⟨j5, rfl⟩ : ∃ j5, t5 = j5 + 1 := ⟨t5 - 1, by omega⟩
                              have R5 := hide (R6.out.trans (strip_go hm2))
                              have hk2 : (0 : Int) < ((j5 + 1 : Nat) : Int) := by omega
                              have hb2 : ((m5 : Int) % 5 == 0) = true := by simp; omega
                              go_wp2
                              go_round
                              case rel => exact .mk (m5 / 5) j5 (by go_num) (by go_num) (by omega) (by omega) (by omega) R5.out
                              case measure => first | (simp [intOf]; done) | (simp [intOf]; omega)
                            · have E5 := hide (show strip 5 m2 q = (m5, t5) by
                                rw [R6.out]
                                by_cases hk : t5 = 0
                                · subst hk; rfl
                                · exact strip_stop (fun h => hg ⟨by omega, h⟩))
                              clear R6
                              by_cases hk : 0 < t5
                              · have hb3 : ((m5 : Int) % 5 == 0) = false := by simp; omega
                                have hk2 : (0 : Int) < (t5 : Int) := by omega
                                clear hg
                                by_cases hov : 62 < t2 ∨ 27 < t5
                                · have F := hide (fracDn_no E2.out E5.out (dn_over2 hov))
                                  rcases (show 62 < t2 ∨ (t2 ≤ 62 ∧ 27 < t5) by omega) with o1 | ⟨o1, o2⟩
                                  · have o3 : (62 : Int) < ((t2 : Nat) : Int) := by omega
                                    clear hov
                                    go_wp2_with (go_at_call 95; refine (over_any _).mono ?_; rintro e1 w1 ⟨rfl, c, rfl⟩)
                                    refine bodyPost_ret (v := .agg #[.int .i64 0, .int .i64 0]) (by simp [results, Tryz.results96, go_sem, m0, m1, zN, Nat.ne_of_lt zN, Nat.ne_of_gt zN]) rfl ?_
                                    exact ⟨by rw [V.out, F.out]; cases b <;> rfl, by repeat (first | (with_reducible exact BEL.out) | (with_reducible refine Below.setCell ?_ (by simp) _) | (with_reducible refine bplus ?_ _))⟩
                                  · have o3 : ¬ (62 : Int) < ((t2 : Nat) : Int) := by omega
                                    have o4 : (27 : Int) < ((t5 : Nat) : Int) := by omega
                                    clear hov
                                    go_wp2_with (go_at_call 95; refine (over_any _).mono ?_; rintro e1 w1 ⟨rfl, c, rfl⟩)
                                    refine bodyPost_ret (v := .agg #[.int .i64 0, .int .i64 0]) (by simp [results, Tryz.results96, go_sem, m0, m1, zN, Nat.ne_of_lt zN, Nat.ne_of_gt zN]) rfl ?_
                                    exact ⟨by rw [V.out, F.out]; cases b <;> rfl, by repeat (first | (with_reducible exact BEL.out) | (with_reducible refine Below.setCell ?_ (by simp) _) | (with_reducible refine bplus ?_ _))⟩
                                · have o1 : t2 ≤ 62 := by omega
                                  have o2 : t5 ≤ 27 := by omega
                                  have o3 : ¬ (62 : Int) < ((t2 : Nat) : Int) := by omega
                                  have o4 : ¬ (27 : Int) < ((t5 : Nat) : Int) := by omega
                                  clear hov
                                  go_wp2
                                  go_loop [12, 13] (fun d t => RelPw (2 ^ t2) d t) (fun _ t => (intOf t).toNat)
                                  case atStart => exact .mk 1 t2 rfl rfl (by omega) (by omega) o1 (by omega)
                                  case round =>
                                    obtain ⟨d, x2, rfl, rfl, d1, d2, d3, R7⟩ := hrel
                                    by_cases hx : 0 < x2
                                    · have R8 := hide (pow_go R7.out hx)
                                      have d4 := pw_le R7.out hx o1
                                      have hx2 : (0 : Int) < x2 := by omega
                                      go_wp2
                                      go_round
                                      case rel => exact .mk (d * 2) (x2 - 1) (by go_num) (by go_num) (by omega) (by omega) (by omega) R8.out
                                      case measure => first | (simp [intOf]; done) | (simp [intOf]; omega)
                                    · obtain rfl : x2 = 0 := by omega
                                      have PD := hide (show d = 2 ^ t2 by have := R7.out; rw [Nat.pow_zero, Nat.mul_one] at this; exact this)
                                      obtain ⟨P, hP⟩ : ∃ P, 2 ^ t2 * 5 ^ t5 = P := ⟨_, rfl⟩
                                      have HP := hide hP
                                      clear hP R7
                                      go_wp2
                                      go_loop [12, 14] (fun d t => RelMul 5 P d t) (fun _ t => (intOf t).toNat)
                                      case atStart => exact .mk d t5 rfl rfl d1 (by omega) (by omega) (by rw [PD.out]; exact HP.out)
                                      case round =>
                                        obtain ⟨d', x5, rfl, rfl, b1, b2, b3, R9⟩ := hrel
                                        by_cases hx5 : 0 < x5
                                        · by_cases hd5 : d' ≤ 1844674407370955161
                                          · have R8 := hide (pow_go R9.out hx5)
                                            have g1 : (d' : Int) ≤ 1844674407370955161 := by omega
                                            have g2 : (0 : Int) < x5 := by omega
                                            go_wp2
                                            go_round
                                            case rel => exact .mk (d' * 5) (x5 - 1) (by go_num) (by go_num) (by omega) (by omega) (by omega) R8.out
                                            case measure => first | (simp [intOf]; done) | (simp [intOf]; omega)
                                          · have F := hide (fracDn_no E2.out E5.out (show ¬ 2 ^ t2 * 5 ^ t5 ≤ 9223372036854775807 by rw [HP.out, ← R9.out]; exact pow_over (by omega) (by omega) hx5))
                                            have g1 : 1844674407370955161 < (d' : Int) := by omega
                                            have g2 : (0 : Int) < x5 := by omega
                                            go_wp2_with (go_at_call 95; refine (over_any _).mono ?_; rintro e1 w1 ⟨rfl, c, rfl⟩)
                                            refine bodyPost_ret (v := .agg #[.int .i64 0, .int .i64 0]) (by simp [results, Tryz.results96, go_sem, m0, m1, zN, Nat.ne_of_lt zN, Nat.ne_of_gt zN]) rfl ?_
                                            exact ⟨by rw [V.out, F.out]; cases b <;> rfl, by repeat (first | (with_reducible exact BEL.out) | (with_reducible refine Below.setCell ?_ (by simp) _) | (with_reducible refine bplus ?_ _))⟩
                                        · obtain rfl : x5 = 0 := by omega
                                          have PM := hide (show d' = P by have := R9.out; rw [Nat.pow_zero, Nat.mul_one] at this; exact this)
                                          have F := hide (fracDn_yes E2.out E5.out HP.out (show P ≤ 9223372036854775807 by rw [← PM.out]; exact b2))
                                          rw [← PM.out] at F
                                          clear R9
                                          cases b
                                          · go_wp2
                                            refine bodyPost_ret (v := .agg #[.int .i64 ((m5 : Nat) : Int), .int .i64 (d' : Int)]) (by simp [results, Tryz.results96, go_sem, m0, m1, zN, Nat.ne_of_lt zN, Nat.ne_of_gt zN]) rfl ?_
                                            exact ⟨by rw [V.out, F.out]; rfl, by repeat (first | (with_reducible exact BEL.out) | (with_reducible refine Below.setCell ?_ (by simp) _) | (with_reducible refine bplus ?_ _))⟩
                                          · go_wp2
                                            refine bodyPost_ret (v := .agg #[.int .i64 (-((m5 : Nat) : Int)), .int .i64 (d' : Int)]) (by simp [results, Tryz.results96, go_sem, m0, m1, zN, Nat.ne_of_lt zN, Nat.ne_of_gt zN]) rfl ?_
                                            exact ⟨by rw [V.out, F.out]; rfl, by repeat (first | (with_reducible exact BEL.out) | (with_reducible refine Below.setCell ?_ (by simp) _) | (with_reducible refine bplus ?_ _))⟩
                              · obtain rfl : t5 = 0 := by omega
                                clear hg
                                by_cases hov : 62 < t2 ∨ 27 < 0
                                · have F := hide (fracDn_no E2.out E5.out (dn_over2 hov))
                                  rcases (show 62 < t2 ∨ (t2 ≤ 62 ∧ 27 < 0) by omega) with o1 | ⟨o1, o2⟩
                                  · have o3 : (62 : Int) < ((t2 : Nat) : Int) := by omega
                                    clear hov
                                    go_wp2_with (go_at_call 95; refine (over_any _).mono ?_; rintro e1 w1 ⟨rfl, c, rfl⟩)
                                    refine bodyPost_ret (v := .agg #[.int .i64 0, .int .i64 0]) (by simp [results, Tryz.results96, go_sem, m0, m1, zN, Nat.ne_of_lt zN, Nat.ne_of_gt zN]) rfl ?_
                                    exact ⟨by rw [V.out, F.out]; cases b <;> rfl, by repeat (first | (with_reducible exact BEL.out) | (with_reducible refine Below.setCell ?_ (by simp) _) | (with_reducible refine bplus ?_ _))⟩
                                  · exact absurd o2 (by omega)
                                · have o1 : t2 ≤ 62 := by omega
                                  have o2 : 0 ≤ 27 := by omega
                                  have o3 : ¬ (62 : Int) < ((t2 : Nat) : Int) := by omega
                                  have o4 : ¬ (27 : Int) < ((0 : Nat) : Int) := by omega
                                  clear hov
                                  go_wp2
                                  go_loop [12, 13] (fun d t => RelPw (2 ^ t2) d t) (fun _ t => (intOf t).toNat)
                                  case atStart => exact .mk 1 t2 rfl rfl (by omega) (by omega) o1 (by omega)
                                  case round =>
                                    obtain ⟨d, x2, rfl, rfl, d1, d2, d3, R7⟩ := hrel
                                    by_cases hx : 0 < x2
                                    · have R8 := hide (pow_go R7.out hx)
                                      have d4 := pw_le R7.out hx o1
                                      have hx2 : (0 : Int) < x2 := by omega
                                      go_wp2
                                      go_round
                                      case rel => exact .mk (d * 2) (x2 - 1) (by go_num) (by go_num) (by omega) (by omega) (by omega) R8.out
                                      case measure => first | (simp [intOf]; done) | (simp [intOf]; omega)
                                    · obtain rfl : x2 = 0 := by omega
                                      have PD := hide (show d = 2 ^ t2 by have := R7.out; rw [Nat.pow_zero, Nat.mul_one] at this; exact this)
                                      obtain ⟨P, hP⟩ : ∃ P, 2 ^ t2 * 5 ^ 0 = P := ⟨_, rfl⟩
                                      have HP := hide hP
                                      clear hP R7
                                      go_wp2
                                      go_loop [12, 14] (fun d t => RelMul 5 P d t) (fun _ t => (intOf t).toNat)
                                      case atStart => exact .mk d 0 rfl rfl d1 (by omega) (by omega) (by rw [PD.out]; exact HP.out)
                                      case round =>
                                        obtain ⟨d', x5, rfl, rfl, b1, b2, b3, R9⟩ := hrel
                                        by_cases hx5 : 0 < x5
                                        · by_cases hd5 : d' ≤ 1844674407370955161
                                          · have R8 := hide (pow_go R9.out hx5)
                                            have g1 : (d' : Int) ≤ 1844674407370955161 := by omega
                                            have g2 : (0 : Int) < x5 := by omega
                                            go_wp2
                                            go_round
                                            case rel => exact .mk (d' * 5) (x5 - 1) (by go_num) (by go_num) (by omega) (by omega) (by omega) R8.out
                                            case measure => first | (simp [intOf]; done) | (simp [intOf]; omega)
                                          · have F := hide (fracDn_no E2.out E5.out (show ¬ 2 ^ t2 * 5 ^ 0 ≤ 9223372036854775807 by rw [HP.out, ← R9.out]; exact pow_over (by omega) (by omega) hx5))
                                            have g1 : 1844674407370955161 < (d' : Int) := by omega
                                            have g2 : (0 : Int) < x5 := by omega
                                            go_wp2_with (go_at_call 95; refine (over_any _).mono ?_; rintro e1 w1 ⟨rfl, c, rfl⟩)
                                            refine bodyPost_ret (v := .agg #[.int .i64 0, .int .i64 0]) (by simp [results, Tryz.results96, go_sem, m0, m1, zN, Nat.ne_of_lt zN, Nat.ne_of_gt zN]) rfl ?_
                                            exact ⟨by rw [V.out, F.out]; cases b <;> rfl, by repeat (first | (with_reducible exact BEL.out) | (with_reducible refine Below.setCell ?_ (by simp) _) | (with_reducible refine bplus ?_ _))⟩
                                        · obtain rfl : x5 = 0 := by omega
                                          have PM := hide (show d' = P by have := R9.out; rw [Nat.pow_zero, Nat.mul_one] at this; exact this)
                                          have F := hide (fracDn_yes E2.out E5.out HP.out (show P ≤ 9223372036854775807 by rw [← PM.out]; exact b2))
                                          rw [← PM.out] at F
                                          clear R9
                                          cases b
                                          · go_wp2
                                            refine bodyPost_ret (v := .agg #[.int .i64 ((m5 : Nat) : Int), .int .i64 (d' : Int)]) (by simp [results, Tryz.results96, go_sem, m0, m1, zN, Nat.ne_of_lt zN, Nat.ne_of_gt zN]) rfl ?_
                                            exact ⟨by rw [V.out, F.out]; rfl, by repeat (first | (with_reducible exact BEL.out) | (with_reducible refine Below.setCell ?_ (by simp) _) | (with_reducible refine bplus ?_ _))⟩
                                          · go_wp2
                                            refine bodyPost_ret (v := .agg #[.int .i64 (-((m5 : Nat) : Int)), .int .i64 (d' : Int)]) (by simp [results, Tryz.results96, go_sem, m0, m1, zN, Nat.ne_of_lt zN, Nat.ne_of_gt zN]) rfl ?_
                                            exact ⟨by rw [V.out, F.out]; rfl, by repeat (first | (with_reducible exact BEL.out) | (with_reducible refine Below.setCell ?_ (by simp) _) | (with_reducible refine bplus ?_ _))⟩
                        · obtain rfl : t2 = 0 := by omega
                          clear hg
                          go_wp2
                          go_loop [9, 14] (fun n t => RelDiv 5 m2 q n t) (fun _ t => (intOf t).toNat)
                          case atStart => exact .mk m2 q rfl (by first | rfl | (congr 1; omega)) a1 (by omega) hq9 rfl
                          case round =>
                            obtain ⟨m5, t5, rfl, rfl, a1, a2, a3, R6⟩ := hrel
                            by_cases hg : 0 < t5 ∧ m5 % 5 = 0
                            · obtain ⟨hk, hm2⟩ := hg
                              obtain ⟨j5, rfl⟩ : ∃ j5, t5 = j5 + 1 := ⟨t5 - 1, by omega⟩
                              have R5 := hide (R6.out.trans (strip_go hm2))
                              have hk2 : (0 : Int) < ((j5 + 1 : Nat) : Int) := by omega
                              have hb2 : ((m5 : Int) % 5 == 0) = true := by simp; omega
                              go_wp2
                              go_round
                              case rel => exact .mk (m5 / 5) j5 (by go_num) (by go_num) (by omega) (by omega) (by omega) R5.out
                              case measure => first | (simp [intOf]; done) | (simp [intOf]; omega)
                            · have E5 := hide (show strip 5 m2 q = (m5, t5) by
                                rw [R6.out]
                                by_cases hk : t5 = 0
                                · subst hk; rfl
                                · exact strip_stop (fun h => hg ⟨by omega, h⟩))
                              clear R6
                              by_cases hk : 0 < t5
                              · have hb3 : ((m5 : Int) % 5 == 0) = false := by simp; omega
                                have hk2 : (0 : Int) < (t5 : Int) := by omega
                                clear hg
                                by_cases hov : 62 < 0 ∨ 27 < t5
                                · have F := hide (fracDn_no E2.out E5.out (dn_over2 hov))
                                  rcases (show 62 < 0 ∨ (0 ≤ 62 ∧ 27 < t5) by omega) with o1 | ⟨o1, o2⟩
                                  · exact absurd o1 (by omega)
                                  · have o3 : ¬ (62 : Int) < ((0 : Nat) : Int) := by omega
                                    have o4 : (27 : Int) < ((t5 : Nat) : Int) := by omega
                                    clear hov
                                    go_wp2_with (go_at_call 95; refine (over_any _).mono ?_; rintro e1 w1 ⟨rfl, c, rfl⟩)
                                    refine bodyPost_ret (v := .agg #[.int .i64 0, .int .i64 0]) (by simp [results, Tryz.results96, go_sem, m0, m1, zN, Nat.ne_of_lt zN, Nat.ne_of_gt zN]) rfl ?_
                                    exact ⟨by rw [V.out, F.out]; cases b <;> rfl, by repeat (first | (with_reducible exact BEL.out) | (with_reducible refine Below.setCell ?_ (by simp) _) | (with_reducible refine bplus ?_ _))⟩
                                · have o1 : 0 ≤ 62 := by omega
                                  have o2 : t5 ≤ 27 := by omega
                                  have o3 : ¬ (62 : Int) < ((0 : Nat) : Int) := by omega
                                  have o4 : ¬ (27 : Int) < ((t5 : Nat) : Int) := by omega
                                  clear hov
                                  go_wp2
                                  go_loop [12, 13] (fun d t => RelPw (2 ^ 0) d t) (fun _ t => (intOf t).toNat)
                                  case atStart => exact .mk 1 0 rfl rfl (by omega) (by omega) o1 (by omega)
                                  case round =>
                                    obtain ⟨d, x2, rfl, rfl, d1, d2, d3, R7⟩ := hrel
                                    by_cases hx : 0 < x2
                                    · have R8 := hide (pow_go R7.out hx)
                                      have d4 := pw_le R7.out hx o1
                                      have hx2 : (0 : Int) < x2 := by omega
                                      go_wp2
                                      go_round
                                      case rel => exact .mk (d * 2) (x2 - 1) (by go_num) (by go_num) (by omega) (by omega) (by omega) R8.out
                                      case measure => first | (simp [intOf]; done) | (simp [intOf]; omega)
                                    · obtain rfl : x2 = 0 := by omega
                                      have PD := hide (show d = 2 ^ 0 by have := R7.out; rw [Nat.pow_zero, Nat.mul_one] at this; exact this)
                                      obtain ⟨P, hP⟩ : ∃ P, 2 ^ 0 * 5 ^ t5 = P := ⟨_, rfl⟩
                                      have HP := hide hP
                                      clear hP R7
                                      go_wp2
                                      go_loop [12, 14] (fun d t => RelMul 5 P d t) (fun _ t => (intOf t).toNat)
                                      case atStart => exact .mk d t5 rfl rfl d1 (by omega) (by omega) (by rw [PD.out]; exact HP.out)
                                      case round =>
                                        obtain ⟨d', x5, rfl, rfl, b1, b2, b3, R9⟩ := hrel
                                        by_cases hx5 : 0 < x5
                                        · by_cases hd5 : d' ≤ 1844674407370955161
                                          · have R8 := hide (pow_go R9.out hx5)
                                            have g1 : (d' : Int) ≤ 1844674407370955161 := by omega
                                            have g2 : (0 : Int) < x5 := by omega
                                            go_wp2
                                            go_round
                                            case rel => exact .mk (d' * 5) (x5 - 1) (by go_num) (by go_num) (by omega) (by omega) (by omega) R8.out
                                            case measure => first | (simp [intOf]; done) | (simp [intOf]; omega)
                                          · have F := hide (fracDn_no E2.out E5.out (show ¬ 2 ^ 0 * 5 ^ t5 ≤ 9223372036854775807 by rw [HP.out, ← R9.out]; exact pow_over (by omega) (by omega) hx5))
                                            have g1 : 1844674407370955161 < (d' : Int) := by omega
                                            have g2 : (0 : Int) < x5 := by omega
                                            go_wp2_with (go_at_call 95; refine (over_any _).mono ?_; rintro e1 w1 ⟨rfl, c, rfl⟩)
                                            refine bodyPost_ret (v := .agg #[.int .i64 0, .int .i64 0]) (by simp [results, Tryz.results96, go_sem, m0, m1, zN, Nat.ne_of_lt zN, Nat.ne_of_gt zN]) rfl ?_
                                            exact ⟨by rw [V.out, F.out]; cases b <;> rfl, by repeat (first | (with_reducible exact BEL.out) | (with_reducible refine Below.setCell ?_ (by simp) _) | (with_reducible refine bplus ?_ _))⟩
                                        · obtain rfl : x5 = 0 := by omega
                                          have PM := hide (show d' = P by have := R9.out; rw [Nat.pow_zero, Nat.mul_one] at this; exact this)
                                          have F := hide (fracDn_yes E2.out E5.out HP.out (show P ≤ 9223372036854775807 by rw [← PM.out]; exact b2))
                                          rw [← PM.out] at F
                                          clear R9
                                          cases b
                                          · go_wp2
                                            refine bodyPost_ret (v := .agg #[.int .i64 ((m5 : Nat) : Int), .int .i64 (d' : Int)]) (by simp [results, Tryz.results96, go_sem, m0, m1, zN, Nat.ne_of_lt zN, Nat.ne_of_gt zN]) rfl ?_
                                            exact ⟨by rw [V.out, F.out]; rfl, by repeat (first | (with_reducible exact BEL.out) | (with_reducible refine Below.setCell ?_ (by simp) _) | (with_reducible refine bplus ?_ _))⟩
                                          · go_wp2
                                            refine bodyPost_ret (v := .agg #[.int .i64 (-((m5 : Nat) : Int)), .int .i64 (d' : Int)]) (by simp [results, Tryz.results96, go_sem, m0, m1, zN, Nat.ne_of_lt zN, Nat.ne_of_gt zN]) rfl ?_
                                            exact ⟨by rw [V.out, F.out]; rfl, by repeat (first | (with_reducible exact BEL.out) | (with_reducible refine Below.setCell ?_ (by simp) _) | (with_reducible refine bplus ?_ _))⟩
                              · obtain rfl : t5 = 0 := by omega
                                clear hg
                                by_cases hov : 62 < 0 ∨ 27 < 0
                                · have F := hide (fracDn_no E2.out E5.out (dn_over2 hov))
                                  rcases (show 62 < 0 ∨ (0 ≤ 62 ∧ 27 < 0) by omega) with o1 | ⟨o1, o2⟩
                                  · exact absurd o1 (by omega)
                                  · exact absurd o2 (by omega)
                                · have o1 : 0 ≤ 62 := by omega
                                  have o2 : 0 ≤ 27 := by omega
                                  have o3 : ¬ (62 : Int) < ((0 : Nat) : Int) := by omega
                                  have o4 : ¬ (27 : Int) < ((0 : Nat) : Int) := by omega
                                  clear hov
                                  go_wp2
                                  go_loop [12, 13] (fun d t => RelPw (2 ^ 0) d t) (fun _ t => (intOf t).toNat)
                                  case atStart => exact .mk 1 0 rfl rfl (by omega) (by omega) o1 (by omega)
                                  case round =>
                                    obtain ⟨d, x2, rfl, rfl, d1, d2, d3, R7⟩ := hrel
                                    by_cases hx : 0 < x2
                                    · have R8 := hide (pow_go R7.out hx)
                                      have d4 := pw_le R7.out hx o1
                                      have hx2 : (0 : Int) < x2 := by omega
                                      go_wp2
                                      go_round
                                      case rel => exact .mk (d * 2) (x2 - 1) (by go_num) (by go_num) (by omega) (by omega) (by omega) R8.out
                                      case measure => first | (simp [intOf]; done) | (simp [intOf]; omega)
                                    · obtain rfl : x2 = 0 := by omega
                                      have PD := hide (show d = 2 ^ 0 by have := R7.out; rw [Nat.pow_zero, Nat.mul_one] at this; exact this)
                                      obtain ⟨P, hP⟩ : ∃ P, 2 ^ 0 * 5 ^ 0 = P := ⟨_, rfl⟩
                                      have HP := hide hP
                                      clear hP R7
                                      go_wp2
                                      go_loop [12, 14] (fun d t => RelMul 5 P d t) (fun _ t => (intOf t).toNat)
                                      case atStart => exact .mk d 0 rfl rfl d1 (by omega) (by omega) (by rw [PD.out]; exact HP.out)
                                      case round =>
                                        obtain ⟨d', x5, rfl, rfl, b1, b2, b3, R9⟩ := hrel
                                        by_cases hx5 : 0 < x5
                                        · by_cases hd5 : d' ≤ 1844674407370955161
                                          · have R8 := hide (pow_go R9.out hx5)
                                            have g1 : (d' : Int) ≤ 1844674407370955161 := by omega
                                            have g2 : (0 : Int) < x5 := by omega
                                            go_wp2
                                            go_round
                                            case rel => exact .mk (d' * 5) (x5 - 1) (by go_num) (by go_num) (by omega) (by omega) (by omega) R8.out
                                            case measure => first | (simp [intOf]; done) | (simp [intOf]; omega)
                                          · have F := hide (fracDn_no E2.out E5.out (show ¬ 2 ^ 0 * 5 ^ 0 ≤ 9223372036854775807 by rw [HP.out, ← R9.out]; exact pow_over (by omega) (by omega) hx5))
                                            have g1 : 1844674407370955161 < (d' : Int) := by omega
                                            have g2 : (0 : Int) < x5 := by omega
                                            go_wp2_with (go_at_call 95; refine (over_any _).mono ?_; rintro e1 w1 ⟨rfl, c, rfl⟩)
                                            refine bodyPost_ret (v := .agg #[.int .i64 0, .int .i64 0]) (by simp [results, Tryz.results96, go_sem, m0, m1, zN, Nat.ne_of_lt zN, Nat.ne_of_gt zN]) rfl ?_
                                            exact ⟨by rw [V.out, F.out]; cases b <;> rfl, by repeat (first | (with_reducible exact BEL.out) | (with_reducible refine Below.setCell ?_ (by simp) _) | (with_reducible refine bplus ?_ _))⟩
                                        · obtain rfl : x5 = 0 := by omega
                                          have PM := hide (show d' = P by have := R9.out; rw [Nat.pow_zero, Nat.mul_one] at this; exact this)
                                          have F := hide (fracDn_yes E2.out E5.out HP.out (show P ≤ 9223372036854775807 by rw [← PM.out]; exact b2))
                                          rw [← PM.out] at F
                                          clear R9
                                          cases b
                                          · go_wp2
                                            refine bodyPost_ret (v := .agg #[.int .i64 ((m5 : Nat) : Int), .int .i64 (d' : Int)]) (by simp [results, Tryz.results96, go_sem, m0, m1, zN, Nat.ne_of_lt zN, Nat.ne_of_gt zN]) rfl ?_
                                            exact ⟨by rw [V.out, F.out]; rfl, by repeat (first | (with_reducible exact BEL.out) | (with_reducible refine Below.setCell ?_ (by simp) _) | (with_reducible refine bplus ?_ _))⟩
                                          · go_wp2
                                            refine bodyPost_ret (v := .agg #[.int .i64 (-((m5 : Nat) : Int)), .int .i64 (d' : Int)]) (by simp [results, Tryz.results96, go_sem, m0, m1, zN, Nat.ne_of_lt zN, Nat.ne_of_gt zN]) rfl ?_
                                            exact ⟨by rw [V.out, F.out]; rfl, by repeat (first | (with_reducible exact BEL.out) | (with_reducible refine Below.setCell ?_ (by simp) _) | (with_reducible refine bplus ?_ _))⟩
    · have hkn : k = s.size := by omega
      have V := hide (val_zero (b := b) (D := bl s) (k := e) (show cutR (cut0 (bl s)) = [] by rw [R1.out, List.drop_of_length_le (by rw [bl_len]; omega)]; rfl))
      have hne : ((k : Int) == s.size) = true := by simp; omega
      clear hkn
      go_wp2_with (go_at_call 120; refine (intR_any _ _).mono ?_; rintro e1 w1 ⟨rfl, c, rfl⟩)
      refine bodyPost_ret (v := .agg #[.int .i64 0, .int .i64 1]) (by simp [results, Tryz.results96, go_sem]) rfl ?_
      exact ⟨by rw [V.out]; rfl, by repeat (first | (with_reducible exact BEL.out) | (with_reducible refine Below.setCell ?_ (by simp) _) | (with_reducible refine bplus ?_ _) | (with_reducible exact Below.refl _ _))⟩
end Go.Proofs.YtckefmhleklciaaGreatDoor
set_option linter.unusedVariables false
set_option linter.unusedSimpArgs false
namespace Go.Proofs.YtckefmhleklciaaGreatDoor
open Go.RowKit

theorem dgs_eq (l : List Int) : dgs l = l.drop (tkd l).length := by
  unfold dgs tkd
  induction l with
  | nil => rfl
  | cons x l ih =>
    by_cases h : isDig x = true
    · rw [List.dropWhile_cons_of_pos h, List.takeWhile_cons_of_pos h]; simpa using ih
    · rw [List.dropWhile_cons_of_neg h, List.takeWhile_cons_of_neg h]; rfl
theorem tkd_eq (l : List Int) : tkd l = l.take (tkd l).length := by
  unfold tkd
  induction l with
  | nil => rfl
  | cons x l ih =>
    by_cases h : isDig x = true
    · rw [List.takeWhile_cons_of_pos h]
      simp only [List.length_cons, List.take_succ_cons]
      rw [← ih]
    · rw [List.takeWhile_cons_of_neg h]; rfl
theorem nx_tkd (l : List Int) (q : Nat) (h : q < (tkd l).length) : nx (tkd l) q = nx l q := by
  have e : l = tkd l ++ dgs l := (List.takeWhile_append_dropWhile (p := isDig)).symm
  have e2 : nx l q = nx (tkd l ++ dgs l) q := by rw [← e]
  rw [e2]
  simp only [nx, List.getD_eq_getElem?_getD]
  rw [List.getElem?_append_left h]
/-- How many a sign takes. -/
def sgK (S : List Int) : Nat := if isSg (nx S 0) then 1 else 0
theorem sgn_K (S : List Int) : (sgn S).2 = S.drop (sgK S) := by unfold sgn sgK; split <;> simp
theorem sgn_casesK (s : ByteArray) : (s.size = 0 ∧ (sgn (bl s)).1 = false ∧ sgK (bl s) = 0) ∨ ∃ h : 0 < s.size, ((s[0].toNat : Int) = 43 ∧ (sgn (bl s)).1 = false ∧ sgK (bl s) = 1) ∨ ((s[0].toNat : Int) = 45 ∧ (sgn (bl s)).1 = true ∧ sgK (bl s) = 1) ∨ ((s[0].toNat : Int) ≠ 43 ∧ (s[0].toNat : Int) ≠ 45 ∧ (sgn (bl s)).1 = false ∧ sgK (bl s) = 0) := by
  by_cases h : 0 < s.size
  · right
    refine ⟨h, ?_⟩
    unfold sgn sgK
    rw [bl_nx s 0 h]
    generalize (s[0].toNat : Int) = x
    rcases (show x = 43 ∨ x = 45 ∨ (x ≠ 43 ∧ x ≠ 45) by omega) with rfl | rfl | ⟨h1, h2⟩
    · left; exact ⟨rfl, rfl, rfl⟩
    · right; left; exact ⟨rfl, rfl, rfl⟩
    · right; right; refine ⟨h1, h2, ?_⟩; rw [if_neg (by simp [isSg, h1, h2]), if_neg (by simp [isSg, h1, h2])]; exact ⟨rfl, rfl⟩
  · left
    refine ⟨by omega, ?_⟩
    unfold sgn sgK
    rw [bl_out s 0 (by omega)]; exact ⟨rfl, rfl⟩
theorem pA_K (S : List Int) : pA S = tkd (S.drop (sgK S)) := by unfold pA p0; rw [sgn_K]
theorem p1_K (S : List Int) : p1 S = S.drop (sgK S + (tkd (S.drop (sgK S))).length) := by unfold p1 p0; rw [sgn_K, dgs_eq, List.drop_drop]
/-- Where the digits ahead of the e have ended. -/
def RelDot (s : ByteArray) (neg : Bool) (i j ds fr wh : Value) : Prop := ∃ (r jj k : Nat) (t : ByteArray) (h : Bool), i = .int .i64 r ∧ j = .int .i64 jj ∧ ds = .string t ∧ fr = .int .i64 k ∧ wh = .bool h ∧
  r ≤ s.size ∧ k ≤ s.size ∧ Hid ((bl t).length ≤ s.size ∧ Digs (bl t) ∧ dec (bl s) = decE neg (bl t) k h ((bl s).drop r))
theorem RelDot.mk {s : ByteArray} {neg : Bool} {i j ds fr wh : Value} (r jj k : Nat) (t : ByteArray) (h : Bool) (h1 : i = .int .i64 r) (h2 : j = .int .i64 jj) (h3 : ds = .string t) (h4 : fr = .int .i64 k) (h5 : wh = .bool h)
    (h6 : r ≤ s.size) (h7 : k ≤ s.size) (h8 : (bl t).length ≤ s.size) (h9 : Digs (bl t)) (h10 : dec (bl s) = decE neg (bl t) k h ((bl s).drop r)) : RelDot s neg i j ds fr wh := ⟨r, jj, k, t, h, h1, h2, h3, h4, h5, h6, h7, h8, h9, h10⟩
/-- The state of the reference's loop over an exponent's digits. -/
def RelXr (ds : List Int) (i3 : Nat) (i e : Value) : Prop := ∃ q m : Nat, q ≤ ds.length ∧ i = .int .i64 ((i3 + q : Nat) : Int) ∧ e = .int .i64 m ∧ m ≤ 1099511627776 ∧ Hid (m = natOf (ds.take q) ∨ (m = 1099511627776 ∧ 1099511627776 ≤ natOf (ds.take q)))
theorem RelXr.mk {ds : List Int} {i3 : Nat} {i e : Value} (q m : Nat) (h1 : q ≤ ds.length) (h2 : i = .int .i64 ((i3 + q : Nat) : Int)) (h3 : e = .int .i64 m) (h4 : m ≤ 1099511627776) (h5 : m = natOf (ds.take q) ∨ (m = 1099511627776 ∧ 1099511627776 ≤ natOf (ds.take q))) : RelXr ds i3 i e := ⟨q, m, h1, h2, h3, h4, h5⟩
theorem near_r {m N : Nat} (h : m = N ∨ (m = 1099511627776 ∧ 1099511627776 ≤ N)) : Near (m : Int) (N : Int) := by unfold Near; omega
theorem sgK_one {S : List Int} (h : sgK S = 1) : isSg (nx S 0) = true := by unfold sgK at h; revert h; cases isSg (nx S 0) <;> simp
theorem sgK_zero {S : List Int} (h : sgK S = 0) : isSg (nx S 0) = false := by unfold sgK at h; revert h; cases isSg (nx S 0) <;> simp
set_option maxRecDepth 100000 in
set_option maxHeartbeats 4000000 in
theorem decR_any (s : ByteArray) (w : World) (hs : s.size ≤ 1000000000) :
    Calls Tryz.prog 72 #[.string s] w fun e w' => e = .returned (decV (bl s)) ∧ Below w.heap.size w w' := by
  have BEL := hide (Below.refl w.heap.size w)
  have K1 : sgK (bl s) ≤ s.size ∧ sgK (bl s) ≤ 1 := by
    rcases sgn_casesK s with ⟨h0, _, e⟩ | ⟨h0, ⟨_, _, e⟩ | ⟨_, _, e⟩ | ⟨_, _, _, e⟩⟩ <;> omega
  obtain ⟨k1, k2⟩ := K1
  obtain ⟨p1', p2', p3', p4', p5'⟩ := p_len (bl s)
  rw [bl_len] at p3' p4' p5'
  obtain ⟨c, hc⟩ : ∃ c, isSg (nx (bl s) 0) = c := ⟨_, rfl⟩
  have HC := hide hc
  clear hc
  go_enter Tryz.func72, Tryz.ntmps72
  go_upto_region 2 with fail
  go_cut [28] (fun x wx => wx = w.alloc (.cells #[.int .i64 0, .int .i64 0] 32) ∧ x = .bool c)
  case first =>
    as_aux_lemma =>
      rcases sgn_casesK s with ⟨h0, e1, e2⟩ | ⟨h0, ⟨h, e1, e2⟩ | ⟨h, e1, e2⟩ | ⟨h, g, e1, e2⟩⟩
      all_goals
        try (have h' : ((s[0].toNat : Int) == 43) = false := by simpa using h)
        try (have g' : ((s[0].toNat : Int) == 45) = false := by simpa using g)
        have E2 := hide e2
        clear e1 e2 k1 k2
        go_wp2
        go_meet
        refine ⟨rfl, ?_⟩
        congr 1
        have := E2.out
        unfold sgK at this
        rw [HC.out] at this
        revert this
        cases c <;> simp
  case rest =>
    obtain ⟨rfl, rfl⟩ := hcut
    go_upto_if 28 with fail
    go_cut [5, 6] (fun i ng wx => wx = w.alloc (.cells #[.int .i64 0, .int .i64 0] 32) ∧ i = .int .i64 (sgK (bl s)) ∧ ng = .bool (sgn (bl s)).1)
    case first =>
      as_aux_lemma =>
        rcases sgn_casesK s with ⟨h0, e1, e2⟩ | ⟨h0, ⟨h, e1, e2⟩ | ⟨h, e1, e2⟩ | ⟨h, g, e1, e2⟩⟩
        · have E1 := hide e1
          have E2 := hide e2
          obtain rfl : c = false := by rw [← HC.out]; exact sgK_zero e2
          clear e1 e2 k1 k2
          go_wp2
          go_meet
          exact ⟨rfl, by rw [E2.out]; rfl, by rw [E1.out]⟩
        · have E1 := hide e1
          have E2 := hide e2
          obtain rfl : c = true := by rw [← HC.out]; exact sgK_one e2
          clear e1 e2 k1 k2
          go_wp2
          go_meet
          exact ⟨rfl, by rw [E2.out]; rfl, by rw [E1.out]⟩
        · have E1 := hide e1
          have E2 := hide e2
          obtain rfl : c = true := by rw [← HC.out]; exact sgK_one e2
          clear e1 e2 k1 k2
          go_wp2
          go_meet
          exact ⟨rfl, by rw [E2.out]; rfl, by rw [E1.out]⟩
        · have E1 := hide e1
          have E2 := hide e2
          obtain rfl : c = false := by rw [← HC.out]; exact sgK_zero e2
          clear e1 e2 k1 k2
          go_wp2
          go_meet
          exact ⟨rfl, by rw [E2.out]; rfl, by rw [E1.out]⟩
    case rest =>
      obtain ⟨rfl, rfl, rfl⟩ := hcut
      have PA := hide (pA_K (bl s))
      have P1 := hide (p1_K (bl s))
      have RUN := hide fun W i hi => run_any s i W (by omega) hi
      obtain ⟨i0, hi0⟩ : ∃ i0, sgK (bl s) = i0 := ⟨_, rfl⟩
      rw [hi0] at PA P1 k1 k2 ⊢
      have HI0 := hide hi0
      clear hi0
      obtain ⟨neg, hneg⟩ : ∃ neg, (sgn (bl s)).1 = neg := ⟨_, rfl⟩
      rw [hneg]
      have HNG := hide hneg
      clear hneg
      obtain ⟨j1, hj1⟩ : ∃ j1, i0 + (tkd ((bl s).drop i0)).length = j1 := ⟨_, rfl⟩
      have HJ1 := hide hj1
      have j1s : i0 ≤ j1 ∧ j1 ≤ s.size := by
        have h1 := tkd_len ((bl s).drop i0)
        rw [List.length_drop, bl_len] at h1
        omega
      rw [hj1] at P1
      have T1 := hide (show bl (s.extract i0 j1) = pA (bl s) by rw [bl_mid, PA.out, show j1 - i0 = (tkd ((bl s).drop i0)).length by omega]; exact (tkd_eq _).symm)
      obtain ⟨t1, ht1⟩ : ∃ t1, s.extract i0 j1 = t1 := ⟨_, rfl⟩
      rw [ht1] at T1
      have i0j : (i0 : Int) ≤ j1 := by omega
      have j1z : (j1 : Int) ≤ s.size := by omega
      clear hj1 p1' p2' p3'
      obtain ⟨dt, hdt⟩ : ∃ dt, (nx (p1 (bl s)) 0 == 46) = dt := ⟨_, rfl⟩
      have NX := hide (show nx (p1 (bl s)) 0 = nx (bl s) j1 by rw [P1.out, nx_drop]; rfl)
      have HDT := hide hdt
      clear hdt
      go_upto_region 8 with (go_at_call 94; refine (RUN.out _ _ k1).mono ?_; rintro e1 w1 ⟨he1, rfl⟩; rw [HJ1.out] at he1; subst he1)
      go_cut [52] (fun x wx => wx = w.alloc (.cells #[.int .i64 0, .int .i64 0] 32) ∧ x = .bool dt)
      case first =>
        as_aux_lemma =>
          by_cases hlt : j1 < s.size
          · have cx := bl_nx s j1 hlt
            have DT := hide (show ((s[j1].toNat : Int) == 46) = dt by rw [← cx, ← NX.out]; exact HDT.out)
            have hlt2 : (j1 : Int) < s.size := by omega
            clear cx ht1
            go_wp2
            go_meet
            exact ⟨rfl, by rw [DT.out]⟩
          · have DT := hide (show dt = false by rw [← HDT.out, NX.out, bl_out s j1 (by omega)]; rfl)
            have hlt2 : ¬ (j1 : Int) < s.size := by omega
            clear ht1
            go_wp2
            go_meet
            exact ⟨rfl, by rw [DT.out]⟩
      case rest =>
        obtain ⟨rfl, rfl⟩ := hcut
        have RUN2 := hide (show j1 < s.size → ∀ W, Calls Tryz.prog 94 #[.string s, .int .i64 ((j1 : Int) + 1)] W fun e w' => e = .returned (.int .i64 ((j1 + 1 + (pB (bl s)).length : Nat) : Int)) ∧ w' = W from fun h W => by
          have := RUN.out W (j1 + 1) (by omega)
          rw [show ((j1 + 1 : Nat) : Int) = (j1 : Int) + 1 by omega] at this
          unfold pB
          rw [P1.out, List.drop_drop]
          exact this)
        by_cases hA1 : dt = true ∧ pB (bl s) = []
        · as_aux_lemma =>
            obtain ⟨rfl, hB⟩ := hA1
            have hd46 : nx (p1 (bl s)) 0 = 46 := by simpa using HDT.out
            have hj1l : j1 < s.size := Nat.lt_of_not_le fun h => by rw [NX.out, bl_out s j1 h] at hd46; omega
            have V := hide (decV_none (show dec (bl s) = none by rw [dec_dot hd46, if_pos hB]))
            replace RUN2 := RUN2.out hj1l
            rw [hB] at RUN2
            replace RUN2 := hide RUN2
            clear hB hd46 ht1
            go_wp2_with (first | (go_at_call 94; refine (RUN2.out _).mono ?_; rintro e1 w1 ⟨rfl, rfl⟩) | (go_at_call 95; refine (over_any _).mono ?_; rintro e1 w1 ⟨rfl, cc, rfl⟩))
            refine bodyPost_ret (v := .tuple #[.agg #[.int .i64 0, .int .i64 0], .bool false, .int .i64 3]) (by simp [results, Tryz.results72, go_sem]) rfl ?_
            exact ⟨by rw [V.out]; rfl, by repeat (first | (with_reducible exact BEL.out) | (with_reducible refine Below.setCell ?_ (by simp) _) | (with_reducible refine bplus ?_ _))⟩
        · go_upto_if 52 with fail
          go_cut [5, 7, 8, 9, 10] (fun i j ds fr wh wx => wx = w.alloc (.cells #[.int .i64 0, .int .i64 0] 32) ∧ RelDot s neg i j ds fr wh)
          case first =>
            as_aux_lemma =>
              cases dt
              · have hd46 : nx (p1 (bl s)) 0 ≠ 46 := by simpa using HDT.out
                have D := hide (dec_nodot hd46)
                rw [HNG.out, ← T1.out, P1.out] at D
                have LT := hide (show (bl t1).length ≤ s.size by rw [T1.out]; omega)
                have DG := hide (show Digs (bl t1) by rw [T1.out]; exact tkd_digs _)
                clear hd46 hA1 ht1
                go_wp2
                go_meet
                exact ⟨rfl, .mk j1 j1 0 t1 true rfl rfl rfl rfl rfl j1s.2 (by omega) LT.out DG.out D.out⟩
              · have hB : pB (bl s) ≠ [] := fun h => hA1 ⟨rfl, h⟩
                have hd46 : nx (p1 (bl s)) 0 = 46 := by simpa using HDT.out
                have hj1l : j1 < s.size := Nat.lt_of_not_le fun h => by rw [NX.out, bl_out s j1 h] at hd46; omega
                replace RUN2 := RUN2.out hj1l
                have lB : 0 < (pB (bl s)).length := List.length_pos_iff.2 hB
                have PB := hide (show pB (bl s) = tkd ((bl s).drop (j1 + 1)) by unfold pB; rw [P1.out, List.drop_drop])
                have P2 := hide (show p2 (bl s) = (bl s).drop (j1 + 1 + (pB (bl s)).length) by rw [PB.out]; unfold p2; rw [P1.out, List.drop_drop, dgs_eq, List.drop_drop])
                have D := hide (show dec (bl s) = decE (sgn (bl s)).1 (pA (bl s) ++ pB (bl s)) (pB (bl s)).length false (p2 (bl s)) by rw [dec_dot hd46, if_neg hB])
                have j2s : j1 + 1 + (pB (bl s)).length ≤ s.size := by
                  have h1 := tkd_len ((bl s).drop (j1 + 1))
                  rw [List.length_drop, bl_len, ← PB.out] at h1
                  omega
                have T2 := hide (show bl (s.extract (j1 + 1) (j1 + 1 + (pB (bl s)).length)) = pB (bl s) by
                  rw [bl_mid, show j1 + 1 + (pB (bl s)).length - (j1 + 1) = (pB (bl s)).length by omega]
                  rw [PB.out]; exact (tkd_eq _).symm)
                have LB := hide (rfl : (pB (bl s)).length = (pB (bl s)).length)
                rw [HNG.out, ← T1.out, P2.out] at D
                have DG := hide (digs_ab (bl s))
                have L4 := hide p4'
                have L1 := hide (show t1.size = (pA (bl s)).length by rw [← bl_len, T1.out])
                generalize pB (bl s) = B at *
                obtain ⟨n, hn⟩ : ∃ n, B.length = n := ⟨_, rfl⟩
                rw [hn] at RUN2 lB D j2s T2 L4
                obtain ⟨t2, ht2⟩ : ∃ t2, s.extract (j1 + 1) (j1 + 1 + n) = t2 := ⟨_, rfl⟩
                rw [ht2] at T2
                have sz : t1.size + t2.size ≤ 1000000000 := by
                  have := L1.out; have := L4.out
                  have h2 : t2.size = n := by rw [← bl_len, T2.out, hn]
                  omega
                have HN := hide hn
                replace RUN2 := hide RUN2
                have hne : (((j1 + 1 + n : Nat) : Int) == (j1 : Int) + 1) = false := by simp; omega
                have q1 : (j1 : Int) + 1 ≤ ((j1 + 1 + n : Nat) : Int) := by omega
                have q2 : ((j1 + 1 + n : Nat) : Int) ≤ s.size := by omega
                clear hB hd46 hA1 hn P2 PB p4' p5' ht1
                go_wp2_with (go_at_call 94; refine (RUN2.out _).mono ?_; rintro e1 w1 ⟨rfl, rfl⟩)
                go_meet
                exact ⟨rfl, .mk (j1 + 1 + n) (j1 + 1 + n) n (t1 ++ t2) false (by first | rfl | (congr 1; done) | (congr 1; omega)) (by first | rfl | (congr 1; done) | (congr 1; omega)) rfl (by first | rfl | (congr 1; done) | (congr 1; omega)) rfl j2s (by omega)
                  (by rw [bl_app, T1.out, T2.out, List.length_append, HN.out]; exact L4.out) (by rw [bl_app, T1.out, T2.out]; exact DG.out) (by rw [bl_app, T2.out]; exact D.out)⟩
          case rest =>
            obtain ⟨rfl, hrel⟩ := hcut
            obtain ⟨r, jj, k, t, h, rfl, rfl, rfl, rfl, rfl, hr, hk, HD⟩ := hrel
            clear RUN2 hA1 ht1 NX HDT T1 P1 PA HJ1 j1s i0j j1z p4' p5' HNG HI0 k1 k2 HC
            have tz : t.size ≤ 1000000000 := by have := HD.out.1; rw [bl_len] at this; omega
            have VAL := hide fun W x hx => valueR_any neg t x W tz hx HD.out.2.1
            by_cases hD : bl t = []
            · as_aux_lemma =>
                have V := hide (decV_none (show dec (bl s) = none by rw [HD.out.2.2, hD]; exact decE_none))
                have n1 := emp_of rfl hD
                clear hD
                go_wp2_with (go_at_call 95; refine (over_any _).mono ?_; rintro e1 w1 ⟨rfl, cc, rfl⟩)
                refine bodyPost_ret (v := .tuple #[.agg #[.int .i64 0, .int .i64 0], .bool false, .int .i64 3]) (by simp [results, Tryz.results72, go_sem]) rfl ?_
                exact ⟨by rw [V.out]; rfl, by repeat (first | (with_reducible exact BEL.out) | (with_reducible refine Below.setCell ?_ (by simp) _) | (with_reducible refine bplus ?_ _))⟩
            · have n1 := full_of rfl hD
              by_cases hrl : r < s.size
              · have cx := bl_nx s r hrl
                have hne : (bl s).drop r ≠ [] := by intro q; have := congrArg List.length q; rw [List.length_drop, bl_len] at this; simp at this; omega
                have DE := hide (show dec (bl s) = (expo ((bl s).drop r)).map fun e => (valOf neg (bl t) (e - k), false) by rw [HD.out.2.2]; exact decE_exp hD hne)
                have X0 := hide (show nx ((bl s).drop r) 0 = nx (bl s) r by rw [nx_drop]; rfl)
                have hrl2 : (r : Int) < s.size := by omega
                clear hne hD
                by_cases he : nx (bl s) r = 101 ∨ nx (bl s) r = 69
                · have HE := hide he
                  rw [cx] at he
                  have Q1 := hide (show ((bl s).drop r).drop 1 = (bl s).drop (r + 1) by rw [List.drop_drop])
                  have NX1 := hide (show nx ((bl s).drop (r + 1)) 0 = nx (bl s) (r + 1) by rw [nx_drop])
                  have SK := hide (sgn_K ((bl s).drop (r + 1)))
                  have SKd := hide (rfl : sgK ((bl s).drop (r + 1)) = sgK ((bl s).drop (r + 1)))
                  obtain ⟨c3, hc3⟩ : ∃ c3, isSg (nx (bl s) (r + 1)) = c3 := ⟨_, rfl⟩
                  have C3 := hide hc3
                  have hsk : sgK ((bl s).drop (r + 1)) = if c3 then 1 else 0 := by unfold sgK; rw [NX1.out, hc3]
                  have hdn : (sgn ((bl s).drop (r + 1))).1 = (c3 && (nx (bl s) (r + 1) == 45)) := by unfold sgn; rw [NX1.out, hc3]; cases c3 <;> rfl
                  have c3z : c3 = true → r + 1 < s.size := fun h => Nat.lt_of_not_le fun g => by rw [bl_out s (r + 1) g, h] at hc3; exact absurd hc3 (by decide)
                  obtain ⟨i3, hi3⟩ : ∃ i3, r + 1 + sgK ((bl s).drop (r + 1)) = i3 := ⟨_, rfl⟩
                  obtain ⟨dn, hdn'⟩ : ∃ dn, (sgn ((bl s).drop (r + 1))).1 = dn := ⟨_, rfl⟩
                  have i3s : r + 1 ≤ i3 ∧ i3 ≤ s.size := by rw [hsk] at hi3; cases c3 <;> simp at hi3 c3z <;> omega
                  have HDN := hide (hdn'.symm.trans hdn)
                  have HSK := hide hsk
                  have HI3 := hide hi3
                  have SG1 := hide hdn'
                  have U := hide (show (sgn ((bl s).drop (r + 1))).2 = (bl s).drop i3 by rw [SK.out, List.drop_drop, hi3])
                  have C3z := hide c3z
                  clear hc3 hdn hsk hi3 hdn' c3z cx
                  rcases he with he | he
                  all_goals
                    as_aux_lemma =>
                      go_upto_region 24 with fail
                      go_cut [109] (fun x wx => wx = w.alloc (.cells #[.int .i64 0, .int .i64 0] 32) ∧ x = .bool c3)
                      case first =>
                        as_aux_lemma =>
                          by_cases hlt : r + 1 < s.size
                          · have cy := bl_nx s (r + 1) hlt
                            have C3' := C3.out
                            rw [cy] at C3'
                            have hlt2 : (r : Int) + 1 < s.size := by omega
                            rcases (show (s[r + 1].toNat : Int) = 43 ∨ (s[r + 1].toNat : Int) = 45 ∨ ((s[r + 1].toNat : Int) ≠ 43 ∧ (s[r + 1].toNat : Int) ≠ 45) by omega) with g | g | ⟨g, g'⟩
                            · have CC := hide (show c3 = true by rw [← C3', g]; rfl)
                              clear cy C3'
                              go_wp2
                              go_meet
                              exact ⟨rfl, by rw [CC.out]⟩
                            · have CC := hide (show c3 = true by rw [← C3', g]; rfl)
                              clear cy C3'
                              go_wp2
                              go_meet
                              exact ⟨rfl, by rw [CC.out]⟩
                            · have CC := hide (show c3 = false by rw [← C3']; simp [isSg, g, g'])
                              have g1 : ((s[r + 1].toNat : Int) == 43) = false := by simpa using g
                              have g2 : ((s[r + 1].toNat : Int) == 45) = false := by simpa using g'
                              clear cy C3' g g'
                              go_wp2
                              go_meet
                              exact ⟨rfl, by rw [CC.out]⟩
                          · have CC := hide (show c3 = false by rw [← C3.out, bl_out s (r + 1) (by omega)]; rfl)
                            have hlt2 : ¬ (r : Int) + 1 < s.size := by omega
                            go_wp2
                            go_meet
                            exact ⟨rfl, by rw [CC.out]⟩
                      case rest =>
                        obtain ⟨rfl, rfl⟩ := hcut
                        go_upto_if 109 with fail
                        go_cut [5, 12] (fun i d wx => wx = w.alloc (.cells #[.int .i64 0, .int .i64 0] 32) ∧ i = .int .i64 i3 ∧ d = .bool dn)
                        case first =>
                          as_aux_lemma =>
                            cases c3
                            · have E1 := hide (show i3 = r + 1 by rw [← HI3.out, HSK.out]; rfl)
                              have E2 := hide (show dn = false by rw [HDN.out]; rfl)
                              go_wp2
                              go_meet
                              exact ⟨rfl, by rw [E1.out]; first | rfl | (congr 1; done) | (congr 1; omega), by rw [E2.out]⟩
                            · have hlt := C3z.out rfl
                              have cy := bl_nx s (r + 1) hlt
                              have E1 := hide (show i3 = r + 1 + 1 by rw [← HI3.out, HSK.out]; rfl)
                              have E2 := hide (show dn = ((s[r + 1].toNat : Int) == 45) by rw [HDN.out, cy]; rfl)
                              have hlt2 : (r : Int) + 1 < s.size := by omega
                              clear cy
                              go_wp2
                              go_meet
                              exact ⟨rfl, by rw [E1.out]; first | rfl | (congr 1; done) | (congr 1; omega), by rw [E2.out]⟩
                        case rest =>
                          obtain ⟨rfl, rfl, rfl⟩ := hcut
                          have TK := hide (show tkd (sgn (((bl s).drop r).drop 1)).2 = tkd ((bl s).drop i3) by rw [Q1.out, U.out])
                          have TG := hide (show dgs (sgn (((bl s).drop r).drop 1)).2 = (bl s).drop (i3 + (tkd ((bl s).drop i3)).length) by rw [Q1.out, U.out, dgs_eq, List.drop_drop])
                          have SG2 := hide (show (sgn (((bl s).drop r).drop 1)).1 = dn by rw [Q1.out]; exact SG1.out)
                          have HE2 := hide (show nx ((bl s).drop r) 0 = 101 ∨ nx ((bl s).drop r) 0 = 69 by rw [X0.out]; exact HE.out)
                          have j3s : i3 + (tkd ((bl s).drop i3)).length ≤ s.size := by
                            have h1 := tkd_len ((bl s).drop i3)
                            rw [List.length_drop, bl_len] at h1
                            omega
                          have DG := hide (tkd_digs ((bl s).drop i3))
                          have NXD := hide (show ∀ q, q < (tkd ((bl s).drop i3)).length → nx (tkd ((bl s).drop i3)) q = nx (bl s) (i3 + q) from fun q hq => by rw [nx_tkd _ q hq, nx_drop])
                          have RUN3 := RUN.out
                          replace RUN3 := hide fun W => RUN3 W i3 i3s.2
                          generalize tkd ((bl s).drop i3) = ds3 at *
                          obtain ⟨j3, hj3⟩ : ∃ j3, i3 + ds3.length = j3 := ⟨_, rfl⟩
                          rw [hj3] at RUN3 j3s TG
                          have HJ3 := hide hj3
                          clear RUN hj3
                          by_cases hbad : ds3 = [] ∨ j3 < s.size
                          · have V := hide (decV_none (show dec (bl s) = none by
                              rw [DE.out, expo_no2 HE2.out]; rfl
                              rcases hbad with h | h
                              · left; rw [TK.out]; exact h
                              · right; rw [TG.out]; intro q; have := congrArg List.length q; rw [List.length_drop, bl_len] at this; simp at this; omega))
                            by_cases hz : j3 = i3
                            · have z1 : ((j3 : Int) == (i3 : Int)) = true := by simp; omega
                              clear hbad hz
                              go_wp2_with (first | (go_at_call 94; refine (RUN3.out _).mono ?_; rintro e1 w1 ⟨rfl, rfl⟩) | (go_at_call 95; refine (over_any _).mono ?_; rintro e1 w1 ⟨rfl, cc, rfl⟩))
                              refine bodyPost_ret (v := .tuple #[.agg #[.int .i64 0, .int .i64 0], .bool false, .int .i64 3]) (by simp [results, Tryz.results72, go_sem]) rfl ?_
                              exact ⟨by rw [V.out]; rfl, by repeat (first | (with_reducible exact BEL.out) | (with_reducible refine Below.setCell ?_ (by simp) _) | (with_reducible refine bplus ?_ _))⟩
                            · have z1 : ((j3 : Int) == (i3 : Int)) = false := by simp; omega
                              have hjl : j3 < s.size := by
                                rcases hbad with h | h
                                · have := HJ3.out; rw [h] at this; simp at this; omega
                                · exact h
                              have z2 : ((j3 : Int) == (s.size : Int)) = false := by simp; omega
                              have z3 : ((j3 : Int) != (s.size : Int)) = true := by simp; omega
                              clear hbad hz
                              go_wp2_with (first | (go_at_call 94; refine (RUN3.out _).mono ?_; rintro e1 w1 ⟨rfl, rfl⟩) | (go_at_call 95; refine (over_any _).mono ?_; rintro e1 w1 ⟨rfl, cc, rfl⟩))
                              refine bodyPost_ret (v := .tuple #[.agg #[.int .i64 0, .int .i64 0], .bool false, .int .i64 3]) (by simp [results, Tryz.results72, go_sem]) rfl ?_
                              exact ⟨by rw [V.out]; rfl, by repeat (first | (with_reducible exact BEL.out) | (with_reducible refine Below.setCell ?_ (by simp) _) | (with_reducible refine bplus ?_ _))⟩
                          · have hd3 : ds3 ≠ [] := fun q => hbad (.inl q)
                            have hjz : j3 = s.size := by omega
                            have DX := hide (show dec (bl s) = some (valOf neg (bl t) ((if dn then -(natOf ds3 : Int) else natOf ds3) - k), false) by
                              rw [DE.out, expo_yes HE2.out (by rw [TK.out]; exact hd3) (by rw [TG.out, List.drop_of_length_le (by rw [bl_len]; omega)]), TK.out, SG2.out]; rfl)
                            have l3 : 0 < ds3.length := List.length_pos_iff.2 hd3
                            have z1 : ((j3 : Int) == (i3 : Int)) = false := by have := HJ3.out; simp; omega
                            have z2 : ((j3 : Int) == (s.size : Int)) = true := by simp; omega
                            have z3 : ((j3 : Int) != (s.size : Int)) = false := by simp; omega
                            have HZ := hide hjz
                            clear hbad hd3 hjz l3
                            go_wp2_with (go_at_call 94; refine (RUN3.out _).mono ?_; rintro e1 w1 ⟨rfl, rfl⟩)
                            have LZ := hide (show i3 + ds3.length = s.size by rw [HJ3.out]; exact HZ.out)
                            have TZ := hide (show (bl t).length ≤ 1000000000 by rw [bl_len]; exact tz)
                            have kz : k ≤ 1000000000 := by omega
                            go_loop [5, 11] (fun i e => RelXr ds3 i3 i e) (fun i _ => j3 - (intOf i).toNat)
                            case atStart => exact .mk 0 0 (by omega) rfl rfl (by omega) (.inl (by simp [natOf]))
                            case round =>
                              as_aux_lemma =>
                                obtain ⟨q, m, hq, rfl, rfl, hm, R⟩ := hrel
                                by_cases hlt : q < ds3.length
                                · have hz : i3 + q < s.size := by have := LZ.out; omega
                                  have cy := bl_nx s (i3 + q) hz
                                  obtain ⟨s1, s2, s3⟩ := natOf_step DG.out hlt
                                  rw [NXD.out q hlt, cy] at s1 s2 s3
                                  have S := hide s1
                                  have HL := hide hlt
                                  have jl : ((i3 + q : Nat) : Int) < (j3 : Int) := by have := HJ3.out; omega
                                  have zl : ((i3 + q : Nat) : Int) < (s.size : Int) := by omega
                                  have MJ := hide (show j3 - (i3 + q + 1) < j3 - (i3 + q) by have := HJ3.out; omega)
                                  clear s1 cy hq hlt
                                  by_cases hX : (m : Int) * 10 + ((s[i3 + q].toNat : Int) - 48) ≤ 1099511627776
                                  · go_wp2
                                    go_round
                                    case rel =>
                                      exact .mk (q + 1) (m * 10 + ((s[i3 + q].toNat : Int) - 48).toNat) HL.out (by first | rfl | (congr 1; done) | (congr 1; omega)) (by first | (congr 1; done) | (congr 1; omega)) (by omega) (by
                                        rcases R.out with h | ⟨h, h'⟩
                                        · left; rw [S.out, ← h]
                                        · omega)
                                    case measure => have := MJ.out; simp [intOf]; omega
                                  · go_wp2
                                    go_round
                                    case rel =>
                                      exact .mk (q + 1) 1099511627776 HL.out (by first | rfl | (congr 1; done) | (congr 1; omega)) (by first | rfl | (congr 1; done) | (congr 1; omega)) (by omega) (by
                                        right; refine ⟨rfl, ?_⟩
                                        rw [S.out]
                                        rcases R.out with h | ⟨h, h'⟩ <;> omega)
                                    case measure => have := MJ.out; simp [intOf]; omega
                                · have NR := hide (near_r (m := m) (N := natOf ds3) (by have := R.out; rwa [List.take_of_length_le (by omega)] at this))
                                  have jl : ¬ ((i3 + q : Nat) : Int) < (j3 : Int) := by have := HJ3.out; omega
                                  clear hlt hq R
                                  cases dn
                                  · have V := hide (decV_some (show dec (bl s) = some (valOf neg (bl t) ((m : Int) - k), false) by rw [DX.out, val_near HD.out.2.1 TZ.out kz NR.out]; rfl))
                                    go_wp2_with (go_at_call 96; refine (VAL.out _ _ (by omega)).mono ?_; rintro e1 w1 ⟨rfl, B1⟩; unfold ratV; have m0 : w1.cell? ⟨w.heap.size, 0, none⟩ = some (.int .i64 0) := (B1.cell (p := ⟨w.heap.size, 0, none⟩) (by simp)).trans (by simp [go_sem]); have m1 : w1.cell? ⟨w.heap.size, 1, none⟩ = some (.int .i64 0) := (B1.cell (p := ⟨w.heap.size, 1, none⟩) (by simp)).trans (by simp [go_sem]); have f0 : w1.frozen? ⟨w.heap.size, 0, none⟩ = false := (B1.frozen (p := ⟨w.heap.size, 0, none⟩) (by simp)).trans (by simp [go_sem]); have f1 : w1.frozen? ⟨w.heap.size, 1, none⟩ = false := (B1.frozen (p := ⟨w.heap.size, 1, none⟩) (by simp)).trans (by simp [go_sem]); replace BEL := hide (bto (bplus BEL.out _) B1); clear B1)
                                    refine bodyPost_ret (v := .tuple #[.agg #[.int .i64 (valOf neg (bl t) ((m : Int) - k)).1, .int .i64 (valOf neg (bl t) ((m : Int) - k)).2], .bool false, .int .i64 0]) (by simp [results, Tryz.results72, go_sem, m0, m1]) rfl ?_
                                    exact ⟨by rw [V.out]; rfl, by repeat (first | (with_reducible exact BEL.out) | (with_reducible refine Below.setCell ?_ (by simp) _) | (with_reducible refine bplus ?_ _))⟩
                                  · have V := hide (decV_some (show dec (bl s) = some (valOf neg (bl t) (-(m : Int) - k), false) by rw [DX.out, val_near HD.out.2.1 TZ.out kz NR.out.neg]; rfl))
                                    go_wp2_with (go_at_call 96; refine (VAL.out _ _ (by omega)).mono ?_; rintro e1 w1 ⟨rfl, B1⟩; unfold ratV; have m0 : w1.cell? ⟨w.heap.size, 0, none⟩ = some (.int .i64 0) := (B1.cell (p := ⟨w.heap.size, 0, none⟩) (by simp)).trans (by simp [go_sem]); have m1 : w1.cell? ⟨w.heap.size, 1, none⟩ = some (.int .i64 0) := (B1.cell (p := ⟨w.heap.size, 1, none⟩) (by simp)).trans (by simp [go_sem]); have f0 : w1.frozen? ⟨w.heap.size, 0, none⟩ = false := (B1.frozen (p := ⟨w.heap.size, 0, none⟩) (by simp)).trans (by simp [go_sem]); have f1 : w1.frozen? ⟨w.heap.size, 1, none⟩ = false := (B1.frozen (p := ⟨w.heap.size, 1, none⟩) (by simp)).trans (by simp [go_sem]); replace BEL := hide (bto (bplus BEL.out _) B1); clear B1)
                                    refine bodyPost_ret (v := .tuple #[.agg #[.int .i64 (valOf neg (bl t) (-(m : Int) - k)).1, .int .i64 (valOf neg (bl t) (-(m : Int) - k)).2], .bool false, .int .i64 0]) (by simp [results, Tryz.results72, go_sem, m0, m1]) rfl ?_
                                    exact ⟨by rw [V.out]; rfl, by repeat (first | (with_reducible exact BEL.out) | (with_reducible refine Below.setCell ?_ (by simp) _) | (with_reducible refine bplus ?_ _))⟩
                · as_aux_lemma =>
                    have V := hide (decV_none (show dec (bl s) = none by rw [DE.out, expo_no (by rw [X0.out]; omega) (by rw [X0.out]; omega)]; rfl))
                    rw [cx] at he
                    have e1 : ((s[r].toNat : Int) == 101) = false := by simp; omega
                    have e2 : ((s[r].toNat : Int) == 69) = false := by simp; omega
                    have e3 : ((s[r].toNat : Int) != 101) = true := by simp; omega
                    have e4 : ((s[r].toNat : Int) != 69) = true := by simp; omega
                    clear he cx
                    go_wp2_with (go_at_call 95; refine (over_any _).mono ?_; rintro e1 w1 ⟨rfl, cc, rfl⟩)
                    refine bodyPost_ret (v := .tuple #[.agg #[.int .i64 0, .int .i64 0], .bool false, .int .i64 3]) (by simp [results, Tryz.results72, go_sem]) rfl ?_
                    exact ⟨by rw [V.out]; rfl, by repeat (first | (with_reducible exact BEL.out) | (with_reducible refine Below.setCell ?_ (by simp) _) | (with_reducible refine bplus ?_ _))⟩
              · as_aux_lemma =>
                  have hrl2 : ¬ (r : Int) < s.size := by omega
                  have V := hide (decV_some (show dec (bl s) = some (valOf neg (bl t) (-(k : Int)), h) by rw [HD.out.2.2, List.drop_of_length_le (by rw [bl_len]; omega)]; exact decE_end hD))
                  clear hD
                  go_wp2_with (go_at_call 96; refine (VAL.out _ _ (by omega)).mono ?_; rintro e1 w1 ⟨rfl, B1⟩; unfold ratV; have m0 : w1.cell? ⟨w.heap.size, 0, none⟩ = some (.int .i64 0) := (B1.cell (p := ⟨w.heap.size, 0, none⟩) (by simp)).trans (by simp [go_sem]); have m1 : w1.cell? ⟨w.heap.size, 1, none⟩ = some (.int .i64 0) := (B1.cell (p := ⟨w.heap.size, 1, none⟩) (by simp)).trans (by simp [go_sem]); have f0 : w1.frozen? ⟨w.heap.size, 0, none⟩ = false := (B1.frozen (p := ⟨w.heap.size, 0, none⟩) (by simp)).trans (by simp [go_sem]); have f1 : w1.frozen? ⟨w.heap.size, 1, none⟩ = false := (B1.frozen (p := ⟨w.heap.size, 1, none⟩) (by simp)).trans (by simp [go_sem]); replace BEL := hide (bto (bplus BEL.out _) B1); clear B1)
                  refine bodyPost_ret (v := .tuple #[.agg #[.int .i64 (valOf neg (bl t) (-(k : Int))).1, .int .i64 (valOf neg (bl t) (-(k : Int))).2], .bool h, .int .i64 0]) (by simp [results, Tryz.results72, go_sem, m0, m1]) rfl ?_
                  exact ⟨by rw [V.out]; rfl, by repeat (first | (with_reducible exact BEL.out) | (with_reducible refine Below.setCell ?_ (by simp) _) | (with_reducible refine bplus ?_ _))⟩
end Go.Proofs.YtckefmhleklciaaGreatDoor
