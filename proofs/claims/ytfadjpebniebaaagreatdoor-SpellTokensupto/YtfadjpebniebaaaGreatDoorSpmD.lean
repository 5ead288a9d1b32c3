/-
  The characters of a text, and signs of their own, by the reference.
-/
import Derived.Test.YtfadjpebniebaaaGreatDoorSpmC
set_option linter.unusedVariables false
set_option linter.unusedSimpArgs false
namespace Go.Proofs.YtfadjpebniebaaaGreatDoor
open Go.RowKit

/-- The state of the loop over characters. -/
def RelCs (l : List Int) (i : Value) : Prop := ∃ k : Nat, i = .int .i64 k ∧ k ≤ l.length ∧ Hid ((l.take k).contains 0 = false)
theorem RelCs.mk {l : List Int} {i : Value} (k : Nat) (h1 : i = .int .i64 k) (h2 : k ≤ l.length) (h3 : (l.take k).contains 0 = false) : RelCs l i := ⟨k, h1, h2, h3⟩
theorem cs_step {l : List Int} {k : Nat} (hk : k < l.length) (h : (l.take k).contains 0 = false) (h0 : gt l k ≠ 0) : (l.take (k + 1)).contains 0 = false := by
  rw [gt_eq hk] at h0
  have h1 : (0 : Int) ∉ l.take k := by
    intro hm
    have : (l.take k).contains 0 = true := by rw [List.contains_iff_mem]; exact hm
    rw [this] at h; cases h
  rw [Bool.eq_false_iff]
  intro hc
  rw [List.contains_iff_mem, List.take_succ_eq_append_getElem hk, List.mem_append, List.mem_singleton] at hc
  rcases hc with hc | hc
  · exact h1 hc
  · exact h0 hc.symm
theorem cs_zero {l : List Int} {k : Nat} (hk : k < l.length) (h0 : gt l k = 0) : l.contains 0 = true := by
  rw [gt_eq hk] at h0
  simp
  rw [← h0]
  exact List.getElem_mem hk
def PostCh (s : ByteArray) (w : World) (e : Ending) (w' : World) : Prop := ∃ a n c, e = .returned (.tuple #[.slice a n c, .bool (chB (bl s))]) ∧ (chB (bl s) = true → Nums .i32 w' (.slice a n c) (raw (bl s))) ∧ Below w.heap.size w w'
theorem PostCh.mk {s : ByteArray} {w w' : World} {e : Ending} (a : Option Addr) (n c : Nat) (h1 : e = .returned (.tuple #[.slice a n c, .bool (chB (bl s))])) (h2 : chB (bl s) = true → Nums .i32 w' (.slice a n c) (raw (bl s))) (h3 : Below w.heap.size w w') : PostCh s w e w' := ⟨a, n, c, h1, h2, h3⟩
set_option maxRecDepth 100000 in
set_option maxHeartbeats 1000000 in
theorem charsR_any (s : ByteArray) (w : World) (hs : s.size ≤ 1099511627776) : Calls Tryz.prog 21 #[.string s] w fun e w' => PostCh s w e w' := by
  obtain ⟨v, w1, hc, hn, hb⟩ := conv_any s w (by omega)
  have R := hide (rawR_any (bl s) v w1 (bl_by s) hn (by rw [bl_len]; exact hs))
  have HB := hide hb
  have X := hide (chB_raw (bl s) (bl_by s))
  have RL := hide (raw_le (bl s))
  have BL := hide (bl_len s)
  clear hn hb
  go_enter Tryz.func21, Tryz.ntmps21
  go_wp2_with fail
  go_at_call 43
  refine R.out.mono ?_
  rintro e w2 ⟨u, rfl, N, B2⟩
  clear hc R
  obtain ⟨v3, w3, hc3, hn3, hb3⟩ := conv_any s w2 (by omega)
  have WH := hide (wholeR_any (bl s) v3 w3 (bl_by s) hn3)
  have B3 := hide (bto (bto HB.out B2) hb3)
  have N3 := hide (N.below hb3)
  replace B2 := hide (bto HB.out B2)
  clear hn3 hb3 HB
  have HL := hide (show (raw (bl s)).length ≤ 1099511627776 by have := RL.out; have := BL.out; omega)
  rcases N with ⟨a, c, rfl, he⟩ | ⟨b, o, n, c, rfl, hnl, h0, hbw, hl, hn9, hc9, hcell⟩
  · have E := hide (show chB (bl s) = whole (bl s) by rw [X.out, he]; simp)
    go_wp2
    refine wp_loop_rounds 1 ?_
    rw [rounds_succ]
    go_wp2_with (go_at_call 44; refine WH.out.mono ?_; rintro e w4 ⟨rfl, rfl⟩)
    go_ret2
    exact .mk _ _ _ (by rw [E.out]; rfl) (fun _ => N3.out) B3.out
  · have HC := hide hcell
    have hnb : n ≤ 1099511627776 := by have := HL.out; omega
    have HN := hide hnl
    clear hcell hnl
    go_wp2
    go_loop [12] (fun i => RelCs (raw (bl s)) i) (fun i => n - (intOf i).toNat)
    case atStart => exact .mk 0 rfl (by omega) rfl
    case round =>
      obtain ⟨k, rfl, k1, RC⟩ := hrel
      rw [← HN.out] at k1
      by_cases hk : k < n
      · have c0 := HC.out k hk
        have hk' : (k : Int) < n := by omega
        by_cases hz : gt (raw (bl s)) k = 0
        · have Z := hide (cs_zero (by rw [← HN.out]; exact hk) hz)
          have E := hide (show chB (bl s) = false by rw [X.out, Z.out]; rfl)
          rw [hz] at c0
          clear hz
          go_wp2
          go_ret2
          exact .mk _ _ _ (by rw [E.out]; rfl) (fun h => by rw [E.out] at h; cases h) B2.out
        · have S := hide (cs_step (by rw [← HN.out]; exact hk) RC.out hz)
          have hz' : (gt (raw (bl s)) k == 0) = false := by simpa using hz
          clear hz
          go_wp2
          go_round
          case rel => exact .mk (k + 1) (by go_num) (by rw [← HN.out]; omega) S.out
          case measure => simp [intOf]; omega
      · have E := hide (show chB (bl s) = whole (bl s) by
          have := RC.out
          rw [List.take_of_length_le (by rw [← HN.out]; omega)] at this
          rw [X.out, this]; rfl)
        have hk' : ¬ (k : Int) < n := by omega
        go_wp2_with (go_at_call 44; refine WH.out.mono ?_; rintro e w4 ⟨rfl, rfl⟩)
        go_ret2
        exact .mk _ _ _ (by rw [E.out]; rfl) (fun _ => N3.out) B3.out
/-! ### Signs of their own -/
def dlAt (k : Nat) : Int := [35, 36, 37, 38, 42, 43, 45, 46, 47, 60, 61, 62, 63, 64, 92, 94, 96, 124, 126, 33].getD k 0
def RelDl (c : Int) (i : Value) : Prop := ∃ k : Nat, i = .int .i64 k ∧ k ≤ 20 ∧ Hid (∀ j, j < k → dlAt j ≠ c)
theorem RelDl.mk {c : Int} {i : Value} (k : Nat) (h1 : i = .int .i64 k) (h2 : k ≤ 20) (h3 : ∀ j, j < k → dlAt j ≠ c) : RelDl c i := ⟨k, h1, h2, h3⟩
theorem dl_yes {c : Int} {k : Nat} (hk : k < 20) (h : dlAt k = c) : isDl c = true := by
  subst h
  have key : ∀ k : Fin 20, isDl (dlAt k.val) = true := by decide
  exact key ⟨k, hk⟩
theorem dl_no {c : Int} (h : ∀ j, j < 20 → dlAt j ≠ c) : isDl c = false := by
  rw [Bool.eq_false_iff]
  intro hc
  unfold isDl at hc
  rw [List.contains_iff_mem] at hc
  obtain ⟨k, hk, e⟩ := List.getElem_of_mem hc
  refine h k (by simpa using hk) ?_
  unfold dlAt
  rw [List.getD_eq_getElem?_getD, List.getElem?_eq_getElem hk]
  exact e
theorem sg0 : (((⟨#[35, 36, 37, 38, 42, 43, 45, 46, 47, 60, 61, 62, 63, 64, 92, 94, 96, 124, 126, 33]⟩ : ByteArray)[0]).toNat : Int) = 35 := by kernel_rfl
theorem sg1 : (((⟨#[35, 36, 37, 38, 42, 43, 45, 46, 47, 60, 61, 62, 63, 64, 92, 94, 96, 124, 126, 33]⟩ : ByteArray)[1]).toNat : Int) = 36 := by kernel_rfl
theorem sg2 : (((⟨#[35, 36, 37, 38, 42, 43, 45, 46, 47, 60, 61, 62, 63, 64, 92, 94, 96, 124, 126, 33]⟩ : ByteArray)[2]).toNat : Int) = 37 := by kernel_rfl
theorem sg3 : (((⟨#[35, 36, 37, 38, 42, 43, 45, 46, 47, 60, 61, 62, 63, 64, 92, 94, 96, 124, 126, 33]⟩ : ByteArray)[3]).toNat : Int) = 38 := by kernel_rfl
theorem sg4 : (((⟨#[35, 36, 37, 38, 42, 43, 45, 46, 47, 60, 61, 62, 63, 64, 92, 94, 96, 124, 126, 33]⟩ : ByteArray)[4]).toNat : Int) = 42 := by kernel_rfl
theorem sg5 : (((⟨#[35, 36, 37, 38, 42, 43, 45, 46, 47, 60, 61, 62, 63, 64, 92, 94, 96, 124, 126, 33]⟩ : ByteArray)[5]).toNat : Int) = 43 := by kernel_rfl
theorem sg6 : (((⟨#[35, 36, 37, 38, 42, 43, 45, 46, 47, 60, 61, 62, 63, 64, 92, 94, 96, 124, 126, 33]⟩ : ByteArray)[6]).toNat : Int) = 45 := by kernel_rfl
theorem sg7 : (((⟨#[35, 36, 37, 38, 42, 43, 45, 46, 47, 60, 61, 62, 63, 64, 92, 94, 96, 124, 126, 33]⟩ : ByteArray)[7]).toNat : Int) = 46 := by kernel_rfl
theorem sg8 : (((⟨#[35, 36, 37, 38, 42, 43, 45, 46, 47, 60, 61, 62, 63, 64, 92, 94, 96, 124, 126, 33]⟩ : ByteArray)[8]).toNat : Int) = 47 := by kernel_rfl
theorem sg9 : (((⟨#[35, 36, 37, 38, 42, 43, 45, 46, 47, 60, 61, 62, 63, 64, 92, 94, 96, 124, 126, 33]⟩ : ByteArray)[9]).toNat : Int) = 60 := by kernel_rfl
theorem sg10 : (((⟨#[35, 36, 37, 38, 42, 43, 45, 46, 47, 60, 61, 62, 63, 64, 92, 94, 96, 124, 126, 33]⟩ : ByteArray)[10]).toNat : Int) = 61 := by kernel_rfl
theorem sg11 : (((⟨#[35, 36, 37, 38, 42, 43, 45, 46, 47, 60, 61, 62, 63, 64, 92, 94, 96, 124, 126, 33]⟩ : ByteArray)[11]).toNat : Int) = 62 := by kernel_rfl
theorem sg12 : (((⟨#[35, 36, 37, 38, 42, 43, 45, 46, 47, 60, 61, 62, 63, 64, 92, 94, 96, 124, 126, 33]⟩ : ByteArray)[12]).toNat : Int) = 63 := by kernel_rfl
theorem sg13 : (((⟨#[35, 36, 37, 38, 42, 43, 45, 46, 47, 60, 61, 62, 63, 64, 92, 94, 96, 124, 126, 33]⟩ : ByteArray)[13]).toNat : Int) = 64 := by kernel_rfl
theorem sg14 : (((⟨#[35, 36, 37, 38, 42, 43, 45, 46, 47, 60, 61, 62, 63, 64, 92, 94, 96, 124, 126, 33]⟩ : ByteArray)[14]).toNat : Int) = 92 := by kernel_rfl
theorem sg15 : (((⟨#[35, 36, 37, 38, 42, 43, 45, 46, 47, 60, 61, 62, 63, 64, 92, 94, 96, 124, 126, 33]⟩ : ByteArray)[15]).toNat : Int) = 94 := by kernel_rfl
theorem sg16 : (((⟨#[35, 36, 37, 38, 42, 43, 45, 46, 47, 60, 61, 62, 63, 64, 92, 94, 96, 124, 126, 33]⟩ : ByteArray)[16]).toNat : Int) = 96 := by kernel_rfl
theorem sg17 : (((⟨#[35, 36, 37, 38, 42, 43, 45, 46, 47, 60, 61, 62, 63, 64, 92, 94, 96, 124, 126, 33]⟩ : ByteArray)[17]).toNat : Int) = 124 := by kernel_rfl
theorem sg18 : (((⟨#[35, 36, 37, 38, 42, 43, 45, 46, 47, 60, 61, 62, 63, 64, 92, 94, 96, 124, 126, 33]⟩ : ByteArray)[18]).toNat : Int) = 126 := by kernel_rfl
theorem sg19 : (((⟨#[35, 36, 37, 38, 42, 43, 45, 46, 47, 60, 61, 62, 63, 64, 92, 94, 96, 124, 126, 33]⟩ : ByteArray)[19]).toNat : Int) = 33 := by kernel_rfl
theorem one0 (c : UInt8) : (((⟨#[c]⟩ : ByteArray)[0]'(by show 0 < 1; omega)).toNat : Int) = (c.toNat : Int) := rfl
theorem upto20 {k : Nat} (h : k < 20) : k = 0 ∨ k = 1 ∨ k = 2 ∨ k = 3 ∨ k = 4 ∨ k = 5 ∨ k = 6 ∨ k = 7 ∨ k = 8 ∨ k = 9 ∨ k = 10 ∨ k = 11 ∨ k = 12 ∨ k = 13 ∨ k = 14 ∨ k = 15 ∨ k = 16 ∨ k = 17 ∨ k = 18 ∨ k = 19 := by omega
set_option maxRecDepth 100000 in
set_option maxHeartbeats 4000000 in
theorem delimR_any (s : ByteArray) (w : World) (hs : s.size ≤ 140737488355328) : Calls Tryz.prog 38 #[.string s] w fun e w' => e = .returned (.bool (dlB (bl s))) ∧ w' = w := by
  by_cases h1 : s.size = 1
  · obtain ⟨c0, rfl, hb⟩ := one_byte h1
    have E := hide (show dlB (bl ⟨#[c0]⟩) = (isDl (c0.toNat : Int) || isCt (c0.toNat : Int)) by rw [hb]; rfl)
    clear hb h1 hs
    obtain ⟨c, hc⟩ : ∃ c : Int, (c0.toNat : Int) = c := ⟨_, rfl⟩
    rw [hc] at E
    go_enter Tryz.func38, Tryz.ntmps38
    go_wp2
    go_loop [10] (fun i => RelDl c i) (fun i => 20 - (intOf i).toNat)
    case atStart => exact .mk 0 rfl (by omega) (fun j hj => by omega)
    case round =>
      obtain ⟨k, rfl, k1, RD⟩ := hrel
      by_cases hk : k < 20
      · by_cases hz : dlAt k = c
        · have F := hide (show dlB (bl ⟨#[c0]⟩) = true by rw [E.out, dl_yes hk hz]; rfl)
          clear RD k1 E
          have o0 := one0 c0
          rcases upto20 hk with rfl | rfl | rfl | rfl | rfl | rfl | rfl | rfl | rfl | rfl | rfl | rfl | rfl | rfl | rfl | rfl | rfl | rfl | rfl | rfl
          · simp only [dlAt, List.getD_cons_zero, List.getD_cons_succ] at hz
            subst hz
            have q := sg0
            clear hk
            go_wp2
            go_ret
            exact ⟨ret_bool F.out.symm, rfl⟩
          · simp only [dlAt, List.getD_cons_zero, List.getD_cons_succ] at hz
            subst hz
            have q := sg1
            clear hk
            go_wp2
            go_ret
            exact ⟨ret_bool F.out.symm, rfl⟩
          · simp only [dlAt, List.getD_cons_zero, List.getD_cons_succ] at hz
            subst hz
            have q := sg2
            clear hk
            go_wp2
            go_ret
            exact ⟨ret_bool F.out.symm, rfl⟩
          · simp only [dlAt, List.getD_cons_zero, List.getD_cons_succ] at hz
            subst hz
            have q := sg3
            clear hk
            go_wp2
            go_ret
            exact ⟨ret_bool F.out.symm, rfl⟩
          · simp only [dlAt, List.getD_cons_zero, List.getD_cons_succ] at hz
            subst hz
            have q := sg4
            clear hk
            go_wp2
            go_ret
            exact ⟨ret_bool F.out.symm, rfl⟩
          · simp only [dlAt, List.getD_cons_zero, List.getD_cons_succ] at hz
            subst hz
            have q := sg5
            clear hk
            go_wp2
            go_ret
            exact ⟨ret_bool F.out.symm, rfl⟩
          · simp only [dlAt, List.getD_cons_zero, List.getD_cons_succ] at hz
            subst hz
            have q := sg6
            clear hk
            go_wp2
            go_ret
            exact ⟨ret_bool F.out.symm, rfl⟩
          · simp only [dlAt, List.getD_cons_zero, List.getD_cons_succ] at hz
            subst hz
            have q := sg7
            clear hk
            go_wp2
            go_ret
            exact ⟨ret_bool F.out.symm, rfl⟩
          · simp only [dlAt, List.getD_cons_zero, List.getD_cons_succ] at hz
            subst hz
            have q := sg8
            clear hk
            go_wp2
            go_ret
            exact ⟨ret_bool F.out.symm, rfl⟩
          · simp only [dlAt, List.getD_cons_zero, List.getD_cons_succ] at hz
            subst hz
            have q := sg9
            clear hk
            go_wp2
            go_ret
            exact ⟨ret_bool F.out.symm, rfl⟩
          · simp only [dlAt, List.getD_cons_zero, List.getD_cons_succ] at hz
            subst hz
            have q := sg10
            clear hk
            go_wp2
            go_ret
            exact ⟨ret_bool F.out.symm, rfl⟩
          · simp only [dlAt, List.getD_cons_zero, List.getD_cons_succ] at hz
            subst hz
            have q := sg11
            clear hk
            go_wp2
            go_ret
            exact ⟨ret_bool F.out.symm, rfl⟩
          · simp only [dlAt, List.getD_cons_zero, List.getD_cons_succ] at hz
            subst hz
            have q := sg12
            clear hk
            go_wp2
            go_ret
            exact ⟨ret_bool F.out.symm, rfl⟩
          · simp only [dlAt, List.getD_cons_zero, List.getD_cons_succ] at hz
            subst hz
            have q := sg13
            clear hk
            go_wp2
            go_ret
            exact ⟨ret_bool F.out.symm, rfl⟩
          · simp only [dlAt, List.getD_cons_zero, List.getD_cons_succ] at hz
            subst hz
            have q := sg14
            clear hk
            go_wp2
            go_ret
            exact ⟨ret_bool F.out.symm, rfl⟩
          · simp only [dlAt, List.getD_cons_zero, List.getD_cons_succ] at hz
            subst hz
            have q := sg15
            clear hk
            go_wp2
            go_ret
            exact ⟨ret_bool F.out.symm, rfl⟩
          · simp only [dlAt, List.getD_cons_zero, List.getD_cons_succ] at hz
            subst hz
            have q := sg16
            clear hk
            go_wp2
            go_ret
            exact ⟨ret_bool F.out.symm, rfl⟩
          · simp only [dlAt, List.getD_cons_zero, List.getD_cons_succ] at hz
            subst hz
            have q := sg17
            clear hk
            go_wp2
            go_ret
            exact ⟨ret_bool F.out.symm, rfl⟩
          · simp only [dlAt, List.getD_cons_zero, List.getD_cons_succ] at hz
            subst hz
            have q := sg18
            clear hk
            go_wp2
            go_ret
            exact ⟨ret_bool F.out.symm, rfl⟩
          · simp only [dlAt, List.getD_cons_zero, List.getD_cons_succ] at hz
            subst hz
            have q := sg19
            clear hk
            go_wp2
            go_ret
            exact ⟨ret_bool F.out.symm, rfl⟩
        · have S := hide (show ∀ j, j < k + 1 → dlAt j ≠ c from fun j hj => by
            by_cases hjk : j = k
            · rw [hjk]; exact hz
            · exact RD.out j (by omega))
          clear RD E
          have o0 := one0 c0
          rcases upto20 hk with rfl | rfl | rfl | rfl | rfl | rfl | rfl | rfl | rfl | rfl | rfl | rfl | rfl | rfl | rfl | rfl | rfl | rfl | rfl | rfl
          · simp only [dlAt, List.getD_cons_zero, List.getD_cons_succ] at hz
            have hzz : ((35 : Int) == c) = false := by simpa using hz
            have q := sg0
            clear hk k1 hz
            go_wp2
            go_round
            case rel => exact .mk 1 rfl (by omega) S.out
            case measure => simp [intOf]
          · simp only [dlAt, List.getD_cons_zero, List.getD_cons_succ] at hz
            have hzz : ((36 : Int) == c) = false := by simpa using hz
            have q := sg1
            clear hk k1 hz
            go_wp2
            go_round
            case rel => exact .mk 2 rfl (by omega) S.out
            case measure => simp [intOf]
          · simp only [dlAt, List.getD_cons_zero, List.getD_cons_succ] at hz
            have hzz : ((37 : Int) == c) = false := by simpa using hz
            have q := sg2
            clear hk k1 hz
            go_wp2
            go_round
            case rel => exact .mk 3 rfl (by omega) S.out
            case measure => simp [intOf]
          · simp only [dlAt, List.getD_cons_zero, List.getD_cons_succ] at hz
            have hzz : ((38 : Int) == c) = false := by simpa using hz
            have q := sg3
            clear hk k1 hz
            go_wp2
            go_round
            case rel => exact .mk 4 rfl (by omega) S.out
            case measure => simp [intOf]
          · simp only [dlAt, List.getD_cons_zero, List.getD_cons_succ] at hz
            have hzz : ((42 : Int) == c) = false := by simpa using hz
            have q := sg4
            clear hk k1 hz
            go_wp2
            go_round
            case rel => exact .mk 5 rfl (by omega) S.out
            case measure => simp [intOf]
          · simp only [dlAt, List.getD_cons_zero, List.getD_cons_succ] at hz
            have hzz : ((43 : Int) == c) = false := by simpa using hz
            have q := sg5
            clear hk k1 hz
            go_wp2
            go_round
            case rel => exact .mk 6 rfl (by omega) S.out
            case measure => simp [intOf]
          · simp only [dlAt, List.getD_cons_zero, List.getD_cons_succ] at hz
            have hzz : ((45 : Int) == c) = false := by simpa using hz
            have q := sg6
            clear hk k1 hz
            go_wp2
            go_round
            case rel => exact .mk 7 rfl (by omega) S.out
            case measure => simp [intOf]
          · simp only [dlAt, List.getD_cons_zero, List.getD_cons_succ] at hz
            have hzz : ((46 : Int) == c) = false := by simpa using hz
            have q := sg7
            clear hk k1 hz
            go_wp2
            go_round
            case rel => exact .mk 8 rfl (by omega) S.out
            case measure => simp [intOf]
          · simp only [dlAt, List.getD_cons_zero, List.getD_cons_succ] at hz
            have hzz : ((47 : Int) == c) = false := by simpa using hz
            have q := sg8
            clear hk k1 hz
            go_wp2
            go_round
            case rel => exact .mk 9 rfl (by omega) S.out
            case measure => simp [intOf]
          · simp only [dlAt, List.getD_cons_zero, List.getD_cons_succ] at hz
            have hzz : ((60 : Int) == c) = false := by simpa using hz
            have q := sg9
            clear hk k1 hz
            go_wp2
            go_round
            case rel => exact .mk 10 rfl (by omega) S.out
            case measure => simp [intOf]
          · simp only [dlAt, List.getD_cons_zero, List.getD_cons_succ] at hz
            have hzz : ((61 : Int) == c) = false := by simpa using hz
            have q := sg10
            clear hk k1 hz
            go_wp2
            go_round
            case rel => exact .mk 11 rfl (by omega) S.out
            case measure => simp [intOf]
          · simp only [dlAt, List.getD_cons_zero, List.getD_cons_succ] at hz
            have hzz : ((62 : Int) == c) = false := by simpa using hz
            have q := sg11
            clear hk k1 hz
            go_wp2
            go_round
            case rel => exact .mk 12 rfl (by omega) S.out
            case measure => simp [intOf]
          · simp only [dlAt, List.getD_cons_zero, List.getD_cons_succ] at hz
            have hzz : ((63 : Int) == c) = false := by simpa using hz
            have q := sg12
            clear hk k1 hz
            go_wp2
            go_round
            case rel => exact .mk 13 rfl (by omega) S.out
            case measure => simp [intOf]
          · simp only [dlAt, List.getD_cons_zero, List.getD_cons_succ] at hz
            have hzz : ((64 : Int) == c) = false := by simpa using hz
            have q := sg13
            clear hk k1 hz
            go_wp2
            go_round
            case rel => exact .mk 14 rfl (by omega) S.out
            case measure => simp [intOf]
          · simp only [dlAt, List.getD_cons_zero, List.getD_cons_succ] at hz
            have hzz : ((92 : Int) == c) = false := by simpa using hz
            have q := sg14
            clear hk k1 hz
            go_wp2
            go_round
            case rel => exact .mk 15 rfl (by omega) S.out
            case measure => simp [intOf]
          · simp only [dlAt, List.getD_cons_zero, List.getD_cons_succ] at hz
            have hzz : ((94 : Int) == c) = false := by simpa using hz
            have q := sg15
            clear hk k1 hz
            go_wp2
            go_round
            case rel => exact .mk 16 rfl (by omega) S.out
            case measure => simp [intOf]
          · simp only [dlAt, List.getD_cons_zero, List.getD_cons_succ] at hz
            have hzz : ((96 : Int) == c) = false := by simpa using hz
            have q := sg16
            clear hk k1 hz
            go_wp2
            go_round
            case rel => exact .mk 17 rfl (by omega) S.out
            case measure => simp [intOf]
          · simp only [dlAt, List.getD_cons_zero, List.getD_cons_succ] at hz
            have hzz : ((124 : Int) == c) = false := by simpa using hz
            have q := sg17
            clear hk k1 hz
            go_wp2
            go_round
            case rel => exact .mk 18 rfl (by omega) S.out
            case measure => simp [intOf]
          · simp only [dlAt, List.getD_cons_zero, List.getD_cons_succ] at hz
            have hzz : ((126 : Int) == c) = false := by simpa using hz
            have q := sg18
            clear hk k1 hz
            go_wp2
            go_round
            case rel => exact .mk 19 rfl (by omega) S.out
            case measure => simp [intOf]
          · simp only [dlAt, List.getD_cons_zero, List.getD_cons_succ] at hz
            have hzz : ((33 : Int) == c) = false := by simpa using hz
            have q := sg19
            clear hk k1 hz
            go_wp2
            go_round
            case rel => exact .mk 20 rfl (by omega) S.out
            case measure => simp [intOf]
      · obtain rfl : k = 20 := by omega
        have F := hide (show dlB (bl ⟨#[c0]⟩) = isCt c by rw [E.out, dl_no RD.out]; rfl)
        clear RD k1 hk E
        have o0 := one0 c0
        rcases ct_cases c with ⟨h, e⟩ | ⟨h, g, e⟩ | ⟨h, g, e⟩ | rfl | ⟨h, g, e⟩ | ⟨h, g, e⟩ | ⟨h, g, e⟩ | rfl | ⟨h, e⟩
        case inr.inr.inr.inl =>
          go_wp2
          go_ret
          exact ⟨ret_bool F.out.symm, rfl⟩
        case inr.inr.inr.inr.inr.inr.inr.inl =>
          go_wp2
          go_ret
          exact ⟨ret_bool F.out.symm, rfl⟩
        all_goals
          have n1 : (c == 11) = false := by simp; omega
          have n2 : (c == 127) = false := by simp; omega
          clear e
          go_wp2
          go_ret
          exact ⟨ret_bool (by rw [F.out, Bool.eq_iff_iff]; simp [isCt]; try omega), rfl⟩
  · have E := hide (show dlB (bl s) = false by unfold dlB; rw [bl_len]; simp [h1])
    have h2 : ((s.size : Int) != 1) = true := by simp; omega
    go_enter Tryz.func38, Tryz.ntmps38
    go_wp2
    go_ret
    exact ⟨ret_bool E.out.symm, rfl⟩
end Go.Proofs.YtfadjpebniebaaaGreatDoor
