/-
  The characters of a text, and signs of their own, by the reference.
  The writer of texts: its methods, as lists of numbers; plain: what is written.
  Numbers to the base 16, by the library; which characters are hidden, which are a name's.
  Characters of a name, written: by the program.
-/
import Derived.Test.YtmkbjcoagfnegaaGreatDoorZ09
import Derived.Test.YtmkbjcoagfnegaaGreatDoorShelfW
import Derived.Lib.OthersKept
import Derived.Lib.DecodeN
set_option linter.unusedVariables false
set_option linter.unusedSimpArgs false
namespace Go.Proofs.YtmkbjcoagfnegaaGreatDoor
open Go.RowKit

/-- The state of the loop over characters. -/
def RelCs (l : List Int) (i : Value) : Prop := ∃ k : Nat, i = .int .i64 k ∧ k ≤ l.length ∧ Hid ((l.take k).contains 0 = false)
theorem RelCs.mk {l : List Int} {i : Value} (k : Nat) (h1 : i = .int .i64 k) (h2 : k ≤ l.length) (h3 : (l.take k).contains 0 = false) : RelCs l i := ⟨k, h1, h2, h3⟩
theorem cs_step {l : List Int} {k : Nat} (hk : k < l.length) (h : (l.take k).contains 0 = false) (h0 : gt l k ≠ 0) : (l.take (k + 1)).contains 0 = false := by
  rw [gt_eq hk] at h0
  have h1 : (0 : Int) ∉ l.take k := by
    intro hm
    have : (l.take k).contains 0 = true := by rw [List.contains_iff_mem]; exact hm
    rw [this] at h; cases h
  rw [Bool.eq_false_iff]
  intro hc
  rw [List.contains_iff_mem, List.take_succ_eq_append_getElem hk, List.mem_append, List.mem_singleton] at hc
  rcases hc with hc | hc
  · exact h1 hc
  · exact h0 hc.symm
theorem cs_zero {l : List Int} {k : Nat} (hk : k < l.length) (h0 : gt l k = 0) : l.contains 0 = true := by
  rw [gt_eq hk] at h0
  simp
  rw [← h0]
  exact List.getElem_mem hk
def PostCh (s : ByteArray) (w : World) (e : Ending) (w' : World) : Prop := ∃ a n c, e = .returned (.tuple #[.slice a n c, .bool (chB (bl s))]) ∧ (chB (bl s) = true → Nums .i32 w' (.slice a n c) (raw (bl s))) ∧ Below w.heap.size w w'
theorem PostCh.mk {s : ByteArray} {w w' : World} {e : Ending} (a : Option Addr) (n c : Nat) (h1 : e = .returned (.tuple #[.slice a n c, .bool (chB (bl s))])) (h2 : chB (bl s) = true → Nums .i32 w' (.slice a n c) (raw (bl s))) (h3 : Below w.heap.size w w') : PostCh s w e w' := ⟨a, n, c, h1, h2, h3⟩
set_option maxRecDepth 100000 in
set_option maxHeartbeats 1000000 in
theorem charsR_any (s : ByteArray) (w : World) (hs : s.size ≤ 1099511627776) : Calls Tryz.prog 114 #[.string s] w fun e w' => PostCh s w e w' := by
  obtain ⟨v, w1, hc, hn, hb⟩ := conv_any s w (by omega)
  have R := hide (rawR_any (bl s) v w1 (bl_by s) hn (by rw [bl_len]; exact hs))
  have HB := hide hb
  have X := hide (chB_raw (bl s) (bl_by s))
  have RL := hide (raw_le (bl s))
  have BL := hide (bl_len s)
  clear hn hb
  go_enter Tryz.func114, Tryz.ntmps114
  go_wp2_with fail
  go_at_call 55
  refine R.out.mono ?_
  rintro e w2 ⟨u, rfl, N, B2⟩
  clear hc R
  obtain ⟨v3, w3, hc3, hn3, hb3⟩ := conv_any s w2 (by omega)
  have WH := hide (wholeR_any (bl s) v3 w3 (bl_by s) hn3)
  have B3 := hide (bto (bto HB.out B2) hb3)
  have N3 := hide (N.below hb3)
  replace B2 := hide (bto HB.out B2)
  clear hn3 hb3 HB
  have HL := hide (show (raw (bl s)).length ≤ 1099511627776 by have := RL.out; have := BL.out; omega)
  rcases N with ⟨a, c, rfl, he⟩ | ⟨b, o, n, c, rfl, hnl, h0, hbw, hl, hn9, hc9, hcell⟩
  · have E := hide (show chB (bl s) = whole (bl s) by rw [X.out, he]; simp)
    go_wp2
    refine wp_loop_rounds 1 ?_
    rw [rounds_succ]
    go_wp2_with (go_at_call 145; refine WH.out.mono ?_; rintro e w4 ⟨rfl, rfl⟩)
    go_ret2
    exact .mk _ _ _ (by rw [E.out]; rfl) (fun _ => N3.out) B3.out
  · have HC := hide hcell
    have hnb : n ≤ 1099511627776 := by have := HL.out; omega
    have HN := hide hnl
    clear hcell hnl
    go_wp2
    go_loop [12] (fun i => RelCs (raw (bl s)) i) (fun i => n - (intOf i).toNat)
    case atStart => exact .mk 0 rfl (by omega) rfl
    case round =>
      obtain ⟨k, rfl, k1, RC⟩ := hrel
      rw [← HN.out] at k1
      by_cases hk : k < n
      · have c0 := HC.out k hk
        have hk' : (k : Int) < n := by omega
        by_cases hz : gt (raw (bl s)) k = 0
        · have Z := hide (cs_zero (by rw [← HN.out]; exact hk) hz)
          have E := hide (show chB (bl s) = false by rw [X.out, Z.out]; rfl)
          rw [hz] at c0
          clear hz
          go_wp2
          go_ret2
          exact .mk _ _ _ (by rw [E.out]; rfl) (fun h => by rw [E.out] at h; cases h) B2.out
        · have S := hide (cs_step (by rw [← HN.out]; exact hk) RC.out hz)
          have hz' : (gt (raw (bl s)) k == 0) = false := by simpa using hz
          clear hz
          go_wp2
          go_round
          case rel => exact .mk (k + 1) (by go_num) (by rw [← HN.out]; omega) S.out
          case measure => simp [intOf]; omega
      · have E := hide (show chB (bl s) = whole (bl s) by
          have := RC.out
          rw [List.take_of_length_le (by rw [← HN.out]; omega)] at this
          rw [X.out, this]; rfl)
        have hk' : ¬ (k : Int) < n := by omega
        go_wp2_with (go_at_call 145; refine WH.out.mono ?_; rintro e w4 ⟨rfl, rfl⟩)
        go_ret2
        exact .mk _ _ _ (by rw [E.out]; rfl) (fun _ => N3.out) B3.out
/-! ### Signs of their own -/
def dlAt (k : Nat) : Int := [35, 36, 37, 38, 42, 43, 45, 46, 47, 60, 61, 62, 63, 64, 92, 94, 96, 124, 126, 33].getD k 0
def RelDl (c : Int) (i : Value) : Prop := ∃ k : Nat, i = .int .i64 k ∧ k ≤ 20 ∧ Hid (∀ j, j < k → dlAt j ≠ c)
theorem RelDl.mk {c : Int} {i : Value} (k : Nat) (h1 : i = .int .i64 k) (h2 : k ≤ 20) (h3 : ∀ j, j < k → dlAt j ≠ c) : RelDl c i := ⟨k, h1, h2, h3⟩
theorem dl_yes {c : Int} {k : Nat} (hk : k < 20) (h : dlAt k = c) : isDl c = true := by
  subst h
  have key : ∀ k : Fin 20, isDl (dlAt k.val) = true := by decide
  exact key ⟨k, hk⟩
theorem dl_no {c : Int} (h : ∀ j, j < 20 → dlAt j ≠ c) : isDl c = false := by
  rw [Bool.eq_false_iff]
  intro hc
  unfold isDl at hc
  rw [List.contains_iff_mem] at hc
  obtain ⟨k, hk, e⟩ := List.getElem_of_mem hc
  refine h k (by simpa using hk) ?_
  unfold dlAt
  rw [List.getD_eq_getElem?_getD, List.getElem?_eq_getElem hk]
  exact e
theorem sg0 : (((⟨#[35, 36, 37, 38, 42, 43, 45, 46, 47, 60, 61, 62, 63, 64, 92, 94, 96, 124, 126, 33]⟩ : ByteArray)[0]).toNat : Int) = 35 := by kernel_rfl
theorem sg1 : (((⟨#[35, 36, 37, 38, 42, 43, 45, 46, 47, 60, 61, 62, 63, 64, 92, 94, 96, 124, 126, 33]⟩ : ByteArray)[1]).toNat : Int) = 36 := by kernel_rfl
theorem sg2 : (((⟨#[35, 36, 37, 38, 42, 43, 45, 46, 47, 60, 61, 62, 63, 64, 92, 94, 96, 124, 126, 33]⟩ : ByteArray)[2]).toNat : Int) = 37 := by kernel_rfl
theorem sg3 : (((⟨#[35, 36, 37, 38, 42, 43, 45, 46, 47, 60, 61, 62, 63, 64, 92, 94, 96, 124, 126, 33]⟩ : ByteArray)[3]).toNat : Int) = 38 := by kernel_rfl
theorem sg4 : (((⟨#[35, 36, 37, 38, 42, 43, 45, 46, 47, 60, 61, 62, 63, 64, 92, 94, 96, 124, 126, 33]⟩ : ByteArray)[4]).toNat : Int) = 42 := by kernel_rfl
theorem sg5 : (((⟨#[35, 36, 37, 38, 42, 43, 45, 46, 47, 60, 61, 62, 63, 64, 92, 94, 96, 124, 126, 33]⟩ : ByteArray)[5]).toNat : Int) = 43 := by kernel_rfl
theorem sg6 : (((⟨#[35, 36, 37, 38, 42, 43, 45, 46, 47, 60, 61, 62, 63, 64, 92, 94, 96, 124, 126, 33]⟩ : ByteArray)[6]).toNat : Int) = 45 := by kernel_rfl
theorem sg7 : (((⟨#[35, 36, 37, 38, 42, 43, 45, 46, 47, 60, 61, 62, 63, 64, 92, 94, 96, 124, 126, 33]⟩ : ByteArray)[7]).toNat : Int) = 46 := by kernel_rfl
theorem sg8 : (((⟨#[35, 36, 37, 38, 42, 43, 45, 46, 47, 60, 61, 62, 63, 64, 92, 94, 96, 124, 126, 33]⟩ : ByteArray)[8]).toNat : Int) = 47 := by kernel_rfl
theorem sg9 : (((⟨#[35, 36, 37, 38, 42, 43, 45, 46, 47, 60, 61, 62, 63, 64, 92, 94, 96, 124, 126, 33]⟩ : ByteArray)[9]).toNat : Int) = 60 := by kernel_rfl
theorem sg10 : (((⟨#[35, 36, 37, 38, 42, 43, 45, 46, 47, 60, 61, 62, 63, 64, 92, 94, 96, 124, 126, 33]⟩ : ByteArray)[10]).toNat : Int) = 61 := by kernel_rfl
theorem sg11 : (((⟨#[35, 36, 37, 38, 42, 43, 45, 46, 47, 60, 61, 62, 63, 64, 92, 94, 96, 124, 126, 33]⟩ : ByteArray)[11]).toNat : Int) = 62 := by kernel_rfl
theorem sg12 : (((⟨#[35, 36, 37, 38, 42, 43, 45, 46, 47, 60, 61, 62, 63, 64, 92, 94, 96, 124, 126, 33]⟩ : ByteArray)[12]).toNat : Int) = 63 := by kernel_rfl
theorem sg13 : (((⟨#[35, 36, 37, 38, 42, 43, 45, 46, 47, 60, 61, 62, 63, 64, 92, 94, 96, 124, 126, 33]⟩ : ByteArray)[13]).toNat : Int) = 64 := by kernel_rfl
theorem sg14 : (((⟨#[35, 36, 37, 38, 42, 43, 45, 46, 47, 60, 61, 62, 63, 64, 92, 94, 96, 124, 126, 33]⟩ : ByteArray)[14]).toNat : Int) = 92 := by kernel_rfl
theorem sg15 : (((⟨#[35, 36, 37, 38, 42, 43, 45, 46, 47, 60, 61, 62, 63, 64, 92, 94, 96, 124, 126, 33]⟩ : ByteArray)[15]).toNat : Int) = 94 := by kernel_rfl
theorem sg16 : (((⟨#[35, 36, 37, 38, 42, 43, 45, 46, 47, 60, 61, 62, 63, 64, 92, 94, 96, 124, 126, 33]⟩ : ByteArray)[16]).toNat : Int) = 96 := by kernel_rfl
theorem sg17 : (((⟨#[35, 36, 37, 38, 42, 43, 45, 46, 47, 60, 61, 62, 63, 64, 92, 94, 96, 124, 126, 33]⟩ : ByteArray)[17]).toNat : Int) = 124 := by kernel_rfl
theorem sg18 : (((⟨#[35, 36, 37, 38, 42, 43, 45, 46, 47, 60, 61, 62, 63, 64, 92, 94, 96, 124, 126, 33]⟩ : ByteArray)[18]).toNat : Int) = 126 := by kernel_rfl
theorem sg19 : (((⟨#[35, 36, 37, 38, 42, 43, 45, 46, 47, 60, 61, 62, 63, 64, 92, 94, 96, 124, 126, 33]⟩ : ByteArray)[19]).toNat : Int) = 33 := by kernel_rfl
theorem one0 (c : UInt8) : (((⟨#[c]⟩ : ByteArray)[0]'(by show 0 < 1; omega)).toNat : Int) = (c.toNat : Int) := rfl
theorem upto20 {k : Nat} (h : k < 20) : k = 0 ∨ k = 1 ∨ k = 2 ∨ k = 3 ∨ k = 4 ∨ k = 5 ∨ k = 6 ∨ k = 7 ∨ k = 8 ∨ k = 9 ∨ k = 10 ∨ k = 11 ∨ k = 12 ∨ k = 13 ∨ k = 14 ∨ k = 15 ∨ k = 16 ∨ k = 17 ∨ k = 18 ∨ k = 19 := by omega
set_option maxRecDepth 100000 in
set_option maxHeartbeats 4000000 in
theorem delimR_any (s : ByteArray) (w : World) (hs : s.size ≤ 140737488355328) : Calls Tryz.prog 150 #[.string s] w fun e w' => e = .returned (.bool (dlB (bl s))) ∧ w' = w := by
  by_cases h1 : s.size = 1
  · obtain ⟨c0, rfl, hb⟩ := one_byte h1
    have E := hide (show dlB (bl ⟨#[c0]⟩) = (isDl (c0.toNat : Int) || isCt (c0.toNat : Int)) by rw [hb]; rfl)
    clear hb h1 hs
    obtain ⟨c, hc⟩ : ∃ c : Int, (c0.toNat : Int) = c := ⟨_, rfl⟩
    rw [hc] at E
    go_enter Tryz.func150, Tryz.ntmps150
    go_wp2
    go_loop [10] (fun i => RelDl c i) (fun i => 20 - (intOf i).toNat)
    case atStart => exact .mk 0 rfl (by omega) (fun j hj => by omega)
    case round =>
      obtain ⟨k, rfl, k1, RD⟩ := hrel
      by_cases hk : k < 20
      · by_cases hz : dlAt k = c
        · have F := hide (show dlB (bl ⟨#[c0]⟩) = true by rw [E.out, dl_yes hk hz]; rfl)
          clear RD k1 E
          have o0 := one0 c0
          rcases upto20 hk with rfl | rfl | rfl | rfl | rfl | rfl | rfl | rfl | rfl | rfl | rfl | rfl | rfl | rfl | rfl | rfl | rfl | rfl | rfl | rfl
          · simp only [dlAt, List.getD_cons_zero, List.getD_cons_succ] at hz
            subst hz
            have q := sg0
            clear hk
            go_wp2
            go_ret
            exact ⟨ret_bool F.out.symm, rfl⟩
          · simp only [dlAt, List.getD_cons_zero, List.getD_cons_succ] at hz
            subst hz
            have q := sg1
            clear hk
            go_wp2
            go_ret
            exact ⟨ret_bool F.out.symm, rfl⟩
          · simp only [dlAt, List.getD_cons_zero, List.getD_cons_succ] at hz
            subst hz
            have q := sg2
            clear hk
            go_wp2
            go_ret
            exact ⟨ret_bool F.out.symm, rfl⟩
          · simp only [dlAt, List.getD_cons_zero, List.getD_cons_succ] at hz
            subst hz
            have q := sg3
            clear hk
            go_wp2
            go_ret
            exact ⟨ret_bool F.out.symm, rfl⟩
          · simp only [dlAt, List.getD_cons_zero, List.getD_cons_succ] at hz
            subst hz
            have q := sg4
            clear hk
            go_wp2
            go_ret
            exact ⟨ret_bool F.out.symm, rfl⟩
          · simp only [dlAt, List.getD_cons_zero, List.getD_cons_succ] at hz
            subst hz
            have q := sg5
            clear hk
            go_wp2
            go_ret
            exact ⟨ret_bool F.out.symm, rfl⟩
          · simp only [dlAt, List.getD_cons_zero, List.getD_cons_succ] at hz
            subst hz
            have q := sg6
            clear hk
            go_wp2
            go_ret
            exact ⟨ret_bool F.out.symm, rfl⟩
          · simp only [dlAt, List.getD_cons_zero, List.getD_cons_succ] at hz
            subst hz
            have q := sg7
            clear hk
            go_wp2
            go_ret
            exact ⟨ret_bool F.out.symm, rfl⟩
          · simp only [dlAt, List.getD_cons_zero, List.getD_cons_succ] at hz
            subst hz
            have q := sg8
            clear hk
            go_wp2
            go_ret
            exact ⟨ret_bool F.out.symm, rfl⟩
          · simp only [dlAt, List.getD_cons_zero, List.getD_cons_succ] at hz
            subst hz
            have q := sg9
            clear hk
            go_wp2
            go_ret
            exact ⟨ret_bool F.out.symm, rfl⟩
          · simp only [dlAt, List.getD_cons_zero, List.getD_cons_succ] at hz
            subst hz
            have q := sg10
            clear hk
            go_wp2
            go_ret
            exact ⟨ret_bool F.out.symm, rfl⟩
          · simp only [dlAt, List.getD_cons_zero, List.getD_cons_succ] at hz
            subst hz
            have q := sg11
            clear hk
            go_wp2
            go_ret
            exact ⟨ret_bool F.out.symm, rfl⟩
          · simp only [dlAt, List.getD_cons_zero, List.getD_cons_succ] at hz
            subst hz
            have q := sg12
            clear hk
            go_wp2
            go_ret
            exact ⟨ret_bool F.out.symm, rfl⟩
          · simp only [dlAt, List.getD_cons_zero, List.getD_cons_succ] at hz
            subst hz
            have q := sg13
            clear hk
            go_wp2
            go_ret
            exact ⟨ret_bool F.out.symm, rfl⟩
          · simp only [dlAt, List.getD_cons_zero, List.getD_cons_succ] at hz
            subst hz
            have q := sg14
            clear hk
            go_wp2
            go_ret
            exact ⟨ret_bool F.out.symm, rfl⟩
          · simp only [dlAt, List.getD_cons_zero, List.getD_cons_succ] at hz
            subst hz
            have q := sg15
            clear hk
            go_wp2
            go_ret
            exact ⟨ret_bool F.out.symm, rfl⟩
          · simp only [dlAt, List.getD_cons_zero, List.getD_cons_succ] at hz
            subst hz
            have q := sg16
            clear hk
            go_wp2
            go_ret
            exact ⟨ret_bool F.out.symm, rfl⟩
          · simp only [dlAt, List.getD_cons_zero, List.getD_cons_succ] at hz
            subst hz
            have q := sg17
            clear hk
            go_wp2
            go_ret
            exact ⟨ret_bool F.out.symm, rfl⟩
          · simp only [dlAt, List.getD_cons_zero, List.getD_cons_succ] at hz
            subst hz
            have q := sg18
            clear hk
            go_wp2
            go_ret
            exact ⟨ret_bool F.out.symm, rfl⟩
          · simp only [dlAt, List.getD_cons_zero, List.getD_cons_succ] at hz
            subst hz
            have q := sg19
            clear hk
            go_wp2
            go_ret
            exact ⟨ret_bool F.out.symm, rfl⟩
        · have S := hide (show ∀ j, j < k + 1 → dlAt j ≠ c from fun j hj => by
            by_cases hjk : j = k
            · rw [hjk]; exact hz
            · exact RD.out j (by omega))
          clear RD E
          have o0 := one0 c0
          rcases upto20 hk with rfl | rfl | rfl | rfl | rfl | rfl | rfl | rfl | rfl | rfl | rfl | rfl | rfl | rfl | rfl | rfl | rfl | rfl | rfl | rfl
          · simp only [dlAt, List.getD_cons_zero, List.getD_cons_succ] at hz
            have hzz : ((35 : Int) == c) = false := by simpa using hz
            have q := sg0
            clear hk k1 hz
            go_wp2
            go_round
            case rel => exact .mk 1 rfl (by omega) S.out
            case measure => simp [intOf]
          · simp only [dlAt, List.getD_cons_zero, List.getD_cons_succ] at hz
            have hzz : ((36 : Int) == c) = false := by simpa using hz
            have q := sg1
            clear hk k1 hz
            go_wp2
            go_round
            case rel => exact .mk 2 rfl (by omega) S.out
            case measure => simp [intOf]
          · simp only [dlAt, List.getD_cons_zero, List.getD_cons_succ] at hz
            have hzz : ((37 : Int) == c) = false := by simpa using hz
            have q := sg2
            clear hk k1 hz
            go_wp2
            go_round
            case rel => exact .mk 3 rfl (by omega) S.out
            case measure => simp [intOf]
          · simp only [dlAt, List.getD_cons_zero, List.getD_cons_succ] at hz
            have hzz : ((38 : Int) == c) = false := by simpa using hz
            have q := sg3
            clear hk k1 hz
            go_wp2
            go_round
            case rel => exact .mk 4 rfl (by omega) S.out
            case measure => simp [intOf]
          · simp only [dlAt, List.getD_cons_zero, List.getD_cons_succ] at hz
            have hzz : ((42 : Int) == c) = false := by simpa using hz
            have q := sg4
            clear hk k1 hz
            go_wp2
            go_round
            case rel => exact .mk 5 rfl (by omega) S.out
            case measure => simp [intOf]
          · simp only [dlAt, List.getD_cons_zero, List.getD_cons_succ] at hz
            have hzz : ((43 : Int) == c) = false := by simpa using hz
            have q := sg5
            clear hk k1 hz
            go_wp2
            go_round
            case rel => exact .mk 6 rfl (by omega) S.out
            case measure => simp [intOf]
          · simp only [dlAt, List.getD_cons_zero, List.getD_cons_succ] at hz
            have hzz : ((45 : Int) == c) = false := by simpa using hz
            have q := sg6
            clear hk k1 hz
            go_wp2
            go_round
            case rel => exact .mk 7 rfl (by omega) S.out
            case measure => simp [intOf]
          · simp only [dlAt, List.getD_cons_zero, List.getD_cons_succ] at hz
            have hzz : ((46 : Int) == c) = false := by simpa using hz
            have q := sg7
            clear hk k1 hz
            go_wp2
            go_round
            case rel => exact .mk 8 rfl (by omega) S.out
            case measure => simp [intOf]
          · simp only [dlAt, List.getD_cons_zero, List.getD_cons_succ] at hz
            have hzz : ((47 : Int) == c) = false := by simpa using hz
            have q := sg8
            clear hk k1 hz
            go_wp2
            go_round
            case rel => exact .mk 9 rfl (by omega) S.out
            case measure => simp [intOf]
          · simp only [dlAt, List.getD_cons_zero, List.getD_cons_succ] at hz
            have hzz : ((60 : Int) == c) = false := by simpa using hz
            have q := sg9
            clear hk k1 hz
            go_wp2
            go_round
            case rel => exact .mk 10 rfl (by omega) S.out
            case measure => simp [intOf]
          · simp only [dlAt, List.getD_cons_zero, List.getD_cons_succ] at hz
            have hzz : ((61 : Int) == c) = false := by simpa using hz
            have q := sg10
            clear hk k1 hz
            go_wp2
            go_round
            case rel => exact .mk 11 rfl (by omega) S.out
            case measure => simp [intOf]
          · simp only [dlAt, List.getD_cons_zero, List.getD_cons_succ] at hz
            have hzz : ((62 : Int) == c) = false := by simpa using hz
            have q := sg11
            clear hk k1 hz
            go_wp2
            go_round
            case rel => exact .mk 12 rfl (by omega) S.out
            case measure => simp [intOf]
          · simp only [dlAt, List.getD_cons_zero, List.getD_cons_succ] at hz
            have hzz : ((63 : Int) == c) = false := by simpa using hz
            have q := sg12
            clear hk k1 hz
            go_wp2
            go_round
            case rel => exact .mk 13 rfl (by omega) S.out
            case measure => simp [intOf]
          · simp only [dlAt, List.getD_cons_zero, List.getD_cons_succ] at hz
            have hzz : ((64 : Int) == c) = false := by simpa using hz
            have q := sg13
            clear hk k1 hz
            go_wp2
            go_round
            case rel => exact .mk 14 rfl (by omega) S.out
            case measure => simp [intOf]
          · simp only [dlAt, List.getD_cons_zero, List.getD_cons_succ] at hz
            have hzz : ((92 : Int) == c) = false := by simpa using hz
            have q := sg14
            clear hk k1 hz
            go_wp2
            go_round
            case rel => exact .mk 15 rfl (by omega) S.out
            case measure => simp [intOf]
          · simp only [dlAt, List.getD_cons_zero, List.getD_cons_succ] at hz
            have hzz : ((94 : Int) == c) = false := by simpa using hz
            have q := sg15
            clear hk k1 hz
            go_wp2
            go_round
            case rel => exact .mk 16 rfl (by omega) S.out
            case measure => simp [intOf]
          · simp only [dlAt, List.getD_cons_zero, List.getD_cons_succ] at hz
            have hzz : ((96 : Int) == c) = false := by simpa using hz
            have q := sg16
            clear hk k1 hz
            go_wp2
            go_round
            case rel => exact .mk 17 rfl (by omega) S.out
            case measure => simp [intOf]
          · simp only [dlAt, List.getD_cons_zero, List.getD_cons_succ] at hz
            have hzz : ((124 : Int) == c) = false := by simpa using hz
            have q := sg17
            clear hk k1 hz
            go_wp2
            go_round
            case rel => exact .mk 18 rfl (by omega) S.out
            case measure => simp [intOf]
          · simp only [dlAt, List.getD_cons_zero, List.getD_cons_succ] at hz
            have hzz : ((126 : Int) == c) = false := by simpa using hz
            have q := sg18
            clear hk k1 hz
            go_wp2
            go_round
            case rel => exact .mk 19 rfl (by omega) S.out
            case measure => simp [intOf]
          · simp only [dlAt, List.getD_cons_zero, List.getD_cons_succ] at hz
            have hzz : ((33 : Int) == c) = false := by simpa using hz
            have q := sg19
            clear hk k1 hz
            go_wp2
            go_round
            case rel => exact .mk 20 rfl (by omega) S.out
            case measure => simp [intOf]
      · obtain rfl : k = 20 := by omega
        have F := hide (show dlB (bl ⟨#[c0]⟩) = isCt c by rw [E.out, dl_no RD.out]; rfl)
        clear RD k1 hk E
        have o0 := one0 c0
        rcases ct_cases c with ⟨h, e⟩ | ⟨h, g, e⟩ | ⟨h, g, e⟩ | rfl | ⟨h, g, e⟩ | ⟨h, g, e⟩ | ⟨h, g, e⟩ | rfl | ⟨h, e⟩
        case inr.inr.inr.inl =>
          go_wp2
          go_ret
          exact ⟨ret_bool F.out.symm, rfl⟩
        case inr.inr.inr.inr.inr.inr.inr.inl =>
          go_wp2
          go_ret
          exact ⟨ret_bool F.out.symm, rfl⟩
        all_goals
          have n1 : (c == 11) = false := by simp; omega
          have n2 : (c == 127) = false := by simp; omega
          clear e
          go_wp2
          go_ret
          exact ⟨ret_bool (by rw [F.out, Bool.eq_iff_iff]; simp [isCt]; try omega), rfl⟩
  · have E := hide (show dlB (bl s) = false by unfold dlB; rw [bl_len]; simp [h1])
    have h2 : ((s.size : Int) != 1) = true := by simp; omega
    go_enter Tryz.func150, Tryz.ntmps150
    go_wp2
    go_ret
    exact ⟨ret_bool E.out.symm, rfl⟩
end Go.Proofs.YtmkbjcoagfnegaaGreatDoor
set_option linter.unusedVariables false
set_option linter.unusedSimpArgs false
namespace Go.Proofs.YtmkbjcoagfnegaaGreatDoor
open Go.RowKit Go.Shelf

def cI8 (xs : List Int) : List Value := xs.map fun x => Value.int .u8 x
/-- A builder that holds these bytes. -/
def Bd (B b : Nat) (xs : List Int) (w : World) : Prop := Lib.IsBuilderF 87 5 B b (cI8 xs) w
/-- What a writer leaves. -/
structure PB (B b : Nat) (xs : List Int) (w w' : World) : Prop where
  bd : Bd B b xs w'
  bel : Below B w w'
  oth : Lib.OthersKept 5 (some b) w w'
theorem PB.trans {B b : Nat} {xs ys : List Int} {w w1 w2 : World} (h : PB B b xs w w1) (k : PB B b ys w1 w2) : PB B b ys w w2 := ⟨k.bd, h.bel.trans k.bel, h.oth.trans k.oth⟩
theorem PB.size {B b : Nat} {xs : List Int} {w w1 : World} (h : PB B b xs w w1) (hB : B ≤ w.heap.size) : B ≤ w1.heap.size := Nat.le_trans hB h.bel.size
theorem cI8_app (xs ys : List Int) : cI8 (xs ++ ys) = cI8 xs ++ cI8 ys := by unfold cI8; rw [List.map_append]
theorem cI8_len (xs : List Int) : (cI8 xs).length = xs.length := by unfold cI8; rw [List.length_map]
theorem wbyte_any (B b : Nat) (xs : List Int) (c : Int) (w : World) (h : Bd B b xs w) (hl : xs.length + 1 ≤ 140737488355328) (hB : B ≤ w.heap.size) :
    Calls Tryz.prog 199 #[.pointer (some ⟨b, 0, none⟩), .int .u8 c] w fun e w' => e = .returned .nilIface ∧ PB B b (xs ++ [c]) w w' :=
  (Any.Builder_WriteByte_k wr_lays167 wr_extra B b (cI8 xs) c w h (by rw [cI8_len]; exact hl) hB).mono fun e w' ⟨h1, h2, h3, h4⟩ => ⟨h1, ⟨by unfold Bd; rw [cI8_app]; exact Or.inr h2, h3, h4⟩⟩
theorem strCells_bl (s : ByteArray) : Lib.strCells s = cI8 (bl s) := by
  unfold Lib.strCells cI8 bl
  simp [List.map_map, Function.comp_def]
theorem wstr_any (B b : Nat) (xs : List Int) (s : ByteArray) (w : World) (h : Bd B b xs w) (hl : xs.length + s.size ≤ 140737488355328) (hB : B ≤ w.heap.size) :
    Calls Tryz.prog 58 #[.pointer (some ⟨b, 0, none⟩), .string s] w fun e w' => e = .returned (.tuple #[.int .i64 s.size, .nilIface]) ∧ PB B b (xs ++ bl s) w w' :=
  (Any.Builder_WriteString_k wr_lays166 wr_extra B b (cI8 xs) s w h (by rw [cI8_len]; exact hl) hB).mono fun e w' ⟨h1, h2, h3, h4⟩ => ⟨h1, ⟨by unfold Bd; rw [cI8_app, ← strCells_bl]; exact Or.inr h2, h3, h4⟩⟩
theorem rune_enc {c : Int} (h : isC c = true) : Lib.runeCells c = cI8 (enc1 c) := by
  rw [isC_iff] at h
  unfold Lib.runeCells cI8
  congr 1
  unfold enc1
  split
  · exact Lib.encodeRuneZ_one h.1 (by omega)
  split
  · exact Lib.encodeRuneZ_two (by omega) (by omega)
  split
  · exact Lib.encodeRuneZ_three (by omega)
  · unfold Lib.encodeRuneZ
    rw [if_neg (by omega), if_neg (by omega), if_neg (by omega), if_pos (by omega)]
theorem wrune_any (B b : Nat) (xs : List Int) (c : Int) (w : World) (hc : isC c = true) (h : Bd B b xs w) (hl : xs.length + 4 ≤ 140737488355328) (hB : B ≤ w.heap.size) :
    Calls Tryz.prog 230 #[.pointer (some ⟨b, 0, none⟩), .int .i32 c] w fun e w' => e = .returned (.tuple #[.int .i64 (enc1 c).length, .nilIface]) ∧ PB B b (xs ++ enc1 c) w w' := by
  have hi := (isC_iff c).1 hc
  refine (Any.Builder_WriteRune_k wr_lays168 wr_extra B b (cI8 xs) c (by omega) (by omega) w h (by rw [cI8_len]; exact hl) hB).mono fun e w' ⟨h1, h2, h3, h4⟩ => ⟨?_, ⟨by unfold Bd; rw [cI8_app, ← rune_enc hc]; exact Or.inr h2, h3, h4⟩⟩
  rw [h1, rune_enc hc, cI8_len]
theorem bstr_any (B b : Nat) (xs : List Int) (w : World) (hb : By xs) (h : Bd B b xs w) (hB : B ≤ w.heap.size) :
    Calls Tryz.prog 37 #[.pointer (some ⟨b, 0, none⟩)] w fun e w' => ∃ s, e = .returned (.string s) ∧ bl s = xs ∧ Below B w w' := by
  have e : cI8 xs = Lib.byteCells (xs.map fun x => UInt8.ofNat x.toNat) := by
    unfold cI8 Lib.byteCells
    rw [List.map_map]
    refine List.map_congr_left fun x hx => ?_
    have := hb x hx
    simp only [Function.comp_def]
    congr 1
    simp
    omega
  have h' := h
  unfold Bd at h'
  rw [e] at h'
  refine (Any.Builder_String_any_k wr_lays169 wr_extra B b _ w h' hB).mono fun e' w' ⟨h1, h2, h3, h4⟩ => ⟨_, h1, ?_, h3⟩
  unfold bl
  rw [List.toList_toArray, List.map_map]
  conv => rhs; rw [← List.map_id xs]
  refine List.map_congr_left fun x hx => ?_
  have := hb x hx
  simp only [Function.comp_def, id]
  simp
  omega
end Go.Proofs.YtmkbjcoagfnegaaGreatDoor
set_option linter.unusedVariables false
set_option linter.unusedSimpArgs false
namespace Go.Proofs.YtmkbjcoagfnegaaGreatDoor
open Go.RowKit

def isHid (c : Int) : Bool := (decide (1 ≤ c) && decide (c ≤ 31)) || (c == 127) || (c == 65279)
theorem hid_cases (c : Int) : c < 1 ∨ (1 ≤ c ∧ c ≤ 31) ∨ (31 < c ∧ c < 127) ∨ c = 127 ∨ (127 < c ∧ c < 65279) ∨ c = 65279 ∨ 65279 < c := by omega
set_option maxHeartbeats 1000000 in
theorem isHidden_any (c : Int) (w : World) : Calls Tryz.prog 229 #[.int .i32 c] w fun e w' => e = .returned (.bool (isHid c)) ∧ w' = w := by
  rcases hid_cases c with h | ⟨h, g⟩ | ⟨h, g⟩ | rfl | ⟨h, g⟩ | rfl | h
  case inr.inr.inr.inl =>
    go_enter Tryz.func229, Tryz.ntmps229
    go_wp2
    go_ret
    exact ⟨rfl, rfl⟩
  case inr.inr.inr.inr.inr.inl =>
    go_enter Tryz.func229, Tryz.ntmps229
    go_wp2
    go_ret
    exact ⟨rfl, rfl⟩
  all_goals
    have n1 : (c == 127) = false := by simp; omega
    have n2 : (c == 65279) = false := by simp; omega
    go_enter Tryz.func229, Tryz.ntmps229
    go_wp2
    go_ret
    exact ⟨ret_bool (by rw [Bool.eq_iff_iff]; simp [isHid]; try omega), rfl⟩
set_option maxHeartbeats 1000000 in
theorem hiddenR_any (c : Int) (w : World) : Calls Tryz.prog 155 #[.int .i32 c] w fun e w' => e = .returned (.bool (isHid c)) ∧ w' = w := by
  rcases hid_cases c with h | ⟨h, g⟩ | ⟨h, g⟩ | rfl | ⟨h, g⟩ | rfl | h
  case inr.inr.inr.inl =>
    go_enter Tryz.func155, Tryz.ntmps155
    go_wp2
    go_ret
    exact ⟨rfl, rfl⟩
  case inr.inr.inr.inr.inr.inl =>
    go_enter Tryz.func155, Tryz.ntmps155
    go_wp2
    go_ret
    exact ⟨rfl, rfl⟩
  all_goals
    have n1 : (c == 127) = false := by simp; omega
    have n2 : (c == 65279) = false := by simp; omega
    go_enter Tryz.func155, Tryz.ntmps155
    go_wp2
    go_ret
    exact ⟨ret_bool (by rw [Bool.eq_iff_iff]; simp [isHid]; try omega), rfl⟩
/-! ### To the base 16 -/
theorem pow2_16 (w : World) : Calls Tryz.prog 209 #[.int .i64 16] w fun e w' => e = .returned (.bool true) ∧ w' = w := by
  have k : bits .and .i64 16 15 = 0 := by kernel_rfl
  go_enter Tryz.func209, Tryz.ntmps209
  go_wp2
  go_ret
  exact ⟨rfl, rfl⟩
theorem tz16 (w : World) (hT : Tabs w) : Calls Tryz.prog 210 #[.int .u64 16] w fun e w' => e = .returned (.int .i64 4) ∧ w' = w := by
  have C := hide (tz_any 16 w (by omega) (by omega) hT)
  have E := hide (show Lib.ctz 64 16 = 4 by rfl)
  go_enter Tryz.func210, Tryz.ntmps210
  go_wp2_with (go_at_call 234; refine C.out.mono ?_; rintro e w' ⟨rfl, rfl⟩; rw [E.out])
  go_ret
  exact ⟨rfl, rfl⟩
theorem and15 (x : Nat) (h : x < 18446744073709551616) : bits .and .u64 (x : Int) 15 = ((x % 16 : Nat) : Int) := by
  have := bits_and_u64_nat x 15 h (by omega)
  rw [show ((15 : Nat) : Int) = 15 by rfl] at this
  rw [this, show (15 : Nat) = 2 ^ 4 - 1 by rfl, Nat.and_two_pow_sub_one_eq_mod]
def hd (n : Nat) : Int := if n < 10 then 48 + n else 87 + n
/-- A number to the base 16. -/
def hxL (n : Nat) : List Int := if h : n < 16 then [hd n] else hxL (n / 16) ++ [hd (n % 16)]
termination_by n
decreasing_by omega
theorem hxL_one {n : Nat} (h : n < 16) : hxL n = [hd n] := by rw [hxL, dif_pos h]
theorem hxL_big {n : Nat} (h : ¬ n < 16) : hxL n = hxL (n / 16) ++ [hd (n % 16)] := by rw [hxL, dif_neg h]
def DG : ByteArray := ⟨#[48, 49, 50, 51, 52, 53, 54, 55, 56, 57, 97, 98, 99, 100, 101, 102, 103, 104, 105, 106, 107, 108, 109, 110, 111, 112, 113, 114, 115, 116, 117, 118, 119, 120, 121, 122]⟩
theorem DG_at : ∀ n : Fin 16, ((DG.data[n.val]?).getD 0).toNat = (hd n.val).toNat ∧ 48 ≤ hd n.val ∧ hd n.val ≤ 102 := by decide
theorem DG_hd (n : Nat) (h : n < 16) (h2 : n < DG.size) : ((DG[n]'h2).toNat : Int) = hd n := by
  have := DG_at ⟨n, h⟩
  have e : (DG.data[n]?).getD 0 = DG[n] := by
    have h3 : n < DG.data.size := h2
    rw [Array.getElem?_eq_getElem h3]; rfl
  simp only [e] at this
  omega
/-- The bytes of a row, as far as they are laid from its end. -/
structure HB (w wr : World) (k : Nat) (ds : List Int) : Prop where
  bel : Below w.heap.size w wr
  lt : w.heap.size < wr.heap.size
  len : ds.length = k
  le : k ≤ 65
  fr : ∀ j, wr.frozen? ⟨w.heap.size, j, none⟩ = false
  all : ∀ j, j < 65 → ∃ v, wr.cell? ⟨w.heap.size, j, none⟩ = some v
  at_ : ∀ t, t < k → wr.cell? ⟨w.heap.size, 65 - k + t, none⟩ = some (.int .u8 (gt ds t))
theorem HB.set {w wr : World} {k : Nat} {ds : List Int} (h : HB w wr k ds) (hk : k < 65) (x : Int) : HB w (wr.setCell ⟨w.heap.size, 64 - k, none⟩ (.int .u8 x)) (k + 1) (x :: ds) := by
  obtain ⟨v0, hv0⟩ := h.all (64 - k) (by omega)
  refine ⟨h.bel.setCell (p := ⟨w.heap.size, 64 - k, none⟩) (Nat.le_refl _) _, by simpa using h.lt, by simp [h.len], by omega, fun j => ?_, fun j hj => ?_, fun t ht => ?_⟩
  · rw [World.frozen?_setCell]; exact h.fr j
  · by_cases e : j = 64 - k
    · subst e; exact ⟨_, World.cell?_setCell_same wr ⟨w.heap.size, 64 - k, none⟩ _ hv0⟩
    · obtain ⟨v, hv⟩ := h.all j hj
      exact ⟨v, by rw [World.cell?_setCell_other wr ⟨w.heap.size, 64 - k, none⟩ ⟨w.heap.size, j, none⟩ _ (by simp; try exact e)]; exact hv⟩
  · cases t with
    | zero =>
      rw [show 65 - (k + 1) + 0 = 64 - k by omega]
      exact World.cell?_setCell_same wr ⟨w.heap.size, 64 - k, none⟩ _ hv0
    | succ t =>
      rw [show 65 - (k + 1) + (t + 1) = 65 - k + t by omega, World.cell?_setCell_other wr ⟨w.heap.size, 64 - k, none⟩ ⟨w.heap.size, 65 - k + t, none⟩ _ (by simp; try omega), h.at_ t (by omega)]
      simp [gt]
theorem HB.start (w : World) (cs : Array Value) (T : TypeId) (hs : cs.size = 65) : HB w (w.alloc (.cells cs T)) 0 [] := by
  have hb := heap_alloc_new w (.cells cs T)
  refine ⟨bplus (Below.refl _ _) _, by simp, rfl, by omega, fun j => World.frozen?_alloc_new _ _ _ _, fun j hj => ?_, fun t ht => by omega⟩
  rw [row_blk hb]
  exact ⟨cs[j]'(by omega), Array.getElem?_eq_getElem (by omega)⟩
theorem HB.conv {w wr : World} {k : Nat} {ds : List Int} (h : HB w wr k ds) (hb : By ds) (c : Nat) : ∃ s, bl s = ds ∧ (convert 30 9 (.slice (some ⟨w.heap.size, 65 - k, none⟩) k c)).run Tryz.prog wr = .ok (.string s) wr := by
  have e : ∀ j, j < ds.length → (((ds.map fun x => UInt8.ofNat x.toNat).getD j 0).toNat : Int) = gt ds j := fun j hj => by
    have := hb (ds[j]) (List.getElem_mem hj)
    rw [gt_eq hj]
    simp [List.getD_eq_getElem?_getD, List.getElem?_map, List.getElem?_eq_getElem hj]
    omega
  refine ⟨⟨(ds.map fun x => UInt8.ofNat x.toNat).toArray⟩, ?_, ?_⟩
  · unfold bl
    rw [List.toList_toArray, List.map_map]
    conv => rhs; rw [← List.map_id ds]
    refine List.map_congr_left fun x hx => ?_
    have := hb x hx
    simp
    omega
  · have k' := run_convert_bytes_back (P := Tryz.prog) wr 30 9 5 ⟨w.heap.size, 65 - k, none⟩ c (ds.map fun x => UInt8.ofNat x.toNat) Tryz.underlying30 Tryz.underlying5 Tryz.underlying9 (fun j hj => by
      have hj' : j < ds.length := by simpa using hj
      have e2 := e j hj'
      rw [List.getD_eq_getElem?_getD, List.getElem?_eq_getElem hj] at e2
      rw [Lib.add_plain, h.at_ j (by rw [← h.len]; exact hj'), ← e2]
      rfl)
    rw [List.length_map, h.len] at k'
    exact k'
/-- The state of the loop over digits. -/
def RelHx (w : World) (c : Nat) (u i : Value) (wr : World) : Prop := ∃ k ds, k ≤ 3 ∧ u = .int .u64 ((c / 16 ^ k : Nat) : Int) ∧ i = .int .i64 ((65 - k : Nat) : Int) ∧ Hid (HB w wr k ds ∧ hxL c = hxL (c / 16 ^ k) ++ ds ∧ By ds)
theorem RelHx.mk {w : World} {c : Nat} {u i : Value} {wr : World} (k : Nat) (ds : List Int) (h1 : k ≤ 3) (h2 : u = .int .u64 ((c / 16 ^ k : Nat) : Int)) (h3 : i = .int .i64 ((65 - k : Nat) : Int)) (h4 : HB w wr k ds ∧ hxL c = hxL (c / 16 ^ k) ++ ds ∧ By ds) : RelHx w c u i wr := ⟨k, ds, h1, h2, h3, h4⟩
theorem hd_by (n : Nat) (h : n < 16) : 0 ≤ hd n ∧ hd n ≤ 255 := by unfold hd; split <;> omega
theorem hx_step {w wr : World} {c k : Nat} {ds : List Int} (h : HB w wr k ds ∧ hxL c = hxL (c / 16 ^ k) ++ ds ∧ By ds) (hk : k < 65) (hc : ¬ c / 16 ^ k < 16) {x : Int} (hx : x = hd (c / 16 ^ k % 16)) :
    HB w (wr.setCell ⟨w.heap.size, 64 - k, none⟩ (.int .u8 x)) (k + 1) (x :: ds) ∧ hxL c = hxL (c / 16 ^ (k + 1)) ++ (x :: ds) ∧ By (x :: ds) := by
  refine ⟨h.1.set hk x, ?_, fun y hy => ?_⟩
  · rw [h.2.1, hxL_big hc, Nat.div_div_eq_div_mul, ← Nat.pow_succ, List.append_assoc, hx]; rfl
  · rcases List.mem_cons.1 hy with rfl | hy
    · rw [hx]; exact hd_by _ (Nat.mod_lt _ (by omega))
    · exact h.2.2 y hy
theorem hx_last {w wr : World} {c k : Nat} {ds : List Int} (h : HB w wr k ds ∧ hxL c = hxL (c / 16 ^ k) ++ ds ∧ By ds) (hk : k < 65) (hc : c / 16 ^ k < 16) {x : Int} (hx : x = hd (c / 16 ^ k)) :
    HB w (wr.setCell ⟨w.heap.size, 64 - k, none⟩ (.int .u8 x)) (k + 1) (x :: ds) ∧ hxL c = x :: ds ∧ By (x :: ds) := by
  refine ⟨h.1.set hk x, ?_, fun y hy => ?_⟩
  · rw [h.2.1, hxL_one hc, hx]; rfl
  · rcases List.mem_cons.1 hy with rfl | hy
    · rw [hx]; exact hd_by _ hc
    · exact h.2.2 y hy
set_option maxRecDepth 100000 in
set_option maxHeartbeats 4000000 in
theorem fb16 (c : Nat) (w : World) (hc : c < 65536) (hT : Tabs w) :
    Calls Tryz.prog 188 #[.slice none 0 0, .int .u64 (c : Int), .int .i64 16, .bool false, .bool false] w fun e w' => ∃ a s, e = .returned (.tuple #[a, .string s]) ∧ bl s = hxL c ∧ Below w.heap.size w w' := by
  have W1 := hide (fun (W : World) (h : Below w.heap.size w W) => hT.below h)
  have HS := hide (HB.start w Tryz.zeroCells218 218 (by kernel_rfl))
  clear hT
  go_enter Tryz.func188, Tryz.ntmps188
  go_wp2_with (first
    | (go_at_call 209; refine (pow2_16 _).mono ?_; rintro e w' ⟨rfl, rfl⟩)
    | (go_at_call 210; refine (tz16 _ (W1.out _ (bplus (Below.refl _ _) _))).mono ?_; rintro e w' ⟨rfl, rfl⟩))
  go_loopw [1, 13] (fun u i wr => RelHx w c u i wr) (fun u _ _ => (intOf u).toNat)
  case atStart => exact .mk 0 [] (by omega) (by simp) rfl ⟨HS.out, by simp, fun x hx => by simp at hx⟩
  case round =>
    clear HS W1
    obtain ⟨k, ds, hk, rfl, rfl, R⟩ := hrel
    have u9 : c / 16 ^ k < 65536 := Nat.lt_of_le_of_lt (Nat.div_le_self _ _) hc
    by_cases hu : c / 16 ^ k < 16
    · have k3 : k = 0 ∨ k = 1 ∨ k = 2 ∨ k = 3 := by omega
      rcases k3 with rfl | rfl | rfl | rfl
      · obtain ⟨v, hv⟩ := R.out.1.all 64 (by omega)
        have fr := R.out.1.fr 64
        obtain ⟨u, hu9⟩ : ∃ u, c / 16 ^ 0 = u := ⟨_, rfl⟩
        have ST := hx_last (x := hd u) R.out (by omega) hu (by rw [hu9])
        rw [hu9] at hu u9
        rw [hu9]
        rw [← DG_hd u hu (by show u < 36; omega)] at ST
        have hx' : (u : Int) < 16 := by omega
        have i1 : (0 : Int) ≤ (u : Int) := by omega
        have u36 : u < 36 := by omega
        obtain ⟨s, hs, hcv⟩ := ST.1.conv ST.2.2 1
        have kcv : (convert 30 9 (.slice (some ⟨w.heap.size, 64, none⟩) 1 1)).run Tryz.prog (wr.setCell ⟨w.heap.size, 64, none⟩ (.int .u8 ((((⟨#[48, 49, 50, 51, 52, 53, 54, 55, 56, 57, 97, 98, 99, 100, 101, 102, 103, 104, 105, 106, 107, 108, 109, 110, 111, 112, 113, 114, 115, 116, 117, 118, 119, 120, 121, 122]⟩ : ByteArray)[u]'(by show u < 36; exact u36)).toNat : Int)))) = .ok (.string s) (wr.setCell ⟨w.heap.size, 64, none⟩ (.int .u8 ((((⟨#[48, 49, 50, 51, 52, 53, 54, 55, 56, 57, 97, 98, 99, 100, 101, 102, 103, 104, 105, 106, 107, 108, 109, 110, 111, 112, 113, 114, 115, 116, 117, 118, 119, 120, 121, 122]⟩ : ByteArray)[u]'(by show u < 36; exact u36)).toNat : Int)))) := hcv
        have BB := hide (show Below w.heap.size w (wr.setCell ⟨w.heap.size, 64, none⟩ (.int .u8 ((((⟨#[48, 49, 50, 51, 52, 53, 54, 55, 56, 57, 97, 98, 99, 100, 101, 102, 103, 104, 105, 106, 107, 108, 109, 110, 111, 112, 113, 114, 115, 116, 117, 118, 119, 120, 121, 122]⟩ : ByteArray)[u]'(by show u < 36; exact u36)).toNat : Int)))) from ST.1.bel)
        have HS := hide (hs.trans ST.2.1.symm)
        clear R ST hs hcv
        replace hu9 := hide hu9
        go_wp2
        go_ret2
        exact ⟨_, s, rfl, HS.out, BB.out⟩
      · obtain ⟨v, hv⟩ := R.out.1.all 63 (by omega)
        have fr := R.out.1.fr 63
        obtain ⟨u, hu9⟩ : ∃ u, c / 16 ^ 1 = u := ⟨_, rfl⟩
        have ST := hx_last (x := hd u) R.out (by omega) hu (by rw [hu9])
        rw [hu9] at hu u9
        rw [hu9]
        rw [← DG_hd u hu (by show u < 36; omega)] at ST
        have hx' : (u : Int) < 16 := by omega
        have i1 : (0 : Int) ≤ (u : Int) := by omega
        have u36 : u < 36 := by omega
        obtain ⟨s, hs, hcv⟩ := ST.1.conv ST.2.2 2
        have kcv : (convert 30 9 (.slice (some ⟨w.heap.size, 63, none⟩) 2 2)).run Tryz.prog (wr.setCell ⟨w.heap.size, 63, none⟩ (.int .u8 ((((⟨#[48, 49, 50, 51, 52, 53, 54, 55, 56, 57, 97, 98, 99, 100, 101, 102, 103, 104, 105, 106, 107, 108, 109, 110, 111, 112, 113, 114, 115, 116, 117, 118, 119, 120, 121, 122]⟩ : ByteArray)[u]'(by show u < 36; exact u36)).toNat : Int)))) = .ok (.string s) (wr.setCell ⟨w.heap.size, 63, none⟩ (.int .u8 ((((⟨#[48, 49, 50, 51, 52, 53, 54, 55, 56, 57, 97, 98, 99, 100, 101, 102, 103, 104, 105, 106, 107, 108, 109, 110, 111, 112, 113, 114, 115, 116, 117, 118, 119, 120, 121, 122]⟩ : ByteArray)[u]'(by show u < 36; exact u36)).toNat : Int)))) := hcv
        have BB := hide (show Below w.heap.size w (wr.setCell ⟨w.heap.size, 63, none⟩ (.int .u8 ((((⟨#[48, 49, 50, 51, 52, 53, 54, 55, 56, 57, 97, 98, 99, 100, 101, 102, 103, 104, 105, 106, 107, 108, 109, 110, 111, 112, 113, 114, 115, 116, 117, 118, 119, 120, 121, 122]⟩ : ByteArray)[u]'(by show u < 36; exact u36)).toNat : Int)))) from ST.1.bel)
        have HS := hide (hs.trans ST.2.1.symm)
        clear R ST hs hcv
        replace hu9 := hide hu9
        go_wp2
        go_ret2
        exact ⟨_, s, rfl, HS.out, BB.out⟩
      · obtain ⟨v, hv⟩ := R.out.1.all 62 (by omega)
        have fr := R.out.1.fr 62
        obtain ⟨u, hu9⟩ : ∃ u, c / 16 ^ 2 = u := ⟨_, rfl⟩
        have ST := hx_last (x := hd u) R.out (by omega) hu (by rw [hu9])
        rw [hu9] at hu u9
        rw [hu9]
        rw [← DG_hd u hu (by show u < 36; omega)] at ST
        have hx' : (u : Int) < 16 := by omega
        have i1 : (0 : Int) ≤ (u : Int) := by omega
        have u36 : u < 36 := by omega
        obtain ⟨s, hs, hcv⟩ := ST.1.conv ST.2.2 3
        have kcv : (convert 30 9 (.slice (some ⟨w.heap.size, 62, none⟩) 3 3)).run Tryz.prog (wr.setCell ⟨w.heap.size, 62, none⟩ (.int .u8 ((((⟨#[48, 49, 50, 51, 52, 53, 54, 55, 56, 57, 97, 98, 99, 100, 101, 102, 103, 104, 105, 106, 107, 108, 109, 110, 111, 112, 113, 114, 115, 116, 117, 118, 119, 120, 121, 122]⟩ : ByteArray)[u]'(by show u < 36; exact u36)).toNat : Int)))) = .ok (.string s) (wr.setCell ⟨w.heap.size, 62, none⟩ (.int .u8 ((((⟨#[48, 49, 50, 51, 52, 53, 54, 55, 56, 57, 97, 98, 99, 100, 101, 102, 103, 104, 105, 106, 107, 108, 109, 110, 111, 112, 113, 114, 115, 116, 117, 118, 119, 120, 121, 122]⟩ : ByteArray)[u]'(by show u < 36; exact u36)).toNat : Int)))) := hcv
        have BB := hide (show Below w.heap.size w (wr.setCell ⟨w.heap.size, 62, none⟩ (.int .u8 ((((⟨#[48, 49, 50, 51, 52, 53, 54, 55, 56, 57, 97, 98, 99, 100, 101, 102, 103, 104, 105, 106, 107, 108, 109, 110, 111, 112, 113, 114, 115, 116, 117, 118, 119, 120, 121, 122]⟩ : ByteArray)[u]'(by show u < 36; exact u36)).toNat : Int)))) from ST.1.bel)
        have HS := hide (hs.trans ST.2.1.symm)
        clear R ST hs hcv
        replace hu9 := hide hu9
        go_wp2
        go_ret2
        exact ⟨_, s, rfl, HS.out, BB.out⟩
      · obtain ⟨v, hv⟩ := R.out.1.all 61 (by omega)
        have fr := R.out.1.fr 61
        obtain ⟨u, hu9⟩ : ∃ u, c / 16 ^ 3 = u := ⟨_, rfl⟩
        have ST := hx_last (x := hd u) R.out (by omega) hu (by rw [hu9])
        rw [hu9] at hu u9
        rw [hu9]
        rw [← DG_hd u hu (by show u < 36; omega)] at ST
        have hx' : (u : Int) < 16 := by omega
        have i1 : (0 : Int) ≤ (u : Int) := by omega
        have u36 : u < 36 := by omega
        obtain ⟨s, hs, hcv⟩ := ST.1.conv ST.2.2 4
        have kcv : (convert 30 9 (.slice (some ⟨w.heap.size, 61, none⟩) 4 4)).run Tryz.prog (wr.setCell ⟨w.heap.size, 61, none⟩ (.int .u8 ((((⟨#[48, 49, 50, 51, 52, 53, 54, 55, 56, 57, 97, 98, 99, 100, 101, 102, 103, 104, 105, 106, 107, 108, 109, 110, 111, 112, 113, 114, 115, 116, 117, 118, 119, 120, 121, 122]⟩ : ByteArray)[u]'(by show u < 36; exact u36)).toNat : Int)))) = .ok (.string s) (wr.setCell ⟨w.heap.size, 61, none⟩ (.int .u8 ((((⟨#[48, 49, 50, 51, 52, 53, 54, 55, 56, 57, 97, 98, 99, 100, 101, 102, 103, 104, 105, 106, 107, 108, 109, 110, 111, 112, 113, 114, 115, 116, 117, 118, 119, 120, 121, 122]⟩ : ByteArray)[u]'(by show u < 36; exact u36)).toNat : Int)))) := hcv
        have BB := hide (show Below w.heap.size w (wr.setCell ⟨w.heap.size, 61, none⟩ (.int .u8 ((((⟨#[48, 49, 50, 51, 52, 53, 54, 55, 56, 57, 97, 98, 99, 100, 101, 102, 103, 104, 105, 106, 107, 108, 109, 110, 111, 112, 113, 114, 115, 116, 117, 118, 119, 120, 121, 122]⟩ : ByteArray)[u]'(by show u < 36; exact u36)).toNat : Int)))) from ST.1.bel)
        have HS := hide (hs.trans ST.2.1.symm)
        clear R ST hs hcv
        replace hu9 := hide hu9
        go_wp2
        go_ret2
        exact ⟨_, s, rfl, HS.out, BB.out⟩
    · have k2 : k = 0 ∨ k = 1 ∨ k = 2 := by
        have : k ≠ 3 := fun h => hu (by rw [h]; omega)
        omega
      rcases k2 with rfl | rfl | rfl
      · obtain ⟨v, hv⟩ := R.out.1.all 64 (by omega)
        have fr := R.out.1.fr 64
        have hx' : ¬ ((c / 16 ^ 0 : Nat) : Int) < 16 := by omega
        have an := and15 (c / 16 ^ 0) (by omega)
        have xm : c / 16 ^ 0 % 16 < 16 := Nat.mod_lt _ (by omega)
        obtain ⟨u, hu9⟩ : ∃ u, c / 16 ^ 0 = u := ⟨_, rfl⟩
        have ST := hide (fun x hx => hx_step (x := x) R.out (by omega) hu hx)
        have NX := hide (show c / 16 ^ (0 + 1) = u / 16 by rw [← hu9, Nat.div_div_eq_div_mul, ← Nat.pow_succ])
        rw [hu9] at hx' an xm hu u9 ST
        rw [hu9]
        obtain ⟨y, hy9⟩ : ∃ y, u % 16 = y := ⟨_, rfl⟩
        rw [hy9] at an xm ST
        have i1 : (0 : Int) ≤ (y : Int) := by omega
        have i2 : (y : Int) < 36 := by omega
        have y36 : y < 36 := by omega
        clear hu hu9 hy9 R
        go_wp2
        go_roundw
        case rel =>
          refine .mk 1 (hd y :: ds) (by omega) (by rw [NX.out]; congr 1) rfl ?_
          have := ST.out (hd y) rfl
          rw [← DG_hd y (by omega) (by show y < 36; omega)] at this ⊢
          exact this
        case measure => simp [intOf]; omega
      · obtain ⟨v, hv⟩ := R.out.1.all 63 (by omega)
        have fr := R.out.1.fr 63
        have hx' : ¬ ((c / 16 ^ 1 : Nat) : Int) < 16 := by omega
        have an := and15 (c / 16 ^ 1) (by omega)
        have xm : c / 16 ^ 1 % 16 < 16 := Nat.mod_lt _ (by omega)
        obtain ⟨u, hu9⟩ : ∃ u, c / 16 ^ 1 = u := ⟨_, rfl⟩
        have ST := hide (fun x hx => hx_step (x := x) R.out (by omega) hu hx)
        have NX := hide (show c / 16 ^ (1 + 1) = u / 16 by rw [← hu9, Nat.div_div_eq_div_mul, ← Nat.pow_succ])
        rw [hu9] at hx' an xm hu u9 ST
        rw [hu9]
        obtain ⟨y, hy9⟩ : ∃ y, u % 16 = y := ⟨_, rfl⟩
        rw [hy9] at an xm ST
        have i1 : (0 : Int) ≤ (y : Int) := by omega
        have i2 : (y : Int) < 36 := by omega
        have y36 : y < 36 := by omega
        clear hu hu9 hy9 R
        go_wp2
        go_roundw
        case rel =>
          refine .mk 2 (hd y :: ds) (by omega) (by rw [NX.out]; congr 1) rfl ?_
          have := ST.out (hd y) rfl
          rw [← DG_hd y (by omega) (by show y < 36; omega)] at this ⊢
          exact this
        case measure => simp [intOf]; omega
      · obtain ⟨v, hv⟩ := R.out.1.all 62 (by omega)
        have fr := R.out.1.fr 62
        have hx' : ¬ ((c / 16 ^ 2 : Nat) : Int) < 16 := by omega
        have an := and15 (c / 16 ^ 2) (by omega)
        have xm : c / 16 ^ 2 % 16 < 16 := Nat.mod_lt _ (by omega)
        obtain ⟨u, hu9⟩ : ∃ u, c / 16 ^ 2 = u := ⟨_, rfl⟩
        have ST := hide (fun x hx => hx_step (x := x) R.out (by omega) hu hx)
        have NX := hide (show c / 16 ^ (2 + 1) = u / 16 by rw [← hu9, Nat.div_div_eq_div_mul, ← Nat.pow_succ])
        rw [hu9] at hx' an xm hu u9 ST
        rw [hu9]
        obtain ⟨y, hy9⟩ : ∃ y, u % 16 = y := ⟨_, rfl⟩
        rw [hy9] at an xm ST
        have i1 : (0 : Int) ≤ (y : Int) := by omega
        have i2 : (y : Int) < 36 := by omega
        have y36 : y < 36 := by omega
        clear hu hu9 hy9 R
        go_wp2
        go_roundw
        case rel =>
          refine .mk 3 (hd y :: ds) (by omega) (by rw [NX.out]; congr 1) rfl ?_
          have := ST.out (hd y) rfl
          rw [← DG_hd y (by omega) (by show y < 36; omega)] at this ⊢
          exact this
        case measure => simp [intOf]; omega
theorem ifmt16 (c : Nat) (w : World) (hc : c < 65536) (hT : Tabs w) :
    Calls Tryz.prog 173 #[.int .i64 (c : Int), .int .i64 16] w fun e w' => ∃ s, e = .returned (.string s) ∧ bl s = hxL c ∧ Below w.heap.size w w' := by
  have C := hide (fb16 c w hc hT)
  have c0 : (0 : Int) ≤ c := by omega
  have c1 : (c : Int) < 65536 := by omega
  go_enter Tryz.func173, Tryz.ntmps173
  go_wp2_with (go_at_call 188; refine C.out.mono ?_; rintro e w' ⟨a, s, rfl, hs, hb⟩; replace hs := hide hs; replace hb := hide hb)
  go_ret
  exact ⟨s, rfl, hs.out, hb.out⟩
theorem fmt16 (c : Int) (w : World) (c0 : 0 ≤ c) (hc : c < 65536) (hT : Tabs w) :
    Calls Tryz.prog 172 #[.int .i64 c, .int .i64 16] w fun e w' => ∃ s, e = .returned (.string s) ∧ bl s = hxL c.toNat ∧ Below w.heap.size w w' := by
  obtain ⟨n, rfl⟩ := Int.eq_ofNat_of_zero_le c0
  have C := hide (ifmt16 n w (by omega) hT)
  go_enter Tryz.func172, Tryz.ntmps172
  go_wp2_with (go_at_call 173; refine C.out.mono ?_; rintro e w' ⟨s, rfl, hs, hb⟩; replace hs := hide hs; replace hb := hide hb)
  go_ret
  exact ⟨s, rfl, hs.out, hb.out⟩
end Go.Proofs.YtmkbjcoagfnegaaGreatDoor
set_option linter.unusedVariables false
set_option linter.unusedSimpArgs false
namespace Go.Proofs.YtmkbjcoagfnegaaGreatDoor
open Go.RowKit Go.Shelf

theorem bd_below {B b : Nat} {xs : List Int} {w w' : World} (h : Bd B b xs w) (hb : Below w.heap.size w w') : Bd B b xs w' := by
  have hg : w.grownBy w' none := ⟨hb.os, hb.tape, hb.output, hb.size, fun k hk _ => hb.block k hk⟩
  have key : ∀ p, Lib.BuilderAtF 87 5 B b p (cI8 xs) w → Lib.BuilderAtF 87 5 B b p (cI8 xs) w' := fun p ⟨h1, v, h2, h3, h4⟩ =>
    ⟨h1, v, (hb.block b (Array.getElem?_eq_some_iff.1 h2).1).trans h2, h3.kept hg (by cases hv : v.ownBlock; exact .inl rfl; exact .inr (by simp)), h4⟩
  exact h.elim (fun x => .inl (key _ x)) (fun x => .inr (key _ x))
theorem oth_below {e : TypeId} {b : Option Nat} {w w' : World} (hb : Below w.heap.size w w') : Lib.OthersKept e b w w' := fun k o hk _ _ => (hb.block k (Array.getElem?_eq_some_iff.1 hk).1).trans hk
theorem PB.start {B b : Nat} {xs : List Int} {w : World} (h : Bd B b xs w) : PB B b xs w w := ⟨h, Below.refl _ _, Lib.OthersKept.refl _ _ _⟩
theorem PB.grow {B b : Nat} {xs : List Int} {w w1 w2 : World} (h : PB B b xs w w1) (hB : B ≤ w.heap.size) (hb : Below w1.heap.size w1 w2) : PB B b xs w w2 :=
  ⟨bd_below h.bd hb, h.bel.trans (hb.mono (h.size hB)), h.oth.trans (oth_below hb)⟩
/-- The tables stand, whatever is written. -/
def TB (B : Nat) (w : World) : Prop := ∀ W, Below B w W → Tabs W
theorem TB.on {B : Nat} {w w1 : World} (h : TB B w) (hb : Below B w w1) : TB B w1 := fun W hW => h W (hb.trans hW)
theorem TB.here {B : Nat} {w : World} (h : TB B w) : Tabs w := h w (Below.refl _ _)
/-! ### Names -/
def esc (c : Int) : List Int := 92 :: (hxL c.toNat ++ [32])
theorem isLet_cases (c : Int) : c < 45 ∨ c = 45 ∨ (45 < c ∧ c < 48) ∨ (48 ≤ c ∧ c ≤ 57) ∨ (57 < c ∧ c < 65) ∨ (65 ≤ c ∧ c ≤ 90) ∨ (90 < c ∧ c < 95) ∨ c = 95 ∨ c = 96 ∨ (97 ≤ c ∧ c ≤ 122) ∨ (122 < c ∧ c < 128) ∨ 128 ≤ c := by omega
set_option maxHeartbeats 2000000 in
theorem isNameS_any (c : Int) (w : World) : Calls Tryz.prog 248 #[.int .i32 c] w fun e w' => e = .returned (.bool (isLet c)) ∧ w' = w := by
  rcases isLet_cases c with h | rfl | ⟨h, g⟩ | ⟨h, g⟩ | ⟨h, g⟩ | ⟨h, g⟩ | ⟨h, g⟩ | rfl | rfl | ⟨h, g⟩ | ⟨h, g⟩ | h
  · have n1 : (c == 95) = false := by simp; omega
    have n2 : (c == 45) = false := by simp; omega
    have DG := hide (show isDig c = false by simp [isDig]; omega)
    go_enter Tryz.func248, Tryz.ntmps248
    go_wp2_with (go_at_call 214; refine (isDigitS_any _ _).mono ?_; rintro e w1 ⟨rfl, rfl⟩; rw [DG.out])
    go_ret
    exact ⟨ret_bool (by rw [Bool.eq_iff_iff]; simp [isLet, isFst, isDig]; try omega), rfl⟩
  · go_enter Tryz.func248, Tryz.ntmps248
    go_wp2_with (go_at_call 214; refine (isDigitS_any _ _).mono ?_; rintro e w1 ⟨rfl, rfl⟩; rw [show isDig 45 = false from rfl])
    go_ret
    exact ⟨rfl, rfl⟩
  · have n1 : (c == 95) = false := by simp; omega
    have n2 : (c == 45) = false := by simp; omega
    have DG := hide (show isDig c = false by simp [isDig]; omega)
    go_enter Tryz.func248, Tryz.ntmps248
    go_wp2_with (go_at_call 214; refine (isDigitS_any _ _).mono ?_; rintro e w1 ⟨rfl, rfl⟩; rw [DG.out])
    go_ret
    exact ⟨ret_bool (by rw [Bool.eq_iff_iff]; simp [isLet, isFst, isDig]; try omega), rfl⟩
  · have n1 : (c == 95) = false := by simp; omega
    have n2 : (c == 45) = false := by simp; omega
    have DG := hide (show isDig c = true by simp [isDig]; omega)
    go_enter Tryz.func248, Tryz.ntmps248
    go_wp2_with (go_at_call 214; refine (isDigitS_any _ _).mono ?_; rintro e w1 ⟨rfl, rfl⟩; rw [DG.out])
    go_ret
    exact ⟨ret_bool (by rw [Bool.eq_iff_iff]; simp [isLet, isFst, isDig]; try omega), rfl⟩
  · have n1 : (c == 95) = false := by simp; omega
    have n2 : (c == 45) = false := by simp; omega
    have DG := hide (show isDig c = false by simp [isDig]; omega)
    go_enter Tryz.func248, Tryz.ntmps248
    go_wp2_with (go_at_call 214; refine (isDigitS_any _ _).mono ?_; rintro e w1 ⟨rfl, rfl⟩; rw [DG.out])
    go_ret
    exact ⟨ret_bool (by rw [Bool.eq_iff_iff]; simp [isLet, isFst, isDig]; try omega), rfl⟩
  · have n1 : (c == 95) = false := by simp; omega
    have n2 : (c == 45) = false := by simp; omega
    have DG := hide (show isDig c = false by simp [isDig]; omega)
    go_enter Tryz.func248, Tryz.ntmps248
    go_wp2_with (go_at_call 214; refine (isDigitS_any _ _).mono ?_; rintro e w1 ⟨rfl, rfl⟩; rw [DG.out])
    go_ret
    exact ⟨ret_bool (by rw [Bool.eq_iff_iff]; simp [isLet, isFst, isDig]; try omega), rfl⟩
  · have n1 : (c == 95) = false := by simp; omega
    have n2 : (c == 45) = false := by simp; omega
    have DG := hide (show isDig c = false by simp [isDig]; omega)
    go_enter Tryz.func248, Tryz.ntmps248
    go_wp2_with (go_at_call 214; refine (isDigitS_any _ _).mono ?_; rintro e w1 ⟨rfl, rfl⟩; rw [DG.out])
    go_ret
    exact ⟨ret_bool (by rw [Bool.eq_iff_iff]; simp [isLet, isFst, isDig]; try omega), rfl⟩
  · go_enter Tryz.func248, Tryz.ntmps248
    go_wp2_with (go_at_call 214; refine (isDigitS_any _ _).mono ?_; rintro e w1 ⟨rfl, rfl⟩; rw [show isDig 95 = false from rfl])
    go_ret
    exact ⟨rfl, rfl⟩
  · go_enter Tryz.func248, Tryz.ntmps248
    go_wp2_with (go_at_call 214; refine (isDigitS_any _ _).mono ?_; rintro e w1 ⟨rfl, rfl⟩; rw [show isDig 96 = false from rfl])
    go_ret
    exact ⟨rfl, rfl⟩
  · have n1 : (c == 95) = false := by simp; omega
    have n2 : (c == 45) = false := by simp; omega
    have DG := hide (show isDig c = false by simp [isDig]; omega)
    go_enter Tryz.func248, Tryz.ntmps248
    go_wp2_with (go_at_call 214; refine (isDigitS_any _ _).mono ?_; rintro e w1 ⟨rfl, rfl⟩; rw [DG.out])
    go_ret
    exact ⟨ret_bool (by rw [Bool.eq_iff_iff]; simp [isLet, isFst, isDig]; try omega), rfl⟩
  · have n1 : (c == 95) = false := by simp; omega
    have n2 : (c == 45) = false := by simp; omega
    have DG := hide (show isDig c = false by simp [isDig]; omega)
    go_enter Tryz.func248, Tryz.ntmps248
    go_wp2_with (go_at_call 214; refine (isDigitS_any _ _).mono ?_; rintro e w1 ⟨rfl, rfl⟩; rw [DG.out])
    go_ret
    exact ⟨ret_bool (by rw [Bool.eq_iff_iff]; simp [isLet, isFst, isDig]; try omega), rfl⟩
  · have n1 : (c == 95) = false := by simp; omega
    have n2 : (c == 45) = false := by simp; omega
    have DG := hide (show isDig c = false by simp [isDig]; omega)
    go_enter Tryz.func248, Tryz.ntmps248
    go_wp2_with (go_at_call 214; refine (isDigitS_any _ _).mono ?_; rintro e w1 ⟨rfl, rfl⟩; rw [DG.out])
    go_ret
    exact ⟨ret_bool (by rw [Bool.eq_iff_iff]; simp [isLet, isFst, isDig]; try omega), rfl⟩
set_option maxHeartbeats 1000000 in
theorem wEsc_any (B b : Nat) (xs : List Int) (c : Int) (w : World) (c0 : 0 ≤ c) (hc : c < 65536) (h : Bd B b xs w) (hl : xs.length ≤ 70368744177664) (hB : B ≤ w.heap.size) (hT : TB B w) :
    Calls Tryz.prog 225 #[.pointer (some ⟨b, 0, none⟩), .int .i32 c] w fun e w' => e = .returned (.tuple #[]) ∧ PB B b (xs ++ esc c) w w' := by
  have C1 := hide (wbyte_any B b xs 92 w h (by omega) hB)
  have HT := hide hT
  have LN := hide (show ∀ s : ByteArray, bl s = hxL c.toNat → s.size ≤ 65536 from fun s hs => by
    rw [← bl_len, hs]
    have key : ∀ n, (hxL n).length ≤ n + 1 := by
      intro n
      induction n using Nat.strongRecOn with
      | _ n ih =>
        by_cases h : n < 16
        · rw [hxL_one h]; simp
        · rw [hxL_big h, List.length_append]
          have := ih (n / 16) (by omega)
          simp; omega
    have := key c.toNat
    omega)
  have P0 := hide (PB.start h)
  clear h hT
  go_enter Tryz.func225, Tryz.ntmps225
  go_wp2_with (first
    | (go_at_call_of 199 (Value.int IntKind.u8 92); refine C1.out.mono ?_; rintro e w1 ⟨rfl, P1⟩; replace P1 := hide P1)
    | (go_at_call 172; refine (fmt16 c _ c0 hc (HT.out.on P1.out.bel).here).mono ?_; rintro e w2 ⟨s, rfl, hs, b2⟩; have hz := LN.out s hs; replace hs := hide hs; replace P1 := hide (P1.out.grow hB b2); clear b2)
    | (go_at_call 58; refine (wstr_any B b _ s _ P1.out.bd (by simp; omega) (P1.out.size hB)).mono ?_; rintro e w3 ⟨rfl, P3⟩; rw [hs.out] at P3; replace P1 := hide (P1.out.trans P3); clear P3)
    | (go_at_call 199; refine (wbyte_any B b _ 32 _ P1.out.bd (by rw [← hs.out]; simp [bl_len]; omega) (P1.out.size hB)).mono ?_; rintro e w4 ⟨rfl, P4⟩; replace P1 := hide (P1.out.trans P4)))
  go_end0
  refine ⟨rfl, ?_⟩
  have := P1.out
  simp only [List.append_assoc, List.singleton_append, List.cons_append, List.nil_append] at this
  exact this
set_option maxHeartbeats 1000000 in
theorem wSl_any (B b : Nat) (xs : List Int) (c : Int) (w : World) (hc : isC c = true) (h : Bd B b xs w) (hl : xs.length ≤ 70368744177664) (hB : B ≤ w.heap.size) :
    Calls Tryz.prog 228 #[.pointer (some ⟨b, 0, none⟩), .int .i32 c] w fun e w' => e = .returned (.tuple #[]) ∧ PB B b (xs ++ (92 :: enc1 c)) w w' := by
  have C1 := hide (wbyte_any B b xs 92 w h (by omega) hB)
  go_enter Tryz.func228, Tryz.ntmps228
  go_wp2_with (first
    | (go_at_call 199; refine C1.out.mono ?_; rintro e w1 ⟨rfl, P1⟩; replace P1 := hide P1)
    | (go_at_call 230; refine (wrune_any B b _ c _ hc P1.out.bd (by simp; omega) (P1.out.size hB)).mono ?_; rintro e w3 ⟨rfl, P3⟩; replace P1 := hide (P1.out.trans P3); clear P3))
  go_end0
  refine ⟨rfl, ?_⟩
  have := P1.out
  simp only [List.append_assoc, List.singleton_append, List.cons_append, List.nil_append] at this
  exact this
/-- A letter of a name, written. -/
def wLt (c : Int) : List Int := if isHid c = true then esc c else if isLet c = true then enc1 c else 92 :: enc1 c
theorem hid_bd {c : Int} (h : isHid c = true) : 0 ≤ c ∧ c < 65536 := by simp [isHid] at h; omega
set_option maxHeartbeats 1000000 in
theorem wLt_any (B b : Nat) (xs : List Int) (c : Int) (w : World) (hc : isC c = true) (h : Bd B b xs w) (hl : xs.length ≤ 70368744177664) (hB : B ≤ w.heap.size) (hT : TB B w) :
    Calls Tryz.prog 226 #[.pointer (some ⟨b, 0, none⟩), .int .i32 c] w fun e w' => e = .returned (.tuple #[]) ∧ PB B b (xs ++ wLt c) w w' := by
  cases hh : isHid c with
  | true =>
    obtain ⟨g1, g2⟩ := hid_bd hh
    have C := hide (wEsc_any B b xs c w g1 g2 h hl hB hT)
    have E := hide (show wLt c = esc c by unfold wLt; rw [if_pos hh])
    have HH := hide hh
    clear hh h hT
    go_enter Tryz.func226, Tryz.ntmps226
    go_wp2_with (first
      | (go_at_call 229; refine (isHidden_any _ _).mono ?_; rintro e w1 ⟨rfl, rfl⟩; rw [HH.out])
      | (go_at_call 225; refine C.out.mono ?_; rintro e w1 ⟨rfl, P1⟩; replace P1 := hide P1))
    go_end0
    refine ⟨rfl, ?_⟩
    rw [E.out]; exact P1.out
  | false =>
    cases hn : isLet c with
    | true =>
      have C := hide (wrune_any B b xs c w hc h (by omega) hB)
      have E := hide (show wLt c = enc1 c by unfold wLt; rw [if_neg (by rw [hh]; decide), if_pos hn])
      have HH := hide hh
      have HN := hide hn
      clear hh hn h hT
      go_enter Tryz.func226, Tryz.ntmps226
      go_wp2_with (first
        | (go_at_call 229; refine (isHidden_any _ _).mono ?_; rintro e w1 ⟨rfl, rfl⟩; rw [HH.out])
        | (go_at_call 248; refine (isNameS_any _ _).mono ?_; rintro e w1 ⟨rfl, rfl⟩; rw [HN.out])
        | (go_at_call 230; refine C.out.mono ?_; rintro e w1 ⟨rfl, P1⟩; replace P1 := hide P1))
      go_end0
      refine ⟨rfl, ?_⟩
      rw [E.out]; exact P1.out
    | false =>
      have C := hide (wSl_any B b xs c w hc h hl hB)
      have E := hide (show wLt c = 92 :: enc1 c by unfold wLt; rw [if_neg (by rw [hh]; decide), if_neg (by rw [hn]; decide)])
      have HH := hide hh
      have HN := hide hn
      clear hh hn h hT
      go_enter Tryz.func226, Tryz.ntmps226
      go_wp2_with (first
        | (go_at_call 229; refine (isHidden_any _ _).mono ?_; rintro e w1 ⟨rfl, rfl⟩; rw [HH.out])
        | (go_at_call 248; refine (isNameS_any _ _).mono ?_; rintro e w1 ⟨rfl, rfl⟩; rw [HN.out])
        | (go_at_call 228; refine C.out.mono ?_; rintro e w1 ⟨rfl, P1⟩; replace P1 := hide P1))
      go_end0
      refine ⟨rfl, ?_⟩
      rw [E.out]; exact P1.out
end Go.Proofs.YtmkbjcoagfnegaaGreatDoor

