/-
  Which texts are names, which boxes may be, by the reference; the law.
-/
import Derived.Test.YtdmijejcifjaoaaDomA
set_option linter.unusedVariables false
set_option linter.unusedSimpArgs false
namespace Go.Proofs.Ytdmijejcifjaoaa
open Go.RowKit

theorem row_blkD {w : World} {b : Nat} {cs : Array Value} {t : TypeId} {q : Nat × Nat} (h : w.heap[b]? = some (.cells cs t q)) (i : Nat) : w.cell? ⟨b, i, none⟩ = cs[i]? := by
  simp [World.cell?, h]
theorem row_atD (s : ByteArray) (c i : Nat) (h : i < s.size) : (bytesRow s c)[i]? = some (.int .u8 (s[i].toNat : Int)) := by
  unfold bytesRow
  have h' : i < s.data.size := h
  rw [Array.getElem?_append_left (by simpa using h'), Array.getElem?_map, Array.getElem?_eq_getElem h']
  rfl
/-- A text as bytes. -/
theorem conv_anyD (s : ByteArray) (w : World) (hs : s.size ≤ 140737488355328) : ∃ v w1, (convert 9 31 (.string s)).run Try.prog w = .ok v w1 ∧ Nums .u8 w1 v (bl s) ∧ Below w.heap.size w w1 := by
  refine ⟨_, _, run_bytes_of_string (P := Try.prog) w 9 31 5 s Try.underlying9 Try.underlying31 Try.underlying5, ?_, bplus (Below.refl _ _).drew _⟩
  have hc1 := grownCap_ge w s.size 0 5
  have hc2 := grownCap_le_maxLen w s.size 0 5 (by unfold maxLen; omega)
  unfold maxLen at hc2
  generalize grownCap w s.size 0 5 = c at *
  by_cases h0 : 0 < s.size
  · right
    refine ⟨w.heap.size, 0, s.size, c, rfl, (bl_len s).symm, h0, ?_, hc1, by omega, by omega, fun i hi => ?_⟩
    · have hb : (w.drew.alloc (.cells (bytesRow s c) 5 ((bytesRow s c).size, (bytesRow s c).size + 1))).heap[w.heap.size]? = some (.cells (bytesRow s c) 5 ((bytesRow s c).size, (bytesRow s c).size + 1)) := heap_alloc_new w.drew _
      exact (Array.getElem?_eq_some_iff.1 hb).1
    · have hb : (w.drew.alloc (.cells (bytesRow s c) 5 ((bytesRow s c).size, (bytesRow s c).size + 1))).heap[w.heap.size]? = some (.cells (bytesRow s c) 5 ((bytesRow s c).size, (bytesRow s c).size + 1)) := heap_alloc_new w.drew _
      rw [Nat.zero_add, row_blkD hb, row_atD s c i hi, bl_at s i hi]
  · left
    have e : s.size = 0 := by omega
    refine ⟨some ⟨w.heap.size, 0, none⟩, c, by rw [e], bl_nil e⟩

theorem nm_hd {l : List Int} (h : l.all inNm = true) (g : 0 < l.length) : True := trivial
/-- The state of the reference's loop. -/
def RelNr (l : List Int) (i : Value) : Prop := ∃ k : Nat, i = .int .i64 k ∧ k ≤ l.length ∧ Hid ((l.take k).all inNm = true ∧ (0 < k → isHd (gt l 0) = true))
theorem RelNr.mk {l : List Int} {i : Value} (k : Nat) (h1 : i = .int .i64 k) (h2 : k ≤ l.length) (h3 : (l.take k).all inNm = true ∧ (0 < k → isHd (gt l 0) = true)) : RelNr l i := ⟨k, h1, h2, h3⟩
/-- A byte, by where it stands: the reference's tests in its order. -/
theorem byte_cases (c : Int) : (97 ≤ c ∧ c ≤ 122) ∨ (97 ≤ c ∧ 122 < c) ∨ (c < 97 ∧ 65 ≤ c ∧ c ≤ 90) ∨ (c < 97 ∧ 65 ≤ c ∧ 90 < c ∧ (c == 95) = true) ∨ (c < 97 ∧ 65 ≤ c ∧ 90 < c ∧ (c == 95) = false) ∨ (c < 97 ∧ c < 65 ∧ 48 ≤ c ∧ c ≤ 57) ∨ (c < 97 ∧ c < 65 ∧ 48 ≤ c ∧ 57 < c) ∨ (c < 97 ∧ c < 65 ∧ c < 48 ∧ c = 45) ∨ (c < 97 ∧ c < 65 ∧ c < 48 ∧ (c == 45) = false) := by
  by_cases h : c = 95
  · subst h; decide
  by_cases g : c = 45
  · subst g; decide
  have h' : (c == 95) = false := by simpa using h
  have g' : (c == 45) = false := by simpa using g
  simp only [h', g', Bool.false_eq_true, and_false, and_true, false_or, h, g]
  omega
set_option maxRecDepth 100000 in
set_option maxHeartbeats 4000000 in
theorem nameR_any (s : ByteArray) (w : World) (hs : s.size ≤ maxLen) :
    Calls Try.prog 7 #[.string s] w fun e w' => e = .returned (.bool (nmD (bl s))) ∧ Below w.heap.size w w' := by
  have BL := hide (bl_len s)
  unfold maxLen at hs
  by_cases h0 : s.size = 0
  · have F := hide (show nmD (bl s) = false by unfold nmD; rw [bl_len]; simp [h0])
    have g : (s.size : Int) < 1 := by omega
    go_enter Try.func7, Try.ntmps7
    go_wp2
    go_ret
    exact ⟨ret_bool F.out.symm, Below.refl _ _⟩
  have g1 : (1 : Int) ≤ s.size := by omega
  by_cases h64 : 64 < s.size
  · have F := hide (show nmD (bl s) = false by unfold nmD; rw [bl_len]; simp; omega)
    have g : (64 : Int) < s.size := by omega
    go_enter Try.func7, Try.ntmps7
    go_wp2
    go_ret
    exact ⟨ret_bool F.out.symm, Below.refl _ _⟩
  have g : (s.size : Int) ≤ 64 := by omega
  have M := hide (show nmD (bl s) = (isHd (gt (bl s) 0) && (bl s).all inNm) by unfold nmD; rw [bl_len]; simp; omega)
  obtain ⟨v, w1, hcv, hn, hU⟩ := conv_anyD s w (by omega)
  have U := hide hU
  clear hU
  rcases hn with ⟨a, c, rfl, he⟩ | ⟨b, o, n, c, rfl, hnl, h00, hbw, hl, hn9, hc9, hcell⟩
  · exfalso; have := BL.out; rw [he] at this; simp at this; omega
  have HC := hide hcell
  rw [bl_len] at hnl
  subst hnl
  clear hcell
  go_enter Try.func7, Try.ntmps7
  go_wp2
  go_loop [17] (fun i => RelNr (bl s) i) (fun i => s.size - (intOf i).toNat)
  case atStart => exact .mk 0 rfl (by omega) ⟨rfl, fun h => absurd h (by omega)⟩
  case round =>
    obtain ⟨k, rfl, hk, R⟩ := hrel
    rw [BL.out] at hk
    by_cases hlt : k < s.size
    · have c0 := HC.out k hlt
      have hk' : (k : Int) < s.size := by omega
      have SL := hide (show k < (bl s).length by rw [BL.out]; exact hlt)
      obtain ⟨c, hc⟩ : ∃ c : Int, gt (bl s) k = c := ⟨_, rfl⟩
      rw [hc] at c0
      have G := hide hc
      clear hc
      have HI := hide (show isHd c = isHd c from rfl)
      by_cases kz : k = 0
      · subst kz
        have c0' := c0
        rw [Nat.add_zero] at c0'
        rcases byte_cases c with ⟨b1, b2⟩ | ⟨b1, b2⟩ | ⟨b1, b2, b3⟩ | ⟨b1, b2, b3, b4⟩ | ⟨b1, b2, b3, b4⟩ | ⟨b1, b2, b3, b4⟩ | ⟨b1, b2, b3, b4⟩ | ⟨b1, b2, b3, b4⟩ | ⟨b1, b2, b3, b4⟩
        · have L := hide (show isHd c = true by simp [isHd]; (try simp at b4); omega)
          have I := hide (show inNm c = true by simp only [inNm, L.out]; rfl)
          have d0 : decide (97 ≤ c) = true := by (try simp at b4); (first | omega | (simp; omega))
          have d1 : decide (c ≤ 122) = true := by (try simp at b4); (first | omega | (simp; omega))
          have d2 : decide (65 ≤ c) = true := by (try simp at b4); (first | omega | (simp; omega))
          have d3 : decide (c ≤ 90) = false := by (try simp at b4); (first | omega | (simp; omega))
          have d4 : (c == 95) = false := by (try simp at b4); (first | omega | (simp; omega))
          have d5 : decide (48 ≤ c) = true := by (try simp at b4); (first | omega | (simp; omega))
          have d6 : decide (c ≤ 57) = false := by (try simp at b4); (first | omega | (simp; omega))
          have d7 : (c == 45) = false := by (try simp at b4); (first | omega | (simp; omega))
          clear HI
          go_wp2
          go_round
          case rel => exact .mk (0 + 1) (by go_num) (by rw [BL.out]; omega) ⟨nm_step SL.out R.out.1 (by rw [G.out, I.out]), fun _ => by rw [G.out, L.out]⟩
          case measure => simp [intOf]; omega
        · have L := hide (show isHd c = false by simp [isHd]; (try simp at b4); omega)
          have I := hide (show inNm c = false by simp only [inNm, L.out]; (try simp at b4); simp; omega)
          have d0 : decide (97 ≤ c) = true := by (try simp at b4); (first | omega | (simp; omega))
          have d1 : decide (c ≤ 122) = false := by (try simp at b4); (first | omega | (simp; omega))
          have d2 : decide (65 ≤ c) = true := by (try simp at b4); (first | omega | (simp; omega))
          have d3 : decide (c ≤ 90) = false := by (try simp at b4); (first | omega | (simp; omega))
          have d4 : (c == 95) = false := by (try simp at b4); (first | omega | (simp; omega))
          have d5 : decide (48 ≤ c) = true := by (try simp at b4); (first | omega | (simp; omega))
          have d6 : decide (c ≤ 57) = false := by (try simp at b4); (first | omega | (simp; omega))
          have d7 : (c == 45) = false := by (try simp at b4); (first | omega | (simp; omega))
          clear HI
          have J := hide (show nmD (bl s) = false by rw [M.out, G.out, L.out]; rfl)
          go_wp2
          go_ret
          exact ⟨ret_bool J.out.symm, U.out⟩
        · have L := hide (show isHd c = true by simp [isHd]; (try simp at b4); omega)
          have I := hide (show inNm c = true by simp only [inNm, L.out]; rfl)
          have d0 : decide (97 ≤ c) = false := by (try simp at b4); (first | omega | (simp; omega))
          have d1 : decide (c ≤ 122) = true := by (try simp at b4); (first | omega | (simp; omega))
          have d2 : decide (65 ≤ c) = true := by (try simp at b4); (first | omega | (simp; omega))
          have d3 : decide (c ≤ 90) = true := by (try simp at b4); (first | omega | (simp; omega))
          have d4 : (c == 95) = false := by (try simp at b4); (first | omega | (simp; omega))
          have d5 : decide (48 ≤ c) = true := by (try simp at b4); (first | omega | (simp; omega))
          have d6 : decide (c ≤ 57) = false := by (try simp at b4); (first | omega | (simp; omega))
          have d7 : (c == 45) = false := by (try simp at b4); (first | omega | (simp; omega))
          clear HI
          go_wp2
          go_round
          case rel => exact .mk (0 + 1) (by go_num) (by rw [BL.out]; omega) ⟨nm_step SL.out R.out.1 (by rw [G.out, I.out]), fun _ => by rw [G.out, L.out]⟩
          case measure => simp [intOf]; omega
        · have L := hide (show isHd c = true by simp only [isHd]; (first | (have b4' : c = 95 := by simpa using b4); subst b4'; rfl | (simp; omega)))
          have I := hide (show inNm c = true by simp only [inNm, L.out]; rfl)
          have d0 : decide (97 ≤ c) = false := by (try simp at b4); (first | omega | (simp; omega))
          have d1 : decide (c ≤ 122) = true := by (try simp at b4); (first | omega | (simp; omega))
          have d2 : decide (65 ≤ c) = true := by (try simp at b4); (first | omega | (simp; omega))
          have d3 : decide (c ≤ 90) = false := by (try simp at b4); (first | omega | (simp; omega))
          have d4 : (c == 95) = true := by (try simp at b4); (first | omega | (simp; omega))
          have d5 : decide (48 ≤ c) = true := by (try simp at b4); (first | omega | (simp; omega))
          have d6 : decide (c ≤ 57) = false := by (try simp at b4); (first | omega | (simp; omega))
          have d7 : (c == 45) = false := by (try simp at b4); (first | omega | (simp; omega))
          clear HI
          go_wp2
          go_round
          case rel => exact .mk (0 + 1) (by go_num) (by rw [BL.out]; omega) ⟨nm_step SL.out R.out.1 (by rw [G.out, I.out]), fun _ => by rw [G.out, L.out]⟩
          case measure => simp [intOf]; omega
        · have L := hide (show isHd c = false by simp [isHd]; (try simp at b4); omega)
          have I := hide (show inNm c = false by simp only [inNm, L.out]; (try simp at b4); simp; omega)
          have d0 : decide (97 ≤ c) = false := by (try simp at b4); (first | omega | (simp; omega))
          have d1 : decide (c ≤ 122) = true := by (try simp at b4); (first | omega | (simp; omega))
          have d2 : decide (65 ≤ c) = true := by (try simp at b4); (first | omega | (simp; omega))
          have d3 : decide (c ≤ 90) = false := by (try simp at b4); (first | omega | (simp; omega))
          have d4 : (c == 95) = false := by (try simp at b4); (first | omega | (simp; omega))
          have d5 : decide (48 ≤ c) = true := by (try simp at b4); (first | omega | (simp; omega))
          have d6 : decide (c ≤ 57) = false := by (try simp at b4); (first | omega | (simp; omega))
          have d7 : (c == 45) = false := by (try simp at b4); (first | omega | (simp; omega))
          clear HI
          have J := hide (show nmD (bl s) = false by rw [M.out, G.out, L.out]; rfl)
          go_wp2
          go_ret
          exact ⟨ret_bool J.out.symm, U.out⟩
        · have L := hide (show isHd c = false by simp [isHd]; (try simp at b4); omega)
          have I := hide (show inNm c = true by simp only [inNm, L.out]; (try simp at b4); simp; omega)
          have d0 : decide (97 ≤ c) = false := by (try simp at b4); (first | omega | (simp; omega))
          have d1 : decide (c ≤ 122) = true := by (try simp at b4); (first | omega | (simp; omega))
          have d2 : decide (65 ≤ c) = false := by (try simp at b4); (first | omega | (simp; omega))
          have d3 : decide (c ≤ 90) = true := by (try simp at b4); (first | omega | (simp; omega))
          have d4 : (c == 95) = false := by (try simp at b4); (first | omega | (simp; omega))
          have d5 : decide (48 ≤ c) = true := by (try simp at b4); (first | omega | (simp; omega))
          have d6 : decide (c ≤ 57) = true := by (try simp at b4); (first | omega | (simp; omega))
          have d7 : (c == 45) = false := by (try simp at b4); (first | omega | (simp; omega))
          clear HI
          have J := hide (show nmD (bl s) = false by rw [M.out, G.out, L.out]; rfl)
          go_wp2
          go_ret
          exact ⟨ret_bool J.out.symm, U.out⟩
        · have L := hide (show isHd c = false by simp [isHd]; (try simp at b4); omega)
          have I := hide (show inNm c = false by simp only [inNm, L.out]; (try simp at b4); simp; omega)
          have d0 : decide (97 ≤ c) = false := by (try simp at b4); (first | omega | (simp; omega))
          have d1 : decide (c ≤ 122) = true := by (try simp at b4); (first | omega | (simp; omega))
          have d2 : decide (65 ≤ c) = false := by (try simp at b4); (first | omega | (simp; omega))
          have d3 : decide (c ≤ 90) = true := by (try simp at b4); (first | omega | (simp; omega))
          have d4 : (c == 95) = false := by (try simp at b4); (first | omega | (simp; omega))
          have d5 : decide (48 ≤ c) = true := by (try simp at b4); (first | omega | (simp; omega))
          have d6 : decide (c ≤ 57) = false := by (try simp at b4); (first | omega | (simp; omega))
          have d7 : (c == 45) = false := by (try simp at b4); (first | omega | (simp; omega))
          clear HI
          have J := hide (show nmD (bl s) = false by rw [M.out, G.out, L.out]; rfl)
          go_wp2
          go_ret
          exact ⟨ret_bool J.out.symm, U.out⟩
        · have L := hide (show isHd c = false by simp [isHd]; (try simp at b4); omega)
          subst b4
          have I := hide (show inNm 45 = true by decide)
          clear HI
          have J := hide (show nmD (bl s) = false by rw [M.out, G.out, L.out]; rfl)
          go_wp2
          go_ret
          exact ⟨ret_bool J.out.symm, U.out⟩
        · have L := hide (show isHd c = false by simp [isHd]; (try simp at b4); omega)
          have I := hide (show inNm c = false by simp only [inNm, L.out]; (try simp at b4); simp; omega)
          have d0 : decide (97 ≤ c) = false := by (try simp at b4); (first | omega | (simp; omega))
          have d1 : decide (c ≤ 122) = true := by (try simp at b4); (first | omega | (simp; omega))
          have d2 : decide (65 ≤ c) = false := by (try simp at b4); (first | omega | (simp; omega))
          have d3 : decide (c ≤ 90) = true := by (try simp at b4); (first | omega | (simp; omega))
          have d4 : (c == 95) = false := by (try simp at b4); (first | omega | (simp; omega))
          have d5 : decide (48 ≤ c) = false := by (try simp at b4); (first | omega | (simp; omega))
          have d6 : decide (c ≤ 57) = true := by (try simp at b4); (first | omega | (simp; omega))
          have d7 : (c == 45) = false := by (try simp at b4); (first | omega | (simp; omega))
          clear HI
          have J := hide (show nmD (bl s) = false by rw [M.out, G.out, L.out]; rfl)
          go_wp2
          go_ret
          exact ⟨ret_bool J.out.symm, U.out⟩
      · have kz1 : ¬ (k : Int) = 0 := by omega
        have kz2 : ((k : Int) == 0) = false := by simpa using kz1
        rcases byte_cases c with ⟨b1, b2⟩ | ⟨b1, b2⟩ | ⟨b1, b2, b3⟩ | ⟨b1, b2, b3, b4⟩ | ⟨b1, b2, b3, b4⟩ | ⟨b1, b2, b3, b4⟩ | ⟨b1, b2, b3, b4⟩ | ⟨b1, b2, b3, b4⟩ | ⟨b1, b2, b3, b4⟩
        · have L := hide (show isHd c = true by simp [isHd]; (try simp at b4); omega)
          have I := hide (show inNm c = true by simp only [inNm, L.out]; rfl)
          have d0 : decide (97 ≤ c) = true := by (try simp at b4); (first | omega | (simp; omega))
          have d1 : decide (c ≤ 122) = true := by (try simp at b4); (first | omega | (simp; omega))
          have d2 : decide (65 ≤ c) = true := by (try simp at b4); (first | omega | (simp; omega))
          have d3 : decide (c ≤ 90) = false := by (try simp at b4); (first | omega | (simp; omega))
          have d4 : (c == 95) = false := by (try simp at b4); (first | omega | (simp; omega))
          have d5 : decide (48 ≤ c) = true := by (try simp at b4); (first | omega | (simp; omega))
          have d6 : decide (c ≤ 57) = false := by (try simp at b4); (first | omega | (simp; omega))
          have d7 : (c == 45) = false := by (try simp at b4); (first | omega | (simp; omega))
          clear HI
          go_wp2
          go_round
          case rel => exact .mk (k + 1) (by go_num) (by rw [BL.out]; omega) ⟨nm_step SL.out R.out.1 (by rw [G.out, I.out]), fun _ => R.out.2 (by omega)⟩
          case measure => simp [intOf]; omega
        · have L := hide (show isHd c = false by simp [isHd]; (try simp at b4); omega)
          have I := hide (show inNm c = false by simp only [inNm, L.out]; (try simp at b4); simp; omega)
          have d0 : decide (97 ≤ c) = true := by (try simp at b4); (first | omega | (simp; omega))
          have d1 : decide (c ≤ 122) = false := by (try simp at b4); (first | omega | (simp; omega))
          have d2 : decide (65 ≤ c) = true := by (try simp at b4); (first | omega | (simp; omega))
          have d3 : decide (c ≤ 90) = false := by (try simp at b4); (first | omega | (simp; omega))
          have d4 : (c == 95) = false := by (try simp at b4); (first | omega | (simp; omega))
          have d5 : decide (48 ≤ c) = true := by (try simp at b4); (first | omega | (simp; omega))
          have d6 : decide (c ≤ 57) = false := by (try simp at b4); (first | omega | (simp; omega))
          have d7 : (c == 45) = false := by (try simp at b4); (first | omega | (simp; omega))
          clear HI
          have J := hide (show nmD (bl s) = false by rw [M.out, nm_stop SL.out (by rw [G.out, I.out])]; simp)
          go_wp2
          go_ret
          exact ⟨ret_bool J.out.symm, U.out⟩
        · have L := hide (show isHd c = true by simp [isHd]; (try simp at b4); omega)
          have I := hide (show inNm c = true by simp only [inNm, L.out]; rfl)
          have d0 : decide (97 ≤ c) = false := by (try simp at b4); (first | omega | (simp; omega))
          have d1 : decide (c ≤ 122) = true := by (try simp at b4); (first | omega | (simp; omega))
          have d2 : decide (65 ≤ c) = true := by (try simp at b4); (first | omega | (simp; omega))
          have d3 : decide (c ≤ 90) = true := by (try simp at b4); (first | omega | (simp; omega))
          have d4 : (c == 95) = false := by (try simp at b4); (first | omega | (simp; omega))
          have d5 : decide (48 ≤ c) = true := by (try simp at b4); (first | omega | (simp; omega))
          have d6 : decide (c ≤ 57) = false := by (try simp at b4); (first | omega | (simp; omega))
          have d7 : (c == 45) = false := by (try simp at b4); (first | omega | (simp; omega))
          clear HI
          go_wp2
          go_round
          case rel => exact .mk (k + 1) (by go_num) (by rw [BL.out]; omega) ⟨nm_step SL.out R.out.1 (by rw [G.out, I.out]), fun _ => R.out.2 (by omega)⟩
          case measure => simp [intOf]; omega
        · have L := hide (show isHd c = true by simp only [isHd]; (first | (have b4' : c = 95 := by simpa using b4); subst b4'; rfl | (simp; omega)))
          have I := hide (show inNm c = true by simp only [inNm, L.out]; rfl)
          have d0 : decide (97 ≤ c) = false := by (try simp at b4); (first | omega | (simp; omega))
          have d1 : decide (c ≤ 122) = true := by (try simp at b4); (first | omega | (simp; omega))
          have d2 : decide (65 ≤ c) = true := by (try simp at b4); (first | omega | (simp; omega))
          have d3 : decide (c ≤ 90) = false := by (try simp at b4); (first | omega | (simp; omega))
          have d4 : (c == 95) = true := by (try simp at b4); (first | omega | (simp; omega))
          have d5 : decide (48 ≤ c) = true := by (try simp at b4); (first | omega | (simp; omega))
          have d6 : decide (c ≤ 57) = false := by (try simp at b4); (first | omega | (simp; omega))
          have d7 : (c == 45) = false := by (try simp at b4); (first | omega | (simp; omega))
          clear HI
          go_wp2
          go_round
          case rel => exact .mk (k + 1) (by go_num) (by rw [BL.out]; omega) ⟨nm_step SL.out R.out.1 (by rw [G.out, I.out]), fun _ => R.out.2 (by omega)⟩
          case measure => simp [intOf]; omega
        · have L := hide (show isHd c = false by simp [isHd]; (try simp at b4); omega)
          have I := hide (show inNm c = false by simp only [inNm, L.out]; (try simp at b4); simp; omega)
          have d0 : decide (97 ≤ c) = false := by (try simp at b4); (first | omega | (simp; omega))
          have d1 : decide (c ≤ 122) = true := by (try simp at b4); (first | omega | (simp; omega))
          have d2 : decide (65 ≤ c) = true := by (try simp at b4); (first | omega | (simp; omega))
          have d3 : decide (c ≤ 90) = false := by (try simp at b4); (first | omega | (simp; omega))
          have d4 : (c == 95) = false := by (try simp at b4); (first | omega | (simp; omega))
          have d5 : decide (48 ≤ c) = true := by (try simp at b4); (first | omega | (simp; omega))
          have d6 : decide (c ≤ 57) = false := by (try simp at b4); (first | omega | (simp; omega))
          have d7 : (c == 45) = false := by (try simp at b4); (first | omega | (simp; omega))
          clear HI
          have J := hide (show nmD (bl s) = false by rw [M.out, nm_stop SL.out (by rw [G.out, I.out])]; simp)
          go_wp2
          go_ret
          exact ⟨ret_bool J.out.symm, U.out⟩
        · have L := hide (show isHd c = false by simp [isHd]; (try simp at b4); omega)
          have I := hide (show inNm c = true by simp only [inNm, L.out]; (try simp at b4); simp; omega)
          have d0 : decide (97 ≤ c) = false := by (try simp at b4); (first | omega | (simp; omega))
          have d1 : decide (c ≤ 122) = true := by (try simp at b4); (first | omega | (simp; omega))
          have d2 : decide (65 ≤ c) = false := by (try simp at b4); (first | omega | (simp; omega))
          have d3 : decide (c ≤ 90) = true := by (try simp at b4); (first | omega | (simp; omega))
          have d4 : (c == 95) = false := by (try simp at b4); (first | omega | (simp; omega))
          have d5 : decide (48 ≤ c) = true := by (try simp at b4); (first | omega | (simp; omega))
          have d6 : decide (c ≤ 57) = true := by (try simp at b4); (first | omega | (simp; omega))
          have d7 : (c == 45) = false := by (try simp at b4); (first | omega | (simp; omega))
          clear HI
          go_wp2
          go_round
          case rel => exact .mk (k + 1) (by go_num) (by rw [BL.out]; omega) ⟨nm_step SL.out R.out.1 (by rw [G.out, I.out]), fun _ => R.out.2 (by omega)⟩
          case measure => simp [intOf]; omega
        · have L := hide (show isHd c = false by simp [isHd]; (try simp at b4); omega)
          have I := hide (show inNm c = false by simp only [inNm, L.out]; (try simp at b4); simp; omega)
          have d0 : decide (97 ≤ c) = false := by (try simp at b4); (first | omega | (simp; omega))
          have d1 : decide (c ≤ 122) = true := by (try simp at b4); (first | omega | (simp; omega))
          have d2 : decide (65 ≤ c) = false := by (try simp at b4); (first | omega | (simp; omega))
          have d3 : decide (c ≤ 90) = true := by (try simp at b4); (first | omega | (simp; omega))
          have d4 : (c == 95) = false := by (try simp at b4); (first | omega | (simp; omega))
          have d5 : decide (48 ≤ c) = true := by (try simp at b4); (first | omega | (simp; omega))
          have d6 : decide (c ≤ 57) = false := by (try simp at b4); (first | omega | (simp; omega))
          have d7 : (c == 45) = false := by (try simp at b4); (first | omega | (simp; omega))
          clear HI
          have J := hide (show nmD (bl s) = false by rw [M.out, nm_stop SL.out (by rw [G.out, I.out])]; simp)
          go_wp2
          go_ret
          exact ⟨ret_bool J.out.symm, U.out⟩
        · have L := hide (show isHd c = false by simp [isHd]; (try simp at b4); omega)
          subst b4
          have I := hide (show inNm 45 = true by decide)
          clear HI
          go_wp2
          go_round
          case rel => exact .mk (k + 1) (by go_num) (by rw [BL.out]; omega) ⟨nm_step SL.out R.out.1 (by rw [G.out, I.out]), fun _ => R.out.2 (by omega)⟩
          case measure => simp [intOf]; omega
        · have L := hide (show isHd c = false by simp [isHd]; (try simp at b4); omega)
          have I := hide (show inNm c = false by simp only [inNm, L.out]; (try simp at b4); simp; omega)
          have d0 : decide (97 ≤ c) = false := by (try simp at b4); (first | omega | (simp; omega))
          have d1 : decide (c ≤ 122) = true := by (try simp at b4); (first | omega | (simp; omega))
          have d2 : decide (65 ≤ c) = false := by (try simp at b4); (first | omega | (simp; omega))
          have d3 : decide (c ≤ 90) = true := by (try simp at b4); (first | omega | (simp; omega))
          have d4 : (c == 95) = false := by (try simp at b4); (first | omega | (simp; omega))
          have d5 : decide (48 ≤ c) = false := by (try simp at b4); (first | omega | (simp; omega))
          have d6 : decide (c ≤ 57) = true := by (try simp at b4); (first | omega | (simp; omega))
          have d7 : (c == 45) = false := by (try simp at b4); (first | omega | (simp; omega))
          clear HI
          have J := hide (show nmD (bl s) = false by rw [M.out, nm_stop SL.out (by rw [G.out, I.out])]; simp)
          go_wp2
          go_ret
          exact ⟨ret_bool J.out.symm, U.out⟩
    · have F := hide (show (bl s).all inNm = true by have := R.out.1; rwa [List.take_of_length_le (by rw [BL.out]; omega)] at this)
      have F2 := hide (R.out.2 (by omega))
      have hk' : ¬ (k : Int) < s.size := by omega
      go_wp2
      go_ret
      exact ⟨ret_bool (by rw [M.out, F.out, F2.out]; rfl), U.out⟩
end Go.Proofs.Ytdmijejcifjaoaa
