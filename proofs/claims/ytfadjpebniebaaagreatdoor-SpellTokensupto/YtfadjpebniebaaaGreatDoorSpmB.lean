/-
  Texts as bytes; characters, signs and digits of a token's text: by the program and by the reference.
-/
import Derived.Test.YtfadjpebniebaaaGreatDoorSpmA
import Derived.Laws.IdiomStrings
set_option linter.unusedVariables false
set_option linter.unusedSimpArgs false
namespace Go.Proofs.YtfadjpebniebaaaGreatDoor
open Go.RowKit

theorem row_blk {w : World} {b : Nat} {cs : Array Value} {t : TypeId} {q : Nat × Nat} (h : w.heap[b]? = some (.cells cs t q)) (i : Nat) : w.cell? ⟨b, i, none⟩ = cs[i]? := by
  simp [World.cell?, h]
theorem row_at (s : ByteArray) (c i : Nat) (h : i < s.size) : (bytesRow s c)[i]? = some (.int .u8 (s[i].toNat : Int)) := by
  unfold bytesRow
  have h' : i < s.data.size := h
  rw [Array.getElem?_append_left (by simpa using h'), Array.getElem?_map, Array.getElem?_eq_getElem h']
  rfl
/-- A text as bytes. -/
theorem conv_any (s : ByteArray) (w : World) (hs : s.size ≤ 140737488355328) : ∃ v w1, (convert 9 36 (.string s)).run Tryz.prog w = .ok v w1 ∧ Nums .u8 w1 v (bl s) ∧ Below w.heap.size w w1 := by
  refine ⟨_, _, run_bytes_of_string (P := Tryz.prog) w 9 36 5 s Tryz.underlying9 Tryz.underlying36 Tryz.underlying5, ?_, bplus (Below.refl _ _).drew _⟩
  have hc1 := grownCap_ge w s.size 0 5
  have hc2 := grownCap_le_maxLen w s.size 0 5 (by unfold maxLen; omega)
  unfold maxLen at hc2
  generalize grownCap w s.size 0 5 = c at *
  by_cases h0 : 0 < s.size
  · right
    refine ⟨w.heap.size, 0, s.size, c, rfl, (bl_len s).symm, h0, ?_, hc1, by omega, by omega, fun i hi => ?_⟩
    · have hb : (w.drew.alloc (.cells (bytesRow s c) 5 ((bytesRow s c).size, (bytesRow s c).size + 1))).heap[w.heap.size]? = some (.cells (bytesRow s c) 5 ((bytesRow s c).size, (bytesRow s c).size + 1)) := heap_alloc_new w.drew _
      exact (Array.getElem?_eq_some_iff.1 hb).1
    · have hb : (w.drew.alloc (.cells (bytesRow s c) 5 ((bytesRow s c).size, (bytesRow s c).size + 1))).heap[w.heap.size]? = some (.cells (bytesRow s c) 5 ((bytesRow s c).size, (bytesRow s c).size + 1)) := heap_alloc_new w.drew _
      rw [Nat.zero_add, row_blk hb, row_at s c i hi, bl_at s i hi]
  · left
    have e : s.size = 0 := by omega
    refine ⟨some ⟨w.heap.size, 0, none⟩, c, by rw [e], bl_nil e⟩
/-! ### Small tests -/
theorem dig3 (c : Int) : c < 48 ∨ (48 ≤ c ∧ c ≤ 57) ∨ 57 < c := by omega
theorem isDigitS_any (c : Int) (w : World) : Calls Tryz.prog 76 #[.int .i32 c] w fun e w' => e = .returned (.bool (isDig c)) ∧ w' = w := by
  rcases dig3 c with h | ⟨h, g⟩ | h
  all_goals
    go_enter Tryz.func76, Tryz.ntmps76
    go_wp2
    go_ret
    exact ⟨ret_bool (by simp [isDig]; omega), rfl⟩
theorem digitR_any (c : Int) (w : World) : Calls Tryz.prog 37 #[.int .i32 c] w fun e w' => e = .returned (.bool (isDig c)) ∧ w' = w := by
  rcases dig3 c with h | ⟨h, g⟩ | h
  all_goals
    go_enter Tryz.func37, Tryz.ntmps37
    go_wp2
    go_ret
    exact ⟨ret_bool (by simp [isDig]; omega), rfl⟩
theorem ct_cases (c : Int) : (c < 1 ∧ isCt c = false) ∨ (1 ≤ c ∧ c ≤ 8 ∧ isCt c = true) ∨ (8 < c ∧ c < 11 ∧ isCt c = false) ∨ (c = 11) ∨ (11 < c ∧ c < 14 ∧ isCt c = false) ∨ (14 ≤ c ∧ c ≤ 31 ∧ isCt c = true) ∨ (31 < c ∧ c < 127 ∧ isCt c = false) ∨ (c = 127) ∨ (127 < c ∧ isCt c = false) := by
  simp only [isCt]
  rcases (show c < 1 ∨ (1 ≤ c ∧ c ≤ 8) ∨ (8 < c ∧ c < 11) ∨ c = 11 ∨ (11 < c ∧ c < 14) ∨ (14 ≤ c ∧ c ≤ 31) ∨ (31 < c ∧ c < 127) ∨ c = 127 ∨ 127 < c by omega) with h | h | h | h | h | h | h | h | h
  all_goals simp <;> omega
set_option maxHeartbeats 1000000 in
theorem isControl_any (c : Int) (w : World) : Calls Tryz.prog 99 #[.int .u8 c] w fun e w' => e = .returned (.bool (isCt c)) ∧ w' = w := by
  rcases ct_cases c with ⟨h, e⟩ | ⟨h, g, e⟩ | ⟨h, g, e⟩ | rfl | ⟨h, g, e⟩ | ⟨h, g, e⟩ | ⟨h, g, e⟩ | rfl | ⟨h, e⟩
  case inr.inr.inr.inl =>
    go_enter Tryz.func99, Tryz.ntmps99
    go_wp2
    go_ret
    exact ⟨rfl, rfl⟩
  case inr.inr.inr.inr.inr.inr.inr.inl =>
    go_enter Tryz.func99, Tryz.ntmps99
    go_wp2
    go_ret
    exact ⟨rfl, rfl⟩
  all_goals
    have n1 : (c == 11) = false := by simp; omega
    have n2 : (c == 127) = false := by simp; omega
    clear e
    go_enter Tryz.func99, Tryz.ntmps99
    go_wp2
    go_ret
    exact ⟨ret_bool (by rw [Bool.eq_iff_iff]; simp [isCt]; try omega), rfl⟩
/-! ### A sign of its own -/
theorem one_byte {s : ByteArray} (h : s.size = 1) : ∃ c : UInt8, s = ⟨#[c]⟩ ∧ bl s = [(c.toNat : Int)] := by
  obtain ⟨⟨l⟩⟩ := s
  match l, h with
  | [c], _ => exact ⟨c, rfl, rfl⟩
def dls : List UInt8 := [35, 36, 37, 38, 42, 43, 45, 46, 47, 60, 61, 62, 63, 64, 92, 94, 96, 124, 126, 33]
theorem dls_at : ∀ n : Fin 256, decide (0 ≤ Lib.indexByte dls (UInt8.ofNat n.val)) = isDl (n.val : Int) := by decide +kernel
theorem dls_in (c : UInt8) : decide (0 ≤ Lib.indexByte dls c) = isDl (c.toNat : Int) := by
  have := dls_at ⟨c.toNat, c.toNat_lt⟩
  simpa using this
set_option maxHeartbeats 1000000 in
theorem isDelim_any (s : ByteArray) (w : World) (hs : s.size ≤ 140737488355328) : Calls Tryz.prog 64 #[.string s] w fun e w' => e = .returned (.bool (dlB (bl s))) ∧ w' = w := by
  by_cases h1 : s.size = 1
  · obtain ⟨c, rfl, hb⟩ := one_byte h1
    have E := hide (show dlB (bl ⟨#[c]⟩) = (isDl (c.toNat : Int) || isCt (c.toNat : Int)) by rw [hb]; rfl)
    have C := hide (sh_strings_Contains_one ⟨#[35, 36, 37, 38, 42, 43, 45, 46, 47, 60, 61, 62, 63, 64, 92, 94, 96, 124, 126, 33]⟩ c w)
    have D := hide (dls_in c)
    clear hb h1 hs
    cases hd : isDl (c.toNat : Int)
    all_goals
      have HD := hide hd
      clear hd
      go_enter Tryz.func64, Tryz.ntmps64
      go_wp2_with (first
        | (go_at_call 98; refine C.out.mono ?_; rintro e w1 ⟨rfl, rfl⟩; rw [show decide (0 ≤ Lib.indexByte (⟨#[35, 36, 37, 38, 42, 43, 45, 46, 47, 60, 61, 62, 63, 64, 92, 94, 96, 124, 126, 33]⟩ : ByteArray).data.toList c) = decide (0 ≤ Lib.indexByte dls c) from rfl, D.out, HD.out])
        | (go_at_call 99; refine (isControl_any _ _).mono ?_; rintro e w1 ⟨rfl, rfl⟩))
      go_ret
      exact ⟨ret_bool (by rw [E.out, HD.out]; simp [ByteArray.getElem_eq_getElem_data]), rfl⟩
  · have E := hide (show dlB (bl s) = false by unfold dlB; rw [bl_len]; simp [h1])
    have h2 : ((s.size : Int) != 1) = true := by simp; omega
    go_enter Tryz.func64, Tryz.ntmps64
    go_wp2
    go_ret
    exact ⟨ret_bool E.out.symm, rfl⟩
end Go.Proofs.YtfadjpebniebaaaGreatDoor
