/-
  A name that begins as no identifier does; texts of characters without 0; the reference's characters.
-/
import Derived.Test.YtfadjpebniebaaaGreatDoorSpmB
set_option linter.unusedVariables false
set_option linter.unusedSimpArgs false
namespace Go.Proofs.YtfadjpebniebaaaGreatDoor
open Go.RowKit

def trm (s : ByteArray) : ByteArray := ⟨(Lib.trimPrefix s.data.toList (⟨#[45]⟩ : ByteArray).data.toList).toArray⟩
theorem trm_bl (s : ByteArray) : bl (trm s) = if nx (bl s) 0 = 45 then (bl s).drop 1 else bl s := by
  unfold trm bl Lib.trimPrefix Lib.hasPrefix
  simp only [List.toList_toArray]
  show List.map _ (if List.isPrefixOf [45] s.data.toList = true then s.data.toList.drop 1 else s.data.toList) = _
  cases hl : s.data.toList with
  | nil => rfl
  | cons x r =>
    by_cases hx : x = 45
    · subst hx
      simp [nx, List.isPrefixOf]
    · have : ¬ ((x.toNat : Int) = 45) := fun h => hx (UInt8.toNat_inj.1 (by show x.toNat = 45; omega))
      have hp : List.isPrefixOf [45] (x :: r) = false := by simp [List.isPrefixOf]; exact fun h => hx h.symm
      rw [hp]
      simp [nx, this]
theorem fB_dash (s : ByteArray) (h : bl s = [45]) : fB (bl s) = true := by rw [h]; rfl
theorem trm_num (s : ByteArray) (h : bl s ≠ [45]) : fB (bl s) = isDig (nx (bl (trm s)) 0) := by
  rw [trm_bl]
  unfold fB
  by_cases h0 : nx (bl s) 0 = 45
  · rw [if_pos h0, h0, ← nx_drop1]
    have hl : ((bl s).length == 1) = false := by
      rw [beq_eq_false_iff_ne]
      intro h1
      refine h ?_
      match hb : bl s, h1 with
      | [c], _ => rw [hb] at h0; simpa [nx] using h0
    rw [hl]; simp [isDig]
  · rw [if_neg h0]
    have : (nx (bl s) 0 == 45) = false := by simpa using h0
    rw [this]; simp
theorem nx_neg (l : List Int) (h : l = []) : isDig (nx l 0) = false := by subst h; rfl
set_option maxHeartbeats 1000000 in
theorem isNumeric_any (s : ByteArray) (w : World) (hs : s.size ≤ 140737488355328) : Calls Tryz.prog 65 #[.string s] w fun e w' => e = .returned (.bool (fB (bl s))) ∧ w' = w := by
  have C := hide (sh_strings_TrimPrefix s ⟨#[45]⟩ w)
  by_cases hd : bl s = [45]
  · obtain rfl : s = ⟨#[45]⟩ := bl_inj hd
    go_enter Tryz.func65, Tryz.ntmps65
    go_wp2_with (go_at_call 100; refine C.out.mono ?_; rintro e w1 ⟨rfl, rfl⟩)
    go_ret
    exact ⟨rfl, rfl⟩
  · have E := hide (trm_num s hd)
    have hne : ¬ s = ⟨#[45]⟩ := fun h => hd (by rw [h]; rfl)
    have hne2 : (s.toList == [45]) = false := by
      rw [beq_eq_false_iff_ne]
      intro h
      rw [Lib.toList_data] at h
      exact hd (by unfold bl; rw [h]; rfl)
    have C' : Hid (Calls Tryz.prog 100 #[.string s, .string ⟨#[45]⟩] w fun e w' => e = .returned (.string (trm s)) ∧ w' = w) := C
    generalize trm s = r at *
    clear C hd hne
    by_cases h0 : r.size = 0
    · have n1 := emp_t h0
      have F := hide (show fB (bl s) = false by rw [E.out]; exact nx_neg _ (bl_nil h0))
      go_enter Tryz.func65, Tryz.ntmps65
      go_wp2_with (go_at_call 100; refine C'.out.mono ?_; rintro e w1 ⟨rfl, rfl⟩)
      go_ret
      exact ⟨ret_bool F.out.symm, rfl⟩
    · have h1 : 0 < r.size := by omega
      have n1 := emp_f h1
      have cx := bl_nx r 0 h1
      have b8 : (r[0].toNat : Int) ≤ 255 := by have := r[0].toNat_lt; omega
      have b0 : (0 : Int) ≤ (r[0].toNat : Int) := by omega
      have F := hide (show fB (bl s) = isDig (r[0].toNat : Int) by rw [E.out, cx])
      clear E cx
      go_enter Tryz.func65, Tryz.ntmps65
      go_wp2_with (first
        | (go_at_call 100; refine C'.out.mono ?_; rintro e w1 ⟨rfl, rfl⟩)
        | (go_at_call 76; refine (isDigitS_any _ _).mono ?_; rintro e w1 ⟨rfl, rfl⟩))
      go_ret
      exact ⟨ret_bool F.out.symm, rfl⟩
theorem idx_ge (l : List UInt8) : -1 ≤ Lib.indexByte l 0 := by
  induction l with
  | nil => simp [Lib.indexByte]
  | cons y t ih => simp only [Lib.indexByte]; split; omega; split; omega; omega
theorem idx0' (l : List UInt8) : 0 ≤ Lib.indexByte l 0 ↔ (0 : Int) ∈ l.map fun b => (b.toNat : Int) := by
  induction l with
  | nil => simp [Lib.indexByte]
  | cons x r ih =>
    have hge := idx_ge r
    rw [List.map_cons, List.mem_cons, ← ih]
    simp only [Lib.indexByte]
    by_cases hx : x = 0
    · subst hx; simp
    · have h1 : (x == 0) = false := by simpa using hx
      have h2 : ¬ (0 : Int) = (x.toNat : Int) := fun h => hx (UInt8.toNat_inj.1 (by show x.toNat = 0; omega))
      simp only [h1, h2, Bool.false_eq_true, if_false, false_or]
      split
      · rename_i h; simp at h; omega
      · rename_i h; simp at h; omega
theorem idx0 (l : List UInt8) : decide (0 ≤ Lib.indexByte l 0) = (l.map fun b => (b.toNat : Int)).contains 0 := by
  rw [Bool.eq_iff_iff, decide_eq_true_iff, idx0']
  simp
set_option maxHeartbeats 1000000 in
theorem isText_any (s : ByteArray) (w : World) (hs : s.size ≤ 140737488355328) : Calls Tryz.prog 66 #[.string s] w fun e w' => e = .returned (.bool (chB (bl s))) ∧ Below w.heap.size w w' := by
  obtain ⟨v, w1, hc, hn, hb⟩ := conv_any s w hs
  have Z := hide (idx0 s.data.toList)
  have C := hide (fun W => sh_strings_Contains_one s 0 W)
  have WH := hide (wholeP_any (bl s) v w1 (bl_by s) hn)
  have HB := hide hb
  have E := hide (show chB (bl s) = (whole (bl s) && !((bl s).contains 0)) from rfl)
  clear hn hb
  cases hw : whole (bl s)
  all_goals
    have HW := hide hw
    clear hw
    go_enter Tryz.func66, Tryz.ntmps66
    go_wp2_with (first
      | (go_at_call 101; refine WH.out.mono ?_; rintro e w2 ⟨rfl, rfl⟩; rw [HW.out])
      | (go_at_call 98; refine (C.out _).mono ?_; rintro e w3 ⟨rfl, rfl⟩))
    go_ret
    exact ⟨ret_bool (by rw [E.out, HW.out]; first | rfl | (rw [Z.out]; rfl)), HB.out⟩
end Go.Proofs.YtfadjpebniebaaaGreatDoor
