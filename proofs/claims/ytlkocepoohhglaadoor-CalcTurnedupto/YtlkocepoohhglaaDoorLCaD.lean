/-
  Units by their names: by the program and by the reference.
-/
import Derived.Test.YtlkocepoohhglaaDoorLCaA
import Derived.Test.YtlkocepoohhglaaDoorA22
import Derived.BigQuiet
set_option linter.unusedVariables false
set_option linter.unusedSimpArgs false
namespace Go.Proofs.YtlkocepoohhglaaDoor
open Go.RowKit

theorem lowerC_any (x : Int) (w : World) (h0 : 0 ≤ x) (h1 : x < 256) : Calls Tryd.prog 27 #[.int .u8 x] w fun e w' => e = .returned (.int .u8 (low1 x)) ∧ w' = w := by
  rcases (show x < 65 ∨ (65 ≤ x ∧ x ≤ 90) ∨ 90 < x by omega) with h | ⟨h, g⟩ | h
  · have F := hide (low_id (c := x) (by omega))
    go_enter Tryd.func27, Tryd.ntmps27
    go_wp2
    go_ret
    exact ⟨ret_int F.out.symm, rfl⟩
  · have F := hide (low_up (c := x) (by omega))
    have k1 : IntKind.u8.wrap (x - 65) = x - 65 := (IntKind.wrap_u8 _).trans (by omega)
    have k2 : IntKind.u8.wrap (x - 65 + 97) = x + 32 := by rw [show x - 65 + 97 = x + 32 by omega]; exact (IntKind.wrap_u8 _).trans (by omega)
    go_enter Tryd.func27, Tryd.ntmps27
    go_wp2
    go_ret
    exact ⟨ret_int F.out.symm, rfl⟩
  · have F := hide (low_id (c := x) (by omega))
    have h65 : 65 ≤ x := by omega
    go_enter Tryd.func27, Tryd.ntmps27
    go_wp2
    go_ret
    exact ⟨ret_int F.out.symm, rfl⟩
def likeB (s t : ByteArray) : Bool := decide ((bl s).map low1 = bl t)
def RelAl (w : World) (s t : ByteArray) (i : Value) (wr : World) : Prop := ∃ k : Nat, i = .int .i64 k ∧ k ≤ s.size ∧ (∃ q, wr = w.drewN q) ∧ Hid (((bl s).map low1).take k = (bl t).take k)
theorem RelAl.mk {w : World} {s t : ByteArray} {i : Value} {wr : World} (k : Nat) (h1 : i = .int .i64 k) (h2 : k ≤ s.size) (h3 : ∃ q, wr = w.drewN q) (h4 : ((bl s).map low1).take k = (bl t).take k) : RelAl w s t i wr := ⟨k, h1, h2, h3, h4⟩
theorem bl_get (s : ByteArray) (k : Nat) (h : k < s.size) : (bl s)[k]? = some (s[k].toNat : Int) := by
  rw [bl_at s k h, gt_eq (by rw [bl_len]; exact h), List.getElem?_eq_getElem]
theorem byte_lt (s : ByteArray) (k : Nat) (h : k < s.size) : (0 : Int) ≤ (s[k].toNat : Int) ∧ (s[k].toNat : Int) < 256 := by
  have := s[k].toNat_lt
  omega
set_option maxRecDepth 100000 in
set_option maxHeartbeats 1500000 in
theorem alike_any (s t : ByteArray) (w : World) (hs : s.size ≤ 1000000000) : Calls Tryd.prog 18 #[.string s, .string t] w fun e w' => e = .returned (.bool (likeB s t)) ∧ ∃ q, w' = w.drewN q := by
  by_cases hl : s.size = t.size
  case neg =>
    have F := hide (show likeB s t = false by
      unfold likeB; rw [decide_eq_false_iff_not]; intro e
      have := congrArg List.length e
      rw [List.length_map, bl_len, bl_len] at this
      exact hl this)
    have g1 : ¬ (s.size : Int) = t.size := by omega
    have g2 : ((s.size : Int) == t.size) = false := by simpa using g1
    clear hl
    go_enter Tryd.func18, Tryd.ntmps18
    go_wp2
    go_ret
    exact ⟨ret_bool F.out.symm, 0, rfl⟩
  have g1 : (s.size : Int) = t.size := by omega
  have HL := hide hl
  have G1 := hide g1
  clear hl
  go_enter Tryd.func18, Tryd.ntmps18
  go_wp2
  go_loopw [13] (fun i wr => RelAl w s t i wr) (fun i _ => s.size - (intOf i).toNat)
  case atStart => exact .mk 0 rfl (Nat.zero_le _) ⟨0, rfl⟩ rfl
  case round =>
    clear g1
    obtain ⟨k, rfl, hk, ⟨q, hq⟩, R⟩ := hrel
    have HQ := hide hq
    clear hq
    by_cases hlt : k < s.size
    · have hlt2 : k < t.size := by have := HL.out; omega
      have hlt' : (k : Int) < s.size := by omega
      obtain ⟨b0, b1⟩ := byte_lt s k hlt
      obtain ⟨c0, c1⟩ := byte_lt t k hlt2
      have X1 := hide (bl_get s k hlt)
      have X2 := hide (bl_get t k hlt2)
      by_cases he : low1 (s[k].toNat : Int) = (t[k].toNat : Int)
      · have ST := hide (show ((bl s).map low1).take (k + 1) = (bl t).take (k + 1) by
          rw [List.take_add_one, List.take_add_one, R.out, List.getElem?_map, X1.out, X2.out]
          simp [he])
        have CL := hide (fun (W : World) => lowerC_any (s[k].toNat : Int) W b0 b1)
        rw [he] at CL
        clear he R X1 X2
        go_wp2
        go_quiet ((go_at_call 27; exact Calls.quiet_of_same (CL.out _)))
        go_wp2
        go_roundw
        case rel => exact .mk (k + 1) (by go_num) (by omega) (by rw [HQ.out]; exact ⟨_, World.drewN_drewN _ _ _⟩) ST.out
        case measure => simp [intOf]; omega
      · have F := hide (show likeB s t = false by
          unfold likeB; rw [decide_eq_false_iff_not]; intro e
          have h1 := congrArg (fun l => l[k]?) e
          simp only [List.getElem?_map, X1.out, X2.out, Option.map_some, Option.some.injEq] at h1
          exact he h1)
        have CL := hide (fun (W : World) => lowerC_any (s[k].toNat : Int) W b0 b1)
        obtain ⟨y, hy⟩ : ∃ y, low1 (s[k].toNat : Int) = y := ⟨_, rfl⟩
        rw [hy] at CL he
        have he2 : (y == (t[k].toNat : Int)) = false := by simpa using he
        clear hy R X1 X2
        go_wp2
        go_quiet ((go_at_call 27; exact Calls.quiet_of_same (CL.out _)))
        go_wp2
        go_ret
        exact ⟨ret_bool F.out.symm, by rw [HQ.out]; exact ⟨_, World.drewN_drewN _ _ _⟩⟩
    · have F := hide (show likeB s t = true by
        unfold likeB; rw [decide_eq_true_eq]
        have h1 := R.out
        rwa [List.take_of_length_le (by rw [List.length_map, bl_len]; omega), List.take_of_length_le (by rw [bl_len]; have := HL.out; omega)] at h1)
      have hlt' : ¬ (k : Int) < s.size := by omega
      have hlt2 : ¬ k < t.size := by have := HL.out; omega
      go_wp2
      go_ret
      exact ⟨ret_bool F.out.symm, q, HQ.out⟩
theorem map_low {t : ByteArray} (h : (bl t).map low1 = bl t) (s : ByteArray) : likeB s t = decide ((bl s).map low1 = (bl t).map low1) := by unfold likeB; rw [h]
set_option maxRecDepth 100000 in
theorem likeR11_any (s t : ByteArray) (w : World) (hs : s.size ≤ 1000000000) (ht : t.size ≤ 1000000000) (hl : (bl t).map low1 = bl t) :
    Calls Tryd.prog 19 #[.string s, .string t] w fun e w' => e = .returned (.bool (likeB s t)) ∧ Below w.heap.size w w' := by
  have CS := hide (fun W => lowerR_any s W hs)
  have CU := hide (fun W => lowerR_any t W ht)
  have M := map_low hl s
  cases hu : likeB s t
  · rw [hu] at M
    have NE := hide (show ∀ t1 t2 : ByteArray, bl t1 = (bl s).map low1 → bl t2 = (bl t).map low1 → ¬ t1 = t2 from fun t1 t2 h1 h2 e => by
      have h3 : ¬ (bl s).map low1 = (bl t).map low1 := of_decide_eq_false M.symm
      exact h3 (by rw [← h1, ← h2, e]))
    clear M hu hs ht hl
    go_enter Tryd.func19, Tryd.ntmps19
    go_wp2_with (first
      | (go_at_call 28; refine (CS.out _).mono ?_; rintro e w1 ⟨t1, rfl, h1, B1⟩; replace h1 := hide h1; replace B1 := hide B1; clear CS)
      | (go_at_call 28; refine (CU.out _).mono ?_; rintro e w2 ⟨t2, rfl, h2, B2⟩; replace B1 := hide (bto B1.out B2); have ne := NE.out _ _ h1.out h2; clear h2 B2))
    go_ret
    exact ⟨ret_bool (by simp [tl_ne ne]), B1.out⟩
  · rw [hu] at M
    have EQ := hide (show ∀ t1 t2 : ByteArray, bl t1 = (bl s).map low1 → bl t2 = (bl t).map low1 → t1 = t2 from fun t1 t2 h1 h2 => by
      have h3 : (bl s).map low1 = (bl t).map low1 := of_decide_eq_true M.symm
      exact bl_inj (by rw [h1, h2, h3]))
    clear M hu hs ht hl
    go_enter Tryd.func19, Tryd.ntmps19
    go_wp2_with (first
      | (go_at_call 28; refine (CS.out _).mono ?_; rintro e w1 ⟨t1, rfl, h1, B1⟩; replace h1 := hide h1; replace B1 := hide B1; clear CS)
      | (go_at_call 28; refine (CU.out _).mono ?_; rintro e w2 ⟨t2, rfl, h2, B2⟩; replace B1 := hide (bto B1.out B2); have eq := EQ.out _ _ h1.out h2; clear h2 B2; subst eq))
    go_ret
    exact ⟨ret_bool (by simp), B1.out⟩
/-! ### Units -/
def nmU (k : Nat) : ByteArray := match k with
  | 1 => ⟨#[112, 120]⟩
  | 2 => ⟨#[101, 109]⟩
  | 3 => ⟨#[114, 101, 109]⟩
  | 4 => ⟨#[118, 119]⟩
  | 5 => ⟨#[118, 104]⟩
  | 6 => ⟨#[99, 113, 119]⟩
  | 7 => ⟨#[99, 113, 104]⟩
  | _ => ⟨#[]⟩
theorem nmU_low (k : Nat) : (bl (nmU k)).map low1 = bl (nmU k) := by
  unfold nmU
  split <;> decide
theorem nmU_len (k : Nat) : (nmU k).size ≤ 3 := by
  unfold nmU
  split <;> decide
def unK (s : ByteArray) : Nat → Nat → Nat
  | _, 0 => 0
  | k, f + 1 => if likeB s (nmU k) = true then k else unK s (k + 1) f
/-- The unit of a name. -/
def unB (s : ByteArray) : Nat := unK s 1 7
theorem unK_stop (s : ByteArray) (k : Nat) : unK s k 0 = 0 := rfl
theorem unK_yes {s : ByteArray} {k f : Nat} (h : likeB s (nmU k) = true) : unK s k (f + 1) = k := by rw [unK, if_pos h]
theorem unK_no {s : ByteArray} {k f : Nat} (h : likeB s (nmU k) = false) : unK s k (f + 1) = unK s (k + 1) f := by rw [unK, if_neg (by rw [h]; decide)]
/-- The names lie in their variable. -/
def Uni (w : World) : Prop := 0 < w.heap.size ∧ ∀ k, k < 8 → w.cell? ⟨0, k, none⟩ = some (.string (nmU k))
theorem Uni.below {w w' : World} (h : Uni w) (hb : Below w.heap.size w w') : Uni w' :=
  ⟨Nat.lt_of_lt_of_le h.1 hb.size, fun k hk => (hb.cell (p := ⟨0, k, none⟩) h.1).trans (h.2 k hk)⟩
theorem Uni.drew {w : World} (h : Uni w) (q : Nat) : Uni (w.drewN q) := h.below (below_drewN (Below.refl _ _) q)
def RelUn (w : World) (s : ByteArray) (i : Value) (wr : World) : Prop := ∃ k : Nat, i = .int .i64 k ∧ 1 ≤ k ∧ k ≤ 8 ∧ (∃ q, wr = w.drewN q) ∧ Hid (unB s = unK s k (8 - k))
theorem RelUn.mk {w : World} {s : ByteArray} {i : Value} {wr : World} (k : Nat) (h1 : i = .int .i64 k) (h2 : 1 ≤ k) (h3 : k ≤ 8) (h4 : ∃ q, wr = w.drewN q) (h5 : unB s = unK s k (8 - k)) : RelUn w s i wr := ⟨k, h1, h2, h3, h4, h5⟩
set_option maxRecDepth 100000 in
set_option maxHeartbeats 1500000 in
theorem unitP_any (s : ByteArray) (w : World) (hs : s.size ≤ 1000000000) (hU : Uni w) : Calls Tryd.prog 9 #[.string s] w fun e w' => e = .returned (.int .i64 (unB s)) ∧ ∃ q, w' = w.drewN q := by
  have HU := hide hU
  clear hU
  go_enter Tryd.func9, Tryd.ntmps9
  go_wp2
  go_loopw [3] (fun i wr => RelUn w s i wr) (fun i _ => 8 - (intOf i).toNat)
  case atStart => exact .mk 1 rfl (by omega) (by omega) ⟨0, rfl⟩ rfl
  case round =>
    obtain ⟨k, rfl, hk1, hk8, ⟨q, hq⟩, R⟩ := hrel
    have HQ := hide hq
    have UU := hide (show Uni wr by rw [hq]; exact HU.out.drew q)
    clear hq
    by_cases hlt : k ≤ 7
    · have cu := UU.out.2 k (by omega)
      have hg := UU.out.1
      have hlt' : (k : Int) ≤ 7 := by omega
      have hk1' : (1 : Int) ≤ (k : Int) := by omega
      have ix8 : k < 8 := by omega
      have CA := hide (fun (W : World) => alike_any s (nmU k) W hs)
      cases hb : likeB s (nmU k)
      · rw [hb] at CA
        have E := hide (show unB s = unK s (k + 1) (8 - (k + 1)) by rw [R.out, show 8 - k = (8 - (k + 1)) + 1 by omega, unK_no hb])
        clear hb R
        go_wp2_with (go_at_call 18; refine (CA.out _).mono ?_; rintro e w1 ⟨rfl, q1, hw1⟩; have HW := hide hw1; clear hw1)
        go_roundw
        case rel => exact .mk (k + 1) (by go_num) (by omega) (by omega) (by rw [HW.out, HQ.out]; exact ⟨_, World.drewN_drewN _ _ _⟩) E.out
        case measure => simp [intOf]; omega
      · rw [hb] at CA
        have E := hide (show (unB s : Int) = k by rw [R.out, show 8 - k = (8 - (k + 1)) + 1 by omega, unK_yes hb])
        clear hb R
        go_wp2_with (go_at_call 18; refine (CA.out _).mono ?_; rintro e w1 ⟨rfl, q1, hw1⟩; have HW := hide hw1; clear hw1)
        go_ret
        exact ⟨ret_int E.out.symm, by rw [HW.out, HQ.out]; exact ⟨_, World.drewN_drewN _ _ _⟩⟩
    · have hlt' : ¬ (k : Int) ≤ 7 := by omega
      have E := hide (show (unB s : Int) = 0 by rw [R.out, show 8 - k = 0 by omega, unK_stop]; rfl)
      clear R
      go_wp2
      go_ret
      exact ⟨ret_int E.out.symm, q, HQ.out⟩
theorem ixU_0 (W : World) : (Instr.index 39 (.agg #[.string ⟨#[]⟩, .string ⟨#[112, 120]⟩, .string ⟨#[101, 109]⟩, .string ⟨#[114, 101, 109]⟩, .string ⟨#[118, 119]⟩, .string ⟨#[118, 104]⟩, .string ⟨#[99, 113, 119]⟩, .string ⟨#[99, 113, 104]⟩]) (.int .i64 0)).run Tryd.prog W = .ok (.string (nmU 0)) W := by kernel_rfl
theorem ixU_1 (W : World) : (Instr.index 39 (.agg #[.string ⟨#[]⟩, .string ⟨#[112, 120]⟩, .string ⟨#[101, 109]⟩, .string ⟨#[114, 101, 109]⟩, .string ⟨#[118, 119]⟩, .string ⟨#[118, 104]⟩, .string ⟨#[99, 113, 119]⟩, .string ⟨#[99, 113, 104]⟩]) (.int .i64 1)).run Tryd.prog W = .ok (.string (nmU 1)) W := by kernel_rfl
theorem ixU_2 (W : World) : (Instr.index 39 (.agg #[.string ⟨#[]⟩, .string ⟨#[112, 120]⟩, .string ⟨#[101, 109]⟩, .string ⟨#[114, 101, 109]⟩, .string ⟨#[118, 119]⟩, .string ⟨#[118, 104]⟩, .string ⟨#[99, 113, 119]⟩, .string ⟨#[99, 113, 104]⟩]) (.int .i64 2)).run Tryd.prog W = .ok (.string (nmU 2)) W := by kernel_rfl
theorem ixU_3 (W : World) : (Instr.index 39 (.agg #[.string ⟨#[]⟩, .string ⟨#[112, 120]⟩, .string ⟨#[101, 109]⟩, .string ⟨#[114, 101, 109]⟩, .string ⟨#[118, 119]⟩, .string ⟨#[118, 104]⟩, .string ⟨#[99, 113, 119]⟩, .string ⟨#[99, 113, 104]⟩]) (.int .i64 3)).run Tryd.prog W = .ok (.string (nmU 3)) W := by kernel_rfl
theorem ixU_4 (W : World) : (Instr.index 39 (.agg #[.string ⟨#[]⟩, .string ⟨#[112, 120]⟩, .string ⟨#[101, 109]⟩, .string ⟨#[114, 101, 109]⟩, .string ⟨#[118, 119]⟩, .string ⟨#[118, 104]⟩, .string ⟨#[99, 113, 119]⟩, .string ⟨#[99, 113, 104]⟩]) (.int .i64 4)).run Tryd.prog W = .ok (.string (nmU 4)) W := by kernel_rfl
theorem ixU_5 (W : World) : (Instr.index 39 (.agg #[.string ⟨#[]⟩, .string ⟨#[112, 120]⟩, .string ⟨#[101, 109]⟩, .string ⟨#[114, 101, 109]⟩, .string ⟨#[118, 119]⟩, .string ⟨#[118, 104]⟩, .string ⟨#[99, 113, 119]⟩, .string ⟨#[99, 113, 104]⟩]) (.int .i64 5)).run Tryd.prog W = .ok (.string (nmU 5)) W := by kernel_rfl
theorem ixU_6 (W : World) : (Instr.index 39 (.agg #[.string ⟨#[]⟩, .string ⟨#[112, 120]⟩, .string ⟨#[101, 109]⟩, .string ⟨#[114, 101, 109]⟩, .string ⟨#[118, 119]⟩, .string ⟨#[118, 104]⟩, .string ⟨#[99, 113, 119]⟩, .string ⟨#[99, 113, 104]⟩]) (.int .i64 6)).run Tryd.prog W = .ok (.string (nmU 6)) W := by kernel_rfl
theorem ixU_7 (W : World) : (Instr.index 39 (.agg #[.string ⟨#[]⟩, .string ⟨#[112, 120]⟩, .string ⟨#[101, 109]⟩, .string ⟨#[114, 101, 109]⟩, .string ⟨#[118, 119]⟩, .string ⟨#[118, 104]⟩, .string ⟨#[99, 113, 119]⟩, .string ⟨#[99, 113, 104]⟩]) (.int .i64 7)).run Tryd.prog W = .ok (.string (nmU 7)) W := by kernel_rfl
theorem ixU {k : Nat} (h : k < 8) (W : World) : (Instr.index 39 (.agg #[.string ⟨#[]⟩, .string ⟨#[112, 120]⟩, .string ⟨#[101, 109]⟩, .string ⟨#[114, 101, 109]⟩, .string ⟨#[118, 119]⟩, .string ⟨#[118, 104]⟩, .string ⟨#[99, 113, 119]⟩, .string ⟨#[99, 113, 104]⟩]) (.int .i64 k)).run Tryd.prog W = .ok (.string (nmU k)) W := by
  have wy : k = 0 ∨ k = 1 ∨ k = 2 ∨ k = 3 ∨ k = 4 ∨ k = 5 ∨ k = 6 ∨ k = 7 := by omega
  rcases wy with rfl | rfl | rfl | rfl | rfl | rfl | rfl | rfl
  · exact ixU_0 W
  · exact ixU_1 W
  · exact ixU_2 W
  · exact ixU_3 W
  · exact ixU_4 W
  · exact ixU_5 W
  · exact ixU_6 W
  · exact ixU_7 W
def RelUr (w : World) (s : ByteArray) (i : Value) (wr : World) : Prop := ∃ k : Nat, i = .int .i64 k ∧ k ≤ 8 ∧ Below w.heap.size w wr ∧ Hid (unB s = if k = 0 then unB s else unK s k (8 - k))
theorem RelUr.mk {w : World} {s : ByteArray} {i : Value} {wr : World} (k : Nat) (h1 : i = .int .i64 k) (h3 : k ≤ 8) (h4 : Below w.heap.size w wr) (h5 : unB s = if k = 0 then unB s else unK s k (8 - k)) : RelUr w s i wr := ⟨k, h1, h3, h4, h5⟩
set_option maxRecDepth 100000 in
set_option maxHeartbeats 1500000 in
theorem unitR_any (s : ByteArray) (w : World) (hs : s.size ≤ 1000000000) : Calls Tryd.prog 10 #[.string s] w fun e w' => e = .returned (.int .i64 (unB s)) ∧ Below w.heap.size w w' := by
  go_enter Tryd.func10, Tryd.ntmps10
  go_wp2
  go_loopw [6] (fun i wr => RelUr w s i wr) (fun i _ => 8 - (intOf i).toNat)
  case atStart => exact .mk 0 rfl (by omega) (Below.refl _ _) (by simp)
  case round =>
    obtain ⟨k, rfl, hk8, BE, R⟩ := hrel
    replace BE := hide BE
    by_cases hlt : k < 8
    · have hlt' : (k : Int) < 8 := by omega
      have ix := ixU (k := k) hlt
      by_cases hk0 : k = 0
      · subst hk0
        have ix0 := ixU_0
        clear ix
        go_wp2
        go_roundw
        case rel => exact .mk 1 (by go_num) (by omega) BE.out rfl
        case measure => simp [intOf]
      · have hp : (0 : Int) < (k : Int) := by omega
        have CA := hide (fun (W : World) => likeR11_any s (nmU k) W hs (by have := nmU_len k; omega) (nmU_low k))
        replace R := hide (show unB s = unK s k (8 - k) by rw [R.out, if_neg hk0])
        cases hb : likeB s (nmU k)
        · rw [hb] at CA
          have E := hide (show unB s = unK s (k + 1) (8 - (k + 1)) by rw [R.out, show 8 - k = (8 - (k + 1)) + 1 by omega, unK_no hb])
          clear hb R
          go_wp2_with (go_at_call 19; refine (CA.out _).mono ?_; rintro e w1 ⟨rfl, B1⟩; replace B1 := hide (bto BE.out B1))
          go_roundw
          case rel => exact .mk (k + 1) (by go_num) (by omega) B1.out (by rw [if_neg (by omega)]; exact E.out)
          case measure => simp [intOf]; omega
        · rw [hb] at CA
          have E := hide (show (unB s : Int) = k by rw [R.out, show 8 - k = (8 - (k + 1)) + 1 by omega, unK_yes hb])
          clear hb R
          go_wp2_with (go_at_call 19; refine (CA.out _).mono ?_; rintro e w1 ⟨rfl, B1⟩; replace B1 := hide (bto BE.out B1))
          go_ret
          exact ⟨ret_int E.out.symm, B1.out⟩
    · have hlt' : ¬ (k : Int) < 8 := by omega
      have E := hide (show (unB s : Int) = 0 by rw [R.out, if_neg (by omega), show 8 - k = 0 by omega, unK_stop]; rfl)
      clear R
      go_wp2
      go_ret
      exact ⟨ret_int E.out.symm, BE.out⟩
end Go.Proofs.YtlkocepoohhglaaDoor
