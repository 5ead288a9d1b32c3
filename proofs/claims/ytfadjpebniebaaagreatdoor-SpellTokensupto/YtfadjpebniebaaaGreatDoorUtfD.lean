/-
  Whole bytes, by the program and by the reference.
-/
import Derived.Test.YtfadjpebniebaaaGreatDoorUtfC
set_option linter.unusedVariables false
set_option linter.unusedSimpArgs false
namespace Go.Proofs.YtfadjpebniebaaaGreatDoor
open Go.RowKit

theorem hide {p : Prop} (h : p) : Hid p := h
theorem bto {w w1 w2 : World} (h : Below w.heap.size w w1) (k : Below w1.heap.size w1 w2) : Below w.heap.size w w2 := h.trans (k.mono h.size)
theorem bplus {w w1 : World} (h : Below w.heap.size w w1) (o : Obj) : Below w.heap.size w (w1.alloc o) := h.alloc h.size o
/-- A slice of numbers in memory. -/
def Nums (k : IntKind) (w : World) (v : Value) (bs : List Int) : Prop :=
  (∃ a c, v = .slice a 0 c ∧ bs = []) ∨
  ∃ b o n c, v = .slice (some ⟨b, o, none⟩) n c ∧ n = bs.length ∧ 0 < n ∧ b < w.heap.size ∧ n ≤ c ∧ n ≤ 4611686018427387904 ∧ c ≤ 9223372036854775807 ∧ ∀ i, i < n → w.cell? ⟨b, o + i, none⟩ = some (.int k (gt bs i))
theorem Nums.below {k : IntKind} {w w' : World} {v : Value} {bs : List Int} (h : Nums k w v bs) (hw : Below w.heap.size w w') : Nums k w' v bs := by
  rcases h with h | ⟨b, o, n, c, h1, h2, h3, h4, h5, h6, h6', h7⟩
  · exact .inl h
  · exact .inr ⟨b, o, n, c, h1, h2, h3, Nat.lt_of_lt_of_le h4 hw.size, h5, h6, h6', fun i hi => (hw.cell (p := ⟨b, o + i, none⟩) h4).trans (h7 i hi)⟩
/-- The state of a loop over bytes. -/
def RelWh (n : Nat) (bs : List Int) (a : Value) : Prop := ∃ i : Nat, i ≤ n ∧ a = .int .i64 i ∧ Hid (whole bs = whole (bs.drop i))
theorem RelWh.mk {n : Nat} {bs : List Int} (i : Nat) {a : Value} (h1 : i ≤ n) (h2 : a = .int .i64 i) (h3 : whole bs = whole (bs.drop i)) : RelWh n bs a := ⟨i, h1, h2, h3⟩
theorem wh_stop {bs : List Int} {i : Nat} (h : whole bs = whole (bs.drop i)) (hi : i < bs.length) (hs : (stp (bs.drop i)).2.2 = false) : whole bs = false := by
  have hne : bs.drop i ≠ [] := by intro e; have := congrArg List.length e; simp at this; omega
  rw [h, whole_cut hne, hs]; rfl
theorem wh_go {bs : List Int} {i : Nat} (h : whole bs = whole (bs.drop i)) (hi : i < bs.length) (hs : (stp (bs.drop i)).2.2 = true) : whole bs = whole (bs.drop (i + (stp (bs.drop i)).2.1)) := by
  have hne : bs.drop i ≠ [] := by intro e; have := congrArg List.length e; simp at this; omega
  rw [h, whole_cut hne, hs, List.drop_drop]; simp
theorem stp_drop {bs : List Int} {i : Nat} (hi : i < bs.length) : 1 ≤ (stp (bs.drop i)).2.1 ∧ (stp (bs.drop i)).2.1 ≤ 4 ∧ i + (stp (bs.drop i)).2.1 ≤ bs.length := by
  have hne : bs.drop i ≠ [] := by intro e; have := congrArg List.length e; simp at this; omega
  have := stp_len _ hne
  rw [List.length_drop] at this
  omega
theorem ret_bool {a b : Bool} (h : a = b) : Ending.returned (.bool a) = .returned (.bool b) := by rw [h]
set_option maxHeartbeats 1000000 in
theorem wholeP_any (bs : List Int) (v : Value) (w : World) (hb : By bs) (hv : Nums .u8 w v bs) :
    Calls Tryz.prog 101 #[v] w fun e w' => e = .returned (.bool (whole bs)) ∧ w' = w := by
  rcases hv with ⟨a, c, rfl, rfl⟩ | ⟨b, o, n, c, rfl, hn, h0, hbw, hl, hn9, hc9, hc⟩
  · go_enter Tryz.func101, Tryz.ntmps101
    go_wp2
    refine wp_loop_rounds 1 ?_
    rw [rounds_succ]
    go_wp2
    go_ret
    exact ⟨ret_bool whole_nil.symm, rfl⟩
  · have HN : Hid (n = bs.length) := hn
    have HC : Hid (∀ i, i < n → w.cell? ⟨b, o + i, none⟩ = some (.int .u8 (gt bs i))) := hc
    clear hc hn
    go_enter Tryz.func101, Tryz.ntmps101
    go_wp2
    go_loop [3] (fun a => RelWh n bs a) (fun a => n - (intOf a).toNat)
    case atStart => exact .mk 0 (by omega) rfl rfl
    case round =>
      obtain ⟨i, hi, rfl, R⟩ := hrel
      by_cases hlt : i < n
      · obtain ⟨s1, s2, s3⟩ := stp_drop (bs := bs) (i := i) (by rw [← HN.out]; exact hlt)
        rw [← HN.out] at s3
        have hci : ¬ c = i := by omega
        have F := fun u => front_any (bs.drop i) (n - i) b (o + i) (c - i) u (by rw [List.length_drop, ← HN.out]) (hb.drop i) (by omega) (by omega) (by omega)
        have F2 := F w (fun j hj => by rw [gt_drop, Nat.add_assoc]; exact HC.out (i + j) (by omega))
        have FH := hide F2
        clear F F2
        by_cases hs : (stp (bs.drop i)).2.2 = true
        · have R' : Hid _ := wh_go R.out (by rw [← HN.out]; exact hlt) hs
          have HS : Hid _ := hs
          clear hs
          generalize hr : stp (bs.drop i) = r at *
          obtain ⟨x, g, t⟩ := r
          replace FH := FH.out; dsimp only at s1 s2 s3 R' HS
          obtain rfl : t = true := HS.out
          clear hr HS
          go_wp2_with (go_at_call 97; refine FH.mono ?_; rintro e w' ⟨rfl, rfl⟩)
          go_round
          case rel => exact .mk (i + g) (by omega) (by go_num) R'.out
          case measure => simp [intOf]; omega
        · have hs' : (stp (bs.drop i)).2.2 = false := by simpa using hs
          have R' : Hid _ := wh_stop R.out (by rw [← HN.out]; exact hlt) hs'
          have HS : Hid _ := hs'
          clear hs hs'
          generalize hr : stp (bs.drop i) = r at *
          obtain ⟨x, g, t⟩ := r
          replace FH := FH.out; dsimp only at s1 s2 s3 R' HS
          obtain rfl : t = false := HS.out
          clear hr HS
          go_wp2_with (go_at_call 97; refine FH.mono ?_; rintro e w' ⟨rfl, rfl⟩)
          go_ret
          exact ⟨ret_bool R'.out.symm, rfl⟩
      · have R' : Hid (whole bs = true) := by
          show _ = _
          rw [R.out, List.drop_of_length_le (by rw [← HN.out]; omega)]; exact whole_nil
        go_wp2
        go_ret
        exact ⟨ret_bool R'.out.symm, rfl⟩
set_option maxHeartbeats 1000000 in
theorem wholeR_any (bs : List Int) (v : Value) (w : World) (hb : By bs) (hv : Nums .u8 w v bs) :
    Calls Tryz.prog 44 #[v] w fun e w' => e = .returned (.bool (whole bs)) ∧ w' = w := by
  rcases hv with ⟨a, c, rfl, rfl⟩ | ⟨b, o, n, c, rfl, hn, h0, hbw, hl, hn9, hc9, hc⟩
  · go_enter Tryz.func44, Tryz.ntmps44
    go_wp2
    refine wp_loop_rounds 1 ?_
    rw [rounds_succ]
    go_wp2
    go_ret
    exact ⟨ret_bool whole_nil.symm, rfl⟩
  · have HN : Hid (n = bs.length) := hn
    have HC : Hid (∀ i, i < n → w.cell? ⟨b, o + i, none⟩ = some (.int .u8 (gt bs i))) := hc
    clear hc hn
    go_enter Tryz.func44, Tryz.ntmps44
    go_wp2
    go_loop [3] (fun a => RelWh n bs a) (fun a => n - (intOf a).toNat)
    case atStart => exact .mk 0 (by omega) rfl rfl
    case round =>
      obtain ⟨i, hi, rfl, R⟩ := hrel
      by_cases hlt : i < n
      · obtain ⟨s1, s2, s3⟩ := stp_drop (bs := bs) (i := i) (by rw [← HN.out]; exact hlt)
        rw [← HN.out] at s3
        have FH := hide (one_any bs n b o c i w HN.out hb hl hn9 hc9 hlt HC.out)
        by_cases hs : (stp (bs.drop i)).2.2 = true
        · have R' : Hid _ := wh_go R.out (by rw [← HN.out]; exact hlt) hs
          have HS : Hid _ := hs
          clear hs
          generalize hr : stp (bs.drop i) = r at *
          obtain ⟨x, g, t⟩ := r
          replace FH := FH.out; dsimp only at s1 s2 s3 R' HS
          obtain rfl : t = true := HS.out
          clear hr HS
          go_wp2_with (go_at_call 71; refine FH.mono ?_; rintro e w' ⟨rfl, rfl⟩)
          go_round
          case rel => exact .mk (i + g) (by omega) (by go_num) R'.out
          case measure => simp [intOf]; omega
        · have hs' : (stp (bs.drop i)).2.2 = false := by simpa using hs
          have R' : Hid _ := wh_stop R.out (by rw [← HN.out]; exact hlt) hs'
          have HS : Hid _ := hs'
          clear hs hs'
          generalize hr : stp (bs.drop i) = r at *
          obtain ⟨x, g, t⟩ := r
          replace FH := FH.out; dsimp only at s1 s2 s3 R' HS
          obtain rfl : t = false := HS.out
          clear hr HS
          go_wp2_with (go_at_call 71; refine FH.mono ?_; rintro e w' ⟨rfl, rfl⟩)
          go_ret
          exact ⟨ret_bool R'.out.symm, rfl⟩
      · have R' : Hid (whole bs = true) := by
          show _ = _
          rw [R.out, List.drop_of_length_le (by rw [← HN.out]; omega)]; exact whole_nil
        go_wp2
        go_ret
        exact ⟨ret_bool R'.out.symm, rfl⟩
end Go.Proofs.YtfadjpebniebaaaGreatDoor
