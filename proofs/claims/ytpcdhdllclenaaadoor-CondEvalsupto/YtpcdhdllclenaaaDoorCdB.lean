/-
  The least and the greatest of some truths, by the program and by the reference.
-/
import Derived.Test.YtpcdhdllclenaaaDoorCdA
set_option linter.unusedVariables false
set_option linter.unusedSimpArgs false
namespace Go.Proofs.YtpcdhdllclenaaaDoor.cd
open Go.RowKit

theorem anN_bd : ∀ (l : List Int) (m : Int), 0 ≤ m → m ≤ 2 → 0 ≤ anN m l ∧ anN m l ≤ 2
  | [], m, h, k => ⟨h, k⟩
  | x :: r, m, h, k => by
    rw [anN]
    have := tr_bd x
    refine anN_bd r _ ?_ ?_ <;> (unfold i2; split <;> omega)
theorem orN_bd : ∀ (l : List Int) (m : Int), 0 ≤ m → m ≤ 2 → 0 ≤ orN m l ∧ orN m l ≤ 2
  | [], m, h, k => ⟨h, k⟩
  | x :: r, m, h, k => by
    rw [orN]
    have := tr_bd x
    refine orN_bd r _ ?_ ?_ <;> (unfold a2; split <;> omega)
def RelTr (f : Int → List Int → Int) (l : List Int) (r : Int) (m i : Value) : Prop := ∃ (k : Nat) (x : Int), i = .int .i64 k ∧ m = .int .i64 x ∧ k ≤ l.length ∧ Hid (f x (l.drop k) = r) ∧ 0 ≤ x ∧ x ≤ 2
theorem RelTr.mk {f : Int → List Int → Int} {l : List Int} {r : Int} {m i : Value} (k : Nat) (x : Int) (h1 : i = .int .i64 k) (h2 : m = .int .i64 x) (h3 : k ≤ l.length) (h4 : f x (l.drop k) = r) (h5 : 0 ≤ x) (h6 : x ≤ 2) : RelTr f l r m i := ⟨k, x, h1, h2, h3, h4, h5, h6⟩
set_option maxRecDepth 100000 in
set_option maxHeartbeats 2000000 in
theorem andP_any (l : List Int) (v : Value) (w : World) (hv : NuW w v l) : Calls Tryd.prog 9 #[v] w fun e w' => e = .returned (.int .i64 (anN 2 l)) ∧ w' = w := by
  rcases hv with ⟨a, c, rfl, rfl⟩ | ⟨b, o, n, c, rfl, hn, h0, hbw, hl, hc9, hc⟩
  · go_enter Tryd.func9, Tryd.ntmps9
    go_wp2
    refine wp_loop_rounds 1 ?_
    rw [rounds_succ]
    go_wp2
    go_ret
    exact ⟨rfl, rfl⟩
  · have HC : Hid (∀ i, i < n → w.cell? ⟨b, o + i, none⟩ = some (.int .i64 (gt l i))) := hc
    have HN : Hid (n = l.length) := hn
    have CT := hide (fun (x : Int) (w : World) => truth_any x w)
    clear hc hn
    go_enter Tryd.func9, Tryd.ntmps9
    go_wp2
    go_loop [3, 8] (fun m i => RelTr anN l (anN 2 l) m i) (fun m i => n - (intOf i).toNat)
    case atStart => exact .mk 0 2 rfl rfl (by omega) rfl (by omega) (by omega)
    case round =>
      obtain ⟨k, x, rfl, rfl, hk, R, x0, x2⟩ := hrel
      by_cases hlt : k < n
      · have c0 := HC.out k hlt
        have R2 := hide (show anN (i2 x (tr (gt l k))) (l.drop (k + 1)) = anN 2 l by have h := R.out; rw [drop_gt (by rw [← HN.out]; exact hlt)] at h; exact h)
        obtain ⟨t0, t2⟩ := tr_bd (gt l k)
        have CT' := hide (fun (w : World) => CT.out (gt l k) w)
        clear R
        generalize gt l k = g at *
        generalize tr g = t at *
        have hlt' : (k : Int) < n := by omega
        have hk1 := hide (show k + 1 ≤ l.length by rw [← HN.out]; omega)
        go_wp2_with (go_at_call 28; refine (CT'.out _).mono ?_; rintro e w1 ⟨rfl, rfl⟩)
        go_round
        case rel => exact .mk (k + 1) _ (by go_num) rfl hk1.out R2.out (by split <;> omega) (by split <;> omega)
        case measure => simp [intOf]; omega
      · have F := hide (show x = anN 2 l by have h := R.out; rw [List.drop_of_length_le (by rw [← HN.out]; omega)] at h; exact h)
        have hlt' : ¬ (k : Int) < n := by omega
        go_wp2
        go_ret
        exact ⟨ret_int F.out, rfl⟩
set_option maxRecDepth 100000 in
set_option maxHeartbeats 2000000 in
theorem orP_any (l : List Int) (v : Value) (w : World) (hv : NuW w v l) : Calls Tryd.prog 11 #[v] w fun e w' => e = .returned (.int .i64 (orN 0 l)) ∧ w' = w := by
  rcases hv with ⟨a, c, rfl, rfl⟩ | ⟨b, o, n, c, rfl, hn, h0, hbw, hl, hc9, hc⟩
  · go_enter Tryd.func11, Tryd.ntmps11
    go_wp2
    refine wp_loop_rounds 1 ?_
    rw [rounds_succ]
    go_wp2
    go_ret
    exact ⟨rfl, rfl⟩
  · have HC : Hid (∀ i, i < n → w.cell? ⟨b, o + i, none⟩ = some (.int .i64 (gt l i))) := hc
    have HN : Hid (n = l.length) := hn
    have CT := hide (fun (x : Int) (w : World) => truth_any x w)
    clear hc hn
    go_enter Tryd.func11, Tryd.ntmps11
    go_wp2
    go_loop [3, 8] (fun m i => RelTr orN l (orN 0 l) m i) (fun m i => n - (intOf i).toNat)
    case atStart => exact .mk 0 0 rfl rfl (by omega) rfl (by omega) (by omega)
    case round =>
      obtain ⟨k, x, rfl, rfl, hk, R, x0, x2⟩ := hrel
      by_cases hlt : k < n
      · have c0 := HC.out k hlt
        have R2 := hide (show orN (a2 x (tr (gt l k))) (l.drop (k + 1)) = orN 0 l by have h := R.out; rw [drop_gt (by rw [← HN.out]; exact hlt)] at h; exact h)
        obtain ⟨t0, t2⟩ := tr_bd (gt l k)
        have CT' := hide (fun (w : World) => CT.out (gt l k) w)
        clear R
        generalize gt l k = g at *
        generalize tr g = t at *
        have hlt' : (k : Int) < n := by omega
        have hk1 := hide (show k + 1 ≤ l.length by rw [← HN.out]; omega)
        go_wp2_with (go_at_call 28; refine (CT'.out _).mono ?_; rintro e w1 ⟨rfl, rfl⟩)
        go_round
        case rel => exact .mk (k + 1) _ (by go_num) rfl hk1.out R2.out (by split <;> omega) (by split <;> omega)
        case measure => simp [intOf]; omega
      · have F := hide (show x = orN 0 l by have h := R.out; rw [List.drop_of_length_le (by rw [← HN.out]; omega)] at h; exact h)
        have hlt' : ¬ (k : Int) < n := by omega
        go_wp2
        go_ret
        exact ⟨ret_int F.out, rfl⟩
set_option maxRecDepth 100000 in
set_option maxHeartbeats 2000000 in
theorem andR_any (l : List Int) (v : Value) (w : World) (hv : NuW w v l) : Calls Tryd.prog 10 #[v] w fun e w' => e = .returned (.int .i64 (anN 2 l)) ∧ w' = w := by
  rcases hv with ⟨a, c, rfl, rfl⟩ | ⟨b, o, n, c, rfl, hn, h0, hbw, hl, hc9, hc⟩
  · go_enter Tryd.func10, Tryd.ntmps10
    go_wp2
    refine wp_loop_rounds 1 ?_
    rw [rounds_succ]
    go_wp2
    go_ret
    exact ⟨rfl, rfl⟩
  · have HC : Hid (∀ i, i < n → w.cell? ⟨b, o + i, none⟩ = some (.int .i64 (gt l i))) := hc
    have HN : Hid (n = l.length) := hn
    have CT := hide (fun (x : Int) (w : World) => truthR_any x w)
    clear hc hn
    go_enter Tryd.func10, Tryd.ntmps10
    go_wp2
    go_loop [3, 8] (fun m i => RelTr anN l (anN 2 l) m i) (fun m i => n - (intOf i).toNat)
    case atStart => exact .mk 0 2 rfl rfl (by omega) rfl (by omega) (by omega)
    case round =>
      obtain ⟨k, x, rfl, rfl, hk, R, x0, x2⟩ := hrel
      by_cases hlt : k < n
      · have c0 := HC.out k hlt
        have R2 := hide (show anN (i2 x (tr (gt l k))) (l.drop (k + 1)) = anN 2 l by have h := R.out; rw [drop_gt (by rw [← HN.out]; exact hlt)] at h; exact h)
        obtain ⟨t0, t2⟩ := tr_bd (gt l k)
        have CT' := hide (fun (w : World) => CT.out (gt l k) w)
        clear R
        generalize gt l k = g at *
        generalize tr g = t at *
        have hlt' : (k : Int) < n := by omega
        have hk1 := hide (show k + 1 ≤ l.length by rw [← HN.out]; omega)
        go_wp2_with (go_at_call 29; refine (CT'.out _).mono ?_; rintro e w1 ⟨rfl, rfl⟩)
        go_round
        case rel => exact .mk (k + 1) _ (by go_num) rfl hk1.out R2.out (by split <;> omega) (by split <;> omega)
        case measure => simp [intOf]; omega
      · have F := hide (show x = anN 2 l by have h := R.out; rw [List.drop_of_length_le (by rw [← HN.out]; omega)] at h; exact h)
        have hlt' : ¬ (k : Int) < n := by omega
        go_wp2
        go_ret
        exact ⟨ret_int F.out, rfl⟩
set_option maxRecDepth 100000 in
set_option maxHeartbeats 2000000 in
theorem orR_any (l : List Int) (v : Value) (w : World) (hv : NuW w v l) : Calls Tryd.prog 12 #[v] w fun e w' => e = .returned (.int .i64 (orN 0 l)) ∧ w' = w := by
  rcases hv with ⟨a, c, rfl, rfl⟩ | ⟨b, o, n, c, rfl, hn, h0, hbw, hl, hc9, hc⟩
  · go_enter Tryd.func12, Tryd.ntmps12
    go_wp2
    refine wp_loop_rounds 1 ?_
    rw [rounds_succ]
    go_wp2
    go_ret
    exact ⟨rfl, rfl⟩
  · have HC : Hid (∀ i, i < n → w.cell? ⟨b, o + i, none⟩ = some (.int .i64 (gt l i))) := hc
    have HN : Hid (n = l.length) := hn
    have CT := hide (fun (x : Int) (w : World) => truthR_any x w)
    clear hc hn
    go_enter Tryd.func12, Tryd.ntmps12
    go_wp2
    go_loop [3, 8] (fun m i => RelTr orN l (orN 0 l) m i) (fun m i => n - (intOf i).toNat)
    case atStart => exact .mk 0 0 rfl rfl (by omega) rfl (by omega) (by omega)
    case round =>
      obtain ⟨k, x, rfl, rfl, hk, R, x0, x2⟩ := hrel
      by_cases hlt : k < n
      · have c0 := HC.out k hlt
        have R2 := hide (show orN (a2 x (tr (gt l k))) (l.drop (k + 1)) = orN 0 l by have h := R.out; rw [drop_gt (by rw [← HN.out]; exact hlt)] at h; exact h)
        obtain ⟨t0, t2⟩ := tr_bd (gt l k)
        have CT' := hide (fun (w : World) => CT.out (gt l k) w)
        clear R
        generalize gt l k = g at *
        generalize tr g = t at *
        have hlt' : (k : Int) < n := by omega
        have hk1 := hide (show k + 1 ≤ l.length by rw [← HN.out]; omega)
        go_wp2_with (go_at_call 29; refine (CT'.out _).mono ?_; rintro e w1 ⟨rfl, rfl⟩)
        go_round
        case rel => exact .mk (k + 1) _ (by go_num) rfl hk1.out R2.out (by split <;> omega) (by split <;> omega)
        case measure => simp [intOf]; omega
      · have F := hide (show x = orN 0 l by have h := R.out; rw [List.drop_of_length_le (by rw [← HN.out]; omega)] at h; exact h)
        have hlt' : ¬ (k : Int) < n := by omega
        go_wp2
        go_ret
        exact ⟨ret_int F.out, rfl⟩
end Go.Proofs.YtpcdhdllclenaaaDoor.cd
