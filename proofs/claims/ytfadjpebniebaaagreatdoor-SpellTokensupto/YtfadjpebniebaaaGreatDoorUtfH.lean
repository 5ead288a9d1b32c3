/-
  The characters of some bytes, by the reference; the law of both.
-/
import Derived.Test.YtfadjpebniebaaaGreatDoorUtfG
set_option linter.unusedVariables false
set_option linter.unusedSimpArgs false
namespace Go.Proofs.YtfadjpebniebaaaGreatDoor
open Go.RowKit

set_option maxRecDepth 100000 in
set_option maxHeartbeats 1000000 in
theorem rawR_any (bs : List Int) (v : Value) (w : World) (hb : By bs) (hv : Nums .u8 w v bs) (hl9 : bs.length ≤ 1099511627776) :
    Calls Tryz.prog 43 #[v] w fun e w' => ∃ u, e = .returned u ∧ Nums .i32 w' u (raw bs) ∧ Below w.heap.size w w' := by
  obtain ⟨i0, hi, hz0, hz1, hz2⟩ := info_parts info32
  rcases hv with ⟨a, c, rfl, rfl⟩ | ⟨b, o, n, c, rfl, hn, h0, hbw, hl, hn9, hc9, hc⟩
  · go_enter Tryz.func43, Tryz.ntmps43
    go_wp2
    refine wp_loop_rounds 1 ?_
    rw [rounds_succ]
    go_wp2
    go_ret
    exact ⟨_, rfl, by rw [raw_nil]; exact .inl ⟨_, _, rfl, rfl⟩, Below.refl _ _⟩
  · have HN : Hid (n = bs.length) := hn
    have HC := hide hc
    have hnb : n ≤ 1099511627776 := by omega
    clear hc hn hl9
    go_enter Tryz.func43, Tryz.ntmps43
    go_wp2
    go_loopw [3, 4] (fun l a wr => RelRaw w n bs l a wr) (fun _ a _ => n - (intOf a).toNat)
    case atStart => exact .mk 0 [] (by omega) rfl (by simp) (Own.nil _ _ _) rfl
    case round =>
      obtain ⟨i, xs, hin, rfl, hxs, HO, R⟩ := hrel
      replace HO := hide HO
      by_cases hlt : i < n
      · obtain ⟨s1, s2, s3⟩ := stp_drop (bs := bs) (i := i) (by rw [← HN.out]; exact hlt)
        rw [← HN.out] at s3
        have R' : Hid _ := raw_go R.out (by rw [← HN.out]; exact hlt)
        have FH := hide (one_any bs n b o c i wr HN.out hb hl hn9 hc9 hlt (fun j hj => (HO.out.2.cell (p := ⟨b, o + j, none⟩) hbw).trans (HC.out j hj)))
        generalize hr : stp (bs.drop i) = r at *
        obtain ⟨x, g, t⟩ := r
        replace FH := FH.out; dsimp only at s1 s2 s3 R'
        clear hr
        go_wp2_with (first
          | (go_at_call 71; refine FH.mono ?_; rintro e w' ⟨rfl, rfl⟩; clear FH)
          | (at_builtin; refine wpList_append_own _ rfl _ _ 43 rfl w.heap.size 21 i0 (.int .i32 0) 1 4 Tryz.underlying43 hi hz0 hz1 hz2 rfl (by decide) _ _ _ rfl (HO.out.1.alloc _) ⟨_, 0, none⟩ 1 1 [.int .i32 x] rfl rfl (news1 _ _ _) (by intro u hu; simp at hu; subst hu; rfl) (by unfold maxLen; omega) (by omega) (by have := HO.out.2.size; simp; omega) ?_; intro v' w1 hown' hgrow _; replace HO := hide (HO.out.grow (ys := [x]) hown' hgrow); clear hown' hgrow))
        go_roundw
        case rel => exact .mk (i + g) (xs ++ [x]) (by omega) (by go_num) (by simp; omega) HO.out R'.out
        case measure => simp [intOf]; omega
      · have R' : Hid _ := raw_end R.out (by rw [← HN.out]; omega)
        have N := hide (HO.out.nums (by omega))
        go_wp2
        go_ret
        exact ⟨_, rfl, by rw [R'.out]; exact N.out, HO.out.2⟩
theorem raw_four : raw [65, 195, 164, 195] = [65, 228, 65533] := by
  rw [raw_cut (by simp)]
  show (65 : Int) :: raw [195, 164, 195] = _
  rw [raw_cut (by simp)]
  show (65 : Int) :: 228 :: raw [195] = _
  rw [raw_cut (by simp)]
  show (65 : Int) :: 228 :: 65533 :: raw [] = _
  rw [raw_nil]
theorem By.four : By [65, 195, 164, 195] := by intro x hx; simp at hx; omega
theorem eqB_refl (a : List Int) : eqB a a = true := by simp [eqB]
end Go.Proofs.YtfadjpebniebaaaGreatDoor
