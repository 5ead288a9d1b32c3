/-
  The characters of some bytes, by the reference; the law of both.
-/
import Derived.Test.YtklibbahbclekaaUtfG
set_option linter.unusedVariables false
set_option linter.unusedSimpArgs false
namespace Go.Proofs.Ytklibbahbclekaa
open Go.RowKit

set_option maxHeartbeats 1000000 in
theorem rawR_any (bs : List Int) (v : Value) (w : World) (hb : By bs) (hv : Nums .u8 w v bs) (hl9 : bs.length ≤ 1099511627776) :
    Calls Try.prog 11 #[v] w fun e w' => ∃ u, e = .returned u ∧ Nums .i32 w' u (raw bs) ∧ Below w.heap.size w w' := by
  obtain ⟨i0, hi, hz0, hz1, hz2⟩ := info_parts info32
  rcases hv with ⟨a, c, rfl, rfl⟩ | ⟨b, o, n, c, rfl, hn, h0, hbw, hl, hn9, hc9, hc⟩
  · go_enter Try.func11, Try.ntmps11
    go_wp2
    refine wp_loop_rounds 1 ?_
    rw [rounds_succ]
    go_wp2
    go_ret
    exact ⟨_, rfl, by rw [raw_nil]; exact .inl ⟨_, _, rfl, rfl⟩, Below.refl _ _⟩
  · have HN : Hid (n = bs.length) := hn
    have HC := hide hc
    have hnb : n ≤ 1099511627776 := by omega
    clear hc hn hl9
    go_enter Try.func11, Try.ntmps11
    go_wp2
    go_loopw [3, 4] (fun l a wr => RelRaw w n bs l a wr) (fun _ a _ => n - (intOf a).toNat)
    case atStart => exact .mk 0 [] (by omega) rfl (by simp) (Own.nil _ _ _) rfl
    case round =>
      obtain ⟨i, xs, hin, rfl, hxs, HO, R⟩ := hrel
      replace HO := hide HO
      by_cases hlt : i < n
      · obtain ⟨s1, s2, s3⟩ := stp_drop (bs := bs) (i := i) (by rw [← HN.out]; exact hlt)
        rw [← HN.out] at s3
        have R' : Hid _ := raw_go R.out (by rw [← HN.out]; exact hlt)
        have FH := hide (one_any bs n b o c i wr HN.out hb hl hn9 hc9 hlt (fun j hj => (HO.out.2.cell (p := ⟨b, o + j, none⟩) hbw).trans (HC.out j hj)))
        generalize hr : stp (bs.drop i) = r at *
        obtain ⟨x, g, t⟩ := r
        replace FH := FH.out; dsimp only at s1 s2 s3 R'
        clear hr
        go_wp2_with (first
          | (go_at_call 21; refine FH.mono ?_; rintro e w' ⟨rfl, rfl⟩; clear FH)
          | (at_builtin; refine wpList_append_own _ rfl _ _ 24 rfl w.heap.size 21 i0 (.int .i32 0) 1 4 Try.underlying24 hi hz0 hz1 hz2 rfl (by decide) _ _ _ rfl (HO.out.1.alloc _) ⟨_, 0, none⟩ 1 1 [.int .i32 x] rfl rfl (news1 _ _ _) (by intro u hu; simp at hu; subst hu; rfl) (by unfold maxLen; omega) (by omega) (by have := HO.out.2.size; simp; omega) ?_; intro v' w1 hown' hgrow _; replace HO := hide (HO.out.grow (ys := [x]) hown' hgrow); clear hown' hgrow))
        go_roundw
        case rel => exact .mk (i + g) (xs ++ [x]) (by omega) (by go_num) (by simp; omega) HO.out R'.out
        case measure => simp [intOf]; omega
      · have R' : Hid _ := raw_end R.out (by rw [← HN.out]; omega)
        have N := hide (HO.out.nums (by omega))
        go_wp2
        go_ret
        exact ⟨_, rfl, by rw [R'.out]; exact N.out, HO.out.2⟩
theorem raw_four : raw [65, 195, 164, 195] = [65, 228, 65533] := by
  rw [raw_cut (by simp)]
  show (65 : Int) :: raw [195, 164, 195] = _
  rw [raw_cut (by simp)]
  show (65 : Int) :: 228 :: raw [195] = _
  rw [raw_cut (by simp)]
  show (65 : Int) :: 228 :: 65533 :: raw [] = _
  rw [raw_nil]
theorem By.four : By [65, 195, 164, 195] := by intro x hx; simp at hx; omega
theorem eqB_refl (a : List Int) : eqB a a = true := by simp [eqB]
theorem bto {w w1 w2 : World} (h : Below w.heap.size w w1) (k : Below w1.heap.size w1 w2) : Below w.heap.size w w2 := h.trans (k.mono h.size)
theorem bplus {w w1 : World} (h : Below w.heap.size w w1) (o : Obj) : Below w.heap.size w (w1.alloc o) := h.alloc h.size o
set_option maxHeartbeats 1000000 in
theorem awake_any (w : World) : Calls Try.prog 12 #[] w fun e w' => e = .returned (.bool true) ∧ Below w.heap.size w w' := by
  have h2 : Nums .u8 (w.alloc (.cells #[.int .u8 65, .int .u8 195, .int .u8 164, .int .u8 195] 5)) (.slice (some ⟨w.heap.size, 0, none⟩) 4 4) [65, 195, 164, 195] := Nums.lit w 5 [65, 195, 164, 195] 4 rfl (by omega) (by omega)
  have h3 : ∀ u : World, Nums .i32 (u.alloc (.cells #[.int .i32 65, .int .i32 228, .int .i32 65533] 21)) (.slice (some ⟨u.heap.size, 0, none⟩) 3 3) [65, 228, 65533] := fun u => Nums.lit u 21 [65, 228, 65533] 3 rfl (by omega) (by omega)
  have H2 := hide h2
  have H3 := hide h3
  clear h2 h3
  go_enter Try.func12, Try.ntmps12
  go_wp2_with (first
    | (go_at_call 10; refine (rawP_any [65, 195, 164, 195] _ _ By.four H2.out (by decide)).mono ?_; rintro e w1 ⟨u, rfl, N, B⟩; rw [raw_four] at N; replace N := hide N; replace B := hide B)
    | (go_at_call 9; refine (same_any [65, 228, 65533] [65, 228, 65533] _ _ _ (N.out.below ((Below.refl _ _).alloc (Nat.le_refl _) _)) (H3.out _)).mono ?_; rintro e w2 ⟨rfl, B2⟩; rw [eqB_refl]))
  go_ret
  exact ⟨rfl, bto (bplus (bto (bplus (Below.refl _ _) _) B.out) _) B2⟩
set_option maxHeartbeats 1000000 in
theorem law_raw (bs : List Int) (v : Value) (w : World) (hb : By bs) (hv : Nums .u8 w v bs) (hl : bs.length ≤ 1099511627776) :
    Calls Try.prog 3 #[v] w fun e w' => e = .returned (.bool true) ∧ Below w.heap.size w w' := by
  replace hv := hide hv
  go_enter Try.func3, Try.ntmps3
  go_wp2_with (first
    | (go_at_call 10; refine (rawP_any bs v _ hb hv.out hl).mono ?_; rintro e w1 ⟨u, rfl, N, B⟩; replace N := hide N; replace B := hide B)
    | (go_at_call 11; refine (rawR_any bs v _ hb (hv.out.below B.out) hl).mono ?_; rintro e w2 ⟨u2, rfl, N2, B2⟩; replace N2 := hide N2; replace N := hide (N.out.below B2); replace B := hide (bto B.out B2); clear B2)
    | (go_at_call 9; refine (same_any (raw bs) (raw bs) _ _ _ N.out N2.out).mono ?_; rintro e w3 ⟨rfl, B3⟩; rw [eqB_refl]; replace B := hide (bto B.out B3); clear B3)
    | (go_at_call 12; refine (awake_any _).mono ?_; rintro e w4 ⟨rfl, B4⟩; replace B := hide (bto B.out B4); clear B4))
  go_ret
  exact ⟨rfl, B.out⟩
end Go.Proofs.Ytklibbahbclekaa
