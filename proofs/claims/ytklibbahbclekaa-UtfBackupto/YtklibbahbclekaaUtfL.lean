/-
  The law: there and back.
-/
import Derived.Test.YtklibbahbclekaaUtfK
set_option linter.unusedVariables false
set_option linter.unusedSimpArgs false
namespace Go.Proofs.Ytklibbahbclekaa
open Go.RowKit

def RelAll (n : Nat) (ls : List Int) (t i : Value) : Prop := ∃ k : Nat, k ≤ n ∧ i = .int .i64 k ∧ t = .bool (allB (ls.take k))
theorem RelAll.mk {n : Nat} {ls : List Int} {t i : Value} (k : Nat) (h1 : k ≤ n) (h2 : i = .int .i64 k) (h3 : t = .bool (allB (ls.take k))) : RelAll n ls t i := ⟨k, h1, h2, h3⟩
set_option maxHeartbeats 2000000 in
theorem law_back (ls : List Int) (v : Value) (bs : List Int) (u : Value) (w : World) (h32 : ∀ x ∈ ls, -2147483648 ≤ x ∧ x ≤ 2147483647) (hv : Nums .i32 w v ls) (hl : ls.length ≤ 1048576)
    (hb : By bs) (hu : Nums .u8 w u bs) (hl2 : bs.length ≤ 1048576) :
    Calls Try.prog 7 #[v, u] w fun e w' => e = .returned (.bool true) ∧ Below w.heap.size w w' := by
  have HV := hide hv
  replace hu := hide hu
  obtain ⟨a, n, c, rfl, hn, hn9, _, hc⟩ := hv.form
  have HN := hide hn
  have HC := hide hc
  clear hc hv h32
  have hnb : n ≤ 1048576 := by omega
  have L1 := (enc_len ls).2
  have L2 := (raw_le bs).1
  clear hn
  have B := hide (Below.refl w.heap.size w)
  go_enter Try.func7, Try.ntmps7
  go_wp2
  go_loop [5, 11] (fun t i => RelAll n ls t i) (fun _ i => n - (intOf i).toNat)
  case atStart => exact .mk 0 (by omega) rfl rfl
  case round =>
    obtain ⟨k, hk, rfl, rfl⟩ := hrel
    by_cases hlt : k < n
    · obtain ⟨b, o, rfl, hbw, hcl, hc9, hcc⟩ := HC.out (by omega)
      have cx := hcc k hlt
      have R : Hid (allB (ls.take (k + 1)) = (allB (ls.take k) && isC (gt ls k))) := by rw [take_gt (by rw [← HN.out]; exact hlt)]; exact allB_snoc _ _
      clear hcc
      generalize gt ls k = x at cx R
      generalize allB (ls.take k) = t at R
      cases t with
      | false =>
        go_wp2
        go_round
        case rel => exact .mk (k + 1) (by omega) (by go_num) (by rw [R.out]; rfl)
        case measure => simp [intOf]; omega
      | true =>
        rcases isC_cases x with ⟨h, e⟩ | ⟨h, e⟩ | ⟨h, g, e⟩ | ⟨h, g, e⟩ | ⟨h, g, e⟩
        all_goals
          rw [e] at R
          clear e
          go_wp2
          go_round
          case rel => exact .mk (k + 1) (by omega) (by go_num) (by first | (rw [R.out]; rfl) | (rw [R.out]; simp; omega))
          case measure => simp [intOf]; omega
    · have hkn : k = n := by omega
      subst hkn
      have R : Hid (ls.take k = ls) := List.take_of_length_le (by rw [← HN.out]; omega)
      rw [R.out]
      have E1 := hide (back_chars ls)
      have E2 := hide (back_bytes bs hb)
      have E3 := hide (whole_enc ls)
      obtain ⟨t, ht⟩ : ∃ t, t = allB ls := ⟨_, rfl⟩
      rw [← ht] at E1 ⊢
      have hT := hide ht
      clear ht
      obtain ⟨t2, ht2⟩ : ∃ t2, t2 = whole bs := ⟨_, rfl⟩
      rw [← ht2] at E2
      have hT2 := hide ht2
      clear ht2
      go_wp2_with (first
        | (go_at_call_of 16 (Value.slice a k c); refine (encP_any ls _ _ HV.out (by omega)).mono ?_; rintro e w1 ⟨u1, rfl, N1, B1⟩; replace N1 := hide N1; replace B := hide (bto B.out B1); clear B1)
        | (go_at_call_of 10 u1; refine (rawP_any (enc ls) u1 _ (by_enc ls) N1.out (by omega)).mono ?_; rintro e w2 ⟨u2, rfl, N2, B2⟩; replace N2 := hide N2; replace N1 := hide (N1.out.below B2); replace B := hide (bto B.out B2); clear B2)
        | (go_at_call 9; refine (same_any (raw (enc ls)) ls _ _ _ N2.out (HV.out.below B.out)).mono ?_; rintro e w3 ⟨rfl, B3⟩; rw [E1.out]; replace N1 := hide (N1.out.below B3); replace B := hide (bto B.out B3); clear B3)
        | (go_at_call_of 18 u1; refine (wholeP_any (enc ls) u1 _ (by_enc ls) N1.out).mono ?_; rintro e w4 ⟨rfl, rfl⟩; rw [E3.out])
        | (go_at_call_of 10 u; refine (rawP_any bs u _ hb (hu.out.below B.out) (by omega)).mono ?_; rintro e w5 ⟨u5, rfl, N5, B5⟩; replace N5 := hide N5; replace B := hide (bto B.out B5); clear B5)
        | (go_at_call_of 16 u5; refine (encP_any (raw bs) u5 _ N5.out (by omega)).mono ?_; rintro e w6 ⟨u6, rfl, N6, B6⟩; replace N6 := hide N6; replace B := hide (bto B.out B6); clear B6)
        | (go_at_call 15; refine (bytes_any (enc (raw bs)) bs _ _ _ N6.out (hu.out.below B.out)).mono ?_; rintro e w7 ⟨rfl, B7⟩; rw [E2.out]; replace B := hide (bto B.out B7); clear B7)
        | (go_at_call_of 18 u; refine (wholeP_any bs u _ hb (hu.out.below B.out)).mono ?_; rintro e w8 ⟨rfl, rfl⟩; rw [← hT2.out])
        | (go_at_call 12; refine (awake_any _).mono ?_; rintro e w9 ⟨rfl, B9⟩; replace B := hide (bto B.out B9); clear B9))
      go_ret
      exact ⟨rfl, B.out⟩
end Go.Proofs.Ytklibbahbclekaa
