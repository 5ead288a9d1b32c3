/-
  What was put last is what is told; two boxes know nothing of one another: the law.
-/
import Derived.Test.YtbigejdabeibeaaMemC
set_option linter.unusedVariables false
set_option linter.unusedSimpArgs false
namespace Go.Proofs.Ytbigejdabeibeaa
open Go.RowKit

theorem Holds.new (w : World) : Holds (w.alloc (.cells #[.pointer none] 65)) w.heap.size none :=
  .inl ⟨⟨by simp, by simp, by simp⟩, rfl⟩
theorem Holds.ch {w w' : World} {b b' : Nat} {o : Option ByteArray} (h : Holds w b none) (k : Ch (fun i => i = b') w w') (hb : b ≠ b') : Holds w' b none := by
  rcases h with ⟨h, e⟩ | ⟨q, s, h, t, n, e⟩
  · exact .inl ⟨h.ch k hb, e⟩
  · cases e
theorem tl_refl (s : ByteArray) : (s.toList == s.toList) = true := by simp
set_option maxRecDepth 100000 in
set_option maxHeartbeats 4000000 in
theorem law_boxes (v : Value) (rs : List (Int × ByteArray)) (w : World) (h : Puts w v rs) :
    Calls Try.prog 7 #[v] w fun e w' => e = .returned (.bool true) ∧ Below w.heap.size w w' := by
  have hnot : ∀ (x : Bool) (w : World), (Op.unary .not (.bool x)).run Try.prog w = .ok (.bool (!x)) w := fun _ _ => rfl
  obtain ⟨n, a, c, rfl, hn9, hcell⟩ : ∃ n a c, v = .slice a n c ∧ n ≤ 9223372036854775807 ∧ ∀ i, i < n → ∃ b off d s, a = some ⟨b, off, none⟩ ∧ b < w.heap.size ∧ w.cell? ⟨b, off + i * 2, none⟩ = some (.int .i64 d) ∧ w.cell? ⟨b, off + i * 2 + 1, none⟩ = some (.string s) := by
    rcases h with ⟨a, c, rfl, rfl⟩ | ⟨b, off, c, rfl, hb, h9, hc⟩
    · exact ⟨0, a, c, rfl, by omega, fun i hi => by omega⟩
    · exact ⟨_, _, _, rfl, h9, fun i hi => ⟨b, off, _, _, rfl, hb, (hc i hi).1, (hc i hi).2⟩⟩
  clear h
  have HC := hide hcell
  clear hcell
  have A1 := Holds.new w
  have A2 := Holds.new (w.alloc (.cells #[.pointer none] 65))
  have k2 := (Ch.refl (fun _ => False) (w.alloc (.cells #[.pointer none] 65))).alloc (.cells #[.pointer none] 65)
  have S0 := hide (And.intro (A1.ch0 k2) (And.intro A2 (((Ch.refl (fun _ => False) w).alloc _).trans k2)))
  have e1 : (w.alloc (.cells #[.pointer none] 65)).heap.size = w.heap.size + 1 := by simp
  rw [e1] at S0
  clear A1 A2 k2 e1
  go_enter Try.func7, Try.ntmps7
  go_wp2
  obtain ⟨w0, hw0⟩ : ∃ w0, (w.alloc (.cells #[.pointer none] 65)).alloc (.cells #[.pointer none] 65) = w0 := ⟨_, rfl⟩
  rw [hw0] at S0 ⊢
  clear hw0
  go_loopw [5, 6, 7] (fun v has i wr => RelBx w n w.heap.size (w.heap.size + 1) v has i wr) (fun _ _ i _ => n - (intOf i).toNat)
  case atStart => exact .mk 0 none (by omega) (by omega) rfl rfl rfl S0
  case round =>
    clear S0
    obtain ⟨k, o, hk, hk6, rfl, rfl, rfl, S⟩ := hrel
    obtain ⟨x, hx⟩ : ∃ x, txt o = x := ⟨_, rfl⟩
    obtain ⟨y, hy⟩ : ∃ y, o.isSome = y := ⟨_, rfl⟩
    have GB := hide (get_box _ _ _ S.out.1)
    have GO := hide (show Calls Try.prog 30 #[.pointer (some ⟨w.heap.size + 1, 0, none⟩)] wr fun e w' => e = .returned (.tuple #[.string ⟨#[]⟩, .bool false]) ∧ w' = wr from get_box _ _ _ S.out.2.1)
    rw [hx, hy] at GB
    rw [hx, hy]
    have HX := hide hx
    have HY := hide hy
    clear hx hy
    by_cases hlt : k < n
    · by_cases h6 : k < 60
      · obtain ⟨b, off, d, s, rfl, hb, p0, p1⟩ := HC.out k hlt
        have q0 := (S.out.2.2.cell hb (fun f => f) _).trans p0
        have q1 := (S.out.2.2.cell hb (fun f => f) _).trans p1
        have MV := hide (fun (w' : World) (C : Ch (fun k => k = w.heap.size) wr w') => (C.cell (b := b) (Nat.lt_of_lt_of_le hb S.out.2.2.size) (by omega) (off + k * 2 + 1)).trans q1)
        clear p0 p1 hb
        have h6' : (k : Int) < 60 := by omega
        have CP := hide (put_box _ _ s _ S.out.1)
        have CS := hide (swap_box _ _ s _ S.out.1)
        rw [HX.out, HY.out] at CS
        have NX := hide (fun (w' : World) (H : Holds w' w.heap.size (some s)) (C : Ch (fun k => k = w.heap.size) wr w') => show Hid (Holds w' w.heap.size (some s) ∧ Holds w' (w.heap.size + 1) none ∧ Ch (fun _ => False) w w') from
          ⟨H, S.out.2.1.ch (o := none) C (by omega), S.out.2.2.transN C (fun i hi e => by omega)⟩)
        by_cases d0 : d = 0
        · subst d0
          go_wp2_with (go_at_call 29; refine CP.out.mono ?_; rintro e w1 ⟨rfl, H1, C1⟩; have S1 := NX.out w1 H1 C1; clear H1; have r1 := MV.out w1 C1; clear C1)
          exact ⟨.mk (k + 1) (some s) (by omega) (by omega) (by go_num) rfl rfl S1, by simp [intOf]; omega⟩
        · have f0 : (d == 0) = false := by simpa using d0
          by_cases d1 : d = 1
          · subst d1
            go_wp2_with (go_at_call 30; refine GB.out.mono ?_; rintro e w1 ⟨rfl, rfl⟩)
            exact ⟨.mk (k + 1) o (by omega) (by omega) (by go_num) (by rw [HX.out]) (by rw [HY.out]) S, by simp [intOf]; omega⟩
          · have f1 : (d == 1) = false := by simpa using d1
            go_wp2_with (go_at_call 31; refine CS.out.mono ?_; rintro e w1 ⟨rfl, H1, C1⟩; have S1 := NX.out w1 H1 C1; clear H1; have r1 := MV.out w1 C1; clear C1)
            exact ⟨.mk (k + 1) (some s) (by omega) (by omega) (by go_num) rfl rfl S1, by simp [intOf]; omega⟩
      · obtain rfl : k = 60 := by omega
        have hn6 : (60 : Int) < n := by omega
        go_wp2_with (first
          | (go_at_call_of 30 (Value.pointer (some ⟨w.heap.size, 0, none⟩)); refine GB.out.mono ?_; rintro e w1 ⟨rfl, rfl⟩)
          | (go_at_call 30; refine GO.out.mono ?_; rintro e w1 ⟨rfl, rfl⟩)
          | (go_at_call 15; refine (awake7 _).mono ?_; rintro e w2 ⟨rfl, C2⟩; replace C2 := hide (S.out.2.2.trans C2)))
        go_ret
        exact ⟨rfl, C2.out.below⟩
    · go_wp2_with (first
        | (go_at_call_of 30 (Value.pointer (some ⟨w.heap.size, 0, none⟩)); refine GB.out.mono ?_; rintro e w1 ⟨rfl, rfl⟩)
        | (go_at_call 30; refine GO.out.mono ?_; rintro e w1 ⟨rfl, rfl⟩)
        | (go_at_call 15; refine (awake7 _).mono ?_; rintro e w2 ⟨rfl, C2⟩; replace C2 := hide (S.out.2.2.trans C2)))
      go_ret
      exact ⟨rfl, C2.out.below⟩
end Go.Proofs.Ytbigejdabeibeaa
