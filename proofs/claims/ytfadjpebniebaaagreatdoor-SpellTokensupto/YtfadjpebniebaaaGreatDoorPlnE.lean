/-
  A decimal with its point; a fraction as a number of a stylesheet, by the program.
-/
import Derived.Test.YtfadjpebniebaaaGreatDoorPlnD
import Derived.Test.YtfadjpebniebaaaGreatDoorDecI
set_option linter.unusedVariables false
set_option linter.unusedSimpArgs false
namespace Go.Proofs.YtfadjpebniebaaaGreatDoor
open Go.RowKit

theorem bl_point (x : ByteArray) (a : Nat) : bl (x.extract 0 a ++ ⟨#[46]⟩ ++ x.extract a x.size) = (bl x).take a ++ 46 :: (bl x).drop a := by
  rw [bl_app, bl_app, bl_take, bl_drop, List.append_assoc]; rfl
theorem ptd_any {ds : List Int} {p : Nat} (hp : p ≠ 0) {x : ByteArray} (hx : bl x = pad ds p) : bl (x.extract 0 (x.size - p) ++ ⟨#[46]⟩ ++ x.extract (x.size - p) x.size) = ptd ds p := by
  rw [bl_point, hx]
  unfold ptd
  rw [if_neg hp, ← hx, bl_len]
theorem pad_none {ds : List Int} {p : Nat} (h : p < ds.length) : pad ds p = ds := by unfold pad; rw [show p + 1 - ds.length = 0 by omega]; rfl
theorem ptd_zero {ds : List Int} (h : 0 < ds.length) {x : ByteArray} (hx : bl x = ds) : bl (x ++ ⟨#[46, 48]⟩) = ptd ds 0 := by
  unfold ptd
  rw [if_pos rfl, pad_none h, Nat.sub_zero, List.take_length, bl_app, hx]; rfl
theorem bl_repeat (c : Nat) : bl ⟨(Lib.repeatL (⟨#[48]⟩ : ByteArray).data.toList c).toArray⟩ = List.replicate c 48 := by
  unfold bl
  simp only [List.toList_toArray]
  induction c with
  | zero => rfl
  | succ c ih => rw [List.replicate_succ, ← ih]; rfl
def PostStr (P : ByteArray → Prop) (w : World) (e : Ending) (w' : World) : Prop := ∃ s, e = .returned (.string s) ∧ P s ∧ Below w.heap.size w w'
theorem PostStr.mk {P : ByteArray → Prop} {w w' : World} {e : Ending} (s : ByteArray) (h1 : e = .returned (.string s)) (h2 : P s) (h3 : Below w.heap.size w w') : PostStr P w e w' := ⟨s, h1, h2, h3⟩
set_option maxHeartbeats 600000 in
theorem pointed_any (s : ByteArray) (p : Nat) (w : World) (h1 : 1 ≤ s.size) (h2 : s.size ≤ 20) (hp : p ≤ 64) :
    Calls Tryz.prog 107 #[.string s, .int .i64 (p : Int)] w fun e w' => PostStr (fun t => bl t = ptd (bl s) p) w e w' := by
  have p2 : (p : Int) ≤ 64 := by omega
  have p3 : (0 : Int) ≤ p := by omega
  by_cases hl : s.size ≤ p
  · have hl' : (s.size : Int) ≤ p := by omega
    have hp0 : ((p : Int) == 0) = false := by simp; omega
    obtain ⟨z, hz⟩ : ∃ z, p + 1 - s.size = z := ⟨_, rfl⟩
    have hz' : (p : Int) - s.size + 1 = (z : Int) := by omega
    have R := sh_strings_Repeat ⟨#[48]⟩ z w (by omega) (by show 1 * z ≤ _; omega)
    obtain ⟨r, hr⟩ : ∃ r : ByteArray, r = ⟨(Lib.repeatL (⟨#[48]⟩ : ByteArray).data.toList z).toArray⟩ := ⟨_, rfl⟩
    have br := bl_repeat z
    rw [← hr] at R br
    have hx : bl (r ++ s) = pad (bl s) p := by rw [bl_app, br]; unfold pad; rw [bl_len, hz]
    have hs : (r ++ s).size = p + 1 := by rw [← bl_len, hx, pad_len, bl_len]; omega
    have F := ptd_any (by omega) hx
    rw [hs, show p + 1 - p = 1 by omega] at F
    replace F := hide F
    have HR := hide R
    have rs : r.size ≤ 65 := by rw [← bl_len, br, List.length_replicate]; omega
    have hat : (p : Int) + 1 - p = 1 := by omega
    have h9 : (1 : Int) ≤ ((r ++ s).size : Int) := by omega
    clear hx br hr R hz
    go_enter Tryz.func107, Tryz.ntmps107
    go_wp2_with (go_at_call 148; refine HR.out.mono ?_; rintro e w1 ⟨rfl, hb⟩; replace hb := hide hb)
    go_quiet (fail)
    go_wp2
    go_ret
    exact .mk _ rfl F.out (below_drewN hb.out _)
  · have hl' : (p : Int) < s.size := by omega
    by_cases h0 : p = 0
    · have hp0 : ((p : Int) == 0) = true := by simp; omega
      have F := hide (show bl (s ++ ⟨#[46, 48]⟩) = ptd (bl s) p by rw [h0]; exact ptd_zero (ds := bl s) (by rw [bl_len]; omega) rfl)
      clear h0
      go_enter Tryz.func107, Tryz.ntmps107
      go_wp2
      go_ret
      exact .mk _ rfl F.out (Below.refl _ _)
    · have hp0 : ((p : Int) == 0) = false := by simp; omega
      have F := ptd_any (ds := bl s) h0 (x := s) (pad_none (by rw [bl_len]; omega)).symm
      obtain ⟨q, hq⟩ : ∃ q, s.size - p = q := ⟨_, rfl⟩
      rw [hq] at F
      replace F := hide F
      have hat : (s.size : Int) - p = q := by omega
      have h9 : (q : Int) ≤ s.size := by omega
      have h8 : (0 : Int) ≤ q := by omega
      clear hq
      go_enter Tryz.func107, Tryz.ntmps107
      go_wp2
      go_quiet (fail)
      go_wp2
      go_ret
      exact .mk _ rfl F.out (below_drewN (Below.refl _ _) _)
/-! ### The whole -/
def PlR (n d : Int) (wh : Bool) (s : ByteArray) (x : Int) : Prop := match plT n d wh with | none => x = 1 ∧ s.size = 0 | some t => x = 0 ∧ bl s = t
theorem PlR.no {n d : Int} {wh : Bool} {s : ByteArray} (h : plT n d wh = none) (hs : s.size = 0) : PlR n d wh s 1 := by unfold PlR; rw [h]; exact ⟨rfl, hs⟩
theorem PlR.yes {n d : Int} {wh : Bool} {s : ByteArray} {t : List Int} (h : plT n d wh = some t) (hs : bl s = t) : PlR n d wh s 0 := by unfold PlR; rw [h]; exact ⟨rfl, hs⟩
def PostPl (n d : Int) (wh : Bool) (w : World) (e : Ending) (w' : World) : Prop := ∃ s x, e = .returned (.tuple #[.string s, .int .i64 x]) ∧ PlR n d wh s x ∧ Below w.heap.size w w'
theorem PostPl.mk {n d : Int} {wh : Bool} {w w' : World} {e : Ending} (s : ByteArray) (x : Int) (h1 : e = .returned (.tuple #[.string s, .int .i64 x])) (h2 : PlR n d wh s x) (h3 : Below w.heap.size w w') : PostPl n d wh w e w' := ⟨s, x, h1, h2, h3⟩
theorem plT_may {n d : Int} {wh : Bool} (h : mayB n d = false) : plT n d wh = none := by unfold plT; rw [if_pos (.inl h)]
theorem plT_whole {n d : Int} (h : 1 < d) : plT n d true = none := by unfold plT; rw [if_pos (.inr ⟨rfl, h⟩)]
theorem plT_over (wh : Bool) : plT 0 0 wh = some (plO wh) := by unfold plT; rw [if_neg (by rintro (h | ⟨_, h⟩); exact absurd h (by decide); omega), if_pos rfl]
theorem plT_val {n d : Int} {wh : Bool} (h : isV n d = true) (g : wh = true → d = 1) : plT n d wh = plV n d wh := by
  have hd := (isV_out h).1
  unfold plT
  rw [if_neg, if_neg (by omega)]
  rintro (h1 | ⟨h1, h2⟩)
  · unfold mayB at h1; rw [h] at h1; simp at h1
  · have := g h1; omega
theorem plV_no {n d : Int} {wh : Bool} (h : isV n d = true) (n1 : -9223372036854775808 ≤ n) (n2 : n ≤ 9223372036854775807) (g : ∀ M q, fin (ab n).toNat d.toNat 0 = some (M, q) → 9223372036854775807 < M) : plV n d wh = none := by
  obtain ⟨hd, hm, hg⟩ := isV_out h
  unfold plV
  cases hf : fin (ab n).toNat d.toNat 0 with
  | none => rfl
  | some r =>
    obtain ⟨M, q⟩ := r
    have hM := g M q hf
    have hN : (ab n).toNat ≤ 9223372036854775807 := by unfold ab; split <;> omega
    simp only
    rw [if_pos]
    have hd1 : 1 < d.toNat := by
      refine Nat.lt_of_not_le fun hle => ?_
      rw [fin_one hle] at hf; cases hf; omega
    rw [cutR_dgt (fin_ten_no hf hd1 hg)]
    exact dgt_len18.2 (by omega)
theorem plV_some {n d : Int} {wh : Bool} {M p : Nat} (hf : fin (ab n).toNat d.toNat 0 = some (M, p)) : plV n d wh = if 18 < (cutR (dgt M)).length then none else some (neg1 n ++ if wh then dgt M else ptd (dgt M) p) := by unfold plV; rw [hf]
theorem neg_bl {n : Int} {s : ByteArray} {t : List Int} (h : bl s = t) : (n < 0 → bl ((⟨#[45]⟩ : ByteArray) ++ s) = neg1 n ++ t) ∧ (¬ n < 0 → bl s = neg1 n ++ t) := by
  unfold neg1
  refine ⟨fun hn => ?_, fun hn => ?_⟩
  · rw [if_pos hn, bl_app, h]; rfl
  · rw [if_neg hn, h]; rfl
set_option maxRecDepth 100000 in
set_option maxHeartbeats 1000000 in
theorem plainP_no (n d : Int) (wh : Bool) (w : World) (n1 : -9223372036854775808 ≤ n) (n2 : n ≤ 9223372036854775807) (d1 : -9223372036854775808 ≤ d) (d2 : d ≤ 9223372036854775807) (hT : Tabs w) (h : mayB n d = false ∨ (mayB n d = true ∧ wh = true ∧ 1 < d)) :
    Calls Tryz.prog 67 #[.agg #[.int .i64 n, .int .i64 d], .bool wh] w fun e w' => PostPl n d wh w e w' := by
  rcases h with hm | ⟨hm, rfl, hd⟩
  · have V := hide (plT_may (wh := wh) hm)
    have HM := hide hm
    clear hm
    go_enter Tryz.func67, Tryz.ntmps67
    go_wp2_with (go_at_call 102; refine (may_any _ _ _ n1 n2 d1 d2).mono ?_; rintro e w1 ⟨rfl, U1⟩; rw [HM.out]; replace U1 := hide U1)
    go_ret2
    exact .mk _ _ rfl (.no V.out rfl) (bto (bplus (Below.refl _ _) _) U1.out.1)
  · have V := hide (plT_whole (n := n) hd)
    have HM := hide hm
    clear hm
    go_enter Tryz.func67, Tryz.ntmps67
    go_wp2_with (go_at_call 102; refine (may_any _ _ _ n1 n2 d1 d2).mono ?_; rintro e w1 ⟨rfl, U1⟩; rw [HM.out]; have c1 : w1.cell? ⟨w.heap.size, 1, none⟩ = some (.int .i64 d) := (by rw [U1.cell _ _ (by simp)]; simp [go_sem]); replace U1 := hide U1)
    go_ret2
    exact .mk _ _ rfl (.no V.out rfl) (bto (bplus (Below.refl _ _) _) U1.out.1)
end Go.Proofs.YtfadjpebniebaaaGreatDoor
