/-
  Any fraction as a number of a stylesheet, and back.
-/
import Derived.Test.YtmijgeppjpafaaaDoorPlnH
set_option linter.unusedVariables false
set_option linter.unusedSimpArgs false
namespace Go.Proofs.YtmijgeppjpafaaaDoor
open Go.RowKit

theorem PlR.none {n d : Int} {wh : Bool} {s : ByteArray} {x : Int} (h : PlR n d wh s x) (g : plT n d wh = none) : x = 1 ∧ s = ⟨#[]⟩ := by
  unfold PlR at h; rw [g] at h; exact ⟨h.1, bl_inj (by rw [bl_nil h.2]; rfl)⟩
theorem PlR.some {n d : Int} {wh : Bool} {s : ByteArray} {x : Int} {t : List Int} (h : PlR n d wh s x) (g : plT n d wh = some t) : x = 0 ∧ bl s = t := by
  unfold PlR at h; rw [g] at h; exact h
theorem plT_32 : plT 3 2 false = some [49, 46, 53] := by
  have hf : fin 3 2 0 = some (15, 1) := by rw [fin_two (by omega) (by omega) (by omega), fin_one (by omega)]
  have hd : dgt 15 = [49, 53] := by rw [dgt_big (by omega), dgt_small (by omega)]; rfl
  have hv : isV 3 2 = true := by decide
  rw [plT_val hv (fun h => by cases h)]
  unfold plV
  rw [show (ab 3).toNat = 3 by rfl, show (2 : Int).toNat = 2 by rfl, hf]
  simp only
  rw [hd]
  rfl
set_option maxRecDepth 100000 in
set_option maxHeartbeats 600000 in
theorem law_plains (n d : Int) (wh : Bool) (w : World) (n1 : -9223372036854775808 ≤ n) (n2 : n ≤ 9223372036854775807) (d1 : -9223372036854775808 ≤ d) (d2 : d ≤ 9223372036854775807) (hT : Tabs w) :
    Calls Tryd.prog 3 #[.agg #[.int .i64 n, .int .i64 d], .bool wh] w fun e w' => e = .returned (.bool true) ∧ Below w.heap.size w w' := by
  have W1 := hide (fun (W : World) (h : Below w.heap.size w W) => hT.below h)
  have C1 := hide (fun (W : World) (h : Below w.heap.size w W) => plainP_any n d wh W n1 n2 d1 d2 (W1.out W h))
  have C2 := hide (fun (W : World) (h : Below w.heap.size w W) => plainR_any n d wh W n1 n2 d1 d2 (W1.out W h))
  have C3 := hide (fun (W : World) (h : Below w.heap.size w W) => plainP_any 3 2 false W (by omega) (by omega) (by omega) (by omega) (W1.out W h))
  clear hT
  cases hp : plT n d wh with
  | none =>
    have HP := hide hp
    clear hp
    go_enter Tryd.func3, Tryd.ntmps3
    go_wp2_with (first
      | (go_at_call_of 4 (Value.agg #[.int .i64 3, .int .i64 2]); refine (C3.out _ B1.out).mono ?_; rintro e w3 ⟨s3, x3, rfl, P3, B3⟩; obtain ⟨rfl, h3⟩ := P3.some plT_32; obtain rfl : s3 = ⟨#[49, 46, 53]⟩ := bl_inj h3; clear h3; replace B1 := hide (bto B1.out B3))
      | (go_at_call 4; refine (C1.out _ (bplus (Below.refl _ _) _)).mono ?_; rintro e w1 ⟨s1, x1, rfl, P1, B1⟩; obtain ⟨rfl, rfl⟩ := P1.none HP.out; have c0 : w1.cell? ⟨w.heap.size, 0, none⟩ = some (.int .i64 n) := (by rw [B1.cell (p := ⟨w.heap.size, 0, none⟩) (by simp)]; simp [go_sem]); have c1 : w1.cell? ⟨w.heap.size, 1, none⟩ = some (.int .i64 d) := (by rw [B1.cell (p := ⟨w.heap.size, 1, none⟩) (by simp)]; simp [go_sem]); replace B1 := hide (bto (bplus (Below.refl _ _) _) B1))
      | (go_at_call 5; refine (C2.out _ B1.out).mono ?_; rintro e w2 ⟨s2, x2, rfl, P2, B2⟩; obtain ⟨rfl, rfl⟩ := P2.none HP.out; clear c0 c1; replace B1 := hide (bto B1.out B2)))
    go_ret
    exact ⟨rfl, B1.out⟩
  | some t =>
    have HP := hide hp
    have DV := hide (decV_some (pl_back n1 n2 d2 hp))
    have TL := hide (plT_len n1 n2 d2 hp)
    clear hp
    go_enter Tryd.func3, Tryd.ntmps3
    go_wp2_with (first
      | (go_at_call_of 4 (Value.agg #[.int .i64 3, .int .i64 2]); have BX := hide (bplus B1.out (.cells #[.int .i64 n, .int .i64 d] 23)); refine (C3.out _ BX.out).mono ?_; rintro e w3 ⟨s3, x3, rfl, P3, B3⟩; obtain ⟨rfl, h3⟩ := P3.some plT_32; obtain rfl : s3 = ⟨#[49, 46, 53]⟩ := bl_inj h3; clear h3; replace B1 := hide (bto BX.out B3))
      | (go_at_call 4; refine (C1.out _ (bplus (Below.refl _ _) _)).mono ?_; rintro e w1 ⟨s1, x1, rfl, P1, B1⟩; obtain ⟨rfl, h1⟩ := P1.some HP.out; replace h1 := hide h1; have c0 : w1.cell? ⟨w.heap.size, 0, none⟩ = some (.int .i64 n) := (by rw [B1.cell (p := ⟨w.heap.size, 0, none⟩) (by simp)]; simp [go_sem]); have c1 : w1.cell? ⟨w.heap.size, 1, none⟩ = some (.int .i64 d) := (by rw [B1.cell (p := ⟨w.heap.size, 1, none⟩) (by simp)]; simp [go_sem]); have z1 : w.heap.size < w1.heap.size := (by have := B1.size; simp at this; omega); replace B1 := hide (bto (bplus (Below.refl _ _) _) B1))
      | (go_at_call 5; refine (C2.out _ B1.out).mono ?_; rintro e w2 ⟨s2, x2, rfl, P2, B2⟩; obtain ⟨rfl, h2⟩ := P2.some HP.out; obtain rfl : s2 = s1 := bl_inj (h2.trans h1.out.symm); clear h2; replace c0 := (B2.cell (p := ⟨w.heap.size, 0, none⟩) z1).trans c0; replace c1 := (B2.cell (p := ⟨w.heap.size, 1, none⟩) z1).trans c1; have z2 : w.heap.size < w2.heap.size := (by have := B2.size; omega); replace B1 := hide (bto B1.out B2))
      | (go_at_call 6; refine (decP_any s2 _ (by rw [← bl_len, h1.out]; have := TL.out; omega)).mono ?_; rintro e w4 ⟨rfl, B4⟩; rw [h1.out, DV.out]; unfold ratV; replace c0 := (B4.cell (p := ⟨w.heap.size, 0, none⟩) z2).trans c0; replace c1 := (B4.cell (p := ⟨w.heap.size, 1, none⟩) z2).trans c1; have z4 : w.heap.size < w4.heap.size := (by have := B4.size; omega); replace B1 := hide (bto B1.out B4)))
    go_ret
    exact ⟨rfl, B1.out⟩
end Go.Proofs.YtmijgeppjpafaaaDoor
