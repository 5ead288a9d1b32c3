/-
  Fractions as texts: by the program and by the reference.
-/
import Derived.Test.YtakkblmcmlkjmaaDoorTxtA
import Derived.Test.YtakkblmcmlkjmaaDoorShelfT
import Derived.Lib.SmallJoins
set_option linter.unusedVariables false
set_option linter.unusedSimpArgs false
namespace Go.Proofs.YtakkblmcmlkjmaaDoor
open Go.RowKit Go.Shelf

def TabT (w : World) : Prop := Lib.TabIs Tryd.prog w "internal/strconv.uint64pow10" .u64 Lib.pow10Tab
theorem TabT.below {w w' : World} (h : TabT w) (hb : Below w.heap.size w w') : TabT w' := Go.Joins.tab_stays (g := 0) (by kernel_rfl) h hb (Nat.le_refl _)
def Errs (w : World) : Prop := (∃ te pe, w.cell? ⟨2, 0, none⟩ = some (.iface te pe)) ∧ (∃ te pe, w.cell? ⟨3, 0, none⟩ = some (.iface te pe))
theorem Errs.below {w w' : World} (h : Errs w) (hb : Below w.heap.size w w') : Errs w' := by
  obtain ⟨⟨a, b, h1⟩, ⟨c, d, h2⟩⟩ := h
  exact ⟨⟨a, b, (hb.cell (p := ⟨_, 0, none⟩) (Lib.lt_of_cell h1)).trans h1⟩, ⟨c, d, (hb.cell (p := ⟨_, 0, none⟩) (Lib.lt_of_cell h2)).trans h2⟩⟩
/-! ### Numbers as texts -/
theorem fmtI_any (n : Int) (w : World) (h0 : -9223372036854775808 ≤ n) (h1 : n ≤ 9223372036854775807) (hT : TabT w) :
    Calls Tryd.prog 10 #[.int .i64 n, .int .i64 10] w fun e w' => e = .returned (.string ⟨(Lib.itoa n).toArray⟩) ∧ Below w.heap.size w w' :=
  (sh_strconv_FormatInt_10 n h0 h1 w hT).mono fun e w' ⟨h, k, os, hw⟩ => ⟨h, by rw [hw]; exact ⟨rfl, rfl, rfl, by show w.heap.size ≤ (w.heap ++ os).size; rw [Array.size_append]; omega, fun j hj => by show (w.heap ++ os)[j]? = w.heap[j]?; exact Array.getElem?_append_left hj⟩⟩
/-- A fraction's text. -/
def tx (n d : Int) : List UInt8 := if isV n d = true then txV n d else ovr
def txB (n d : Int) : ByteArray := ⟨(tx n d).toArray⟩
theorem itoa_len (n : Int) (h0 : -9223372036854775808 ≤ n) (h1 : n ≤ 9223372036854775807) : (Lib.itoa n).length ≤ 20 := by
  unfold Lib.itoa
  have e : (10 : Nat) ^ (18 + 1) = 10000000000000000000 := by decide
  split
  · rw [List.length_cons, Lib.decDigits_length]
    have := nd_le 18 n.natAbs (by omega)
    omega
  · rw [Lib.decDigits_length]
    have := nd_le 18 n.toNat (by omega)
    omega
theorem app_slash (a b : List UInt8) : (⟨a.toArray⟩ : ByteArray) ++ ⟨#[47]⟩ ++ ⟨b.toArray⟩ = ⟨(a ++ 47 :: b).toArray⟩ := by
  apply ByteArray.ext
  simp
theorem app_slash2 (a b : List UInt8) : (⟨a.toArray⟩ : ByteArray) ++ (⟨#[47]⟩ ++ ⟨b.toArray⟩) = ⟨(a ++ 47 :: b).toArray⟩ := by
  apply ByteArray.ext
  simp
set_option maxRecDepth 100000 in
set_option maxHeartbeats 1000000 in
theorem textP_any (n d : Int) (w : World) (n1 : -9223372036854775808 ≤ n) (n2 : n ≤ 9223372036854775807) (d1 : -9223372036854775808 ≤ d) (d2 : d ≤ 9223372036854775807) (hT : TabT w) :
    Calls Tryd.prog 4 #[.agg #[.int .i64 n, .int .i64 d]] w fun e w' => e = .returned (.string (txB n d)) ∧ Below w.heap.size w w' := by
  have B0 := hide (bplus (Below.refl w.heap.size w) (.cells #[.int .i64 n, .int .i64 d] 23))
  have CV := hide (isValue_any n d (w.alloc (.cells #[.int .i64 n, .int .i64 d] 23)) n1 n2 d1 d2)
  have HT := hide (fun (W : World) (h : Below w.heap.size w W) => hT.below h)
  have L1 := itoa_len n n1 n2
  have L2 := itoa_len d d1 d2
  clear hT
  cases hv : isV n d with
  | false =>
    have E := hide (show txB n d = ⟨#[111, 118, 101, 114]⟩ by unfold txB tx; rw [hv]; rfl)
    replace hv := hide hv
    go_enter Tryd.func4, Tryd.ntmps4
    go_wp2_with (go_at_call 9; refine CV.out.mono ?_; rintro e w1 ⟨rfl, U1⟩; rw [hv.out]; replace U1 := hide U1)
    go_ret
    exact ⟨by rw [E.out]; rfl, bto B0.out U1.out.1⟩
  | true =>
    have hd0 := (isV_pos hv).1
    by_cases h1 : d = 1
    · have E := hide (show txB n d = ⟨(Lib.itoa n).toArray⟩ by unfold txB tx txV; rw [hv, if_pos rfl, if_pos h1])
      have e1 : (d == 1) = true := by simpa using h1
      replace hv := hide hv
      clear h1
      go_enter Tryd.func4, Tryd.ntmps4
      go_wp2_with (first
        | (go_at_call 9; refine CV.out.mono ?_; rintro e w1 ⟨rfl, U1⟩; rw [hv.out]; have z1 : w.heap.size < w1.heap.size := (by have := U1.size; simp at this; omega); have m0 : w1.cell? ⟨w.heap.size, 0, none⟩ = some (.int .i64 n) := (by rw [U1.cell _ _ (by simp)]; simp [go_sem]); have m1 : w1.cell? ⟨w.heap.size, 1, none⟩ = some (.int .i64 d) := (by rw [U1.cell _ _ (by simp)]; simp [go_sem]); replace U1 := hide (bto B0.out U1.1))
        | (go_at_call 10; refine (fmtI_any n _ n1 n2 (HT.out _ U1.out)).mono ?_; rintro e w2 ⟨rfl, B2⟩; replace m0 := (B2.cell (p := ⟨w.heap.size, 0, none⟩) z1).trans m0; replace m1 := (B2.cell (p := ⟨w.heap.size, 1, none⟩) z1).trans m1; replace U1 := hide (bto U1.out B2)))
      go_ret
      exact ⟨by rw [E.out]; rfl, U1.out⟩
    · have E := hide (show txB n d = ⟨(Lib.itoa n ++ 47 :: Lib.itoa d).toArray⟩ by unfold txB tx txV; rw [hv, if_pos rfl, if_neg h1])
      have e1 : (d == 1) = false := by simpa using h1
      have z1 : (⟨(Lib.itoa n).toArray⟩ : ByteArray).size ≤ 20 := by show (Lib.itoa n).toArray.size ≤ 20; simpa using L1
      have z2 : (⟨(Lib.itoa d).toArray⟩ : ByteArray).size ≤ 20 := by show (Lib.itoa d).toArray.size ≤ 20; simpa using L2
      have AP := hide (app_slash (Lib.itoa n) (Lib.itoa d))
      replace hv := hide hv
      clear h1 L1 L2
      obtain ⟨sn, hsn⟩ : ∃ sn, (⟨(Lib.itoa n).toArray⟩ : ByteArray) = sn := ⟨_, rfl⟩
      obtain ⟨sd, hsd⟩ : ∃ sd, (⟨(Lib.itoa d).toArray⟩ : ByteArray) = sd := ⟨_, rfl⟩
      rw [hsn] at z1 AP
      rw [hsd] at z2 AP
      replace hsn := hide hsn
      replace hsd := hide hsd
      go_enter Tryd.func4, Tryd.ntmps4
      go_wp2_with (first
        | (go_at_call 9; refine CV.out.mono ?_; rintro e w1 ⟨rfl, U1⟩; rw [hv.out]; have z1 : w.heap.size < w1.heap.size := (by have := U1.size; simp at this; omega); have m0 : w1.cell? ⟨w.heap.size, 0, none⟩ = some (.int .i64 n) := (by rw [U1.cell _ _ (by simp)]; simp [go_sem]); have m1 : w1.cell? ⟨w.heap.size, 1, none⟩ = some (.int .i64 d) := (by rw [U1.cell _ _ (by simp)]; simp [go_sem]); replace U1 := hide (bto B0.out U1.1))
        | (go_at_call_of 10 (Value.int IntKind.i64 n); refine (fmtI_any n _ n1 n2 (HT.out _ U1.out)).mono ?_; rintro e w2 ⟨rfl, B2⟩; rw [hsn.out]; replace m0 := (B2.cell (p := ⟨w.heap.size, 0, none⟩) z1).trans m0; replace m1 := (B2.cell (p := ⟨w.heap.size, 1, none⟩) z1).trans m1; replace U1 := hide (bto U1.out B2))
        | (go_at_call 10; refine (fmtI_any d _ d1 d2 (HT.out _ U1.out)).mono ?_; rintro e w3 ⟨rfl, B3⟩; rw [hsd.out]; replace U1 := hide (bto U1.out B3)))
      go_ret
      exact ⟨by rw [E.out, ← AP.out]; rfl, U1.out⟩
end Go.Proofs.YtakkblmcmlkjmaaDoor
