/-
  The writer of texts: its methods, as lists of numbers; plain: what is written.
-/
import Derived.Test.YticboondiojofaaGreatDoorSpmD
import Derived.Test.YticboondiojofaaGreatDoorShelfW
import Derived.Lib.OthersKept
import Derived.Lib.DecodeN
set_option linter.unusedVariables false
set_option linter.unusedSimpArgs false
namespace Go.Proofs.YticboondiojofaaGreatDoor
open Go.RowKit Go.Shelf

def cI8 (xs : List Int) : List Value := xs.map fun x => Value.int .u8 x
/-- A builder that holds these bytes. -/
def Bd (B b : Nat) (xs : List Int) (w : World) : Prop := Lib.IsBuilderF 50 5 B b (cI8 xs) w
/-- What a writer leaves. -/
structure PB (B b : Nat) (xs : List Int) (w w' : World) : Prop where
  bd : Bd B b xs w'
  bel : Below B w w'
  oth : Lib.OthersKept 5 (some b) w w'
theorem PB.trans {B b : Nat} {xs ys : List Int} {w w1 w2 : World} (h : PB B b xs w w1) (k : PB B b ys w1 w2) : PB B b ys w w2 := ⟨k.bd, h.bel.trans k.bel, h.oth.trans k.oth⟩
theorem PB.size {B b : Nat} {xs : List Int} {w w1 : World} (h : PB B b xs w w1) (hB : B ≤ w.heap.size) : B ≤ w1.heap.size := Nat.le_trans hB h.bel.size
theorem cI8_app (xs ys : List Int) : cI8 (xs ++ ys) = cI8 xs ++ cI8 ys := by unfold cI8; rw [List.map_append]
theorem cI8_len (xs : List Int) : (cI8 xs).length = xs.length := by unfold cI8; rw [List.length_map]
theorem wbyte_any (B b : Nat) (xs : List Int) (c : Int) (w : World) (h : Bd B b xs w) (hl : xs.length + 1 ≤ 140737488355328) (hB : B ≤ w.heap.size) :
    Calls Tryz.prog 51 #[.pointer (some ⟨b, 0, none⟩), .int .u8 c] w fun e w' => e = .returned .nilIface ∧ PB B b (xs ++ [c]) w w' :=
  (Any.Builder_WriteByte_k wr_lays167 wr_extra B b (cI8 xs) c w h (by rw [cI8_len]; exact hl) hB).mono fun e w' ⟨h1, h2, h3, h4⟩ => ⟨h1, ⟨by unfold Bd; rw [cI8_app]; exact Or.inr h2, h3, h4⟩⟩
theorem strCells_bl (s : ByteArray) : Lib.strCells s = cI8 (bl s) := by
  unfold Lib.strCells cI8 bl
  simp [List.map_map, Function.comp_def]
theorem wstr_any (B b : Nat) (xs : List Int) (s : ByteArray) (w : World) (h : Bd B b xs w) (hl : xs.length + s.size ≤ 140737488355328) (hB : B ≤ w.heap.size) :
    Calls Tryz.prog 27 #[.pointer (some ⟨b, 0, none⟩), .string s] w fun e w' => e = .returned (.tuple #[.int .i64 s.size, .nilIface]) ∧ PB B b (xs ++ bl s) w w' :=
  (Any.Builder_WriteString_k wr_lays166 wr_extra B b (cI8 xs) s w h (by rw [cI8_len]; exact hl) hB).mono fun e w' ⟨h1, h2, h3, h4⟩ => ⟨h1, ⟨by unfold Bd; rw [cI8_app, ← strCells_bl]; exact Or.inr h2, h3, h4⟩⟩
theorem rune_enc {c : Int} (h : isC c = true) : Lib.runeCells c = cI8 (enc1 c) := by
  rw [isC_iff] at h
  unfold Lib.runeCells cI8
  congr 1
  unfold enc1
  split
  · exact Lib.encodeRuneZ_one h.1 (by omega)
  split
  · exact Lib.encodeRuneZ_two (by omega) (by omega)
  split
  · exact Lib.encodeRuneZ_three (by omega)
  · unfold Lib.encodeRuneZ
    rw [if_neg (by omega), if_neg (by omega), if_neg (by omega), if_pos (by omega)]
theorem wrune_any (B b : Nat) (xs : List Int) (c : Int) (w : World) (hc : isC c = true) (h : Bd B b xs w) (hl : xs.length + 4 ≤ 140737488355328) (hB : B ≤ w.heap.size) :
    Calls Tryz.prog 82 #[.pointer (some ⟨b, 0, none⟩), .int .i32 c] w fun e w' => e = .returned (.tuple #[.int .i64 (enc1 c).length, .nilIface]) ∧ PB B b (xs ++ enc1 c) w w' := by
  have hi := (isC_iff c).1 hc
  refine (Any.Builder_WriteRune_k wr_lays168 wr_extra B b (cI8 xs) c (by omega) (by omega) w h (by rw [cI8_len]; exact hl) hB).mono fun e w' ⟨h1, h2, h3, h4⟩ => ⟨?_, ⟨by unfold Bd; rw [cI8_app, ← rune_enc hc]; exact Or.inr h2, h3, h4⟩⟩
  rw [h1, rune_enc hc, cI8_len]
theorem bstr_any (B b : Nat) (xs : List Int) (w : World) (hb : By xs) (h : Bd B b xs w) (hB : B ≤ w.heap.size) :
    Calls Tryz.prog 29 #[.pointer (some ⟨b, 0, none⟩)] w fun e w' => ∃ s, e = .returned (.string s) ∧ bl s = xs ∧ Below B w w' := by
  have e : cI8 xs = Lib.byteCells (xs.map fun x => UInt8.ofNat x.toNat) := by
    unfold cI8 Lib.byteCells
    rw [List.map_map]
    refine List.map_congr_left fun x hx => ?_
    have := hb x hx
    simp only [Function.comp_def]
    congr 1
    simp
    omega
  have h' := h
  unfold Bd at h'
  rw [e] at h'
  refine (Any.Builder_String_any_k wr_lays169 wr_extra B b _ w h' hB).mono fun e' w' ⟨h1, h2, h3, h4⟩ => ⟨_, h1, ?_, h3⟩
  unfold bl
  rw [List.toList_toArray, List.map_map]
  conv => rhs; rw [← List.map_id xs]
  refine List.map_congr_left fun x hx => ?_
  have := hb x hx
  simp only [Function.comp_def, id]
  simp
  omega
end Go.Proofs.YticboondiojofaaGreatDoor
