/-
  Tokens of bytes, by the program; tokens that every program must know.
-/
import Derived.Test.YtckefmhleklciaaGreatDoorTokZa
import Derived.Test.YtckefmhleklciaaGreatDoorTokPd
import Derived.Test.YtckefmhleklciaaGreatDoorUtfO
import Derived.Lib.SlBytesConst
import Derived.Outline
set_option linter.unusedVariables false
set_option linter.unusedSimpArgs false
namespace Go.Proofs.YtckefmhleklciaaGreatDoor
open Go.RowKit

theorem lin_len : ∀ (a : List Int) (l : Int), (lin l a).length ≤ a.length := by
  intro a
  induction a with
  | nil => intro l; simp [lin]
  | cons x r ih =>
    intro l
    have := ih x
    simp only [lin, List.length_append, List.length_cons]
    split <;> simp <;> omega
theorem dcd_len (bs : List Int) : (dcd bs).length ≤ bs.length := by
  unfold dcd
  have h1 := lin_len (raw (cut bs)) 0
  have h2 := (raw_le (cut bs)).1
  have h3 := cutm_len bs
  omega
set_option maxRecDepth 100000 in
set_option maxHeartbeats 1000000 in
theorem tbytesP_any (bs : List Int) (v : Value) (w : World) (hb : By bs) (hv : Nums .u8 w v bs) (hl : bs.length ≤ 250000000) :
    Calls Tryz.prog 12 #[v] w fun e w' => ∃ u, e = .returned u ∧ Toks w' u (toks (chs (dcd bs))) ∧ Below w.heap.size w w' := by
  have hd := dcd_len bs
  have L := hide (show (dcd bs).length ≤ 250000000 by omega)
  have HV := hide hv
  have HB := hide hb
  have H9 := hide (show bs.length ≤ 1099511627776 by omega)
  clear hv hb hl hd
  go_enter Tryz.func12, Tryz.ntmps12
  go_wp2_with (first
    | (go_at_call 20; refine (dcdP_any bs v _ HB.out HV.out H9.out).mono ?_; rintro e w1 ⟨u, rfl, N, B1⟩; replace N := hide N; replace B1 := hide B1)
    | (go_at_call 9; refine (toksP_any (dcd bs) _ _ N.out L.out).mono ?_; rintro e w2 ⟨u2, rfl, N2, B2⟩; replace N2 := hide N2; replace B1 := hide (bto B1.out B2); clear B2))
  go_ret
  exact ⟨_, rfl, N2.out, B1.out⟩
theorem nam_a : nam [] [97, 58, 49] = ([97], [58, 49]) := by
  rw [nam_let (by decide)]
  show nam [97] [58, 49] = _
  rw [nam_end (by decide) (by decide)]
theorem word_a : word [97, 58, 49] = (tkt 1 [97], [58, 49]) := by
  unfold word
  rw [nam_a, if_pos (by decide)]
theorem tokn_1 : tokn [49] = (⟨10, [], 1, 1, true, false⟩, []) := by
  have d : dcT (enc (nmT [49])) = ((1, 1), true) := by decide
  show numb [49] = _
  unfold numb
  rw [d]
  rfl
theorem toks_a : toks (chs (dcd [97, 58, 49])) = [tkt 1 [97], tk 16, ⟨10, [], 1, 1, true, false⟩] := by
  have e : chs (dcd [97, 58, 49]) = [97, 58, 49] := by
    rw [dcd_asc (by intro c hc; simp at hc; omega)]
    decide
  rw [e]
  have r1 : rmk [97, 58, 49] = [97, 58, 49] := rmk_end (by decide)
  have t1 : tokn [97, 58, 49] = (tkt 1 [97], [58, 49]) := (show tokn [97, 58, 49] = word [97, 58, 49] from rfl).trans word_a
  have r2 : rmk [58, 49] = [58, 49] := rmk_end (by decide)
  have t2 : tokn [58, 49] = (tk 16, [49]) := rfl
  have r3 : rmk [49] = [49] := rmk_end (by decide)
  have r4 : rmk [] = [] := rmk_end (by decide)
  rw [toks_go (by rw [r1]; decide), r1, t1]
  show _ :: toks [58, 49] = _
  rw [toks_go (by rw [r2]; decide), r2, t2]
  show _ :: _ :: toks [49] = _
  rw [toks_go (by rw [r3]; decide), r3, tokn_1]
  show _ :: _ :: _ :: toks [] = _
  rw [toks_end (by rw [r4]; decide)]
theorem Nums.litq {k : IntKind} (w : World) (t : TypeId) (bs : List Int) (n : Nat) (q : Nat × Nat) (hn : n = bs.length) (h0 : 0 < n) (hl : n ≤ 1000) :
    Nums k (w.alloc (.cells (bs.map (Value.int k)).toArray t q)) (.slice (some ⟨w.heap.size, 0, none⟩) n n) bs :=
  .inr ⟨w.heap.size, 0, n, n, rfl, hn, h0, by simp, Nat.le_refl _, by omega, by omega, fun i hi => by
    rw [cell_of_row _ w.heap.size (0 + i) _ t q (heap_alloc_new w _)]
    simp [gt, List.getD_eq_getElem?_getD, List.getElem?_eq_getElem (show i < bs.length by omega)]⟩
theorem By.a : By [97, 58, 49] := by intro x hx; simp at hx; omega
set_option maxRecDepth 100000 in
set_option maxHeartbeats 1000000 in
theorem awakeT_any (w : World) : Calls Tryz.prog 11 #[] w fun e w' => e = .returned (.bool true) ∧ Below w.heap.size w w' := by
  have H2 := hide (show Nums .u8 (w.alloc (.cells #[.int .u8 97, .int .u8 58, .int .u8 49] 5 (3, 4))) (.slice (some ⟨w.heap.size, 0, none⟩) 3 3) [97, 58, 49] from Nums.litq w 5 [97, 58, 49] 3 (3, 4) rfl (by omega) (by omega))
  have kc := fun (w : World) (C : Array Value) (n c : Nat) => Lib.run_convert_bytes_const (P := Tryz.prog) w 28 5 C n c Tryz.underlying28 Tryz.underlying5
  go_enter Tryz.func11, Tryz.ntmps11
  go_wp2_with (go_at_call 12; refine (tbytesP_any [97, 58, 49] _ _ By.a H2.out (by decide)).mono ?_; rintro e w1 ⟨u, rfl, N, B⟩; rw [toks_a] at N; replace B := hide (bto (bplus (Below.refl _ _) _) B); rcases N with ⟨_, _, _, hN⟩ | ⟨b, o, n, c, rfl, hn, _, hbw, hc, _, hc9, hcell⟩; (exact absurd hN (by simp)); obtain rfl : n = 3 := hn; have a0 := hcell 0 _ rfl 0 (by decide); have a1 := hcell 0 _ rfl 1 (by decide); have a2 := hcell 0 _ rfl 2 (by decide); have a3 := hcell 0 _ rfl 3 (by decide); have a4 := hcell 0 _ rfl 4 (by decide); have a5 := hcell 0 _ rfl 5 (by decide); have b0 := hcell 1 _ rfl 0 (by decide); have b1 := hcell 1 _ rfl 1 (by decide); have b2 := hcell 1 _ rfl 2 (by decide); have b3 := hcell 1 _ rfl 3 (by decide); have b4 := hcell 1 _ rfl 4 (by decide); have b5 := hcell 1 _ rfl 5 (by decide); have c0 := hcell 2 _ rfl 0 (by decide); have c1 := hcell 2 _ rfl 1 (by decide); have c2 := hcell 2 _ rfl 2 (by decide); have c3 := hcell 2 _ rfl 3 (by decide); have c4 := hcell 2 _ rfl 4 (by decide); have c5 := hcell 2 _ rfl 5 (by decide); simp only [Nat.zero_mul, Nat.add_zero, Nat.one_mul, Nat.add_assoc, Nat.reduceMul, Nat.reduceAdd] at a0 a1 a2 a3 a4 a5 b0 b1 b2 b3 b4 b5 c0 c1 c2 c3 c4 c5; replace a0 : _ = some (Value.int .i64 1) := a0; replace a1 : _ = some (Value.string ⟨#[97]⟩) := a1; replace a2 : _ = some (Value.int .i64 0) := a2; replace a3 : _ = some (Value.int .i64 0) := a3; replace a4 : _ = some (Value.bool false) := a4; replace a5 : _ = some (Value.bool false) := a5; replace b0 : _ = some (Value.int .i64 16) := b0; replace b1 : _ = some (Value.string ⟨#[]⟩) := b1; replace b2 : _ = some (Value.int .i64 0) := b2; replace b3 : _ = some (Value.int .i64 0) := b3; replace b4 : _ = some (Value.bool false) := b4; replace b5 : _ = some (Value.bool false) := b5; replace c0 : _ = some (Value.int .i64 10) := c0; replace c1 : _ = some (Value.string ⟨#[]⟩) := c1; replace c2 : _ = some (Value.int .i64 1) := c2; replace c3 : _ = some (Value.int .i64 1) := c3; replace c4 : _ = some (Value.bool true) := c4; replace c5 : _ = some (Value.bool false) := c5; clear hcell)
  go_ret
  exact ⟨rfl, B.out⟩
end Go.Proofs.YtckefmhleklciaaGreatDoor
