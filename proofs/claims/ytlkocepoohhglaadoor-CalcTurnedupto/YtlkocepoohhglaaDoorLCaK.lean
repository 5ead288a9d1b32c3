/-
  An expression that every program must know, read: by the program.
-/
import Derived.Test.YtlkocepoohhglaaDoorLCaJ
import Derived.Test.YtlkocepoohhglaaDoorA25
set_option linter.unusedVariables false
set_option linter.unusedSimpArgs false
namespace Go.Proofs.YtlkocepoohhglaaDoor.cc
open Go.RowKit

def tFn : VT := .mk ⟨2, ⟨#[99, 97, 108, 99]⟩, 0, 0, false, false⟩ [tD1, tSp, tPl, tSp, tD2]
theorem sp_f : spL [tFn] = [tFn] := by rfl
set_option maxRecDepth 100000 in
set_option maxHeartbeats 4000000 in
theorem alone_two (w : World) (v : Value) (hv : VM w v [tFn]) (hU : Uni w) :
    Calls Tryd.prog 30 #[v] w (TwoB w) := by
  obtain ⟨a, c, rfl, hl9⟩ := hv.shape
  have nR := (show (w.alloc z5).heap.size = w.heap.size + 1 by simp)
  have PR := hide (more_blk (heap_alloc_new w z5) (.cells #[.slice a [tFn].length c] 74))
  have HC := hide (show Cu w ((w.alloc z5).alloc (.cells #[.slice a [tFn].length c] 74)) (w.heap.size + 1) [tFn] from ⟨_, by rw [← nR]; exact heap_alloc_new (w.alloc z5) _, hv, by omega, bplus (bplus (Below.refl _ _) _) _⟩)
  have HB := hide (bplus (bplus (Below.refl w.heap.size w) z5) (.cells #[.slice a [tFn].length c] 74))
  have S1 := hide (fun (w1 : World) (h1 : Cu w w1 (w.heap.size + 1) [tFn]) => spacesC_any w w1 (w.heap.size + 1) _ h1)
  rw [sp_f] at S1
  have T1 := hide (fun (w1 : World) (h1 : Cu w w1 (w.heap.size + 1) [tFn]) => takeC_cons w w1 (w.heap.size + 1) ⟨2, ⟨#[99, 97, 108, 99]⟩, 0, 0, false, false⟩ [tD1, tSp, tPl, tSp, tD2] [] h1)
  simp only at T1
  have S2 := hide (fun (w1 : World) (h1 : Cu w w1 (w.heap.size + 1) []) => spacesC_any w w1 (w.heap.size + 1) _ h1)
  have D0 := hide (fun (w1 : World) (h1 : Cu w w1 (w.heap.size + 1) []) => doneC_any w w1 (w.heap.size + 1) _ h1)
  have C1 := hide (fun (w1 : World) (B : Below w.heap.size w w1) (a : Option Addr) (m c : Nat) (hv : VM w (.slice a m c) [tD1, tSp, tPl, tSp, tD2]) => expr_two w1 0 0 false false a m c (hv.low B) (hU.below B))
  clear hv hU nR
  unfold z5 at PR HC HB
  generalize [tFn].length = vn at *
  have ng : w.heap.size ≠ w.heap.size + 1 := by omega
  go_enter Tryd.func30, Tryd.ntmps30
  go_wp2_with (first
    | (go_at_call 43; refine (S1.out _ HC.out).mono ?_; rintro e w1 ⟨rfl, D1, M1⟩; replace PR := hide (keepM PR.out ng M1); replace HC := hide D1; replace HB := hide (low_of HB.out M1 (by omega)); clear D1 M1 S1)
    | (go_at_call 44; refine (T1.out _ HC.out).mono ?_; rintro e w2 ⟨ka, kn, kc, rfl, vk, D1, M1⟩; have VK := hide vk; replace PR := hide (more_blk (keepM PR.out ng M1) (.cells #[.int .i64 2, .string ⟨#[99, 97, 108, 99]⟩, .int .i64 0, .int .i64 0, .bool false, .bool false, .slice ka kn kc] 68)); have PV := hide (heap_alloc_new w2 (.cells #[.int .i64 2, .string ⟨#[99, 97, 108, 99]⟩, .int .i64 0, .int .i64 0, .bool false, .bool false, .slice ka kn kc] 68)); have nv : w2.heap.size ≠ w.heap.size + 1 := Nat.ne_of_gt D1.lt; replace HC := hide (D1.low (bplus (Below.refl _ _) (.cells #[.int .i64 2, .string ⟨#[99, 97, 108, 99]⟩, .int .i64 0, .int .i64 0, .bool false, .bool false, .slice ka kn kc] 68))); replace HB := hide (bplus (low_of HB.out M1 (by omega)) (.cells #[.int .i64 2, .string ⟨#[99, 97, 108, 99]⟩, .int .i64 0, .int .i64 0, .bool false, .bool false, .slice ka kn kc] 68)); clear D1 M1 T1 vk)
    | (go_at_call 43; refine (S2.out _ HC.out).mono ?_; rintro e w3 ⟨rfl, D1, M1⟩; replace PR := hide (keepM PR.out ng M1); replace PV := hide (keepM PV.out nv M1); replace HC := hide D1; replace HB := hide (low_of HB.out M1 (by omega)); obtain ⟨y0, y1, y2, y3, y4, y5, y6⟩ := bxk_7 PV.out; clear D1 M1 S2)
    | (go_at_call 45; refine (D0.out _ HC.out).mono ?_; rintro e w4 ⟨rfl, rfl⟩; clear D0)
    | (go_at_call 46; refine (C1.out _ HB.out _ _ _ VK.out).mono ?_; rintro e w5 ⟨⟨gp, cp, rfl, c8, hgp⟩, B1⟩; have hgp2 := Nat.lt_of_lt_of_le (Array.getElem?_eq_some_iff.1 PR.out).1 hgp; replace PR := hide (far_blk PR.out B1); replace HB := hide (bto HB.out B1); obtain ⟨r0, r1, r2, r3, r4⟩ := bxk_5c PR.out; have fz := fz_of PR.out; have K8 := hide c8; clear B1 C1 c8))
  refine ret5 (v0 := .int .i64 2) (v1 := .int .i64 0) (v2 := .int .i64 0) (v3 := .int .i64 0) (v4 := .slice (some ⟨gp, 0, none⟩) 2 cp) (v := .bool true) Tryd.results30 rfl rfl PR.out rfl ⟨⟨gp, cp, rfl, ?_, by omega⟩, set5_low HB.out (Nat.le_refl _) _ _ _ _ _⟩
  rw [set5_cell (k := gp) (by omega) (World.block_lt_of_cell? _ _ K8.out)]
  exact K8.out
set_option maxRecDepth 100000 in
set_option maxHeartbeats 4000000 in
theorem parse_two (w : World) (v : Value) (hv : VM w v [tFn]) (hU : Uni w) :
    Calls Tryd.prog 20 #[v] w fun e w' => ∃ gp cp, e = .returned (.tuple #[.agg #[.int .i64 2, .int .i64 0, .int .i64 0, .int .i64 0, .slice (some ⟨gp, 0, none⟩) 2 cp], .int .i64 0]) ∧ w'.cell? ⟨gp, 8, none⟩ = some (.int .i64 2) ∧ Below w.heap.size w w' := by
  obtain ⟨a, c, rfl, hl9⟩ := hv.shape
  have PR := hide (heap_alloc_new w z5)
  have HB := hide (bplus (Below.refl w.heap.size w) z5)
  have C1 := hide (may5_any _ _ _ (hv.low HB.out))
  rw [show myL [tFn] 64 = true by decide] at C1
  have C2 := hide (fun (w1 : World) (B : Below w.heap.size w w1) => alone_two w1 _ (hv.low B) (hU.below B))
  clear hv hU
  unfold z5 at PR HB C1
  generalize [tFn].length = vn at *
  go_enter Tryd.func20, Tryd.ntmps20
  go_wp2_with (first
    | (go_at_call 29; refine C1.out.mono ?_; rintro e w1 ⟨rfl, B1⟩; replace PR := hide (far_blk PR.out B1); replace HB := hide (bto HB.out B1); clear B1 C1)
    | (go_at_call 30; refine (C2.out _ HB.out).mono ?_; rintro e w2 ⟨⟨gp, cp, rfl, c8, hgp⟩, B1⟩; have hgp2 := Nat.lt_of_lt_of_le (Array.getElem?_eq_some_iff.1 PR.out).1 hgp; replace PR := hide (more_blk (far_blk PR.out B1) (.cells #[.int .i64 2, .int .i64 0, .int .i64 0, .int .i64 0, .slice (some ⟨gp, 0, none⟩) 2 cp] 26)); replace HB := hide (bplus (bto HB.out B1) (.cells #[.int .i64 2, .int .i64 0, .int .i64 0, .int .i64 0, .slice (some ⟨gp, 0, none⟩) 2 cp] 26)); have K8 := hide (cell_low c8 (bplus (Below.refl _ _) (.cells #[.int .i64 2, .int .i64 0, .int .i64 0, .int .i64 0, .slice (some ⟨gp, 0, none⟩) 2 cp] 26))); have PF := hide (heap_alloc_new w2 (.cells #[.int .i64 2, .int .i64 0, .int .i64 0, .int .i64 0, .slice (some ⟨gp, 0, none⟩) 2 cp] 26)); obtain ⟨r0, r1, r2, r3, r4⟩ := bxk_5c PR.out; have fz := fz_of PR.out; clear B1 C2 c8))
  refine ret5 (v0 := .int .i64 2) (v1 := .int .i64 0) (v2 := .int .i64 0) (v3 := .int .i64 0) (v4 := .slice (some ⟨gp, 0, none⟩) 2 cp) (v := .int .i64 0) Tryd.results20 rfl rfl PR.out rfl ⟨gp, cp, rfl, ?_, set5_low HB.out (Nat.le_refl _) _ _ _ _ _⟩
  rw [set5_cell (k := gp) (by omega) (World.block_lt_of_cell? _ _ K8.out)]
  exact K8.out
set_option maxRecDepth 100000 in
set_option maxHeartbeats 1000000 in
theorem of11_any (s : ByteArray) (w : World) (hK : Kinds w) (hl : s.size ≤ 250000000) :
    Calls Tryd.prog 21 #[.string s] w fun e w' => ∃ u, e = .returned u ∧ VM w' u (ofV (bl s)) ∧ Below w.heap.size w w' := by
  have hlen : (bl s).length = s.size := bl_len s
  have hd := dcd_len (bl s)
  have L := hide (show ((toks (chs (dcd (bl s)))).map tsK).length ≤ 250000000 by rw [List.length_map]; have := toks_le _ (chs (dcd (bl s))) (Nat.le_refl _); rw [chs_len] at this; omega)
  obtain ⟨v, w1, hr, N, B⟩ := conv_any s w (by omega)
  have C := hide (tbytesR_any (bl s) v w1 (hK.below B) (bl_by s) N (by omega))
  have B1 := hide B
  clear hK N B hd hlen
  go_enter Tryd.func21, Tryd.ntmps21
  go_wp2_with (first
    | (go_at_call 32; refine C.out.mono ?_; rintro e w2 ⟨u2, rfl, N2, B2⟩; replace N2 := hide N2.four; replace B1 := hide (bto B1.out B2); clear B2)
    | (go_at_call 31; refine (valuesF_any _ _ _ N2.out L.out).mono ?_; rintro e w3 ⟨u3, rfl, V, B3⟩; replace V := hide V; replace B1 := hide (bto B1.out B3); clear B3))
  go_ret
  exact ⟨_, rfl, V.out, B1.out⟩
set_option maxRecDepth 100000
theorem toks_oneC {s r : List Int} {t : Tk} (h : (decide (nx (rmk s) 0 = -1)) = false) (ht : tokn (rmk s) = (t, r)) : toks s = t :: toks r := by
  rw [toks_go (by simpa using h), ht]
theorem toks_aw : toks [99, 97, 108, 99, 40, 49, 112, 120, 32, 43, 32, 50, 101, 109, 41] = [tkt 2 [99, 97, 108, 99], ⟨12, [112, 120], 1, 1, true, false⟩, tk 13, tkt 9 [43], tk 13, ⟨12, [101, 109], 2, 1, true, false⟩, tk 22] := by
  rw [toks_oneC (s := [99, 97, 108, 99, 40, 49, 112, 120, 32, 43, 32, 50, 101, 109, 41]) (t := tkt 2 [99, 97, 108, 99]) (r := [49, 112, 120, 32, 43, 32, 50, 101, 109, 41]) (by kernel_rfl) (by kernel_rfl),
    toks_oneC (s := [49, 112, 120, 32, 43, 32, 50, 101, 109, 41]) (t := ⟨12, [112, 120], 1, 1, true, false⟩) (r := [32, 43, 32, 50, 101, 109, 41]) (by kernel_rfl) (by kernel_rfl),
    toks_oneC (s := [32, 43, 32, 50, 101, 109, 41]) (t := tk 13) (r := [43, 32, 50, 101, 109, 41]) (by kernel_rfl) (by kernel_rfl),
    toks_oneC (s := [43, 32, 50, 101, 109, 41]) (t := tkt 9 [43]) (r := [32, 50, 101, 109, 41]) (by kernel_rfl) (by kernel_rfl),
    toks_oneC (s := [32, 50, 101, 109, 41]) (t := tk 13) (r := [50, 101, 109, 41]) (by kernel_rfl) (by kernel_rfl),
    toks_oneC (s := [50, 101, 109, 41]) (t := ⟨12, [101, 109], 2, 1, true, false⟩) (r := [41]) (by kernel_rfl) (by kernel_rfl),
    toks_oneC (s := [41]) (t := tk 22) (r := []) (by kernel_rfl) (by kernel_rfl),
    toks_end (by decide +kernel)]
theorem chs_aw : chs (dcd [99, 97, 108, 99, 40, 49, 112, 120, 32, 43, 32, 50, 101, 109, 41]) = [99, 97, 108, 99, 40, 49, 112, 120, 32, 43, 32, 50, 101, 109, 41] := by decide +kernel
theorem of_aw : ofV [99, 97, 108, 99, 40, 49, 112, 120, 32, 43, 32, 50, 101, 109, 41] = [tFn] := by
  unfold ofV
  rw [chs_aw, toks_aw]
  kernel_rfl
set_option maxHeartbeats 4000000 in
theorem awake11_any (w0 : World) (hI : Kinds w0) (hU : Uni w0) : Calls Tryd.prog 11 #[] w0 fun e w' => e = .returned (.bool true) ∧ Below w0.heap.size w0 w' := by
  have C1 := hide (of11_any ⟨#[99, 97, 108, 99, 40, 49, 112, 120, 32, 43, 32, 50, 101, 109, 41]⟩ w0 hI (by decide))
  rw [show bl ⟨#[99, 97, 108, 99, 40, 49, 112, 120, 32, 43, 32, 50, 101, 109, 41]⟩ = [99, 97, 108, 99, 40, 49, 112, 120, 32, 43, 32, 50, 101, 109, 41] from rfl, of_aw] at C1
  have C2 := hide (fun (w : World) (v : Value) (h : VM w v [tFn]) (hU : Uni w) => parse_two w v h hU)
  have HU := hide hU
  clear hI hU
  go_enter Tryd.func11, Tryd.ntmps11
  go_wp2_with (first
    | (go_at_call 21; refine C1.out.mono ?_; rintro e w1 ⟨u, rfl, V1, B1⟩; have HV := hide V1; have HB := hide B1; clear B1 C1 V1)
    | (go_at_call 20; refine (C2.out _ _ HV.out (HU.out.below HB.out)).mono ?_; rintro e w2 ⟨gp, cp, rfl, c8, B2⟩; replace HB := hide (bto HB.out B2); have c9 := cell_low c8 (bplus (Below.refl _ _) (.cells #[.int .i64 2, .int .i64 0, .int .i64 0, .int .i64 0, .slice (some ⟨gp, 0, none⟩) 2 cp] 26)); have ngp : gp ≠ w2.heap.size := Nat.ne_of_lt (World.block_lt_of_cell? _ _ c8); clear B2 C2))
  go_ret
  exact ⟨rfl, bplus HB.out _⟩
end Go.Proofs.YtlkocepoohhglaaDoor.cc
