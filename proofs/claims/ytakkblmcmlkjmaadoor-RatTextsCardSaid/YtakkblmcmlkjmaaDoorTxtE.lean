/-
  Texts as fractions: by the reference.
-/
import Derived.Test.YtakkblmcmlkjmaaDoorTxtD
import Derived.Test.YtakkblmcmlkjmaaDoorDecA
import Derived.Laws.IdiomStrings
set_option linter.unusedVariables false
set_option linter.unusedSimpArgs false
namespace Go.Proofs.YtakkblmcmlkjmaaDoor
open Go.RowKit Go.Shelf

set_option maxRecDepth 100000 in
set_option maxHeartbeats 1000000 in
theorem textR_any (n d : Int) (w : World) (n1 : -9223372036854775808 ≤ n) (n2 : n ≤ 9223372036854775807) (d1 : -9223372036854775808 ≤ d) (d2 : d ≤ 9223372036854775807) (hT : TabT w) :
    Calls Tryd.prog 5 #[.agg #[.int .i64 n, .int .i64 d]] w fun e w' => e = .returned (.string (txB n d)) ∧ Below w.heap.size w w' := by
  have B0 := hide (bplus (Below.refl w.heap.size w) (.cells #[.int .i64 n, .int .i64 d] 23))
  have CV := hide (is_any n d (w.alloc (.cells #[.int .i64 n, .int .i64 d] 23)) n1 n2 d1 d2)
  have HT := hide (fun (W : World) (h : Below w.heap.size w W) => hT.below h)
  have L1 := itoa_len n n1 n2
  have L2 := itoa_len d d1 d2
  clear hT
  cases hv : isV n d with
  | false =>
    have E := hide (show txB n d = ⟨#[111, 118, 101, 114]⟩ by unfold txB tx; rw [hv]; rfl)
    replace hv := hide hv
    go_enter Tryd.func5, Tryd.ntmps5
    go_wp2_with (go_at_call 11; refine CV.out.mono ?_; rintro e w1 ⟨rfl, U1⟩; rw [hv.out]; replace U1 := hide U1)
    go_ret
    exact ⟨by rw [E.out]; rfl, bto B0.out U1.out.1⟩
  | true =>
    have hd0 := (isV_pos hv).1
    by_cases h1 : d = 1
    · have E := hide (show txB n d = ⟨(Lib.itoa n).toArray⟩ by unfold txB tx txV; rw [hv, if_pos rfl, if_pos h1])
      have e1 : ¬ (1 < d) := by omega
      replace hv := hide hv
      clear h1
      go_enter Tryd.func5, Tryd.ntmps5
      go_wp2_with (first
        | (go_at_call 11; refine CV.out.mono ?_; rintro e w1 ⟨rfl, U1⟩; rw [hv.out]; have z1 : w.heap.size < w1.heap.size := (by have := U1.size; simp at this; omega); have m0 : w1.cell? ⟨w.heap.size, 0, none⟩ = some (.int .i64 n) := (by rw [U1.cell _ _ (by simp)]; simp [go_sem]); have m1 : w1.cell? ⟨w.heap.size, 1, none⟩ = some (.int .i64 d) := (by rw [U1.cell _ _ (by simp)]; simp [go_sem]); replace U1 := hide (bto B0.out U1.1))
        | (go_at_call 10; refine (fmtI_any n _ n1 n2 (HT.out _ U1.out)).mono ?_; rintro e w2 ⟨rfl, B2⟩; replace m0 := (B2.cell (p := ⟨w.heap.size, 0, none⟩) z1).trans m0; replace m1 := (B2.cell (p := ⟨w.heap.size, 1, none⟩) z1).trans m1; replace U1 := hide (bto U1.out B2)))
      go_ret
      exact ⟨by rw [E.out]; rfl, U1.out⟩
    · have E := hide (show txB n d = ⟨(Lib.itoa n ++ 47 :: Lib.itoa d).toArray⟩ by unfold txB tx txV; rw [hv, if_pos rfl, if_neg h1])
      have e1 : 1 < d := by omega
      have y1 : (⟨(Lib.itoa n).toArray⟩ : ByteArray).size ≤ 20 := by show (Lib.itoa n).toArray.size ≤ 20; simpa using L1
      have y2 : (⟨(Lib.itoa d).toArray⟩ : ByteArray).size ≤ 20 := by show (Lib.itoa d).toArray.size ≤ 20; simpa using L2
      have AP := hide (app_slash2 (Lib.itoa n) (Lib.itoa d))
      replace hv := hide hv
      clear h1 L1 L2
      obtain ⟨sn, hsn⟩ : ∃ sn, (⟨(Lib.itoa n).toArray⟩ : ByteArray) = sn := ⟨_, rfl⟩
      obtain ⟨sd, hsd⟩ : ∃ sd, (⟨(Lib.itoa d).toArray⟩ : ByteArray) = sd := ⟨_, rfl⟩
      rw [hsn] at y1 AP
      rw [hsd] at y2 AP
      replace hsn := hide hsn
      replace hsd := hide hsd
      go_enter Tryd.func5, Tryd.ntmps5
      go_wp2_with (first
        | (go_at_call 11; refine CV.out.mono ?_; rintro e w1 ⟨rfl, U1⟩; rw [hv.out]; have z1 : w.heap.size < w1.heap.size := (by have := U1.size; simp at this; omega); have m0 : w1.cell? ⟨w.heap.size, 0, none⟩ = some (.int .i64 n) := (by rw [U1.cell _ _ (by simp)]; simp [go_sem]); have m1 : w1.cell? ⟨w.heap.size, 1, none⟩ = some (.int .i64 d) := (by rw [U1.cell _ _ (by simp)]; simp [go_sem]); replace U1 := hide (bto B0.out U1.1))
        | (go_at_call_of 10 (Value.int IntKind.i64 n); refine (fmtI_any n _ n1 n2 (HT.out _ U1.out)).mono ?_; rintro e w2 ⟨rfl, B2⟩; rw [hsn.out]; replace m0 := (B2.cell (p := ⟨w.heap.size, 0, none⟩) z1).trans m0; replace m1 := (B2.cell (p := ⟨w.heap.size, 1, none⟩) z1).trans m1; replace U1 := hide (bto U1.out B2))
        | (go_at_call 10; refine (fmtI_any d _ d1 d2 (HT.out _ U1.out)).mono ?_; rintro e w3 ⟨rfl, B3⟩; rw [hsd.out]; replace U1 := hide (bto U1.out B3)))
      go_ret
      exact ⟨by rw [E.out, ← AP.out]; rfl, U1.out⟩
/-! ### Numerals -/
theorem wrapU {x : Int} (h0 : 0 ≤ x) (h1 : x < 18446744073709551616) : IntKind.u64.wrap x = x := by
  unfold IntKind.wrap
  have : x % 18446744073709551616 = x := by omega
  simp [IntKind.bits, IntKind.signed, this]
theorem row_blkT {w : World} {b : Nat} {cs : Array Value} {t : TypeId} {q : Nat × Nat} (h : w.heap[b]? = some (.cells cs t q)) (i : Nat) : w.cell? ⟨b, i, none⟩ = cs[i]? := by
  simp [World.cell?, h]
theorem row_atT (s : ByteArray) (c i : Nat) (h : i < s.size) : (bytesRow s c)[i]? = some (.int .u8 (s[i].toNat : Int)) := by
  unfold bytesRow
  have h' : i < s.data.size := h
  rw [Array.getElem?_append_left (by simpa using h'), Array.getElem?_map, Array.getElem?_eq_getElem h']
  rfl
/-- A text as bytes. -/
theorem conv_anyT (s : ByteArray) (w : World) (h0 : 0 < s.size) (hs : s.size ≤ 140737488355328) : ∃ c w1, (convert 9 44 (.string s)).run Tryd.prog w = .ok (.slice (some ⟨w.heap.size, 0, none⟩) s.size c) w1 ∧ s.size ≤ c ∧ c ≤ 9223372036854775807 ∧ (∀ i (h : i < s.size), w1.cell? ⟨w.heap.size, i, none⟩ = some (.int .u8 (s[i].toNat : Int))) ∧ Below w.heap.size w w1 ∧ w.heap.size < w1.heap.size := by
  refine ⟨_, _, run_bytes_of_string (P := Tryd.prog) w 9 44 5 s Tryd.underlying9 Tryd.underlying44 Tryd.underlying5, ?_, ?_, ?_, bplus (Below.refl _ _).drew _, ?_⟩
  · exact grownCap_ge w s.size 0 5
  · have hc2 := grownCap_le_maxLen w s.size 0 5 (by unfold maxLen; omega)
    unfold maxLen at hc2
    omega
  · intro i hi
    generalize grownCap w s.size 0 5 = c at *
    have hb : (w.drew.alloc (.cells (bytesRow s c) 5 ((bytesRow s c).size, (bytesRow s c).size + 1))).heap[w.heap.size]? = some (.cells (bytesRow s c) 5 ((bytesRow s c).size, (bytesRow s c).size + 1)) := heap_alloc_new w.drew _
    rw [row_blkT hb, row_atT s c i hi]
  · have hb : (w.drew.alloc (.cells (bytesRow s (grownCap w s.size 0 5)) 5 ((bytesRow s (grownCap w s.size 0 5)).size, (bytesRow s (grownCap w s.size 0 5)).size + 1))).heap[w.heap.size]? = some (.cells (bytesRow s (grownCap w s.size 0 5)) 5 ((bytesRow s (grownCap w s.size 0 5)).size, (bytesRow s (grownCap w s.size 0 5)).size + 1)) := heap_alloc_new w.drew _
    exact (Array.getElem?_eq_some_iff.1 hb).1
def CN (l : List UInt8) (v : Int) (b : Bool) : Prop := match cnt l with
  | some u => v = u ∧ b = true
  | none => b = false
def PostCt (s : ByteArray) (w : World) (e : Ending) (w' : World) : Prop := ∃ v b, e = .returned (.tuple #[.int .i64 v, .bool b]) ∧ Hid (CN s.data.toList v b) ∧ Below w.heap.size w w'
theorem PostCt.mk {s : ByteArray} {w w' : World} {e : Ending} (v : Int) (b : Bool) (h1 : e = .returned (.tuple #[.int .i64 v, .bool b])) (h2 : CN s.data.toList v b) (h3 : Below w.heap.size w w') : PostCt s w e w' := ⟨v, b, h1, h2, h3⟩
theorem cnt_no {l : List UInt8} (h : shp l = false) : cnt l = none := by unfold cnt; rw [if_neg (by rw [h]; simp)]
theorem CN.no {l : List UInt8} (h : shp l = false) (v : Int) : CN l v false := by unfold CN; rw [cnt_no h]
theorem shp_digit {l : List UInt8} {c : UInt8} (h : c ∈ l) (hc : isD8 c = false) : shp l = false := by
  cases hs : shp l with
  | false => rfl
  | true =>
    unfold shp at hs
    simp only [Bool.and_eq_true, List.all_eq_true] at hs
    rw [hs.2 c h] at hc; cases hc
theorem val8_lt (l : List UInt8) (h : ∀ c ∈ l, isD8 c = true) : val8 l < 10 ^ l.length := by
  have key : ∀ k (l : List UInt8), l.length ≤ k → (∀ c ∈ l, isD8 c = true) → val8 l < 10 ^ l.length := by
    intro k
    induction k with
    | zero => intro l hl _; rw [List.eq_nil_of_length_eq_zero (by omega : l.length = 0)]; decide
    | succ k ih =>
      intro l hl hd
      by_cases hn : l = []
      · subst hn; decide
      · obtain ⟨r, c, rfl⟩ := list_snoc l hn
        have hr := ih r (by simp at hl; omega) (fun x hx => hd x (by simp [hx]))
        have hc := hd c (by simp)
        simp [isD8] at hc
        rw [val8_snoc, List.length_append, List.length_singleton, Nat.pow_succ]
        omega
  exact key _ l (Nat.le_refl _) h
theorem take_snoc8 {l : List UInt8} {k : Nat} (h : k < l.length) : l.take (k + 1) = l.take k ++ [l[k]] := List.take_succ_eq_append_getElem h
theorem isD8_dig (c : UInt8) : isDig (c.toNat : Int) = isD8 c := by
  unfold isDig isD8
  rw [Bool.eq_iff_iff]
  simp
  omega
def RelCt (l : List UInt8) (w1 : World) (i n : Value) (wr : World) : Prop := ∃ k : Nat, i = .int .i64 k ∧ n = .int .u64 (val8 (l.take k) : Nat) ∧ k ≤ l.length ∧ wr = w1 ∧ Hid (∀ c ∈ l.take k, isD8 c = true)
theorem RelCt.mk {l : List UInt8} {w1 : World} {i n : Value} {wr : World} (k : Nat) (h1 : i = .int .i64 k) (h2 : n = .int .u64 (val8 (l.take k) : Nat)) (h3 : k ≤ l.length) (h4 : wr = w1) (h5 : ∀ c ∈ l.take k, isD8 c = true) : RelCt l w1 i n wr := ⟨k, h1, h2, h3, h4, h5⟩
theorem pow18 {k : Nat} (h : k ≤ 18) : (10 : Nat) ^ k ≤ 1000000000000000000 := by
  have := Nat.pow_le_pow_right (n := 10) (by omega) h
  have e : (10 : Nat) ^ 18 = 1000000000000000000 := by decide
  omega
theorem shp_len {l : List UInt8} (h : 19 < l.length) : shp l = false := by
  unfold shp
  have : decide (l.length ≤ 19) = false := by simp; omega
  rw [this]; simp
theorem shp_zero {l : List UInt8} (h : l.head? = some 48) (h1 : 1 < l.length) : shp l = false := by
  unfold shp
  rw [h]
  have : decide (1 < l.length) = true := by simpa using h1
  rw [this]; simp
theorem head_at (s : ByteArray) (h : 0 < s.size) : s.data.toList.head? = some s[0] := by
  rw [List.head?_eq_getElem?, Array.getElem?_toList, Array.getElem?_eq_getElem h]
  rfl
set_option maxRecDepth 100000 in
set_option maxHeartbeats 2000000 in
theorem count_any (s : ByteArray) (w : World) (hs : s.size ≤ 140737488355328) :
    Calls Tryd.prog 14 #[.string s] w fun e w' => PostCt s w e w' := by
  have hlen : s.data.toList.length = s.size := by rw [Array.length_toList]; rfl
  by_cases h0 : s.size = 0
  · have FIN := hide (CN.no (l := s.data.toList) (by unfold shp; rw [List.eq_nil_of_length_eq_zero (hlen.trans h0)]; rfl) 0)
    have n1 := emp_t h0
    clear h0 hlen
    go_enter Tryd.func14, Tryd.ntmps14
    go_wp2
    go_ret2
    exact .mk 0 false rfl FIN.out (Below.refl _ _)
  have hp : 0 < s.size := by omega
  have n1 := emp_f hp
  by_cases h19 : 19 < s.size
  · have FIN := hide (CN.no (l := s.data.toList) (shp_len (by omega)) 0)
    have e1 : (19 : Int) < s.size := by omega
    clear h0 hlen
    go_enter Tryd.func14, Tryd.ntmps14
    go_wp2
    go_ret2
    exact .mk 0 false rfl FIN.out (Below.refl _ _)
  have e19 : ¬ (19 : Int) < s.size := by omega
  by_cases hz : s[0].toNat = 48 ∧ 1 < s.size
  · have FIN := hide (CN.no (l := s.data.toList) (shp_zero (by rw [head_at s hp]; congr 1; exact UInt8.toNat_inj.1 (by rw [hz.1]; rfl)) (by omega)) 0)
    have e1 : (1 : Int) < s.size := by omega
    have e2 : ((s[0].toNat : Int) == 48) = true := by rw [hz.1]; rfl
    clear h0 hlen hz h19
    go_enter Tryd.func14, Tryd.ntmps14
    go_wp2
    go_ret2
    exact .mk 0 false rfl FIN.out (Below.refl _ _)
  have SHP := hide (show (∀ c ∈ s.data.toList, isD8 c = true) → shp s.data.toList = true from fun hd => by
    unfold shp
    simp only [Bool.and_eq_true, Bool.not_eq_true', decide_eq_true_eq, List.all_eq_true]
    refine ⟨⟨⟨by cases hl : s.data.toList with | nil => rw [hl] at hlen; simp at hlen; omega | cons x y => rfl, by omega⟩, ?_⟩, hd⟩
    rw [head_at s hp]
    by_cases g : s[0] = 48
    · have : ¬ 1 < s.size := fun k => hz ⟨by rw [g]; rfl, k⟩
      have : decide (1 < s.data.toList.length) = false := by simp; omega
      rw [this]; simp
    · have : (some s[0] == some (48 : UInt8)) = false := by simpa using g
      rw [this]; rfl)
  obtain ⟨cp, w1, hcv, hc1, hc2, hcell, hB, hbw⟩ := conv_anyT s w hp hs
  have HC := hide hcell
  have HB := hide hB
  have HL := hide hlen
  have ways : (((s[0].toNat : Int) == 48) = false) ∨ (((s[0].toNat : Int) == 48) = true ∧ ¬ (1 : Int) < s.size) := by
    by_cases g : s[0].toNat = 48
    · right; exact ⟨by rw [g]; rfl, fun k => hz ⟨g, by omega⟩⟩
    · left; rw [beq_eq_false_iff_ne]; omega
  clear h0 hz hcell hB hlen
  rcases ways with e2 | ⟨e2, e3⟩
  all_goals
    go_enter Tryd.func14, Tryd.ntmps14
    go_wp2
    go_loopw [27, 4] (fun i n wr => RelCt s.data.toList w1 i n wr) (fun i n wr => s.size - (intOf i).toNat)
    case atStart => exact .mk 0 rfl rfl (Nat.zero_le _) rfl (fun c hc => by simp at hc)
    case round =>
      obtain ⟨k, rfl, rfl, k1, rfl, R⟩ := hrel
      rw [HL.out] at k1
      by_cases hk : k < s.size
      · have c0 := HC.out k hk
        have hk' : (k : Int) < s.size := by omega
        have hkl : k < s.data.toList.length := by rw [HL.out]; exact hk
        have gx : s.data.toList[k] = s[k] := by rw [Array.getElem_toList]; rfl
        have ST := hide (show val8 (s.data.toList.take (k + 1)) = val8 (s.data.toList.take k) * 10 + (s[k].toNat - 48) by rw [take_snoc8 hkl, val8_snoc, gx])
        have VL := val8_lt (s.data.toList.take k) R.out
        rw [List.length_take, Nat.min_eq_left (by omega)] at VL
        have V18 := pow18 (k := k) (by omega)
        have IX := hide (isD8_dig s[k])
        have MEM := hide (show s[k] ∈ s.data.toList by rw [← gx]; exact List.getElem_mem _)
        have NXT := hide (fun (hd : isD8 s[k] = true) => show ∀ c ∈ s.data.toList.take (k + 1), isD8 c = true from fun c hc => by
          rw [take_snoc8 hkl] at hc
          rcases List.mem_append.1 hc with hc | hc
          · exact R.out c hc
          · rw [List.mem_singleton.1 hc, gx]; exact hd)
        obtain ⟨V, hV⟩ : ∃ V : Nat, val8 (s.data.toList.take k) = V := ⟨_, rfl⟩
        rw [hV] at ST VL
        have hV9 : V < 1000000000000000000 := by omega
        have b8 : (s[k].toNat : Int) ≤ 255 := by have := s[k].toNat_lt; omega
        have b0 : (0 : Int) ≤ (s[k].toNat : Int) := by omega
        clear gx VL V18
        rw [hV]
        clear hV
        cases hd : isD8 s[k] with
        | false =>
          have FIN := hide (CN.no (l := s.data.toList) (shp_digit MEM.out hd) 0)
          have D := hide (show isDig (s[k].toNat : Int) = false by rw [IX.out, hd])
          clear hd
          go_wp2_with (go_at_call 21; refine (isDig1_any _ _).mono ?_; rintro e w2 ⟨rfl, rfl⟩; rw [D.out])
          go_ret2
          exact .mk 0 false rfl FIN.out (HB.out)
        | true =>
          have D := hide (show isDig (s[k].toNat : Int) = true by rw [IX.out, hd])
          have NX := hide (NXT.out hd)
          have hdb : 48 ≤ s[k].toNat ∧ s[k].toNat ≤ 57 := by simp [isD8] at hd; omega
          obtain ⟨x, hx⟩ : ∃ x : Int, (s[k].toNat : Int) = x := ⟨_, rfl⟩
          have bx : 48 ≤ x ∧ x ≤ 57 := by omega
          have SV := hide (show ((val8 (s.data.toList.take (k + 1)) : Nat) : Int) = (V : Int) * 10 + (x - 48) by rw [ST.out]; omega)
          rw [hx] at c0 D
          have w0 : IntKind.u64.wrap ((V : Int) * 10) = (V : Int) * 10 := wrapU (by omega) (by omega)
          have w8 : IntKind.u8.wrap (x - 48) = x - 48 := by simp [IntKind.wrap, go_sem]; omega
          have w9 : IntKind.u64.wrap (x - 48) = x - 48 := wrapU (by omega) (by omega)
          have wA : IntKind.u64.wrap ((V : Int) * 10 + (x - 48)) = (V : Int) * 10 + (x - 48) := wrapU (by omega) (by omega)
          clear hd hdb ST hx b8 b0
          go_wp2_with (go_at_call 21; refine (isDig1_any _ _).mono ?_; rintro e w2 ⟨rfl, rfl⟩; rw [D.out])
          go_roundw
          case rel => exact .mk (k + 1) rfl (by rw [SV.out]) (by rw [HL.out]; omega) rfl NX.out
          case measure => simp [intOf]; omega
      · have hk' : ¬ (k : Int) < s.size := by omega
        have hks : k = s.data.toList.length := by rw [HL.out]; omega
        rw [hks, List.take_length] at R ⊢
        have SH := hide (SHP.out R.out)
        have VL := val8_lt s.data.toList R.out
        rw [HL.out] at VL
        have V20 : val8 s.data.toList < 18446744073709551616 := by
          have := Nat.pow_le_pow_right (n := 10) (by omega) (show s.size ≤ 19 by omega)
          have e : (10 : Nat) ^ 19 = 10000000000000000000 := by decide
          omega
        have CNT := hide (show ∀ v b, (val8 s.data.toList ≤ 9223372036854775807 → v = (val8 s.data.toList : Int) ∧ b = true) → (¬ val8 s.data.toList ≤ 9223372036854775807 → b = false) → CN s.data.toList v b from fun v b h1 h2 => by
          unfold CN cnt
          by_cases g : val8 s.data.toList ≤ 9223372036854775807
          · rw [if_pos ⟨SH.out, g⟩]; exact h1 g
          · rw [if_neg (fun h => g h.2)]; exact h2 g)
        clear hks VL SHP
        generalize val8 s.data.toList = V at *
        by_cases g : V ≤ 9223372036854775807
        · have g1 : (V : Int) ≤ 9223372036854775807 := by omega
          have w0 : IntKind.i64.wrap (V : Int) = (V : Int) := by simp [IntKind.wrap, go_sem]; omega
          have FIN := hide (CNT.out (V : Int) true (fun _ => ⟨rfl, rfl⟩) (fun h => absurd g h))
          go_wp2
          go_ret2
          exact .mk (V : Int) true rfl FIN.out (HB.out)
        · have g1 : ¬ (V : Int) ≤ 9223372036854775807 := by omega
          have FIN := hide (fun v => CNT.out v false (fun h => absurd h g) (fun _ => rfl))
          go_wp2
          go_ret2
          exact .mk _ false rfl (FIN.out _) HB.out
end Go.Proofs.YtakkblmcmlkjmaaDoor
