/-
  What forms have of one unit, the least or the most of it: by the program.
  The pick of some forms: plain.
  Forms as a row reads them.
-/
import Derived.Test.YtdnnidnghaifgaaDoorG25
import Derived.Test.YtdnnidnghaifgaaDoorMNvE
import Derived.Test.YtdnnidnghaifgaaDoorG28
import Derived.Test.YtdnnidnghaifgaaDoorN20
import Derived.Test.YtdnnidnghaifgaaDoorG22
set_option linter.unusedVariables false
set_option linter.unusedSimpArgs false
namespace Go.Proofs.YtdnnidnghaifgaaDoor.nm
open Go.RowKit cc

/-- The unit u's amounts (u from 1 on). -/
def amU (u : Nat) (l : List Fo) : List (Int × Int) := l.map fun f => f.us.getD (u - 1) (0, 0)
def RelPo (w : World) (rs : List (Int × Int)) (n : Nat) (i : Value) (wr : World) : Prop := ∃ k : Nat, i = .int .i64 k ∧ k ≤ n ∧ Hid (Rw2 wr (w.heap.size + 1) n k rs ∧ Bk wr w.heap.size 23 [.int .i64 0, .int .i64 0] ∧ Below w.heap.size w wr)
theorem RelPo.mk {w : World} {rs : List (Int × Int)} {n : Nat} {i : Value} {wr : World} (k : Nat) (h1 : i = .int .i64 k) (h2 : k ≤ n) (h3 : Rw2 wr (w.heap.size + 1) n k rs) (h4 : Bk wr w.heap.size 23 [.int .i64 0, .int .i64 0]) (h7 : Below w.heap.size w wr) : RelPo w rs n i wr := ⟨k, h1, h2, h3, h4, h7⟩
set_option maxRecDepth 100000 in
set_option maxHeartbeats 16000000 in
theorem pickOf_any (u : Nat) (h1 : 1 ≤ u) (h7 : u ≤ 7) (mx : Bool) (n : Nat) (l : List Fo) (v : Value) (w : World) (hv : FM w n v l) : Calls Tryd.prog 51 #[.int .i64 u, .bool mx, v] w fun e w' => e = .returned (ratV (wk.utAll (if mx then 1 else -1) (amU u l))) ∧ Below w.heap.size w w' := by
  obtain ⟨a, c, rfl, hl9⟩ := hv.shape
  obtain ⟨d, rfl⟩ : ∃ d, u = d + 1 := ⟨u - 1, by omega⟩
  obtain ⟨rs, hrs⟩ : ∃ rs, amU (d + 1) l = rs := ⟨_, rfl⟩
  have RL := hide (show rs.length = l.length by rw [← hrs]; unfold amU; rw [List.length_map])
  have RA := hide (show ∀ (i : Nat) (y : Fo), l[i]? = some y → rs[i]? = some (y.us.getD d (0, 0)) by intro i y h; rw [← hrs]; unfold amU; rw [List.getElem?_map, h]; rfl)
  have HV := hide hv
  have RI := hide (show ∀ r ∈ rs, R64 r by
    intro r hr
    rw [← hrs] at hr
    obtain ⟨y, hy, rfl⟩ := List.mem_map.1 hr
    obtain ⟨i, hi⟩ := List.mem_iff_getElem?.1 hy
    obtain ⟨_, _, _, _, _, _, _, hus, _⟩ := fm_range HV.out hi
    obtain ⟨p, q, hpq, i1, i2⟩ := us_at hus (k := d) (by omega)
    show R64 (y.us.getD d (0, 0))
    rw [List.getD_eq_getElem?_getD, hpq]
    exact ⟨i1, i2⟩)
  rw [hrs]
  have E := hide (show wk.utAll (if mx then 1 else -1) rs = wk.utAll (if mx then 1 else -1) rs from rfl)
  obtain ⟨X, hX⟩ : ∃ X, wk.utAll (if mx then 1 else -1) rs = X := ⟨_, rfl⟩
  rw [hX]
  have HX := hide hX
  have hd7 : (d : Int) < 7 := by omega
  have WD : IntKind.i64.wrap (((d + 1 : Nat) : Int) - 1) = (d : Int) := by rw [show ((d + 1 : Nat) : Int) - 1 = d by omega]; simp [IntKind.wrap, go_sem]; omega
  have hd8 : d < 7 := by omega
  obtain ⟨W1, hW1⟩ : ∃ W1, w.alloc (.cells #[.int .i64 0, .int .i64 0] 23) = W1 := ⟨_, rfl⟩
  have S1 : W1.heap.size = w.heap.size + 1 := by rw [← hW1]; simp
  have B0 := hide (show Below w.heap.size w W1 by rw [← hW1]; exact bplus (Below.refl _ _) _)
  have P1 := hide (show Bk W1 w.heap.size 23 [.int .i64 0, .int .i64 0] by rw [← hW1]; exact Bk.new w _ _)
  have HW1 := hide hW1
  generalize ((d + 1 : Nat) : Int) = ui at *
  clear hW1 hX hrs hv h1 h7
  go_enter Tryd.func51, Tryd.ntmps51
  go_upto_region 1 with fail
  rw [HW1.out]
  clear HW1
  have MK := madeR l.length hl9 W1
  have K0 := hide (show Rw2 (W1.alloc (.cells (madeCells #[.int .i64 0, .int .i64 0] (l.length * 2)) 23)) (w.heap.size + 1) l.length 0 rs by rw [← S1]; exact Rw2.new W1 _ _)
  have K1 := hide (show Bk (W1.alloc (.cells (madeCells #[.int .i64 0, .int .i64 0] (l.length * 2)) 23)) w.heap.size 23 [.int .i64 0, .int .i64 0] from Bk.more P1.out _)
  have K3 := hide (show Below w.heap.size w (W1.alloc (.cells (madeCells #[.int .i64 0, .int .i64 0] (l.length * 2)) 23)) from bplus B0.out _)
  go_upto_region 2 with fail
  clear MK P1 B0
  (try rw [S1])
  generalize W1.alloc (.cells (madeCells #[.int .i64 0, .int .i64 0] (l.length * 2)) 23) = W2 at *
  clear S1
  go_wp2_with fail
  go_loopw [15] (fun i wr => RelPo w rs l.length i wr) (fun i _ => l.length - (intOf i).toNat)
  case atStart => exact .mk 0 rfl (by omega) K0.out K1.out K3.out
  case round =>
    obtain ⟨k, rfl, hk, R⟩ := hrel
    have Q0 := hide R.out.1
    have Q1 := hide R.out.2.1
    have BW := hide R.out.2.2
    clear R K0 K1 K3
    by_cases hlt : k < l.length
    · have hlt' : (k : Int) < l.length := by omega
      obtain ⟨f, hf⟩ : ∃ f, l[k]? = some f := ⟨_, List.getElem?_eq_getElem hlt⟩
      obtain ⟨m, b, o, c', fu, hv', hb, hus, hrg, hpm⟩ := fm_range HV.out hf
      obtain ⟨rfl, rfl⟩ : a = some ⟨b, o, none⟩ ∧ c = c' := by cases hv'; exact ⟨rfl, rfl⟩
      have lA := fo_len hus fu
      have OA := hide (us_one (us := f.us) (pm_one hpm))
      have AY := hide (RA.out k f hf)
      obtain ⟨p, q, hpq, -, -⟩ := us_at hus (k := d) hd8
      rw [show f.us.getD d (0, 0) = (p, q) by rw [List.getD_eq_getElem?_getD, hpq]; rfl] at AY
      have UL := usL_len f.us
      have CA := hide (show (usL f.us ++ [fu])[d * 2]? = some (.int .i64 p) ∧ (usL f.us ++ [fu])[d * 2 + 1]? = some (.int .i64 q) from ⟨by rw [List.getElem?_append_left (by rw [UL, hus.1]; omega)]; exact (usL_at hpq).1, by rw [List.getElem?_append_left (by rw [UL, hus.1]; omega)]; exact (usL_at hpq).2⟩)
      have RG := hide (show wr.rangeAt b (o + k * 15) (usL f.us ++ [fu]) from fun j v hj => (BW.out.cell (p := ⟨b, o + k * 15 + j, none⟩) hb).trans (hrg j v hj))
      have hbw : b < wr.heap.size := by have := BW.out.size; omega
      have nb : b ≠ wr.heap.size := by omega
      have hq2 : w.heap.size + 1 < wr.heap.size := Rw2.lt Q0.out
      clear hf hrg hpm hus hpq UL
      (try clear hv')
      generalize usL f.us ++ [fu] = A at *
      have sA : A.toArray.size = 15 := by rw [List.size_toArray]; exact lA
      obtain ⟨W4, hW4⟩ : ∃ W4, (wr.alloc (.cells #[.int .i64 0, .int .i64 0, .int .i64 0, .int .i64 0, .int .i64 0, .int .i64 0, .int .i64 0, .int .i64 0, .int .i64 0, .int .i64 0, .int .i64 0, .int .i64 0, .int .i64 0, .int .i64 0, .slice none 0 0] 38)).setCells wr.heap.size 0 A = W4 := ⟨_, rfl⟩
      have T4 := hide (show (wr.alloc (.cells #[.int .i64 0, .int .i64 0, .int .i64 0, .int .i64 0, .int .i64 0, .int .i64 0, .int .i64 0, .int .i64 0, .int .i64 0, .int .i64 0, .int .i64 0, .int .i64 0, .int .i64 0, .int .i64 0, .slice none 0 0] 38)).there wr.heap.size 0 A.toArray.size from there_blk (heap_alloc_new wr _) (by rw [sA]; rfl))
      have H4 := hide (show (Tryd.prog.info? 38).map (·.size) = some A.toArray.size by rw [sA]; kernel_rfl)
      have H5 := hide (show (Tryd.prog.info? 38).map (·.size) = some A.length by rw [lA]; kernel_rfl)
      have B4 := hide (show Below wr.heap.size wr W4 by rw [← hW4]; exact (bplus (Below.refl _ _) _).grown (setCells_grown _ _ _ _) (by simp) (fun k hk => by cases hk; exact Nat.le_refl _))
      have R4 := hide (show W4.rangeAt wr.heap.size 0 A by
        have q := Bk.puts A 0 _ _ (Bk.new wr 38 [.int .i64 0, .int .i64 0, .int .i64 0, .int .i64 0, .int .i64 0, .int .i64 0, .int .i64 0, .int .i64 0, .int .i64 0, .int .i64 0, .int .i64 0, .int .i64 0, .int .i64 0, .int .i64 0, .slice none 0 0]) (by rw [lA]; simp)
        rw [List.take_zero, List.nil_append, Nat.zero_add, List.drop_of_length_le (by rw [lA]; simp), List.append_nil] at q
        rw [← hW4]
        exact range_blk q)
      have c0 := R4.out _ _ CA.out.1
      have c1 := R4.out _ _ CA.out.2
      rw [Nat.zero_add] at c0 c1
      have HW4 := hide hW4
      clear hW4 CA
      obtain ⟨⟨⟨z0, t0⟩, v0⟩, ⟨z1, t1⟩, v1⟩ := show ((∃ v, W4.cell? ⟨w.heap.size + 1, k * 2, none⟩ = some v) ∧ W4.frozen? ⟨w.heap.size + 1, k * 2, none⟩ = false) ∧ ((∃ v, W4.cell? ⟨w.heap.size + 1, k * 2 + 1, none⟩ = some v) ∧ W4.frozen? ⟨w.heap.size + 1, k * 2 + 1, none⟩ = false) from And.intro (Rw2.there (Rw2.up Q0.out B4.out) (j := k * 2) (by omega)) (Rw2.there (Rw2.up Q0.out B4.out) (j := k * 2 + 1) (by omega))
      have PP := hide ((Rw2.up Q0.out B4.out).put hlt AY.out)
      have NY := hide (show Bk ((W4.setCell ⟨w.heap.size + 1, k * 2, none⟩ (.int .i64 p)).setCell ⟨w.heap.size + 1, k * 2 + 1, none⟩ (.int .i64 q)) w.heap.size 23 [.int .i64 0, .int .i64 0] from Bk.far (Bk.far (Bk.up Q1.out B4.out) (by omega) _ _) (by omega) _ _)
      have NB := hide (show Below w.heap.size w ((W4.setCell ⟨w.heap.size + 1, k * 2, none⟩ (.int .i64 p)).setCell ⟨w.heap.size + 1, k * 2 + 1, none⟩ (.int .i64 q)) from ((bto BW.out B4.out).setCell (by simp) _).setCell (by simp) _)
      clear HV RA Q0 Q1 AY BW
      go_upto_region 5 with (first
        | (refine wpList_load_mid rfl 38 (.tmp 18) rfl b (o + k * 15) rfl A _ RG.out Tryd.underlying38 rfl H5.out ?_)
        | (refine wpList_store_mid rfl 38 (.tmp 9) (.tmp 19) rfl wr.heap.size 0 A.toArray rfl rfl T4.out H4.out (all_oneCell_toArray OA.out) ?_))
      (try rw [show A.toArray.toList = A from rfl])
      rw [HW4.out]
      clear HW4 T4 RG R4
      go_wp2_with fail
      go_roundw
      case rel => exact .mk (k + 1) (by go_num) (by omega) PP.out NY.out NB.out
      case measure => simp [intOf]; omega
    · obtain rfl : k = l.length := by omega
      have hlt' : ¬ (l.length : Int) < l.length := by omega
      have RW := hide (Rw2.row Q0.out RL.out hl9)
      have TR := hide (fun (W : World) (h : Below wr.heap.size wr W) => show Bk W w.heap.size 23 [.int .i64 0, .int .i64 0] from Bk.up Q1.out h)
      have BX := hide (Below.refl wr.heap.size wr)
      clear Q0 Q1 HV RA RL
      cases mx
      · have CO := hide (leastP_op RW.out RI.out)
        rw [show wk.utAll (-1) rs = X from HX.out] at CO
        unfold OpC ratV at CO
        clear E RW RI HX
        go_wp2_with (go_at_call 43; refine (CO.out _ BX.out).mono ?_; rintro e w5 ⟨rfl, B5⟩; replace BX := hide B5; have QR := TR.out _ BX.out; have t0 := Bk.cell QR 0; have t1 := Bk.cell QR 1; simp at t0 t1; have z0 := Bk.fz QR 0; have z1 := Bk.fz QR 1; clear QR)
        exact bodyPost_ret (v := .agg #[.int .i64 X.1, .int .i64 X.2]) (by simp [results, Tryd.results51, go_sem, *]) rfl ⟨rfl, ((bto BW.out BX.out).setCell (by first | (simp; done) | (simp; omega)) _).setCell (by first | (simp; done) | (simp; omega)) _⟩
      · have CO := hide (mostP_op RW.out RI.out)
        rw [show wk.utAll 1 rs = X from HX.out] at CO
        unfold OpC ratV at CO
        clear E RW RI HX
        go_wp2_with (go_at_call 44; refine (CO.out _ BX.out).mono ?_; rintro e w5 ⟨rfl, B5⟩; replace BX := hide B5; have QR := TR.out _ BX.out; have t0 := Bk.cell QR 0; have t1 := Bk.cell QR 1; simp at t0 t1; have z0 := Bk.fz QR 0; have z1 := Bk.fz QR 1; clear QR)
        exact bodyPost_ret (v := .agg #[.int .i64 X.1, .int .i64 X.2]) (by simp [results, Tryd.results51, go_sem, *]) rfl ⟨rfl, ((bto BW.out BX.out).setCell (by first | (simp; done) | (simp; omega)) _).setCell (by first | (simp; done) | (simp; omega)) _⟩
end Go.Proofs.YtdnnidnghaifgaaDoor.nm
set_option linter.unusedVariables false
set_option linter.unusedSimpArgs false
namespace Go.Proofs.YtdnnidnghaifgaaDoor.nm
open Go.RowKit cc

/-- The bits of the units of which there is something, from the unit k + 1 on. -/
def usedN : List (Int × Int) → Nat → Nat
  | [], _ => 0
  | r :: rs, k => (if r = (0, 1) then 0 else 2 ^ (k + 1)) ||| usedN rs (k + 1)
def maskN : List Fo → Nat
  | [] => 0
  | f :: l => usedN f.us 0 ||| maskN l
def plainL (l : List Fo) : Bool := l.all fun f => f.ps.isEmpty
theorem or_lt256 {a b : Nat} (ha : a < 256) (hb : b < 256) : a ||| b < 256 := Nat.or_lt_two_pow (n := 8) ha hb
theorem pow_lt256 {k : Nat} (h : k < 8) : 2 ^ k < 256 := Nat.lt_of_le_of_lt (Nat.pow_le_pow_right (by decide) (Nat.le_of_lt_succ h)) (by decide)
theorem usedN_lt : ∀ (us : List (Int × Int)) (k : Nat), k + us.length ≤ 7 → usedN us k < 256 := by
  intro us
  induction us with
  | nil => intro k _; show 0 < 256; decide
  | cons r rs ih =>
    intro k h
    rw [List.length_cons] at h
    refine or_lt256 ?_ (ih (k + 1) (by omega))
    split
    · decide
    · exact pow_lt256 (by omega)
theorem usedN_bit0 : ∀ (us : List (Int × Int)) (k : Nat), (usedN us k).testBit 0 = false := by
  intro us
  induction us with
  | nil => intro k; rw [usedN]; decide
  | cons r rs ih =>
    intro k
    rw [usedN, Nat.testBit_or, ih, Bool.or_false]
    split
    · decide
    · rw [Nat.testBit_two_pow]; simp
theorem maskN_lt {l : List Fo} (h : ∀ f ∈ l, f.us.length = 7) : maskN l < 256 := by
  induction l with
  | nil => show 0 < 256; decide
  | cons f l ih => exact or_lt256 (usedN_lt f.us 0 (by rw [h f (by simp)]; decide)) (ih fun g hg => h g (by simp [hg]))
theorem maskN_bit0 (l : List Fo) : (maskN l).testBit 0 = false := by
  induction l with
  | nil => rw [maskN]; decide
  | cons f l ih => rw [maskN, Nat.testBit_or, usedN_bit0, ih]; rfl
theorem orI_nat {a b : Nat} (ha : a < 256) (hb : b < 256) : orI (a : Int) (b : Int) = ((a ||| b : Nat) : Int) := by
  have hw : ∀ n : Int, 0 ≤ n → n < 2 ^ 8 → IntKind.i64.wrap n = n := fun n h0 h1 => by
    rw [IntKind.wrap_i64]
    have : (2 : Int) ^ 8 = 256 := by decide
    omega
  exact (bits_nat .i64 8 (by decide) hw a b ha hb).2
theorem bitK_nat {k : Nat} (h : k < 7) : bitK k = ((2 ^ (k + 1) : Nat) : Int) := by
  rcases (show k = 0 ∨ k = 1 ∨ k = 2 ∨ k = 3 ∨ k = 4 ∨ k = 5 ∨ k = 6 by omega) with rfl | rfl | rfl | rfl | rfl | rfl | rfl <;> decide +kernel
theorem orU_nat : ∀ (us : List (Int × Int)) (k m : Nat), k + us.length ≤ 7 → m < 256 → orU (m : Int) us k = ((m ||| usedN us k : Nat) : Int) := by
  intro us
  induction us with
  | nil => intro k m _ _; rw [orU, usedN, Nat.or_zero]
  | cons r rs ih =>
    intro k m h hm
    rw [List.length_cons] at h
    rw [orU, usedN]
    split
    · rw [ih (k + 1) m (by omega) hm, Nat.zero_or]
    · have hp := pow_lt256 (k := k + 1) (by omega)
      rw [bitK_nat (by omega), orI_nat hm hp, ih (k + 1) _ (by omega) (or_lt256 hm hp), Nat.or_assoc]
theorem upT_nat : ∀ (l : List Fo) (m : Nat), (∀ f ∈ l, f.us.length = 7) → m < 256 → upT l (m : Int) = if plainL l = true then (((m ||| maskN l : Nat) : Int), true) else (0, false) := by
  intro l
  induction l with
  | nil => intro m _ _; rw [upT, maskN, Nat.or_zero]; rfl
  | cons f l ih =>
    intro m h hm
    have hf := h f (by simp)
    have hu := usedN_lt f.us 0 (by rw [hf]; decide)
    have e0 := orU_nat f.us 0 0 (by rw [hf]; decide) (by decide)
    rw [Nat.zero_or] at e0
    rw [upT]
    by_cases hp : f.ps.length = 0
    · have he : f.ps.isEmpty = true := by rw [List.isEmpty_iff]; exact List.eq_nil_of_length_eq_zero hp
      rw [if_pos hp, show orU 0 f.us 0 = orU ((0 : Nat) : Int) f.us 0 from rfl, e0, orI_nat hm hu, ih _ (fun g hg => h g (by simp [hg])) (or_lt256 hm hu), maskN, Nat.or_assoc]
      show _ = if (f.ps.isEmpty && plainL l) = true then _ else _
      rw [he, Bool.true_and]
    · have he : f.ps.isEmpty = false := by
        cases hh : f.ps.isEmpty with
        | false => rfl
        | true => rw [List.isEmpty_iff] at hh; rw [hh] at hp; exact absurd rfl hp
      rw [if_neg hp]
      show _ = if (f.ps.isEmpty && plainL l) = true then _ else _
      rw [he, Bool.false_and]
      rfl
theorem upT_zero {l : List Fo} (h : ∀ f ∈ l, f.us.length = 7) : upT l 0 = if plainL l = true then (((maskN l : Nat) : Int), true) else (0, false) := by
  have := upT_nat l 0 h (by decide)
  rw [Nat.zero_or] at this
  exact this
/-- A mask with one bit. -/
theorem pop_one : ∀ M, M < 256 → M.testBit 0 = false → popM M ≤ 1 → M ≠ 0 → M = 2 ^ M.log2 ∧ 1 ≤ M.log2 ∧ M.log2 ≤ 7 := by decide +kernel
theorem pop_zero : popM 0 = 0 := by decide +kernel
/-- The pick. -/
def pkF (mx : Bool) (l : List Fo) : Fo :=
  if l.length = 1 then l.headD (.mk z01 [])
  else if plainL l = false ∨ 1 < popM (maskN l) then .mk z01 [(mx, l)]
  else if maskN l = 0 then .mk z01 []
  else .mk (oneU ((maskN l).log2 : Nat) (wk.utAll (if mx then 1 else -1) (amU (maskN l).log2 l))) []
theorem amU_64 {u : Nat} (h1 : 1 ≤ u) (h7 : u ≤ 7) {l : List Fo} (h : ∀ f ∈ l, Us f.us) : ∀ r ∈ amU u l, R64 r := by
  intro r hr
  obtain ⟨y, hy, rfl⟩ := List.mem_map.1 hr
  obtain ⟨p, q, hpq, i1, i2⟩ := us_at (h y hy) (k := u - 1) (by omega)
  show R64 (y.us.getD (u - 1) (0, 0))
  rw [List.getD_eq_getElem?_getD, hpq]
  exact ⟨i1, i2⟩
theorem pkF_us {mx : Bool} {l : List Fo} (h : ∀ f ∈ l, Us f.us) : Us (pkF mx l).us := by
  have hl := fun f hf => (h f hf).1
  unfold pkF
  split
  · rename_i h1
    match l, h1 with
    | [f], _ => exact h f (by simp)
  split
  · exact zus
  split
  · exact zus
  · rename_i h1 h2 h3
    have hp : popM (maskN l) ≤ 1 := by
      refine Nat.le_of_not_lt fun hh => h2 (.inr hh)
    obtain ⟨-, a1, a7⟩ := pop_one _ (maskN_lt hl) (maskN_bit0 l) hp h3
    obtain ⟨i1, i2⟩ := ut_64 (if mx then 1 else -1) (amU_64 a1 a7 h)
    exact one_us _ _ _ i1 i2
theorem fm_us {w : World} {n : Nat} {v : Value} {l : List Fo} (h : FM w n v l) : ∀ f ∈ l, Us f.us := by
  intro f hf
  obtain ⟨i, hi⟩ := List.mem_iff_getElem?.1 hf
  obtain ⟨_, _, _, _, _, _, _, hu, _⟩ := fm_range h hi
  exact hu
end Go.Proofs.YtdnnidnghaifgaaDoor.nm
set_option linter.unusedVariables false
set_option linter.unusedSimpArgs false
namespace Go.Proofs.YtdnnidnghaifgaaDoor.rowg
open Go.ChangeShapes Go.WideShapes Go.ChangeAt Go.RowKit Go.Joins
open Go.ChangeMaps (open_string shut_string)
open Go.Proofs.YtdnnidnghaifgaaDoor.nm

instance : Inhabited Fo := ⟨.mk [] []⟩
theorem cFo : Tryd.prog.cellsOf 38 = 15 := by kernel_rfl
theorem cUn : Tryd.prog.cellsOf 35 = 14 := by kernel_rfl
theorem cPa : Tryd.prog.cellsOf 56 = 2 := by kernel_rfl
theorem cPs : Tryd.prog.cellsOf 36 = 1 := by kernel_rfl
theorem cFs : Tryd.prog.cellsOf 34 = 1 := by kernel_rfl
set_option maxRecDepth 100000 in
/-- Two cells that are a fraction's. -/
theorem rat_cells {H : Type} {enc : TypeId × Value → H} {W : World} {held : Bool} {cs : List Value} {m : Nat} {d : DataW H × List MemPlace}
    (hf : DataW.trod enc Tryd.prog W 0 (fun _ => true) held m 23 cs = some d) : ∃ n e, cs = [.int .i64 n, .int .i64 e] ∧ i64 n ∧ i64 e ∧ 3 ≤ Rows.uptoBulk d.1 := by
  obtain ⟨ys, m2, _, hy, hc, hl2, hq2⟩ := DataW.trod_struct Tryd.underlying23 hf
  rw [cR] at hc
  match cs, hc, ys, hl2 with
  | [c1, c2], _, [u0, u1], _ =>
    have r0' : DataW.trod enc Tryd.prog W 0 (fun _ => true) held m2 2 (([c1, c2].drop 0).take (Tryd.prog.cellsOf 2)) = some u0 := hq2 0 _ rfl
    rw [cL] at r0'
    have r0 : DataW.trod enc Tryd.prog W 0 (fun _ => true) held m2 2 [c1] = some u0 := r0'
    have r1' : DataW.trod enc Tryd.prog W 0 (fun _ => true) held m2 2 (([c1, c2].drop 1).take (Tryd.prog.cellsOf 2)) = some u1 := hq2 1 _ rfl
    rw [cL] at r1'
    have r1 : DataW.trod enc Tryd.prog W 0 (fun _ => true) held m2 2 [c2] = some u1 := r1'
    obtain ⟨n, en, rfl, wn⟩ := DataW.trod_int Tryd.underlying2 r0
    obtain ⟨dd, ed, rfl, wd⟩ := DataW.trod_int Tryd.underlying2 r1
    simp at en ed
    subst en ed
    have hD : d.1 = .agg [.lit (.int .i64 n), .lit (.int .i64 dd)] := by simpa using congrArg Prod.fst hy
    refine ⟨n, dd, rfl, bounds_i64 wn, bounds_i64 wd, ?_⟩
    rw [hD]
    simp only [Rows.uptoBulk, Rows.uptoBulkAll]
    omega
set_option maxRecDepth 100000 in
/-- Fourteen cells that are seven fractions. -/
theorem un_cells {H : Type} {enc : TypeId × Value → H} {W : World} {held : Bool} {cs : List Value} {m : Nat} {d : DataW H × List MemPlace}
    (hf : DataW.trod enc Tryd.prog W 0 (fun _ => true) held m 35 cs = some d) : ∃ us, Us us ∧ cs = usL us ∧ 22 ≤ Rows.uptoBulk d.1 := by
  obtain ⟨xs, m2, _, hx, hc, hl, hq⟩ := DataW.trod_array (n := 7) (e := 23) Tryd.underlying35 hf
  rw [cUn] at hc
  rw [cR] at hq
  match cs, hc, xs, hl with
  | [c0, c1, c2, c3, c4, c5, c6, c7, c8, c9, c10, c11, c12, c13], _, [x0, x1, x2, x3, x4, x5, x6], _ =>
    obtain ⟨n0, e0, h0, a0, b0, k0⟩ := rat_cells (d := x0) (hq 0 (by omega))
    obtain ⟨n1, e1, h1, a1, b1, k1⟩ := rat_cells (d := x1) (hq 1 (by omega))
    obtain ⟨n2, e2, h2, a2, b2, k2⟩ := rat_cells (d := x2) (hq 2 (by omega))
    obtain ⟨n3, e3, h3, a3, b3, k3⟩ := rat_cells (d := x3) (hq 3 (by omega))
    obtain ⟨n4, e4, h4, a4, b4, k4⟩ := rat_cells (d := x4) (hq 4 (by omega))
    obtain ⟨n5, e5, h5, a5, b5, k5⟩ := rat_cells (d := x5) (hq 5 (by omega))
    obtain ⟨n6, e6, h6, a6, b6, k6⟩ := rat_cells (d := x6) (hq 6 (by omega))
    simp at h0 h1 h2 h3 h4 h5 h6
    obtain ⟨rfl, rfl⟩ := h0
    obtain ⟨rfl, rfl⟩ := h1
    obtain ⟨rfl, rfl⟩ := h2
    obtain ⟨rfl, rfl⟩ := h3
    obtain ⟨rfl, rfl⟩ := h4
    obtain ⟨rfl, rfl⟩ := h5
    obtain ⟨rfl, rfl⟩ := h6
    refine ⟨[(n0, e0), (n1, e1), (n2, e2), (n3, e3), (n4, e4), (n5, e5), (n6, e6)], ⟨rfl, ?_⟩, rfl, ?_⟩
    · intro r hr
      simp at hr
      rcases hr with rfl | rfl | rfl | rfl | rfl | rfl | rfl
      · exact ⟨a0, b0⟩
      · exact ⟨a1, b1⟩
      · exact ⟨a2, b2⟩
      · exact ⟨a3, b3⟩
      · exact ⟨a4, b4⟩
      · exact ⟨a5, b5⟩
      · exact ⟨a6, b6⟩
    · have hD : d.1 = .agg [x0.1, x1.1, x2.1, x3.1, x4.1, x5.1, x6.1] := by simpa using congrArg Prod.fst hx
      rw [hD]
      simp only [Rows.uptoBulk, Rows.uptoBulkAll]
      omega
set_option maxRecDepth 100000 in
/-- Fifteen cells that are a form's. -/
theorem fo_cells {H : Type} {enc : TypeId × Value → H} {W : World} {held : Bool} {cs : List Value} {m N : Nat} {d : DataW H × List MemPlace} {X : Value → List Pa → Prop}
    (hf : DataW.trod enc Tryd.prog W 0 (fun _ => true) held m 38 cs = some d) (hN : Rows.uptoBulk d.1 ≤ N)
    (hX : ∀ (c : Value) (fuel : Nat) (x : DataW H × List MemPlace), DataW.trod enc Tryd.prog W 0 (fun _ => true) held fuel 36 [c] = some x → Rows.uptoBulk x.1 + 23 ≤ N → ∃ l, X c l) :
    ∃ us ps u, Us us ∧ cs = usL us ++ [u] ∧ X u ps := by
  obtain ⟨xs, k', _, hx', hc, hl', hq⟩ := DataW.trod_struct Tryd.underlying38 hf
  rw [cFo] at hc
  match cs, hc, xs, hl' with
  | [c0, c1, c2, c3, c4, c5, c6, c7, c8, c9, c10, c11, c12, c13, c14], _, [y0, y1], _ =>
    have q0' : DataW.trod enc Tryd.prog W 0 (fun _ => true) held k' 35 (([c0, c1, c2, c3, c4, c5, c6, c7, c8, c9, c10, c11, c12, c13, c14].drop 0).take (Tryd.prog.cellsOf 35)) = some y0 := hq 0 _ rfl
    rw [cUn] at q0'
    have q0 : DataW.trod enc Tryd.prog W 0 (fun _ => true) held k' 35 [c0, c1, c2, c3, c4, c5, c6, c7, c8, c9, c10, c11, c12, c13] = some y0 := q0'
    have q1' : DataW.trod enc Tryd.prog W 0 (fun _ => true) held k' 36 (([c0, c1, c2, c3, c4, c5, c6, c7, c8, c9, c10, c11, c12, c13, c14].drop 14).take (Tryd.prog.cellsOf 36)) = some y1 := hq 1 _ rfl
    rw [cPs] at q1'
    have q1 : DataW.trod enc Tryd.prog W 0 (fun _ => true) held k' 36 [c14] = some y1 := q1'
    obtain ⟨us, hus, hcs, hb⟩ := un_cells q0
    have hD : d.1 = .agg [y0.1, y1.1] := by simpa using congrArg Prod.fst hx'
    rw [hD] at hN
    simp only [Rows.uptoBulk, Rows.uptoBulkAll] at hN
    obtain ⟨ps, hps⟩ := hX c14 k' y1 q1 (by omega)
    refine ⟨us, ps, c14, hus, ?_, hps⟩
    rw [← hcs]
    rfl
set_option maxRecDepth 100000 in
/-- Two cells that are a part's. -/
theorem pa_cells {H : Type} {enc : TypeId × Value → H} {W : World} {held : Bool} {cs : List Value} {m N : Nat} {d : DataW H × List MemPlace} {X : Value → List Fo → Prop}
    (hf : DataW.trod enc Tryd.prog W 0 (fun _ => true) held m 56 cs = some d) (hN : Rows.uptoBulk d.1 ≤ N)
    (hX : ∀ (c : Value) (fuel : Nat) (x : DataW H × List MemPlace), DataW.trod enc Tryd.prog W 0 (fun _ => true) held fuel 34 [c] = some x → Rows.uptoBulk x.1 + 2 ≤ N → ∃ l, X c l) :
    ∃ mx l u, cs = [.bool mx, u] ∧ X u l := by
  obtain ⟨xs, k', _, hx', hc, hl', hq⟩ := DataW.trod_struct Tryd.underlying56 hf
  rw [cPa] at hc
  match cs, hc, xs, hl' with
  | [c0, c1], _, [y0, y1], _ =>
    have q0' : DataW.trod enc Tryd.prog W 0 (fun _ => true) held k' 4 (([c0, c1].drop 0).take (Tryd.prog.cellsOf 4)) = some y0 := hq 0 _ rfl
    rw [cB] at q0'
    have q0 : DataW.trod enc Tryd.prog W 0 (fun _ => true) held k' 4 [c0] = some y0 := q0'
    have q1' : DataW.trod enc Tryd.prog W 0 (fun _ => true) held k' 34 (([c0, c1].drop 1).take (Tryd.prog.cellsOf 34)) = some y1 := hq 1 _ rfl
    rw [cFs] at q1'
    have q1 : DataW.trod enc Tryd.prog W 0 (fun _ => true) held k' 34 [c1] = some y1 := q1'
    obtain ⟨b, eb, hy0⟩ := DataW.trod_bool Tryd.underlying4 q0
    simp at eb
    subst eb
    have hD : d.1 = .agg [y0.1, y1.1] := by simpa using congrArg Prod.fst hx'
    rw [hD] at hN
    simp only [Rows.uptoBulk, Rows.uptoBulkAll] at hN
    have := one_le y0.1
    obtain ⟨l, hl⟩ := hX c1 k' y1 q1 (by omega)
    exact ⟨b, l, c1, rfl, hl⟩
theorem FM.le {w : World} {n m : Nat} (h : n ≤ m) {v : Value} {l : List Fo} (hf : FM w n v l) : FM w m v l := by
  induction m with
  | zero => obtain rfl : n = 0 := by omega
            exact hf
  | succ m ih =>
    by_cases e : n = m + 1
    · subst e; exact hf
    · exact (ih (by omega)).up
/-- The parts of a form that comes in. -/
theorem pas_open {H : Type} {enc : TypeId × Value → H} {W : World} {held : Bool} {X : Value → List Fo → Prop} {N : Nat} {c : Value} {fuel : Nat} {x : DataW H × List MemPlace}
    (hf : DataW.trod enc Tryd.prog W 0 (fun _ => true) held fuel 36 [c] = some x) (hb : Rows.uptoBulk x.1 ≤ N) (hN : N ≤ 1048576)
    (hX : ∀ (c : Value) (fuel : Nat) (x : DataW H × List MemPlace), DataW.trod enc Tryd.prog W 0 (fun _ => true) held fuel 34 [c] = some x → Rows.uptoBulk x.1 + 3 ≤ N → ∃ l, X c l) : ∃ l, nm.RowOf W 2 (PaR W X) c l := by
  have h1 := one_le x.1
  obtain ⟨l, hr⟩ := row_open (α := Pa) (N := N - 1) Tryd.underlying36 cPa (by omega) (PaR W X) hf (by omega) (by omega) (fun b o m cs d h1 h2 h3 h4 h5 => by
    obtain ⟨mx, l, u, rfl, hX'⟩ := pa_cells (N := N - 1) (X := X) h4 h5 (fun c fuel x hx hbx => hX c fuel x hx (by omega))
    exact ⟨(mx, l), u, h2 0 (by omega), h2 1 (by omega), hX'⟩)
  exact ⟨l, hr⟩
/-- A slice of forms that comes in. -/
theorem fos_open {H : Type} {enc : TypeId × Value → H} {W : World} {held : Bool} (N : Nat) : ∀ (c : Value) (fuel : Nat) (x : DataW H × List MemPlace),
    DataW.trod enc Tryd.prog W 0 (fun _ => true) held fuel 34 [c] = some x → Rows.uptoBulk x.1 ≤ N → N ≤ 1048576 → ∃ l : List Fo, FM W (N / 16) c l := by
  induction N using Nat.strongRecOn with
  | ind N ih =>
    intro c fuel x hf hb hN
    have h1 := one_le x.1
    by_cases h28 : 16 ≤ N
    · obtain ⟨l, hr⟩ := row_open (α := Fo) (N := N - 1) Tryd.underlying34 cFo (by omega) (FoR W (FM W (N / 16 - 1))) hf (by omega) (by omega) (fun b o m cs d h1 h2 h3 h4 h5 => by
        obtain ⟨us, ps, u, hus, rfl, hX'⟩ := fo_cells (N := N - 1) (X := nm.RowOf W 2 (PaR W (FM W (N / 16 - 1)))) h4 h5 (fun c fuel x hx hbx => pas_open (N := N - 24) hx (by omega) (by omega) (fun c fuel x hx hbx => by
          have hx1 := one_le x.1
          obtain ⟨l, hl⟩ := ih (N - 27) (by omega) c fuel x hx (by omega) (by omega)
          exact ⟨l, FM.le (by omega) hl⟩))
        refine ⟨.mk us ps, u, ⟨hus, fun i r hi => ?_⟩, ?_, hX'⟩
        · obtain ⟨rn, rd⟩ := r
          obtain ⟨e1, e2⟩ := usL_at hi
          have hi7 : i < 7 := by have := (List.getElem?_eq_some_iff.1 hi).1; rw [show (Fo.mk us ps).us = us from rfl, hus.1] at this; exact this
          have ll := usL_len us
          rw [hus.1] at ll
          refine ⟨?_, ?_⟩
          · rw [h2 (i * 2) (by omega), List.getElem?_append_left (by omega)]; exact e1
          · rw [show o + i * 2 + 1 = o + (i * 2 + 1) by omega, h2 (i * 2 + 1) (by omega), List.getElem?_append_left (by omega)]; exact e2
        · have ll := usL_len us
          rw [hus.1] at ll
          rw [h2 14 (by omega), List.getElem?_append_right (by omega), show 14 - (usL us).length = 0 by omega]; rfl)
      refine ⟨l, ?_⟩
      obtain ⟨q, hq⟩ : ∃ q, N / 16 = q + 1 := ⟨N / 16 - 1, by omega⟩
      rw [hq] at hr ⊢
      exact hr
    · obtain ⟨l, hr⟩ := row_open (α := Fo) (N := N - 1) Tryd.underlying34 cFo (by omega) (fun _ _ _ => False) hf (by omega) (by omega) (fun b o m cs d h1 h2 h3 h4 h5 => by
        exfalso
        obtain ⟨us, ps, u, hus, rfl, hX'⟩ := fo_cells (N := N - 1) (X := fun _ _ => False) h4 h5 (fun c fuel x hx hbx => by exfalso; omega)
        exact hX')
      refine ⟨l, ?_⟩
      rcases hr with ⟨a, cp, rfl, rfl⟩ | ⟨b, o, cp, rfl, h0, hb', hc, hn, hm, hr⟩
      · exact FM.le (Nat.zero_le _) ⟨rfl, a, cp, rfl⟩
      · exact absurd (hr 0 l[0] (List.getElem?_eq_getElem h0)) id
end Go.Proofs.YtdnnidnghaifgaaDoor.rowg
