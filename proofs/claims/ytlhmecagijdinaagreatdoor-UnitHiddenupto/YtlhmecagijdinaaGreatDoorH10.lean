/-
  The sum of forms, with their parts: by the reference.
  The sum of forms over an elder world: by the program.
-/
import Derived.Test.YtlhmecagijdinaaGreatDoorH09
set_option linter.unusedVariables false
set_option linter.unusedSimpArgs false
namespace Go.Proofs.YtlhmecagijdinaaGreatDoor.nm
open Go.RowKit

/-- So much of each unit, the first as it is. -/
def raU : List Fo → List (Int × Int)
  | [] => z01
  | x :: r => (r.map Fo.us).foldl plU x.us
theorem raU_us {l : List Fo} (h : ∀ x ∈ l, Us x.us) : Us (raU l) := by
  cases l with
  | nil => exact zus
  | cons x r => exact sumU_us (fun y hy => by
      obtain ⟨z, hz, rfl⟩ := List.mem_map.1 hy
      exact h z (by simp [hz])) _ (h x (by simp))
theorem raU_step {l : List Fo} {k : Nat} {x : Fo} (h : l[k]? = some x) : raU (l.take (k + 1)) = if k = 0 then x.us else plU (raU (l.take k)) x.us := by
  cases l with
  | nil => simp at h
  | cons y r =>
    cases k with
    | zero => simp at h; subst h; simp [raU]
    | succ k =>
      have hr : r[k]? = some x := by simpa using h
      rw [if_neg (by omega), List.take_succ_cons, List.take_succ_cons]
      show ((r.take (k + 1)).map Fo.us).foldl plU y.us = plU (((r.take k).map Fo.us).foldl plU y.us) x.us
      rw [List.take_add_one, hr, List.map_append, List.foldl_append]
      rfl
theorem below_sees {w w' : World} (h : Below w.heap.size w w') : Sees w w' := ⟨h.size, fun b o v k => (h.cell (p := ⟨b, o, none⟩) (World.block_lt_of_cell? _ _ k)).trans k⟩
theorem Sees.trans {a b c : World} (h : Sees a b) (k : Sees b c) : Sees a c := ⟨Nat.le_trans h.1 k.1, fun x o v q => k.2 _ _ _ (h.2 _ _ _ q)⟩
/-- 'append(own, l...)', l a slice of parts that came in. -/
theorem wpList_append_parts2 {w wr : World} {B n : Nat} {ops : Array Oper} {rest : List Oper} {o : Oper} {a : Act} {Q : Exit → Act → World → Prop} (hgd : o.guard = none) (s x : Operand)
    (ho : o.op = .call { callee := .builtin .append, args := #[s, x], argTypes := #[28, 28] })
    (v : Value) (l : List Pa) (hs : a.eval s = v) (hown : PO w B n wr v l) (hbl : ∀ b o v, w.cell? ⟨b, o, none⟩ = some v → wr.cell? ⟨b, o, none⟩ = some v) (hB : B ≤ wr.heap.size) (u : Value) (l2 : List Pa) (hx : a.eval x = u) (hu : PM w n u l2) (hl : l.length + l2.length ≤ 1000000000)
    (h : ∀ v' w', PO w B n w' v' (l ++ l2) → Below B wr w' → wpList Tryz.prog ops Q rest (a.put o.dst v') w') : wpList Tryz.prog ops Q (o :: rest) a wr := by
  obtain ⟨i1, hj, hy0, hy1, hy2⟩ := info_parts infoPa
  obtain ⟨xs, ho1, hr1⟩ := hown
  obtain ⟨ad, c, rfl, _⟩ := hu.shape
  have grow : ∀ (ys : List Value), PaC w n l2 ys → ∀ v' w', w'.ownsRow B 60 2 v' (l.length + l2.length) (xs ++ ys) → wr.grownBy w' v.ownBlock → PO w B n w' v' (l ++ l2) ∧ Below B wr w' := fun ys hys v' w' h1 h2 =>
    ⟨⟨xs ++ ys, by rw [List.length_append]; exact h1, hr1.app hys⟩, (Below.refl B wr).grown h2 hB (fun k hk => (ho1.lt k hk).1)⟩
  cases ad with
  | none =>
    have h0 : l2 = [] := by
      rcases hu with ⟨_, _, _, h⟩ | ⟨b, o', c', hv, _⟩
      · exact h
      · cases hv
    subst h0
    exact wpList_append_nil hgd s x 28 ho B 60 i1 2 c Tryz.underlying28 hj v l.length xs hs ho1 hx (h v wr (by rw [List.append_nil]; exact ⟨xs, ho1, hr1⟩) (Below.refl _ _))
  | some ad =>
    by_cases h0 : l2 = []
    · subst h0
      refine wpList_append_own wr hgd s x 28 ho B 60 i1 _ 2 32 Tryz.underlying28 hj hy0 hy1 hy2 rfl (by decide) v l.length xs hs ho1 ad 0 c [] hx rfl (by intro j u h; simp at h) (by intro u h; cases h) (by unfold maxLen; simp at hl; omega) (by simp at hl; omega) hB ?_
      intro v' w' h1 h2 _
      obtain ⟨g1, g2⟩ := grow [] .nil v' w' (by simpa using h1) h2
      exact h v' w' g1 g2
    · obtain ⟨b, o', spot⟩ := ad
      obtain ⟨r0, hr0⟩ : ∃ r, l2[0]? = some r := by
        cases l2 with
        | nil => exact absurd rfl h0
        | cons y q => exact ⟨y, rfl⟩
      obtain ⟨b', o'', c', _, hv, hbb', _⟩ := PM.at hu hr0
      simp only [Value.slice.injEq, Option.some.injEq, Addr.mk.injEq, true_and] at hv
      obtain ⟨⟨rfl, rfl, rfl⟩, rfl⟩ := hv
      have hbb : b < w.heap.size := hbb'
      obtain ⟨ys, hys, hcell⟩ := PM.cells hu rfl l2.length 0 (by omega)
      rw [List.drop_zero] at hys
      refine wpList_append_own wr hgd s x 28 ho B 60 i1 _ 2 32 Tryz.underlying28 hj hy0 hy1 hy2 rfl (by decide) v l.length xs hs ho1 ⟨b, o', none⟩ l2.length c ys hx hys.len (fun j u hj' => ?_) hys.one (by unfold maxLen; omega) (by omega) hB ?_
      · rw [Addr.add_lit]
        have := hcell j u hj'
        rw [Nat.zero_mul, Nat.add_zero] at this
        exact hbl _ _ _ this
      · intro v' w' h1 h2 _
        obtain ⟨g1, g2⟩ := grow ys hys v' w' h1 h2
        exact h v' w' g1 g2
def RelAr (w0 w : World) (tb n : Nat) (l : List Fo) (i : Value) (wr : World) : Prop := ∃ (k : Nat) (pv : Value), i = .int .i64 k ∧ k ≤ l.length ∧ Hid (BF wr w.heap.size z00 nilS ∧ BF wr tb (raU (l.take k)) pv ∧ PO w0 (tb + 1) n wr pv (ssP (l.take k)) ∧ Below w.heap.size w wr)
theorem RelAr.mk {w0 w : World} {tb n : Nat} {l : List Fo} {i : Value} {wr : World} (k : Nat) (pv : Value) (h1 : i = .int .i64 k) (h2 : k ≤ l.length) (h3 : BF wr w.heap.size z00 nilS) (h4 : BF wr tb (raU (l.take k)) pv) (h5 : PO w0 (tb + 1) n wr pv (ssP (l.take k))) (h6 : Below w.heap.size w wr) : RelAr w0 w tb n l i wr := ⟨k, pv, h1, h2, h3, h4, h5, h6⟩
def RelAi (w0 w : World) (tb kb n : Nat) (S N xus : List (Int × Int)) (xu pv : Value) (P : List Pa) (i : Value) (wq : World) : Prop := ∃ j : Nat, i = .int .i64 j ∧ j ≤ 7 ∧ Hid (BF wq tb (N.take j ++ S.drop j) pv ∧ BF wq kb xus xu ∧ BF wq w.heap.size z00 nilS ∧ PO w0 (tb + 1) n wq pv P ∧ Below w.heap.size w wq)
theorem RelAi.mk {w0 w : World} {tb kb n : Nat} {S N xus : List (Int × Int)} {xu pv : Value} {P : List Pa} {i : Value} {wq : World} (j : Nat) (h1 : i = .int .i64 j) (h2 : j ≤ 7) (h3 : BF wq tb (N.take j ++ S.drop j) pv) (h4 : BF wq kb xus xu) (h5 : BF wq w.heap.size z00 nilS) (h6 : PO w0 (tb + 1) n wq pv P) (h7 : Below w.heap.size w wq) : RelAi w0 w tb kb n S N xus xu pv P i wq := ⟨j, h1, h2, h3, h4, h5, h6, h7⟩
set_option maxRecDepth 100000 in
set_option maxHeartbeats 16000000 in
theorem addRF_any (n : Nat) (l : List Fo) (v : Value) (w0 w : World) (hse : Sees w0 w) (hv : FM w0 (n + 1) v l) (hpl : (ssP l).length ≤ 1000000000) : Calls Tryz.prog 22 #[v] w fun e w' => ∃ u, e = .returned (foV (raU l) u) ∧ ∃ B, w.heap.size ≤ B ∧ PO w0 B n w' u (ssP l) ∧ Below w.heap.size w w' := by
  have CZ := hide (fun (W : World) (h : Below w.heap.size w W) => zeroR_any W)
  rw [show foV z01 nilS = .agg #[.int .i64 0, .int .i64 1, .int .i64 0, .int .i64 1, .int .i64 0, .int .i64 1, .int .i64 0, .int .i64 1, .int .i64 0, .int .i64 1, .int .i64 0, .int .i64 1, .int .i64 0, .int .i64 1, .slice none 0 0] from rfl] at CZ
  have HV := hide hv
  have HSE := hide hse
  clear hse
  have AU := hide (show ∀ k, Us (raU (l.take k)) from fun k => raU_us (fun x hx => by
    obtain ⟨i, hi⟩ := List.mem_iff_getElem?.1 (List.mem_of_mem_take hx)
    obtain ⟨_, _, _, _, _, _, _, hu, _⟩ := fm_range hv hi
    exact hu))
  have PL := hide (show ∀ k, (ssP (l.take (k + 1))).length ≤ 1000000000 from fun k => Nat.le_trans (ssP_take l (k + 1)) hpl)
  obtain ⟨a, c, rfl, h9⟩ := FM.shape hv
  clear hv
  obtain ⟨W1, hW1⟩ : ∃ W1, w.alloc (.cells #[.int .i64 0, .int .i64 0, .int .i64 0, .int .i64 0, .int .i64 0, .int .i64 0, .int .i64 0, .int .i64 0, .int .i64 0, .int .i64 0, .int .i64 0, .int .i64 0, .int .i64 0, .int .i64 0, .slice none 0 0] 30) = W1 := ⟨_, rfl⟩
  have B0 := hide (show Below w.heap.size w W1 by rw [← hW1]; exact bplus (Below.refl _ _) _)
  have P1 := hide (show BF W1 w.heap.size z00 nilS by rw [← hW1]; exact Bk.new w _ _)
  have HW1 := hide hW1
  obtain ⟨SU, hSU⟩ : ∃ x, raU l = x := ⟨_, rfl⟩
  obtain ⟨SP, hSP⟩ : ∃ x, ssP l = x := ⟨_, rfl⟩
  rw [hSP] at hpl
  rw [hSU, hSP]
  have HSU := hide hSU
  have HSP := hide hSP
  have HPL := hide hpl
  clear hW1 hSU hSP hpl
  go_enter Tryz.func22, Tryz.ntmps22
  go_upto_region 1 with fail
  rw [HW1.out]
  clear HW1
  go_upto_region 2 with (go_at_call 13; refine (CZ.out _ B0.out).mono ?_; rintro e wz ⟨rfl, BZ⟩; replace BZ := hide BZ; clear CZ)
  have hz : w.heap.size < wz.heap.size := Nat.lt_of_lt_of_le (Bk.lt P1.out) BZ.out.size
  have B2 := hide (show Below w.heap.size w (wz.alloc (.cells #[.int .i64 0, .int .i64 1, .int .i64 0, .int .i64 1, .int .i64 0, .int .i64 1, .int .i64 0, .int .i64 1, .int .i64 0, .int .i64 1, .int .i64 0, .int .i64 1, .int .i64 0, .int .i64 1, .slice none 0 0] 30)) from bplus (bto B0.out BZ.out) _)
  have F0 := hide (show BF (wz.alloc (.cells #[.int .i64 0, .int .i64 1, .int .i64 0, .int .i64 1, .int .i64 0, .int .i64 1, .int .i64 0, .int .i64 1, .int .i64 0, .int .i64 1, .int .i64 0, .int .i64 1, .int .i64 0, .int .i64 1, .slice none 0 0] 30)) wz.heap.size z01 nilS from Bk.new wz _ _)
  have F1 := hide (show BF (wz.alloc (.cells #[.int .i64 0, .int .i64 1, .int .i64 0, .int .i64 1, .int .i64 0, .int .i64 1, .int .i64 0, .int .i64 1, .int .i64 0, .int .i64 1, .int .i64 0, .int .i64 1, .int .i64 0, .int .i64 1, .slice none 0 0] 30)) w.heap.size z00 nilS from (Bk.up P1.out BZ.out).more _)
  clear P1 B0 BZ
  generalize wz.alloc (.cells #[.int .i64 0, .int .i64 1, .int .i64 0, .int .i64 1, .int .i64 0, .int .i64 1, .int .i64 0, .int .i64 1, .int .i64 0, .int .i64 1, .int .i64 0, .int .i64 1, .int .i64 0, .int .i64 1, .slice none 0 0] 30) = W2 at *
  generalize wz.heap.size = tb at *
  have HTW := hide hz
  go_wp2_with fail
  go_loopw [10] (fun i wr => RelAr w0 w tb n l i wr) (fun i _ => l.length - (intOf i).toNat)
  case atStart => exact .mk 0 (.slice none 0 0) rfl (by omega) F1.out F0.out (PO.nil _ _ _ _) B2.out
  case round =>
    obtain ⟨k, pv, rfl, hk, R⟩ := hrel
    obtain ⟨wo, hwo⟩ : ∃ wo, wo = wr := ⟨_, rfl⟩
    subst hwo
    have Q0 := hide R.out.1
    have Q1 := hide R.out.2.1
    have QP := hide R.out.2.2.1
    have BW := hide R.out.2.2.2
    clear R F0 F1 B2
    by_cases hlt : k < l.length
    · have hlt' : (k : Int) < l.length := by omega
      obtain ⟨x, hx⟩ : ∃ x, l[k]? = some x := ⟨_, List.getElem?_eq_getElem hlt⟩
      obtain ⟨n', hn', b, o, c', xu, hv', hb, -, -, hu, hu14, hpm⟩ := FM.at HV.out hx
      obtain rfl : n = n' := by omega
      obtain ⟨rfl, rfl⟩ : a = some ⟨b, o, none⟩ ∧ c = c' := by cases hv'; exact ⟨rfl, rfl⟩
      obtain ⟨m2, b2, o2, c2, xu2, hv2, hb2, hus2, hrg, hpm2⟩ := fm_range HV.out hx
      have HPM := hide hpm
      obtain ⟨pa, pc, hpv⟩ := PO.shape QP.out
      obtain ⟨xa, xc, hxu, hx9⟩ := PM.shape hpm
      have HPV := hide hpv
      have HXU := hide hxu
      have XUS := hide hu.1
      have SUS := hide (AU.out k)
      have NUS := hide (AU.out (k + 1))
      have RS := raU_step hx
      have SPs := hide (ssP_step hx)
      have PK := hide (show (ssP (l.take k)).length + x.ps.length ≤ 1000000000 by have := PL.out k; rw [SPs.out, List.length_append] at this; exact this)
      have lA := fo_len hu.1 xu
      have OA := hide (us_one (us := x.us) (pm_one hpm))
      have RG := hide (show wo.rangeAt b (o + k * 15) (usL x.us ++ [xu]) from fun j v hj => by
        have e : xu2 = xu ∧ b2 = b ∧ o2 = o := by
          obtain ⟨e1, e2⟩ : b2 = b ∧ o2 = o := by cases hv2; exact ⟨rfl, rfl⟩
          subst e1 e2
          have q := hrg 14 xu2 (by rw [List.getElem?_append_right (by rw [usL_len, hus2.1]; omega), usL_len, hus2.1]; rfl)
          rw [q] at hu14
          exact ⟨Option.some.inj hu14, rfl, rfl⟩
        obtain ⟨e1, e2, e3⟩ := e
        subst e1 e2 e3
        exact (HSE.out.trans (below_sees BW.out)).2 _ _ _ (hrg j v hj))
      have hbw : b < wo.heap.size := by (have := (HSE.out.trans (below_sees BW.out)).1; omega)
      have nb : b ≠ wo.heap.size := by omega
      obtain ⟨kb, hkb⟩ : ∃ kb, wo.heap.size = kb := ⟨_, rfl⟩
      have HKT := hide (show kb ≠ tb by rw [← hkb]; have := Bk.lt Q1.out; omega)
      obtain ⟨xus, hxus⟩ : ∃ y, x.us = y := ⟨_, rfl⟩
      obtain ⟨xps, hxps⟩ : ∃ y, x.ps = y := ⟨_, rfl⟩
      obtain ⟨NU, hNU⟩ : ∃ y, raU (l.take (k + 1)) = y := ⟨_, rfl⟩
      obtain ⟨SU0, hSU0⟩ : ∃ y, raU (l.take k) = y := ⟨_, rfl⟩
      obtain ⟨P0, hP0⟩ : ∃ y, ssP (l.take k) = y := ⟨_, rfl⟩
      rw [hxus] at XUS RS lA OA RG
      rw [hxps] at SPs HPM HXU PK
      rw [hNU] at RS NUS
      rw [hSU0] at RS SUS Q1
      rw [hP0] at HPV QP SPs PK
      have HNU := hide hNU
      clear hx hu hu14 hpm hpv hxu hxus hxps hNU hSU0 hP0 hrg hpm2 hus2 hv2 hb2 hx9 hn'
      (try clear hv')
      obtain ⟨A, hA⟩ : ∃ A, usL xus ++ [xu] = A := ⟨_, rfl⟩
      have sA : A.toArray.size = 15 := by rw [← hA, List.size_toArray]; exact lA
      have lA2 : A.length = 15 := by rw [← hA]; exact lA
      obtain ⟨W4, hW4⟩ : ∃ W4, (wo.alloc (.cells #[.int .i64 0, .int .i64 0, .int .i64 0, .int .i64 0, .int .i64 0, .int .i64 0, .int .i64 0, .int .i64 0, .int .i64 0, .int .i64 0, .int .i64 0, .int .i64 0, .int .i64 0, .int .i64 0, .slice none 0 0] 30)).setCells wo.heap.size 0 A = W4 := ⟨_, rfl⟩
      have T4 := hide (show (wo.alloc (.cells #[.int .i64 0, .int .i64 0, .int .i64 0, .int .i64 0, .int .i64 0, .int .i64 0, .int .i64 0, .int .i64 0, .int .i64 0, .int .i64 0, .int .i64 0, .int .i64 0, .int .i64 0, .int .i64 0, .slice none 0 0] 30)).there wo.heap.size 0 A.toArray.size from there_blk (heap_alloc_new wo _) (by rw [sA]; rfl))
      have H4 := hide (show (Tryz.prog.info? 30).map (·.size) = some A.toArray.size by rw [sA]; kernel_rfl)
      have H5 := hide (show (Tryz.prog.info? 30).map (·.size) = some A.length by rw [lA2]; kernel_rfl)
      have B4 := hide (show Below wo.heap.size wo W4 by rw [← hW4]; exact (bplus (Below.refl _ _) _).grown (setCells_grown _ _ _ _) (by simp) (fun k hk => by cases hk; exact Nat.le_refl _))
      have K2 := hide (show BF W4 kb xus xu by
        have q := Bk.puts A 0 _ _ (Bk.new wo 30 [.int .i64 0, .int .i64 0, .int .i64 0, .int .i64 0, .int .i64 0, .int .i64 0, .int .i64 0, .int .i64 0, .int .i64 0, .int .i64 0, .int .i64 0, .int .i64 0, .int .i64 0, .int .i64 0, .slice none 0 0]) (by rw [lA2]; simp)
        rw [List.take_zero, List.nil_append, Nat.zero_add, List.drop_of_length_le (by rw [lA2]; simp), List.append_nil] at q
        unfold BF
        rw [← hW4, hA, ← hkb]
        exact q)
      rw [hA] at RG OA
      have HW4 := hide hW4
      have K0 := hide (show BF W4 w.heap.size z00 nilS from Bk.up Q0.out B4.out)
      have K1 := hide (show BF W4 tb SU0 pv from Bk.up Q1.out B4.out)
      have KP := hide (show PO w0 (tb + 1) n W4 pv P0 from QP.out.up B4.out)
      have KB := hide (show Below w.heap.size w W4 from bto BW.out B4.out)
      have HKB := hide hkb
      clear hW4 hA Q0 Q1 QP lA hkb
      go_upto_region 5 with (first
        | (refine wpList_load_mid rfl 30 (.tmp 13) rfl b (o + k * 15) rfl A _ RG.out Tryz.underlying30 rfl H5.out ?_)
        | (refine wpList_store_mid rfl 30 (.tmp 5) (.tmp 14) rfl wo.heap.size 0 A.toArray rfl rfl T4.out H4.out (all_oneCell_toArray OA.out) ?_))
      (try rw [show A.toArray.toList = A from rfl])
      rw [HW4.out]
      rw [HKB.out]
      clear HW4 T4 RG B4 hbw nb
      by_cases hk0 : k = 0
      · have HN0 := hide (show NU = xus by rw [RS, if_pos hk0])
        subst hk0
        clear RS
        go_wp2_with fail
        go_loopw [15] (fun i wq => RelAi w0 w tb kb n SU0 NU xus xu pv P0 i wq) (fun i _ => 7 - (intOf i).toNat)
        case atStart => exact .mk 0 rfl (by omega) (by rw [List.take_zero, List.drop_zero, List.nil_append]; exact K1.out) K2.out K0.out KP.out KB.out
        case round =>
          obtain ⟨j, rfl, hj, R⟩ := hrel
          obtain ⟨wq, hwq⟩ : ∃ wq, wq = wr := ⟨_, rfl⟩
          subst hwq
          have X1 := hide R.out.1
          have X2 := hide R.out.2.1
          have X0 := hide R.out.2.2.1
          have XP := hide R.out.2.2.2.1
          have XB := hide R.out.2.2.2.2
          clear R K0 K1 K2 KP KB
          have htq : tb < wq.heap.size := Bk.lt X1.out
          have hkq : kb < wq.heap.size := Bk.lt X2.out
          have htn : tb ≠ wq.heap.size := by omega
          have hkn : kb ≠ wq.heap.size := by omega
          by_cases hj7 : j < 7
          · have hj7' : (j : Int) < 7 := by omega
            obtain ⟨sn, sd, hs, hsn, hsd⟩ := us_at SUS.out hj7
            obtain ⟨xn, xd, hx, hxn, hxd⟩ := us_at XUS.out hj7
            obtain ⟨nn, nd, hnj, hnn, hnd⟩ := us_at NUS.out hj7
            have hmix : (NU.take j ++ SU0.drop j)[j]? = some (sn, sd) := by
              rw [List.getElem?_append_right (by rw [List.length_take]; omega), List.length_take, show min j NU.length = j by rw [NUS.out.1]; omega, Nat.sub_self, List.getElem?_drop, Nat.add_zero]
              exact hs
            have hml : (NU.take j ++ SU0.drop j).length = 7 := by rw [List.length_append, List.length_take, List.length_drop, NUS.out.1, SUS.out.1]; omega
            have hstep : (NU.take j ++ SU0.drop j).set j (nn, nd) = NU.take (j + 1) ++ SU0.drop (j + 1) := by
              rw [List.set_append_right _ _ (by rw [List.length_take]; omega), List.length_take, show min j NU.length = j by rw [NUS.out.1]; omega, Nat.sub_self, drop_atE hs, List.set_cons_zero, List.take_add_one, hnj]
              simp
            have TC := hide (fun (W : World) (h : Below wq.heap.size wq W) => And.intro (BF.at (Bk.up X1.out h : BF W tb (NU.take j ++ SU0.drop j) pv) hml hmix) (And.intro (BF.at (Bk.up X2.out h : BF W kb xus xu) XUS.out.1 hx) (Bk.fz (Bk.up X1.out h))))
            have N1 := hide (fun (W : World) (h : Below wq.heap.size wq W) => show BF ((W.setCell ⟨tb, j * 2, none⟩ (.int .i64 nn)).setCell ⟨tb, j * 2 + 1, none⟩ (.int .i64 nd)) tb (NU.take (j + 1) ++ SU0.drop (j + 1)) pv by
              have := BF.put (Bk.up X1.out h : BF W tb (NU.take j ++ SU0.drop j) pv) (k := j) (by rw [hml]; exact hj7) nn nd
              rwa [hstep] at this)
            have N2 := hide (fun (W : World) (h : Below wq.heap.size wq W) => show BF ((W.setCell ⟨tb, j * 2, none⟩ (.int .i64 nn)).setCell ⟨tb, j * 2 + 1, none⟩ (.int .i64 nd)) kb xus xu from Bk.far (Bk.far (Bk.up X2.out h) HKT.out _ _) HKT.out _ _)
            have N0 := hide (fun (W : World) (h : Below wq.heap.size wq W) => show BF ((W.setCell ⟨tb, j * 2, none⟩ (.int .i64 nn)).setCell ⟨tb, j * 2 + 1, none⟩ (.int .i64 nd)) w.heap.size z00 nilS from Bk.far (Bk.far (Bk.up X0.out h) (by have := HTW.out; omega) _ _) (by have := HTW.out; omega) _ _)
            have NP := hide (fun (W : World) (h : Below wq.heap.size wq W) => show PO w0 (tb + 1) n ((W.setCell ⟨tb, j * 2, none⟩ (.int .i64 nn)).setCell ⟨tb, j * 2 + 1, none⟩ (.int .i64 nd)) pv P0 from (XP.out.up h).keep (fun g hg hl => (Below.heap_setCell _ ⟨tb, j * 2 + 1, none⟩ _ g (by show g ≠ tb; omega)).trans (Below.heap_setCell _ ⟨tb, j * 2, none⟩ _ g (by show g ≠ tb; omega))))
            have NB := hide (fun (W : World) (h : Below wq.heap.size wq W) => show Below w.heap.size w ((W.setCell ⟨tb, j * 2, none⟩ (.int .i64 nn)).setCell ⟨tb, j * 2 + 1, none⟩ (.int .i64 nd)) from ((bto XB.out h).setCell (by have := HTW.out; show w.heap.size ≤ tb; omega) _).setCell (by have := HTW.out; show w.heap.size ≤ tb; omega) _)
            have BQ := hide (Below.refl wq.heap.size wq)
            obtain ⟨⟨t0, t1⟩, ⟨x0, x1⟩, tz⟩ := TC.out wq BQ.out
            have tz0 := tz (j * 2)
            have tz1 := tz (j * 2 + 1)
            have HV0 := hide (show nn = xn ∧ nd = xd by
              have h1 := HN0.out
              rw [h1] at hnj
              have := hnj.symm.trans hx
              simpa using this)
            obtain ⟨rfl, rfl⟩ := HV0.out
            clear hs hx hnj hmix hstep hml tz TC HV0
            go_wp2_with fail
            go_roundw
            case rel => exact .mk (j + 1) (by go_num) (by omega) (N1.out _ BQ.out) (N2.out _ BQ.out) (N0.out _ BQ.out) (NP.out _ BQ.out) (NB.out _ BQ.out)
            case measure => simp [intOf]; omega
          · obtain rfl : j = 7 := by omega
            rw [List.take_of_length_le (by rw [NUS.out.1]; omega), List.drop_of_length_le (by rw [SUS.out.1]; omega), List.append_nil] at X1
            have hs6 : tb + 1 ≤ wq.heap.size := by omega
            have A9 := NUS.out.1
            have e1 : wq.cell? ⟨tb, 14, none⟩ = some (.slice pa P0.length pc) := by rw [← HPV.out]; exact BF.last X1.out A9
            have e2 : wq.cell? ⟨kb, 14, none⟩ = some (.slice xa xps.length xc) := by rw [← HXU.out]; exact BF.last X2.out XUS.out.1
            have NX := hide (fun (v' : Value) (w' : World) (h : Below (tb + 1) wq w') => show BF (w'.setCell ⟨tb, 14, none⟩ v') tb NU v' by
              have := Bk.put (Bk.low X1.out h (by omega)) 14 v'
              rw [List.set_append_right _ _ (by rw [usL_len, A9]; omega), usL_len, A9] at this
              exact this)
            have NT := hide (fun (w' : World) (h : Below (tb + 1) wq w') => show (w'.cell? ⟨tb, 14, none⟩ = some (.slice pa P0.length pc)) ∧ w'.frozen? ⟨tb, 14, none⟩ = false from ⟨by rw [← HPV.out]; exact BF.last (Bk.low X1.out h (by omega)) A9, Bk.fz (Bk.low X1.out h (by omega)) 14⟩)
            have N0 := hide (fun (v' : Value) (w' : World) (h : Below (tb + 1) wq w') => show BF (w'.setCell ⟨tb, 14, none⟩ v') w.heap.size z00 nilS from Bk.far (Bk.low X0.out h (by have := HTW.out; omega)) (by have := HTW.out; omega) _ _)
            have NB := hide (fun (v' : Value) (w' : World) (h : Below (tb + 1) wq w') => show Below w.heap.size w (w'.setCell ⟨tb, 14, none⟩ v') from (XB.out.trans (h.mono (by have := HTW.out; omega))).setCell (by have := HTW.out; show w.heap.size ≤ tb; omega) _)
            have NP := hide (fun (v' : Value) (w' : World) (h : PO w0 (tb + 1) n w' v' (P0 ++ xps)) => show PO w0 (tb + 1) n (w'.setCell ⟨tb, 14, none⟩ v') v' (ssP (l.take (0 + 1))) by rw [SPs.out]; exact h.keep (fun g hg hl => Below.heap_setCell w' ⟨tb, 14, none⟩ v' g (by show g ≠ tb; omega)))
            have XP2 := hide (show PO w0 (tb + 1) n wq (.slice pa P0.length pc) P0 by rw [← HPV.out]; exact XP.out)
            have HM2 := hide (show PM w0 n (.slice xa xps.length xc) xps by rw [← HXU.out]; exact HPM.out)
            rw [← HNU.out] at NX
            clear X0 X1 X2 XP A9
            go_wp2_with (at_builtin; refine wpList_append_parts2 rfl (.tmp 42) (.tmp 44) rfl _ P0 rfl XP2.out (HSE.out.trans (below_sees XB.out)).2 hs6 _ xps rfl HM2.out PK.out ?_; intro v' w' HO HB; obtain ⟨va, vc, hv2⟩ := PO.shape HO; subst hv2; rw [List.length_append] at HO; obtain ⟨t0, t1⟩ := NT.out w' HB; replace HO := hide HO; replace HB := hide HB; clear NT)
            go_roundw
            case rel => exact .mk (0 + 1) _ (by go_num) (by omega) (N0.out _ w' HB.out) (NX.out _ w' HB.out) (NP.out _ w' HO.out) (NB.out _ w' HB.out)
            case measure => simp [intOf]; omega
      · have HN1 := hide (show NU = plU SU0 xus by rw [RS, if_neg hk0])
        have hk0' : ((k : Int) == 0) = false := by rw [beq_eq_false_iff_ne]; omega
        have hk0'' : ¬ (k : Int) = 0 := by omega
        clear RS
        go_wp2_with fail
        go_loopw [15] (fun i wq => RelAi w0 w tb kb n SU0 NU xus xu pv P0 i wq) (fun i _ => 7 - (intOf i).toNat)
        case atStart => exact .mk 0 rfl (by omega) (by rw [List.take_zero, List.drop_zero, List.nil_append]; exact K1.out) K2.out K0.out KP.out KB.out
        case round =>
          obtain ⟨j, rfl, hj, R⟩ := hrel
          obtain ⟨wq, hwq⟩ : ∃ wq, wq = wr := ⟨_, rfl⟩
          subst hwq
          have X1 := hide R.out.1
          have X2 := hide R.out.2.1
          have X0 := hide R.out.2.2.1
          have XP := hide R.out.2.2.2.1
          have XB := hide R.out.2.2.2.2
          clear R K0 K1 K2 KP KB
          have htq : tb < wq.heap.size := Bk.lt X1.out
          have hkq : kb < wq.heap.size := Bk.lt X2.out
          have htn : tb ≠ wq.heap.size := by omega
          have hkn : kb ≠ wq.heap.size := by omega
          by_cases hj7 : j < 7
          · have hj7' : (j : Int) < 7 := by omega
            obtain ⟨sn, sd, hs, hsn, hsd⟩ := us_at SUS.out hj7
            obtain ⟨xn, xd, hx, hxn, hxd⟩ := us_at XUS.out hj7
            obtain ⟨nn, nd, hnj, hnn, hnd⟩ := us_at NUS.out hj7
            have hmix : (NU.take j ++ SU0.drop j)[j]? = some (sn, sd) := by
              rw [List.getElem?_append_right (by rw [List.length_take]; omega), List.length_take, show min j NU.length = j by rw [NUS.out.1]; omega, Nat.sub_self, List.getElem?_drop, Nat.add_zero]
              exact hs
            have hml : (NU.take j ++ SU0.drop j).length = 7 := by rw [List.length_append, List.length_take, List.length_drop, NUS.out.1, SUS.out.1]; omega
            have hstep : (NU.take j ++ SU0.drop j).set j (nn, nd) = NU.take (j + 1) ++ SU0.drop (j + 1) := by
              rw [List.set_append_right _ _ (by rw [List.length_take]; omega), List.length_take, show min j NU.length = j by rw [NUS.out.1]; omega, Nat.sub_self, drop_atE hs, List.set_cons_zero, List.take_add_one, hnj]
              simp
            have TC := hide (fun (W : World) (h : Below wq.heap.size wq W) => And.intro (BF.at (Bk.up X1.out h : BF W tb (NU.take j ++ SU0.drop j) pv) hml hmix) (And.intro (BF.at (Bk.up X2.out h : BF W kb xus xu) XUS.out.1 hx) (Bk.fz (Bk.up X1.out h))))
            have N1 := hide (fun (W : World) (h : Below wq.heap.size wq W) => show BF ((W.setCell ⟨tb, j * 2, none⟩ (.int .i64 nn)).setCell ⟨tb, j * 2 + 1, none⟩ (.int .i64 nd)) tb (NU.take (j + 1) ++ SU0.drop (j + 1)) pv by
              have := BF.put (Bk.up X1.out h : BF W tb (NU.take j ++ SU0.drop j) pv) (k := j) (by rw [hml]; exact hj7) nn nd
              rwa [hstep] at this)
            have N2 := hide (fun (W : World) (h : Below wq.heap.size wq W) => show BF ((W.setCell ⟨tb, j * 2, none⟩ (.int .i64 nn)).setCell ⟨tb, j * 2 + 1, none⟩ (.int .i64 nd)) kb xus xu from Bk.far (Bk.far (Bk.up X2.out h) HKT.out _ _) HKT.out _ _)
            have N0 := hide (fun (W : World) (h : Below wq.heap.size wq W) => show BF ((W.setCell ⟨tb, j * 2, none⟩ (.int .i64 nn)).setCell ⟨tb, j * 2 + 1, none⟩ (.int .i64 nd)) w.heap.size z00 nilS from Bk.far (Bk.far (Bk.up X0.out h) (by have := HTW.out; omega) _ _) (by have := HTW.out; omega) _ _)
            have NP := hide (fun (W : World) (h : Below wq.heap.size wq W) => show PO w0 (tb + 1) n ((W.setCell ⟨tb, j * 2, none⟩ (.int .i64 nn)).setCell ⟨tb, j * 2 + 1, none⟩ (.int .i64 nd)) pv P0 from (XP.out.up h).keep (fun g hg hl => (Below.heap_setCell _ ⟨tb, j * 2 + 1, none⟩ _ g (by show g ≠ tb; omega)).trans (Below.heap_setCell _ ⟨tb, j * 2, none⟩ _ g (by show g ≠ tb; omega))))
            have NB := hide (fun (W : World) (h : Below wq.heap.size wq W) => show Below w.heap.size w ((W.setCell ⟨tb, j * 2, none⟩ (.int .i64 nn)).setCell ⟨tb, j * 2 + 1, none⟩ (.int .i64 nd)) from ((bto XB.out h).setCell (by have := HTW.out; show w.heap.size ≤ tb; omega) _).setCell (by have := HTW.out; show w.heap.size ≤ tb; omega) _)
            have BQ := hide (Below.refl wq.heap.size wq)
            obtain ⟨⟨t0, t1⟩, ⟨x0, x1⟩, tz⟩ := TC.out wq BQ.out
            have tz0 := tz (j * 2)
            have tz1 := tz (j * 2 + 1)
            have HV0 := hide (show adR (sn, sd) (xn, xd) = (nn, nd) by
              have h1 := HN1.out
              rw [h1] at hnj
              unfold plU at hnj
              rw [List.getElem?_zipWith, hs, hx] at hnj
              simpa using hnj)
            have C2 := hide (fun (W : World) (T : TypeId) (h : Below wq.heap.size wq W) => (wk.addR_any _ [(sn, sd), (xn, xd)] _ ((wk.row_two W sn sd xn xd T).up ((wk.Up.refl _).drew)) (by intro r hr; simp at hr; rcases hr with rfl | rfl; exact ⟨hsn, hsd⟩; exact ⟨hxn, hxd⟩)).mono (R' := fun e w' => e = .returned (.agg #[.int .i64 nn, .int .i64 nd]) ∧ Below wq.heap.size wq w') (by rintro e w1 ⟨rfl, U⟩; exact ⟨by rw [show wk.addAll [(sn, sd), (xn, xd)] = (nn, nd) from HV0.out], bto (bplus h _).drew U.1⟩))
            have C3 := hide (fun (W : World) (T : TypeId) (h : Below wq.heap.size wq W) => (wk.addR_any _ [(sn, sd), (xn, xd)] _ (wk.row_two W sn sd xn xd T) (by intro r hr; simp at hr; rcases hr with rfl | rfl; exact ⟨hsn, hsd⟩; exact ⟨hxn, hxd⟩)).mono (R' := fun e w' => e = .returned (.agg #[.int .i64 nn, .int .i64 nd]) ∧ Below wq.heap.size wq w') (by rintro e w1 ⟨rfl, U⟩; exact ⟨by rw [show wk.addAll [(sn, sd), (xn, xd)] = (nn, nd) from HV0.out], bto (bplus h _) U.1⟩))
            clear hs hx hnj hmix hstep hml tz HV0
            go_upto_region 10 with fail
            go_region_with ((go_at_call 23; (first | refine (C2.out _ _ (by repeat (first | exact Below.refl _ _ | (with_reducible refine Below.drew ?_) | (with_reducible refine below_drewN ?_ _) | (refine bplus ?_ _)))).mono ?_ | refine (C3.out _ _ (by repeat (first | exact Below.refl _ _ | (with_reducible refine Below.drew ?_) | (with_reducible refine below_drewN ?_ _) | (refine bplus ?_ _)))).mono ?_); rintro e w4 ⟨rfl, B4⟩; replace B4 := hide B4; obtain ⟨⟨v0, v1⟩, ⟨y0, y1⟩, vz⟩ := TC.out w4 B4.out; have vz0 := vz (j * 2); have vz1 := vz (j * 2 + 1); clear vz))
            all_goals
              go_wp2_with fail
              go_roundw
              case rel => exact .mk (j + 1) (by go_num) (by omega) (N1.out _ B4.out) (N2.out _ B4.out) (N0.out _ B4.out) (NP.out _ B4.out) (NB.out _ B4.out)
              case measure => simp [intOf]; omega
          · obtain rfl : j = 7 := by omega
            rw [List.take_of_length_le (by rw [NUS.out.1]; omega), List.drop_of_length_le (by rw [SUS.out.1]; omega), List.append_nil] at X1
            have hs6 : tb + 1 ≤ wq.heap.size := by omega
            have A9 := NUS.out.1
            have e1 : wq.cell? ⟨tb, 14, none⟩ = some (.slice pa P0.length pc) := by rw [← HPV.out]; exact BF.last X1.out A9
            have e2 : wq.cell? ⟨kb, 14, none⟩ = some (.slice xa xps.length xc) := by rw [← HXU.out]; exact BF.last X2.out XUS.out.1
            have NX := hide (fun (v' : Value) (w' : World) (h : Below (tb + 1) wq w') => show BF (w'.setCell ⟨tb, 14, none⟩ v') tb NU v' by
              have := Bk.put (Bk.low X1.out h (by omega)) 14 v'
              rw [List.set_append_right _ _ (by rw [usL_len, A9]; omega), usL_len, A9] at this
              exact this)
            have NT := hide (fun (w' : World) (h : Below (tb + 1) wq w') => show (w'.cell? ⟨tb, 14, none⟩ = some (.slice pa P0.length pc)) ∧ w'.frozen? ⟨tb, 14, none⟩ = false from ⟨by rw [← HPV.out]; exact BF.last (Bk.low X1.out h (by omega)) A9, Bk.fz (Bk.low X1.out h (by omega)) 14⟩)
            have N0 := hide (fun (v' : Value) (w' : World) (h : Below (tb + 1) wq w') => show BF (w'.setCell ⟨tb, 14, none⟩ v') w.heap.size z00 nilS from Bk.far (Bk.low X0.out h (by have := HTW.out; omega)) (by have := HTW.out; omega) _ _)
            have NB := hide (fun (v' : Value) (w' : World) (h : Below (tb + 1) wq w') => show Below w.heap.size w (w'.setCell ⟨tb, 14, none⟩ v') from (XB.out.trans (h.mono (by have := HTW.out; omega))).setCell (by have := HTW.out; show w.heap.size ≤ tb; omega) _)
            have NP := hide (fun (v' : Value) (w' : World) (h : PO w0 (tb + 1) n w' v' (P0 ++ xps)) => show PO w0 (tb + 1) n (w'.setCell ⟨tb, 14, none⟩ v') v' (ssP (l.take (k + 1))) by rw [SPs.out]; exact h.keep (fun g hg hl => Below.heap_setCell w' ⟨tb, 14, none⟩ v' g (by show g ≠ tb; omega)))
            have XP2 := hide (show PO w0 (tb + 1) n wq (.slice pa P0.length pc) P0 by rw [← HPV.out]; exact XP.out)
            have HM2 := hide (show PM w0 n (.slice xa xps.length xc) xps by rw [← HXU.out]; exact HPM.out)
            rw [← HNU.out] at NX
            clear X0 X1 X2 XP A9
            go_wp2_with (at_builtin; refine wpList_append_parts2 rfl (.tmp 42) (.tmp 44) rfl _ P0 rfl XP2.out (HSE.out.trans (below_sees XB.out)).2 hs6 _ xps rfl HM2.out PK.out ?_; intro v' w' HO HB; obtain ⟨va, vc, hv2⟩ := PO.shape HO; subst hv2; rw [List.length_append] at HO; obtain ⟨t0, t1⟩ := NT.out w' HB; replace HO := hide HO; replace HB := hide HB; clear NT)
            go_roundw
            case rel => exact .mk (k + 1) _ (by go_num) (by omega) (N0.out _ w' HB.out) (NX.out _ w' HB.out) (NP.out _ w' HO.out) (NB.out _ w' HB.out)
            case measure => simp [intOf]; omega
    · obtain rfl : k = l.length := by omega
      have hlt' : ¬ ((l.length : Nat) : Int) < l.length := by omega
      have EQ : raU (l.take l.length) = SU := by rw [List.take_length]; exact HSU.out
      have EP : ssP (l.take l.length) = SP := by rw [List.take_length]; exact HSP.out
      have A7 : SU.length = 7 := by rw [← EQ]; exact (AU.out _).1
      rw [EQ] at Q1
      rw [EP] at QP
      have q0 := hide (show wo.heap[tb]? = some (.cells (usL SU ++ [pv]).toArray 30) from Q1.out)
      have q2 := hide (show wo.heap[w.heap.size]? = some (.cells (usL z00 ++ [nilS]).toArray 30) from Q0.out)
      have l3 : (usL SU ++ [pv]).length = 15 := by rw [List.length_append, usL_len, A7]; rfl
      obtain ⟨pa, pc, hpv⟩ := PO.shape QP.out
      have OV : pv.oneCell' = true := by rw [hpv]; rfl
      have FB := hide (show Below w.heap.size w (wo.setCells w.heap.size 0 (usL SU ++ [pv])) from BW.out.grown (setCells_grown _ _ _ _) BW.out.size (fun k hk => by cases hk; simp))
      have htw : w.heap.size < tb := by have := HTW.out; omega
      have FP := hide (show PO w0 (tb + 1) n (wo.setCells w.heap.size 0 (usL SU ++ [pv])) pv SP from QP.out.keep (fun g hg hl => setCells_far _ _ 0 (by omega) _ _ _))
      clear Q0 Q1 EQ EP QP hpv
      go_upto_region 14 with fail
      refine wp_region_list ?_
      refine wpList_load_mid rfl 30 (.tmp 3) rfl tb 0 rfl (usL SU ++ [pv]) _ (range_blk q0.out) Tryz.underlying30 rfl (by rw [l3]; kernel_rfl) ?_
      refine wpList_store_mid rfl 30 (.tmp 2) (.tmp 48) rfl w.heap.size 0 (usL SU ++ [pv]).toArray rfl rfl (there_blk q2.out (by simp only [List.size_toArray, l3]; rfl)) (by rw [List.size_toArray, l3]; kernel_rfl) (all_oneCell_toArray (us_one OV)) ?_
      go_wp2_with fail
      refine ret_cell (b := w.heap.size) (cs := usL SU ++ [pv]) Tryz.results22 rfl (World.rangeAt_setCells_same _ _ _ _ (there_blk q2.out (by simp only [List.size_toArray, l3]; rfl))) Tryz.underlying30 rfl (by rw [l3]; kernel_rfl) rfl ?_
      exact ⟨pv, rfl, tb + 1, by omega, FP.out, FB.out⟩
end Go.Proofs.YtlhmecagijdinaaGreatDoor.nm
set_option linter.unusedVariables false
set_option linter.unusedSimpArgs false
namespace Go.Proofs.YtlhmecagijdinaaGreatDoor.nm
open Go.RowKit

theorem PO.pmS {w wr : World} {B n : Nat} {v : Value} {l : List Pa} (h : PO w B n wr v l) (hbl : Sees w wr) (hl : l.length ≤ 1000000000) : PM wr n v l := by
  obtain ⟨xs, ho, hr0⟩ := h
  have hr := hr0.sees hbl
  rcases ho.2 with ⟨rfl, h0⟩ | ⟨g, cap, cur, rfl, hb, hg, hn, hm, hs, ht⟩
  · exact .inl ⟨_, _, rfl, List.eq_nil_of_length_eq_zero h0⟩
  · by_cases h0 : l.length = 0
    · obtain rfl := List.eq_nil_of_length_eq_zero h0
      exact .inl ⟨_, _, rfl, rfl⟩
    · have C : ∀ j, j < l.length * 2 → wr.cell? ⟨g, 0 + j, none⟩ = xs[j]? := fun j hj => by
        rw [← ht, List.getElem?_take_of_lt (by omega), row_blk hg, Nat.zero_add, Array.getElem?_toList]
      refine .inr ⟨g, 0, cap, rfl, by omega, (Array.getElem?_eq_some_iff.1 hg).1, hn, hl, by unfold maxLen at hm; exact hm, fun i p hi => ?_⟩
      have hil := (List.getElem?_eq_some_iff.1 hi).1
      obtain ⟨u, h1, h2, h3⟩ := hr.get i p hi
      exact ⟨u, by rw [C _ (by omega), h1], by rw [Nat.add_assoc, C _ (by omega), h2], h3⟩
def RelSe (w0 w : World) (tb n : Nat) (l : List Fo) (i : Value) (wr : World) : Prop := ∃ (k : Nat) (pv : Value), i = .int .i64 k ∧ k ≤ l.length ∧ Hid (BF wr w.heap.size z00 nilS ∧ BF wr tb (ssU (l.take k)) pv ∧ PO w0 (tb + 1) n wr pv (ssP (l.take k)) ∧ Below w.heap.size w wr)
theorem RelSe.mk {w0 w : World} {tb n : Nat} {l : List Fo} {i : Value} {wr : World} (k : Nat) (pv : Value) (h1 : i = .int .i64 k) (h2 : k ≤ l.length) (h3 : BF wr w.heap.size z00 nilS) (h4 : BF wr tb (ssU (l.take k)) pv) (h5 : PO w0 (tb + 1) n wr pv (ssP (l.take k))) (h6 : Below w.heap.size w wr) : RelSe w0 w tb n l i wr := ⟨k, pv, h1, h2, h3, h4, h5, h6⟩
set_option maxRecDepth 100000 in
set_option maxHeartbeats 8000000 in
theorem sumE_any (n : Nat) (l : List Fo) (v : Value) (w0 w : World) (hN : Nth w) (hse : Sees w0 w) (hv : FM w0 (n + 1) v l) (hpl : (ssP l).length ≤ 1000000000) : Calls Tryz.prog 49 #[v] w fun e w' => ∃ u, e = .returned (foV (ssU l) u) ∧ ∃ B, w.heap.size ≤ B ∧ PO w0 B n w' u (ssP l) ∧ Below w.heap.size w w' := by
  have CZ := hide (fun (W : World) (h : Below w.heap.size w W) => zero_any W (hN.low h))
  rw [show foV z01 nilS = .agg #[.int .i64 0, .int .i64 1, .int .i64 0, .int .i64 1, .int .i64 0, .int .i64 1, .int .i64 0, .int .i64 1, .int .i64 0, .int .i64 1, .int .i64 0, .int .i64 1, .int .i64 0, .int .i64 1, .slice none 0 0] from rfl] at CZ
  have HV := hide hv
  have HSE := hide hse
  have AU := hide (show ∀ k, Us (ssU (l.take k)) from fun k => ssU_us (fun x hx => by
    obtain ⟨i, hi, rfl⟩ := List.mem_iff_getElem.1 hx
    have hi2 : i < l.length := by rw [List.length_take] at hi; omega
    obtain ⟨_, _, _, _, _, _, _, _, _, _, hu, _⟩ := FM.at hv (i := i) (x := l[i]) (List.getElem?_eq_getElem hi2)
    rw [List.getElem_take]; exact hu.1))
  have PL := hide (show ∀ k, (ssP (l.take (k + 1))).length ≤ 1000000000 from fun k => Nat.le_trans (ssP_take l (k + 1)) hpl)
  obtain ⟨a, c, rfl, h9⟩ := FM.shape hv
  clear hv hN hse
  obtain ⟨W1, hW1⟩ : ∃ W1, w.alloc (.cells #[.int .i64 0, .int .i64 0, .int .i64 0, .int .i64 0, .int .i64 0, .int .i64 0, .int .i64 0, .int .i64 0, .int .i64 0, .int .i64 0, .int .i64 0, .int .i64 0, .int .i64 0, .int .i64 0, .slice none 0 0] 30) = W1 := ⟨_, rfl⟩
  have B0 := hide (show Below w.heap.size w W1 by rw [← hW1]; exact bplus (Below.refl _ _) _)
  have P1 := hide (show BF W1 w.heap.size z00 nilS by rw [← hW1]; exact Bk.new w _ _)
  have HW1 := hide hW1
  obtain ⟨SU, hSU⟩ : ∃ x, ssU l = x := ⟨_, rfl⟩
  obtain ⟨SP, hSP⟩ : ∃ x, ssP l = x := ⟨_, rfl⟩
  rw [hSP] at hpl
  rw [hSU, hSP]
  have HSU := hide hSU
  have HSP := hide hSP
  have HPL := hide hpl
  clear hW1 hSU hSP hpl
  go_enter Tryz.func49, Tryz.ntmps49
  go_upto_region 1 with fail
  rw [HW1.out]
  clear HW1
  go_upto_region 2 with (go_at_call 37; refine (CZ.out _ B0.out).mono ?_; rintro e wz ⟨rfl, BZ⟩; replace BZ := hide BZ; clear CZ)
  have hz : w.heap.size < wz.heap.size := Nat.lt_of_lt_of_le (Bk.lt P1.out) BZ.out.size
  have B2 := hide (show Below w.heap.size w (wz.alloc (.cells #[.int .i64 0, .int .i64 1, .int .i64 0, .int .i64 1, .int .i64 0, .int .i64 1, .int .i64 0, .int .i64 1, .int .i64 0, .int .i64 1, .int .i64 0, .int .i64 1, .int .i64 0, .int .i64 1, .slice none 0 0] 30)) from bplus (bto B0.out BZ.out) _)
  have F0 := hide (show BF (wz.alloc (.cells #[.int .i64 0, .int .i64 1, .int .i64 0, .int .i64 1, .int .i64 0, .int .i64 1, .int .i64 0, .int .i64 1, .int .i64 0, .int .i64 1, .int .i64 0, .int .i64 1, .int .i64 0, .int .i64 1, .slice none 0 0] 30)) wz.heap.size z01 nilS from Bk.new wz _ _)
  have F1 := hide (show BF (wz.alloc (.cells #[.int .i64 0, .int .i64 1, .int .i64 0, .int .i64 1, .int .i64 0, .int .i64 1, .int .i64 0, .int .i64 1, .int .i64 0, .int .i64 1, .int .i64 0, .int .i64 1, .int .i64 0, .int .i64 1, .slice none 0 0] 30)) w.heap.size z00 nilS from (Bk.up P1.out BZ.out).more _)
  clear P1 B0 BZ
  generalize wz.alloc (.cells #[.int .i64 0, .int .i64 1, .int .i64 0, .int .i64 1, .int .i64 0, .int .i64 1, .int .i64 0, .int .i64 1, .int .i64 0, .int .i64 1, .int .i64 0, .int .i64 1, .int .i64 0, .int .i64 1, .slice none 0 0] 30) = W2 at *
  generalize wz.heap.size = tb at *
  have hB0 : tb + 1 ≤ W2.heap.size := Bk.lt F0.out
  have HTB := hide hz
  go_wp2_with fail
  go_loopw [9] (fun i wr => RelSe w0 w tb n l i wr) (fun i _ => l.length - (intOf i).toNat)
  case atStart => exact .mk 0 (.slice none 0 0) rfl (by omega) F1.out F0.out (PO.nil _ _ _ _) B2.out
  case round =>
    obtain ⟨k, pv, rfl, hk, R⟩ := hrel
    have Q0 := hide R.out.1
    have Q1 := hide R.out.2.1
    have QP := hide R.out.2.2.1
    have BW := hide R.out.2.2.2
    clear R F0 F1 B2 hB0
    by_cases hlt : k < l.length
    · have hlt' : (k : Int) < l.length := by omega
      obtain ⟨x, hx⟩ : ∃ x, l[k]? = some x := ⟨_, List.getElem?_eq_getElem hlt⟩
      obtain ⟨n', hn', b, o, c', xu, hv', hb0, -, -, hu, hu14, hpm⟩ := FM.at HV.out hx
      have hb : b < w.heap.size := Nat.lt_of_lt_of_le hb0 HSE.out.1
      replace hu := un_sees HSE.out hu
      replace hu14 := HSE.out.2 _ _ _ hu14
      obtain rfl : n = n' := by omega
      obtain ⟨rfl, rfl⟩ : a = some ⟨b, o, none⟩ ∧ c = c' := by cases hv'; exact ⟨rfl, rfl⟩
      have HPM := hide hpm
      have f14 : wr.cell? ⟨b, o + k * 15 + 14, none⟩ = some xu := (BW.out.cell (p := ⟨b, o + k * 15 + 14, none⟩) hb).trans hu14
      obtain ⟨pa, pc, hpv⟩ := PO.shape QP.out
      obtain ⟨xa, xc, hxu, hx9⟩ := PM.shape hpm
      have hbw : b < wr.heap.size := by have := BW.out.size; omega
      have nb : b ≠ wr.heap.size := by omega
      have htb : tb < wr.heap.size := Bk.lt Q1.out
      have ntb : tb ≠ wr.heap.size := by omega
      have XU := hide hu.1
      have ST := hide (ssU_step hx)
      have SPs := hide (ssP_step hx)
      have A7 : (ssU (l.take k)).length = 7 := (AU.out k).1
      have A8 := hide (AU.out k)
      have A9 : (ssU (l.take (k + 1))).length = 7 := (AU.out (k + 1)).1
      obtain ⟨S1, hS1⟩ : ∃ S1, ssU (l.take (k + 1)) = S1 := ⟨_, rfl⟩
      obtain ⟨S0, hS0⟩ : ∃ S0, ssU (l.take k) = S0 := ⟨_, rfl⟩
      rw [hS1] at ST A9
      rw [hS0] at ST A7 A8 Q1
      have CP := hide (fun (W : World) => plus_any S0 x.us W A8.out XU.out)
      rw [← ST.out] at CP
      obtain ⟨xus, hxus⟩ : ∃ y, x.us = y := ⟨_, rfl⟩
      obtain ⟨xps, hxps⟩ : ∃ y, x.ps = y := ⟨_, rfl⟩
      rw [hxus] at CP XU hu ST
      rw [hxps] at SPs HPM hxu
      clear hxus hxps hpm
      (try clear hn')
      obtain ⟨n0, d0, n1, d1, n2, d2, n3, d3, n4, d4, n5, d5, n6, d6, rfl⟩ := us7 XU.out
      obtain ⟨f0, f1, f2, f3, f4, f5, f6, f7, f8, f9, f10, f11, f12, f13⟩ := (hu.below BW.out hb).fa
      rw [usV_eq] at CP
      unfold usV at CP
      have HS1 := hide hS1
      clear hS1 hS0 hx hu hu14
      (try clear hv')
      subst hxu
      obtain ⟨W4, hW4⟩ : ∃ W4, wr.alloc (.cells #[.int .i64 n0, .int .i64 d0, .int .i64 n1, .int .i64 d1, .int .i64 n2, .int .i64 d2, .int .i64 n3, .int .i64 d3, .int .i64 n4, .int .i64 d4, .int .i64 n5, .int .i64 d5, .int .i64 n6, .int .i64 d6, .slice xa xps.length xc] 30) = W4 := ⟨_, rfl⟩
      have HW4 := hide hW4
      have R1 := hide (show BF W4 tb S0 pv by rw [← hW4]; exact Bk.more Q1.out _)
      have R0 := hide (show BF W4 w.heap.size z00 nilS by rw [← hW4]; exact Bk.more Q0.out _)
      have R2 := hide (show BF W4 wr.heap.size [(n0, d0), (n1, d1), (n2, d2), (n3, d3), (n4, d4), (n5, d5), (n6, d6)] (.slice xa xps.length xc) by rw [← hW4]; exact Bk.new wr _ _)
      have RB := hide (show Below w.heap.size w W4 by rw [← hW4]; exact bplus BW.out _)
      have RP := hide (show PO w0 (tb + 1) n W4 pv (ssP (l.take k)) by rw [← hW4]; exact QP.out.up (bplus (Below.refl _ _) _))
      have hs4 : wr.heap.size < W4.heap.size := Bk.lt R2.out
      clear hW4 Q0 Q1 QP BW
      go_upto_region 5 with fail
      rw [show wr.alloc (.cells #[.int .i64 n0, .int .i64 d0, .int .i64 n1, .int .i64 d1, .int .i64 n2, .int .i64 d2, .int .i64 n3, .int .i64 d3, .int .i64 n4, .int .i64 d4, .int .i64 n5, .int .i64 d5, .int .i64 n6, .int .i64 d6, .slice xa xps.length xc] 30) = W4 from HW4.out]
      clear HW4 f0 f1 f2 f3 f4 f5 f6 f7 f8 f9 f10 f11 f12 f13 f14
      have H7 : (Tryz.prog.info? 27).map (·.size) = some (usL S0).length := by rw [usL_len, A7]; kernel_rfl
      have H8 : (Tryz.prog.info? 27).map (·.size) = some (usL [(n0, d0), (n1, d1), (n2, d2), (n3, d3), (n4, d4), (n5, d5), (n6, d6)]).length := by kernel_rfl
      have H9 : (Tryz.prog.info? 27).map (·.size) = some (usL S1).toArray.size := by rw [List.size_toArray, usL_len, A9]; kernel_rfl
      replace H7 := hide H7
      replace H8 := hide H8
      replace H9 := hide H9
      have OC := hide (show (usL S1).toArray.all (·.oneCell') = true from all_oneCell_toArray (fun v hv => us_one (u := nilS) rfl v (List.mem_append_left _ hv)))
      have TH := hide (fun (W : World) (h : Below W4.heap.size W4 W) => show W.there tb 0 (usL S1).toArray.size by rw [List.size_toArray, usL_len, A9]; exact BF.there (Bk.up R1.out h) A7)
      generalize wr.heap.size = xb at *
      go_upto_region 6 with (first
        | (refine wpList_load_mid rfl 27 (.tmp 13) rfl tb 0 rfl (usL S0) _ (BF.pre R1.out) Tryz.underlying27 rfl H7.out ?_)
        | (refine wpList_load_mid rfl 27 (.tmp 15) rfl xb 0 rfl (usL [(n0, d0), (n1, d1), (n2, d2), (n3, d3), (n4, d4), (n5, d5), (n6, d6)]) _ (BF.pre R2.out) Tryz.underlying27 rfl H8.out ?_)
        | (go_at_call 78; refine (CP.out _).mono ?_; rintro e w5 ⟨rfl, B5⟩; replace B5 := hide B5)
        | (refine wpList_store_mid rfl 27 (.tmp 18) (.tmp 17) rfl tb 0 (usL S1).toArray rfl rfl (TH.out _ B5.out) H9.out OC.out ?_))
      have G1 := hide (show BF (w5.setCells tb 0 (usL S1)) tb S1 pv from BF.all (Bk.up R1.out B5.out) A7 A9)
      have G0 := hide (show BF (w5.setCells tb 0 (usL S1)) w.heap.size z00 nilS from (setCells_far _ _ 0 (by omega) _ _ _).trans (Bk.up R0.out B5.out))
      have G2 := hide (show BF (w5.setCells tb 0 (usL S1)) xb [(n0, d0), (n1, d1), (n2, d2), (n3, d3), (n4, d4), (n5, d5), (n6, d6)] (.slice xa xps.length xc) from (setCells_far _ _ 0 (by omega) _ _ _).trans (Bk.up R2.out B5.out))
      have GB := hide (show Below w.heap.size w (w5.setCells tb 0 (usL S1)) from (bto RB.out B5.out).grown (setCells_grown _ _ _ _) (bto RB.out B5.out).size (fun k hk => by cases hk; omega))
      have GP := hide (show PO w0 (tb + 1) n (w5.setCells tb 0 (usL S1)) pv (ssP (l.take k)) from (RP.out.up B5.out).keep (fun g hg hl => setCells_far _ _ 0 (by omega) _ _ _))
      have hs6 : tb + 1 ≤ (w5.setCells tb 0 (usL S1)).heap.size := Bk.lt G1.out
      (try rw [show (usL S1).toArray.toList = usL S1 from rfl])
      clear R1 R0 R2 RB RP B5 CP TH OC H7 H8 H9
      generalize w5.setCells tb 0 (usL S1) = W6 at *
      subst hpv
      have e1 : W6.cell? ⟨tb, 14, none⟩ = some (.slice pa (ssP (l.take k)).length pc) := BF.last G1.out A9
      have e2 : W6.cell? ⟨xb, 14, none⟩ = some (.slice xa xps.length xc) := BF.last G2.out rfl
      have NX := hide (fun (v' : Value) (w' : World) (h : Below (tb + 1) W6 w') => show BF (w'.setCell ⟨tb, 14, none⟩ v') tb S1 v' by
        have := Bk.put (Bk.low G1.out h (by omega)) 14 v'
        rw [List.set_append_right _ _ (by rw [usL_len, A9]; omega), usL_len, A9] at this
        exact this)
      have NT := hide (fun (w' : World) (h : Below (tb + 1) W6 w') => show (w'.cell? ⟨tb, 14, none⟩ = some (.slice pa (ssP (l.take k)).length pc)) ∧ w'.frozen? ⟨tb, 14, none⟩ = false from ⟨BF.last (Bk.low G1.out h (by omega)) A9, Bk.fz (Bk.low G1.out h (by omega)) 14⟩)
      have N0 := hide (fun (v' : Value) (w' : World) (h : Below (tb + 1) W6 w') => show BF (w'.setCell ⟨tb, 14, none⟩ v') w.heap.size z00 nilS from Bk.far (Bk.low G0.out h (by omega)) (by omega) _ _)
      have NB := hide (fun (v' : Value) (w' : World) (h : Below (tb + 1) W6 w') => show Below w.heap.size w (w'.setCell ⟨tb, 14, none⟩ v') from (GB.out.trans (h.mono (by omega))).setCell (by simp; omega) _)
      have NP := hide (fun (v' : Value) (w' : World) (h : PO w0 (tb + 1) n w' v' (ssP (l.take k) ++ xps)) => show PO w0 (tb + 1) n (w'.setCell ⟨tb, 14, none⟩ v') v' (ssP (l.take (k + 1))) by rw [SPs.out]; exact h.keep (fun g hg hl => Below.heap_setCell w' ⟨tb, 14, none⟩ v' g (by show g ≠ tb; omega)))
      have PK := hide (show (ssP (l.take k)).length + xps.length ≤ 1000000000 by have := PL.out k; rw [SPs.out, List.length_append] at this; exact this)
      rw [← HS1.out] at NX
      clear G0 G1 G2 HS1 A9
      go_wp2_with (at_builtin; refine wpList_append_parts2 rfl (.tmp 20) (.tmp 22) rfl _ (ssP (l.take k)) rfl GP.out (Sees.trans HSE.out (below_sees GB.out)).2 hs6 _ xps rfl HPM.out PK.out ?_; intro v' w' HO HB; obtain ⟨va, vc, hv2⟩ := PO.shape HO; subst hv2; rw [List.length_append] at HO; obtain ⟨t0, t1⟩ := NT.out w' HB; replace HO := hide HO; replace HB := hide HB; clear NT)
      go_roundw
      case rel => exact .mk (k + 1) _ (by go_num) (by omega) (N0.out _ w' HB.out) (NX.out _ w' HB.out) (NP.out _ w' HO.out) (NB.out _ w' HB.out)
      case measure => simp [intOf]; omega
    · obtain rfl : k = l.length := by omega
      have hlt' : ¬ ((l.length : Nat) : Int) < l.length := by omega
      have EQ : ssU (l.take l.length) = SU := by rw [List.take_length]; exact HSU.out
      have EP : ssP (l.take l.length) = SP := by rw [List.take_length]; exact HSP.out
      rw [EQ] at Q1
      rw [EP] at QP
      have A7 : SU.length = 7 := by rw [← EQ]; exact (AU.out _).1
      have q0 := hide (show wr.heap[tb]? = some (.cells (usL SU ++ [pv]).toArray 30) from Q1.out)
      have q2 := hide (show wr.heap[w.heap.size]? = some (.cells (usL z00 ++ [nilS]).toArray 30) from Q0.out)
      have l3 : (usL SU ++ [pv]).length = 15 := by rw [List.length_append, usL_len, A7]; rfl
      obtain ⟨pa, pc, hpv⟩ := PO.shape QP.out
      have OV : pv.oneCell' = true := by rw [hpv]; rfl
      have FB := hide (show Below w.heap.size w (wr.setCells w.heap.size 0 (usL SU ++ [pv])) from BW.out.grown (setCells_grown _ _ _ _) BW.out.size (fun k hk => by cases hk; simp))
      have htw : w.heap.size < tb := by have := HTB.out; omega
      have FP := hide (show PO w0 (tb + 1) n (wr.setCells w.heap.size 0 (usL SU ++ [pv])) pv SP from QP.out.keep (fun g hg hl => setCells_far _ _ 0 (by omega) _ _ _))
      clear Q0 Q1 EQ EP QP hpv
      go_upto_region 8 with fail
      refine wp_region_list ?_
      refine wpList_load_mid rfl 30 (.tmp 3) rfl tb 0 rfl (usL SU ++ [pv]) _ (range_blk q0.out) Tryz.underlying30 rfl (by rw [l3]; kernel_rfl) ?_
      refine wpList_store_mid rfl 30 (.tmp 2) (.tmp 26) rfl w.heap.size 0 (usL SU ++ [pv]).toArray rfl rfl (there_blk q2.out (by simp only [List.size_toArray, l3]; rfl)) (by rw [List.size_toArray, l3]; kernel_rfl) (all_oneCell_toArray (us_one OV)) ?_
      go_wp2_with fail
      refine ret_cell (b := w.heap.size) (cs := usL SU ++ [pv]) Tryz.results49 rfl (World.rangeAt_setCells_same _ _ _ _ (there_blk q2.out (by simp only [List.size_toArray, l3]; rfl))) Tryz.underlying30 rfl (by rw [l3]; kernel_rfl) rfl ?_
      exact ⟨pv, rfl, tb + 1, by omega, FP.out, FB.out⟩
end Go.Proofs.YtlhmecagijdinaaGreatDoor.nm
