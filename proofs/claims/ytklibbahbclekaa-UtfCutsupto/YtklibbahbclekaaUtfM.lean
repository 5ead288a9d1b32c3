/-
  The law: what goes on behind whole bytes.
-/
import Derived.Test.YtklibbahbclekaaUtfK
import Derived.Laws.AppendOwnNone
set_option linter.unusedVariables false
set_option linter.unusedSimpArgs false
namespace Go.Proofs.Ytklibbahbclekaa
open Go.RowKit

/-- A slice without an address is nil. -/
def Nil0 (v : Value) : Prop := ∀ n c, v = .slice none n c → n = 0 ∧ c = 0
theorem Nil0.some (a : Addr) (n c : Nat) : Nil0 (.slice (some a) n c) := fun n c h => by simp at h
theorem Own.nil0 {W wr : World} {k : IntKind} {e : TypeId} {v : Value} {xs : List Int} (h : Own W k e wr v xs) : Nil0 v := by
  rcases h.1.2 with ⟨rfl, h0⟩ | ⟨g, cap, cur, rfl, _⟩
  · intro n c h; simp at h; omega
  · exact Nil0.some _ _ _
theorem Own.fresh (W : World) (k : IntKind) (e : TypeId) : Own W k e (W.alloc (.cells #[] e)) (.slice (some ⟨W.heap.size, 0, none⟩) 0 0) [] :=
  ⟨World.ownsRow_lit W #[] 0 (Nat.le_refl _) (by unfold maxLen; omega) rfl, (Below.refl _ _).alloc (Nat.le_refl _) _⟩
theorem Own.grow' {W wr w1 : World} {k : IntKind} {e : TypeId} {v v' : Value} {xs ys : List Int} (h : Own W k e wr v xs)
    (h1 : w1.ownsRow W.heap.size e 1 v' (xs.length + ys.length) (xs.map (Value.int k) ++ ys.map (Value.int k))) (hg : wr.grownBy w1 v.ownBlock) : Own W k e w1 v' (xs ++ ys) := by
  refine ⟨by rw [List.length_append, List.map_append]; exact h1, ?_⟩
  exact h.2.grown hg h.2.size (fun k hk => (h.1.lt k hk).1)
theorem wpList_append_nums {W wr : World} {ops : Array Oper} {rest : List Oper} {o : Oper} {a : Act} {Q : Exit → Act → World → Prop} (hgd : o.guard = none) (s x : Operand) (t : TypeId)
    (ho : o.op = .call { callee := .builtin .append, args := #[s, x], argTypes := #[t, t] })
    (k : IntKind) (e : TypeId) (i : TypeInfo) (bytes : Nat) (ht : Try.prog.underlying t = some (.slice e)) (hi : Try.prog.info? e = some i) (hz : i.zero = some (.int k 0)) (hsize : i.size = 1) (hby : i.bytes = bytes)
    (v : Value) (xs : List Int) (hs : a.eval s = v) (hown : Own W k e wr v xs) (u : Value) (ys : List Int) (hx : a.eval x = u) (hN : Nums k wr u ys) (hnil : Nil0 u)
    (h63 : xs.length + ys.length ≤ 9223372036854775807) (hb : (xs.length + ys.length) * bytes ≤ 140737488355328)
    (h : ∀ v' w', Own W k e w' v' (xs ++ ys) → wpList Try.prog ops Q rest (a.put o.dst v') w') : wpList Try.prog ops Q (o :: rest) a wr := by
  rcases hN with ⟨ao, c, rfl, rfl⟩ | ⟨b, of, n, c, rfl, hn, h0, hbw, hl, hn9, hc9, hc⟩
  · cases ao with
    | none =>
      obtain ⟨_, rfl⟩ := hnil _ _ rfl
      exact wpList_append_own_none hgd s x t ho W.heap.size e i 1 ht hi v xs.length (xs.map (Value.int k)) hs hown.1 hx (h v wr (by simpa using hown))
    | some ad =>
      refine wpList_append_own wr hgd s x t ho W.heap.size e i (.int k 0) 1 bytes ht hi hz hsize hby rfl (by decide) v xs.length (xs.map (Value.int k)) hs hown.1 ad 0 c [] hx rfl (by intro j u h; simp at h) (by intro u h; simp at h) (by unfold maxLen; simp at h63; omega) (by simpa using hb) hown.2.size ?_
      intro v' w' h1 h2 _
      exact h v' w' (hown.grow' (ys := []) h1 h2)
  · subst hn
    refine wpList_append_own wr hgd s x t ho W.heap.size e i (.int k 0) 1 bytes ht hi hz hsize hby rfl (by decide) v xs.length (xs.map (Value.int k)) hs hown.1 ⟨b, of, none⟩ ys.length c (ys.map (Value.int k)) hx (by simp) (fun j u hu => ?_) (ints_oneCell k ys) (by unfold maxLen; exact h63) hb hown.2.size ?_
    · have hj : j < ys.length := by have := (List.getElem?_eq_some_iff.1 hu).1; simpa using this
      rw [Addr.add_lit, hc j hj]
      rw [← hu]
      simp [gt, List.getD_eq_getElem?_getD, List.getElem?_eq_getElem hj]
    · intro v' w' h1 h2 _
      exact h v' w' (hown.grow' (ys := ys) h1 h2)
set_option maxHeartbeats 1000000 in
theorem rawPN_any (bs : List Int) (v : Value) (w : World) (hb : By bs) (hv : Nums .u8 w v bs) (hl9 : bs.length ≤ 1099511627776) :
    Calls Try.prog 10 #[v] w fun e w' => ∃ u, e = .returned u ∧ Nums .i32 w' u (raw bs) ∧ Below w.heap.size w w' ∧ Nil0 u := by
  obtain ⟨i0, hi, hz0, hz1, hz2⟩ := info_parts info32
  rcases hv with ⟨a, c, rfl, rfl⟩ | ⟨b, o, n, c, rfl, hn, h0, hbw, hl, hn9, hc9, hc⟩
  · go_enter Try.func10, Try.ntmps10
    go_wp2_with (at_make; refine wpList_make_own _ rfl _ _ 24 rfl w.heap.size 21 i0 (.int .i32 0) 1 Try.underlying24 hi hz0 hz1 _ _ _ 0 rfl rfl (by omega) (by omega) (by unfold maxLen; omega) (Nat.le_refl _) ?_; intro w1 hown hgrow)
    refine wp_loop_rounds 1 ?_
    rw [rounds_succ]
    go_wp2
    go_ret
    exact ⟨_, rfl, by rw [raw_nil]; exact .inl ⟨_, _, rfl, rfl⟩, (Own.made (k := .i32) hown hgrow).2, Nil0.some _ _ _⟩
  · have HN : Hid (n = bs.length) := hn
    have HC := hide hc
    have hnb : n ≤ 1099511627776 := by omega
    clear hc hn hl9
    go_enter Try.func10, Try.ntmps10
    go_wp2_with (at_make; refine wpList_make_own _ rfl _ _ 24 rfl w.heap.size 21 i0 (.int .i32 0) 1 Try.underlying24 hi hz0 hz1 _ _ _ n rfl rfl (by omega) (by rw [hz2]; omega) (by unfold maxLen; omega) (Nat.le_refl _) ?_; intro w1 hown hgrow)
    have HO := hide (Own.made (k := .i32) hown hgrow)
    clear hown hgrow
    go_loopw [3, 4] (fun l a wr => RelRaw w n bs l a wr) (fun _ a _ => n - (intOf a).toNat)
    case atStart => exact .mk 0 [] (by omega) rfl (by simp) HO.out rfl
    case round =>
      clear HO
      obtain ⟨i, xs, hin, rfl, hxs, HO, R⟩ := hrel
      replace HO := hide HO
      by_cases hlt : i < n
      · obtain ⟨s1, s2, s3⟩ := stp_drop (bs := bs) (i := i) (by rw [← HN.out]; exact hlt)
        rw [← HN.out] at s3
        have R' : Hid _ := raw_go R.out (by rw [← HN.out]; exact hlt)
        have hci : ¬ c = i := by omega
        have F2 := front_any (bs.drop i) (n - i) b (o + i) (c - i) wr (by rw [List.length_drop, ← HN.out]) (hb.drop i) (by omega) (by omega) (by omega)
          (fun j hj => by rw [gt_drop, Nat.add_assoc]; exact (HO.out.2.cell (p := ⟨b, o + (i + j), none⟩) hbw).trans (HC.out (i + j) (by omega)))
        have FH := hide F2
        clear F2
        generalize hr : stp (bs.drop i) = r at *
        obtain ⟨x, g, t⟩ := r
        replace FH := FH.out; dsimp only at s1 s2 s3 R'
        clear hr
        go_wp2_with (first
          | (go_at_call 20; refine FH.mono ?_; rintro e w' ⟨rfl, rfl⟩; clear FH)
          | (at_builtin; refine wpList_append_own _ rfl _ _ 24 rfl w.heap.size 21 i0 (.int .i32 0) 1 4 Try.underlying24 hi hz0 hz1 hz2 rfl (by decide) _ _ _ rfl (HO.out.1.alloc _) ⟨_, 0, none⟩ 1 1 [.int .i32 x] rfl rfl (news1 _ _ _) (by intro u hu; simp at hu; subst hu; rfl) (by unfold maxLen; omega) (by omega) (by have := HO.out.2.size; simp; omega) ?_; intro v' w1 hown' hgrow _; replace HO := hide (HO.out.grow (ys := [x]) hown' hgrow); clear hown' hgrow))
        go_roundw
        case rel => exact .mk (i + g) (xs ++ [x]) (by omega) (by go_num) (by simp; omega) HO.out R'.out
        case measure => simp [intOf]; omega
      · have R' : Hid _ := raw_end R.out (by rw [← HN.out]; omega)
        have N := hide (HO.out.nums (by omega))
        go_wp2
        go_ret
        exact ⟨_, rfl, by rw [R'.out]; exact N.out, HO.out.2, HO.out.nil0⟩
set_option maxHeartbeats 2000000 in
theorem law_cuts (xs : List Int) (v : Value) (ys : List Int) (u : Value) (w : World) (hx : By xs) (hv : Nums .u8 w v xs) (hv0 : Nil0 v) (hl : xs.length ≤ 1048576)
    (hy : By ys) (hu : Nums .u8 w u ys) (hu0 : Nil0 u) (hl2 : ys.length ≤ 1048576) :
    Calls Try.prog 8 #[v, u] w fun e w' => e = .returned (.bool true) ∧ Below w.heap.size w w' := by
  obtain ⟨i8, hi8, hz8, hs8, hb8⟩ := info_parts info8
  obtain ⟨i32, hi32, hz32, hs32, hb32⟩ := info_parts info32
  have HV := hide hv
  replace hu := hide hu
  obtain ⟨a, n, c, rfl, hn, hn9, _, _⟩ := hv.form
  clear hv
  replace hv0 := hide hv0
  replace hu0 := hide hu0
  have L1 := raw_le xs
  have L2 := raw_le ys
  have hnb : n ≤ 1048576 := by omega
  have l1 : (raw xs).length ≤ n := by omega
  have l2 : n ≤ 4 * (raw xs).length := by omega
  clear L1
  have HL := hide hl
  clear hn hl
  have B := hide (Below.refl w.heap.size w)
  by_cases hw : whole xs = true
  · have E := hide (raw_append xs.length ys xs (Nat.le_refl _) hx hw)
    have HW := hide hw
    clear hw
    go_enter Try.func8, Try.ntmps8
    go_wp2_with (first
      | (go_at_call_of 10 (Value.slice a n c); refine (rawPN_any xs _ _ hx HV.out (by have := HL.out; omega)).mono ?_; rintro e w1 ⟨u1, rfl, N1, B1, Z1⟩; obtain ⟨a1, n1, c1, rfl, hn1, _, _, _⟩ := N1.form; rw [← hn1] at l1 l2; replace Z1 := hide Z1; replace N1 := hide N1; replace B := hide (bto B.out B1); replace hn1 := hide hn1; clear B1)
      | (go_at_call_of 10 u; refine (rawPN_any ys u _ hy (hu.out.below B.out) (by omega)).mono ?_; rintro e w2 ⟨u2, rfl, N2, B2, Z2⟩; replace Z2 := hide Z2; replace N2 := hide N2; replace N1 := hide (N1.out.below B2); replace B := hide (bto B.out B2); clear B2)
      | (go_at_call 18; refine (wholeP_any xs _ _ hx (HV.out.below B.out)).mono ?_; rintro e w3 ⟨rfl, rfl⟩; rw [HW.out])
      | (at_builtin; refine wpList_append_nums rfl (.tmp 29) (.tmp 30) 22 rfl .u8 5 i8 1 Try.underlying22 hi8 hz8 hs8 hb8 _ [] rfl (Own.fresh _ _ _) _ xs rfl (HV.out.below (bplus B.out _)) hv0.out (by have := HL.out; simp; omega) (by have := HL.out; simp; omega) ?_; intro v3 w3 O3; replace O3 := hide O3)
      | (at_builtin; refine wpList_append_nums rfl (.tmp 31) (.tmp 32) 22 rfl .u8 5 i8 1 Try.underlying22 hi8 hz8 hs8 hb8 _ ([] ++ xs) rfl O3.out _ ys rfl (hu.out.below (bto B.out O3.out.2)) hu0.out (by have := HL.out; simp; omega) (by have := HL.out; simp; omega) ?_; intro v4 w4 O4; rw [List.nil_append] at O4; replace N1 := hide (N1.out.below O4.2); replace N2 := hide (N2.out.below O4.2); replace B := hide (bto B.out O4.2); replace O4 := hide (O4.nums (by have := HL.out; simp; omega)); clear O3)
      | (go_at_call 10; refine (rawP_any (xs ++ ys) _ _ (hx.app hy) O4.out (by have := HL.out; simp; omega)).mono ?_; rintro e w5 ⟨u5, rfl, N5, B5⟩; rw [E.out] at N5; replace N5 := hide N5; replace N1 := hide (N1.out.below B5); replace N2 := hide (N2.out.below B5); replace B := hide (bto B.out B5); clear B5)
      | (at_builtin; refine wpList_append_nums rfl (.tmp 36) (.tmp 37) 24 rfl .i32 21 i32 4 Try.underlying24 hi32 hz32 hs32 hb32 _ [] rfl (Own.fresh _ _ _) _ (raw xs) rfl (N1.out.below ((Below.refl _ _).alloc (Nat.le_refl _) _)) Z1.out (by have := hn1.out; simp; omega) (by have := hn1.out; simp; omega) ?_; intro v6 w6 O6; replace O6 := hide O6)
      | (at_builtin; refine wpList_append_nums rfl (.tmp 38) (.tmp 39) 24 rfl .i32 21 i32 4 Try.underlying24 hi32 hz32 hs32 hb32 _ ([] ++ raw xs) rfl O6.out _ (raw ys) rfl (N2.out.below O6.out.2) Z2.out (by have := hn1.out; simp; omega) (by have := hn1.out; simp; omega) ?_; intro v7 w7 O7; rw [List.nil_append] at O7; replace N5 := hide (N5.out.below O7.2); replace B := hide (bto B.out O7.2); replace O7 := hide (O7.nums (by have := hn1.out; simp; omega)); clear O6)
      | (go_at_call 9; refine (same_any (raw xs ++ raw ys) (raw xs ++ raw ys) _ _ _ N5.out O7.out).mono ?_; rintro e w8 ⟨rfl, B8⟩; rw [eqB_refl]; replace B := hide (bto B.out B8); clear B8)
      | (go_at_call 12; refine (awake_any _).mono ?_; rintro e w9 ⟨rfl, B9⟩; replace B := hide (bto B.out B9); clear B9))
    go_ret
    exact ⟨rfl, B.out⟩
  · have hw' : whole xs = false := by simpa using hw
    have HW := hide hw'
    clear hw hw'
    go_enter Try.func8, Try.ntmps8
    go_wp2_with (first
      | (go_at_call_of 10 (Value.slice a n c); refine (rawPN_any xs _ _ hx HV.out (by have := HL.out; omega)).mono ?_; rintro e w1 ⟨u1, rfl, N1, B1, Z1⟩; obtain ⟨a1, n1, c1, rfl, hn1, _, _, _⟩ := N1.form; rw [← hn1] at l1 l2; replace Z1 := hide Z1; replace N1 := hide N1; replace B := hide (bto B.out B1); replace hn1 := hide hn1; clear B1)
      | (go_at_call_of 10 u; refine (rawPN_any ys u _ hy (hu.out.below B.out) (by omega)).mono ?_; rintro e w2 ⟨u2, rfl, N2, B2, Z2⟩; replace Z2 := hide Z2; replace N2 := hide N2; replace N1 := hide (N1.out.below B2); replace B := hide (bto B.out B2); clear B2)
      | (go_at_call 18; refine (wholeP_any xs _ _ hx (HV.out.below B.out)).mono ?_; rintro e w3 ⟨rfl, rfl⟩; rw [HW.out])
      | (go_at_call 12; refine (awake_any _).mono ?_; rintro e w9 ⟨rfl, B9⟩; replace B := hide (bto B.out B9); clear B9))
    go_ret
    exact ⟨rfl, B.out⟩
end Go.Proofs.Ytklibbahbclekaa
