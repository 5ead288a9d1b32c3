/-
  Units, by the reference.
  Any token, written: by the reference.
-/
import Derived.Test.YtbdacepomdlcbaaGreatDoorJw
set_option linter.unusedVariables false
set_option linter.unusedSimpArgs false
namespace Go.Proofs.YtbdacepomdlcbaaGreatDoor
open Go.RowKit Go.Shelf

theorem raw_low (f : Int → Bool) (hf : ∀ x, 128 ≤ x → f x = false) (bs : List Int) (hb : By bs) (hw : whole bs = true) : f (nx (raw bs) 0) = f (nx bs 0) := by
  by_cases hn : bs = []
  · subst hn; rw [raw_nil]
  rcases raw_head bs hb hn hw with ⟨h1, _, _⟩ | ⟨h1, h2⟩
  · rw [h1]; rfl
  · rw [hf _ h1, hf _ h2]
theorem nx_cons2 (c : Int) (l : List Int) : nx (c :: l) 2 = nx l 1 := by simp [nx]
theorem ex_raw (bs : List Int) (hb : By bs) (hn : bs ≠ []) (hw : whole bs = true) : exL (raw bs) = exL bs := by
  unfold exL
  rcases raw_head bs hb hn hw with ⟨h1, h2, _⟩ | ⟨h1, h2⟩
  · rw [h1, show nx (nx bs 0 :: raw (bs.drop 1)) 0 = nx bs 0 by rfl, nx_cons1, nx_cons2, nx_drop1 bs, show nx bs 2 = nx (bs.drop 1) 1 by rw [nx_drop]]
    congr 1
    have hb1 := hb.drop 1
    generalize bs.drop 1 = cs at *
    rw [raw_low isDig (fun x h => dig_big h) cs hb1 h2, raw_low (fun x => x == 45) (fun x h => by simp; omega) cs hb1 h2]
    congr 1
    cases h45 : (nx cs 0 == 45) with
    | false => rfl
    | true =>
      have h45' : nx cs 0 = 45 := by simpa using h45
      have hcn : cs ≠ [] := fun g => by subst g; cases h45'
      rcases raw_head cs hb1 hcn h2 with ⟨g1, g2, _⟩ | ⟨g1, _⟩
      · rw [g1, nx_cons1, raw_low isDig (fun x h => dig_big h) (cs.drop 1) (hb1.drop 1) g2, ← nx_drop1]
      · omega
  · have a1 : (nx (raw bs) 0 == 101) = false := by simp; omega
    have a2 : (nx (raw bs) 0 == 69) = false := by simp; omega
    have a3 : (nx bs 0 == 101) = false := by simp; omega
    have a4 : (nx bs 0 == 69) = false := by simp; omega
    rw [a1, a2, a3, a4]; rfl
theorem un_raw (s : ByteArray) (h1 : 0 < s.size) (hw : whole (bl s) = true) : unT (bl s) = if exL (raw (bl s)) = true then esc (nx (raw (bl s)) 0) ++ wNm ((raw (bl s)).drop 1) else wId (bl s) := by
  have hne : bl s ≠ [] := fun g => by have := bl_len s; rw [g] at this; simp at this; omega
  rw [ex_raw (bl s) (bl_by s) hne hw]
  unfold unT
  cases hx : exL (bl s) with
  | false => rfl
  | true =>
    rw [(ex_tail hx (bl_by s) hne hw).1]
    rfl
set_option maxRecDepth 100000 in
set_option maxHeartbeats 4000000 in
theorem unit4_any (s : ByteArray) (w : World) (h1 : 0 < s.size) (hs : s.size ≤ 1099511627776) (hch : chB (bl s) = true) (hT : Tabs w) :
    Calls Tryz.prog 55 #[.string s] w fun e w' => ∃ u, e = .returned (.string u) ∧ bl u = unT (bl s) ∧ Below w.heap.size w w' := by
  have C := hide (charsR_any s w hs)
  have HT := hide hT
  have HCH := hide hch
  have hw : whole (bl s) = true := ch_whole hch
  have UN := hide (un_raw s h1 hw)
  have IC := hide (raw_isC4 _ (bl s) (Nat.le_refl _) (bl_by s) hw)
  have LN := hide (show (raw (bl s)).length ≤ 1099511627776 by have := raw_le (bl s); rw [bl_len] at this; omega)
  have hne : raw (bl s) ≠ [] := fun g => by
    have := (raw_empty (bl s)).1 (by rw [g]; rfl)
    have h2 := bl_len s
    rw [this] at h2; simp at h2; omega
  have NE := hide hne
  clear hT hch hw hne
  go_enter Tryz.func55, Tryz.ntmps55
  go_wp2_with fail
  go_at_call 51
  refine C.out.mono ?_
  rintro e w1 ⟨a, n, c, rfl, hN, B1⟩
  replace hN := hN HCH.out
  replace B1 := hide B1
  have NN := hide hN
  have T1 := hide (HT.out.below B1.out)
  have CI := hide (ident4_any s w1 hs HCH.out T1.out)
  obtain ⟨ls, hls⟩ : ∃ ls, raw (bl s) = ls := ⟨_, rfl⟩
  rw [hls] at hN NN IC LN UN NE
  clear hls C HT
  rcases hN with ⟨a', c', e', rfl⟩ | ⟨b, o, n', c', e', hn, h0, hbw, hl, hn9, hc9, hcell⟩
  · exact absurd rfl NE.out
  · simp at e'
    obtain ⟨rfl, rfl, rfl⟩ := e'
    have k0 : w1.cell? ⟨b, o, none⟩ = some (.int .i32 (gt ls 0)) := hcell 0 h0
    have HN := hide hn
    have g0 : (0 : Int) < n := by omega
    have hnb : n ≤ 1099511627776 := by have := LN.out; omega
    have X0 := hide (show nx ls 0 = gt ls 0 from nx_gt4 (by omega))
    have NO := hide (fun (h : exL ls = false) => show unT (bl s) = wId (bl s) by rw [UN.out, h]; rfl)
    have YES := hide (fun (h : exL ls = true) => show unT (bl s) = esc (gt ls 0) ++ wNm (ls.drop 1) by rw [UN.out, if_pos h, X0.out])
    by_cases he : gt ls 0 = 101 ∨ gt ls 0 = 69
    · have n2 : ((gt ls 0 == 101) = true) ∨ ((gt ls 0 == 101) = false ∧ (gt ls 0 == 69) = true) := by
        rcases he with h | h <;> rw [h] <;> decide
      have EF := hide (show ((nx ls 0 == 101) || (nx ls 0 == 69)) = true by rw [X0.out]; rcases he with h | h <;> rw [h] <;> rfl)
      have bx : 0 ≤ gt ls 0 ∧ gt ls 0 < 65536 := by omega
      by_cases hn1 : n = 1
      · have E := hide (NO.out (by
          unfold exL
          have : nx ls 1 = -1 := by unfold nx; rw [List.getD_eq_getElem?_getD, List.getElem?_eq_none (by omega)]; rfl
          rw [this]; simp [isDig]))
        have e1 : ¬ (1 : Int) < n := by omega
        have e2 : ¬ (2 : Int) < n := by omega
        clear he bx EF NO YES UN X0 hcell hn
        rcases n2 with q1 | ⟨q1, q2⟩
        all_goals
          go_wp2_with (first
              | (go_at_call 50; refine CI.out.mono ?_; rintro e w2 ⟨u, rfl, hu, B2⟩; replace hu := hide hu; replace B2 := hide B2))
          go_ret
          exact ⟨u, rfl, by rw [hu.out, E.out], bto B1.out B2.out⟩
      · have k1 : w1.cell? ⟨b, o + 1, none⟩ = some (.int .i32 (gt ls 1)) := hcell 1 (by omega)
        have X1 := hide (show nx ls 1 = gt ls 1 from nx_gt4 (by omega))
        have e1 : (1 : Int) < n := by omega
        have e1n : 1 < n := by omega
        have CES := hide (fun (W : World) (hb : Below w1.heap.size w1 W) => esc4_any (gt ls 0) W bx.1 bx.2 (T1.out.below hb))
        have CLS := hide (fun (W : World) (v : Value) (hb : Below w1.heap.size w1 W) (hv : Nums .i32 w1 v (ls.drop 1)) => letters4_any (ls.drop 1) v W (hv.below hb) (fun y hy => IC.out y (List.mem_of_mem_drop hy)) (by have := LN.out; rw [List.length_drop]; omega) (T1.out.below hb))
        have KP := hide (fun (W : World) (hb : Below w1.heap.size w1 W) => (hb.cell (p := ⟨b, o, none⟩) hbw).trans k0)
        have NP := NN.out.tail4 1 (by omega) HN.out hl (by omega)
        have LE := hide (show ∀ u : ByteArray, bl u = esc (gt ls 0) → u.size ≤ 6 from fun u hu => by rw [← bl_len, hu]; exact esc_len bx.1 bx.2)
        have LW := hide (show ∀ u : ByteArray, bl u = wNm (ls.drop 1) → u.size ≤ 6 * 1099511627776 from fun u hu => by rw [← bl_len, hu]; have := wNm_len (ls.drop 1); have := LN.out; rw [List.length_drop] at *; omega)
        cases D1 : isDig (gt ls 1) with
        | true =>
          have E := hide (YES.out (by unfold exL; rw [EF.out, X1.out, D1]; rfl))
          replace D1 := hide D1
          clear he bx EF NO YES UN X0 X1 hcell hn CI NN
          obtain ⟨y, hy⟩ : ∃ y, gt ls 1 = y := ⟨_, rfl⟩
          rw [hy] at k1 D1
          obtain ⟨x, hx⟩ : ∃ x, gt ls 0 = x := ⟨_, rfl⟩
          rw [hx] at k0 E n2 CES KP LE
          clear hx hy
          rcases n2 with q1 | ⟨q1, q2⟩
          all_goals
            go_wp2_with (go_at_call 76; refine (digitR_any _ _).mono ?_; rintro e w2 ⟨rfl, rfl⟩; rw [D1.out])
            have hc1 : ¬ c = 1 := by omega
            rw [if_neg hc1] at NP
            replace NP := hide NP
            have hsl : ∀ W : World, (Instr.slice 87 (.slice (some ⟨b, o, none⟩) n c) (some (.int .i64 1)) none none).run Tryz.prog W = .ok (.slice (some ⟨b, o + 1, none⟩) (n - 1) (c - 1)) W := fun W => run_tail W b o n c 1 (by omega) hc1 (by omega)
            go_region_held3 (fun w' => w'.cell? ⟨b, o, none⟩ = some (.int .i32 x))
              (exact KP.out _ (by repeat (first | exact Below.refl _ _ | (with_reducible refine Below.drew ?_) | (with_reducible refine below_drewN ?_ _) | (refine bto ?_ (by assumption)))))
              (first
                | (go_at_call 81; refine (CES.out _ (by repeat (first | exact Below.refl _ _ | (with_reducible refine Below.drew ?_) | (with_reducible refine below_drewN ?_ _) | (refine bto ?_ (by assumption))))).mono ?_; rintro _ we ⟨u, rfl, hu, he⟩; have hz := LE.out u hu; replace hu := hide hu; (try (have hq : ¬ (9223372036854775807 < u.size + v.size) := (by omega))))
                | (go_at_call 52; refine (CLS.out _ _ (by repeat (first | exact Below.refl _ _ | (with_reducible refine Below.drew ?_) | (with_reducible refine below_drewN ?_ _) | (refine bto ?_ (by assumption)))) NP.out).mono ?_; rintro _ wl ⟨v, rfl, hv, hvl⟩; have hy := LW.out v hv; replace hv := hide hv; (try (have hq : ¬ (9223372036854775807 < u.size + v.size) := (by omega)))))
            all_goals
              go_wp2
              go_ret
              refine ⟨_, rfl, by rw [bl_app, hu.out, hv.out, E.out], bto B1.out ?_⟩
              repeat (first | exact Below.refl _ _ | (with_reducible refine Below.drew ?_) | (with_reducible refine below_drewN ?_ _) | (refine bto ?_ (by assumption)))
        | false =>
          by_cases hn2 : n = 2
          · have E := hide (NO.out (by
              unfold exL
              have : nx ls 2 = -1 := by unfold nx; rw [List.getD_eq_getElem?_getD, List.getElem?_eq_none (by omega)]; rfl
              rw [X1.out, D1, this]; simp [isDig]))
            replace D1 := hide D1
            have e2 : ¬ (2 : Int) < n := by omega
            clear he bx EF NO YES UN X0 X1 hcell hn CES CLS NP LE LW KP
            rcases n2 with q1 | ⟨q1, q2⟩
            all_goals
              go_wp2_with (first
                  | (go_at_call 76; refine (digitR_any _ _).mono ?_; rintro e w2 ⟨rfl, rfl⟩; rw [D1.out])
                  | (go_at_call 50; refine CI.out.mono ?_; rintro e w2 ⟨u, rfl, hu, B2⟩; replace hu := hide hu; replace B2 := hide B2))
              go_ret
              exact ⟨u, rfl, by rw [hu.out, E.out], bto B1.out B2.out⟩
          · have k2 : w1.cell? ⟨b, o + 2, none⟩ = some (.int .i32 (gt ls 2)) := hcell 2 (by omega)
            have X2 := hide (show nx ls 2 = gt ls 2 from nx_gt4 (by omega))
            have e2 : (2 : Int) < n := by omega
            have e2n : 2 < n := by omega
            by_cases h45 : gt ls 1 = 45
            · cases D2 : isDig (gt ls 2) with
              | true =>
                have E := hide (YES.out (by unfold exL; rw [EF.out, X1.out, X2.out, h45, D2]; rfl))
                replace D1 := hide D1
                replace D2 := hide D2
                rw [h45] at k1 D1
                clear he bx EF NO YES UN X0 X1 X2 hcell hn CI NN h45
                obtain ⟨z, hz0⟩ : ∃ z, gt ls 2 = z := ⟨_, rfl⟩
                rw [hz0] at k2 D2
                obtain ⟨x, hx⟩ : ∃ x, gt ls 0 = x := ⟨_, rfl⟩
                rw [hx] at k0 E n2 CES KP LE
                clear hx hz0
                rcases n2 with q1 | ⟨q1, q2⟩
                all_goals
                  go_wp2_with (first
                    | (go_at_call_of 76 (Value.int IntKind.i32 45); refine (digitR_any _ _).mono ?_; rintro e w2 ⟨rfl, rfl⟩; rw [D1.out])
                    | (go_at_call 76; refine (digitR_any _ _).mono ?_; rintro e w2 ⟨rfl, rfl⟩; rw [D2.out]))
                  have hc1 : ¬ c = 1 := by omega
                  rw [if_neg hc1] at NP
                  replace NP := hide NP
                  have hsl : ∀ W : World, (Instr.slice 87 (.slice (some ⟨b, o, none⟩) n c) (some (.int .i64 1)) none none).run Tryz.prog W = .ok (.slice (some ⟨b, o + 1, none⟩) (n - 1) (c - 1)) W := fun W => run_tail W b o n c 1 (by omega) hc1 (by omega)
                  go_region_held3 (fun w' => w'.cell? ⟨b, o, none⟩ = some (.int .i32 x))
                    (exact KP.out _ (by repeat (first | exact Below.refl _ _ | (with_reducible refine Below.drew ?_) | (with_reducible refine below_drewN ?_ _) | (refine bto ?_ (by assumption)))))
                    (first
                      | (go_at_call 81; refine (CES.out _ (by repeat (first | exact Below.refl _ _ | (with_reducible refine Below.drew ?_) | (with_reducible refine below_drewN ?_ _) | (refine bto ?_ (by assumption))))).mono ?_; rintro _ we ⟨u, rfl, hu, he⟩; have hz := LE.out u hu; replace hu := hide hu; (try (have hq : ¬ (9223372036854775807 < u.size + v.size) := (by omega))))
                      | (go_at_call 52; refine (CLS.out _ _ (by repeat (first | exact Below.refl _ _ | (with_reducible refine Below.drew ?_) | (with_reducible refine below_drewN ?_ _) | (refine bto ?_ (by assumption)))) NP.out).mono ?_; rintro _ wl ⟨v, rfl, hv, hvl⟩; have hy := LW.out v hv; replace hv := hide hv; (try (have hq : ¬ (9223372036854775807 < u.size + v.size) := (by omega)))))
                  all_goals
                    go_wp2
                    go_ret
                    refine ⟨_, rfl, by rw [bl_app, hu.out, hv.out, E.out], bto B1.out ?_⟩
                    repeat (first | exact Below.refl _ _ | (with_reducible refine Below.drew ?_) | (with_reducible refine below_drewN ?_ _) | (refine bto ?_ (by assumption)))
              | false =>
                have E := hide (NO.out (by unfold exL; rw [X1.out, X2.out, D1, D2]; simp))
                replace D1 := hide D1
                replace D2 := hide D2
                rw [h45] at k1 D1
                clear he bx EF NO YES UN X0 X1 X2 hcell hn h45 CES CLS NP LE LW KP
                rcases n2 with q1 | ⟨q1, q2⟩
                all_goals
                  go_wp2_with (first
                      | (go_at_call_of 76 (Value.int IntKind.i32 45); refine (digitR_any _ _).mono ?_; rintro e w2 ⟨rfl, rfl⟩; rw [D1.out])
                      | (go_at_call 76; refine (digitR_any _ _).mono ?_; rintro e w2 ⟨rfl, rfl⟩; rw [D2.out])
                      | (go_at_call 50; refine CI.out.mono ?_; rintro e w2 ⟨u, rfl, hu, B2⟩; replace hu := hide hu; replace B2 := hide B2))
                  go_ret
                  exact ⟨u, rfl, by rw [hu.out, E.out], bto B1.out B2.out⟩
            · have E := hide (NO.out (by
                unfold exL
                have : (gt ls 1 == 45) = false := by simpa using h45
                rw [X1.out, D1, this]; simp))
              have q45 : (gt ls 1 == 45) = false := by simpa using h45
              replace D1 := hide D1
              clear he bx EF NO YES UN X0 X1 X2 hcell hn h45 CES CLS NP LE LW KP
              rcases n2 with q1 | ⟨q1, q2⟩
              all_goals
                go_wp2_with (first
                    | (go_at_call 76; refine (digitR_any _ _).mono ?_; rintro e w2 ⟨rfl, rfl⟩; rw [D1.out])
                    | (go_at_call 50; refine CI.out.mono ?_; rintro e w2 ⟨u, rfl, hu, B2⟩; replace hu := hide hu; replace B2 := hide B2))
                go_ret
                exact ⟨u, rfl, by rw [hu.out, E.out], bto B1.out B2.out⟩
    · have E := hide (NO.out (by
        unfold exL
        have q1 : (gt ls 0 == 101) = false := by simp; exact fun g => he (.inl g)
        have q2 : (gt ls 0 == 69) = false := by simp; exact fun g => he (.inr g)
        rw [X0.out, q1, q2]; rfl))
      have q1 : (gt ls 0 == 101) = false := by simp; exact fun g => he (.inl g)
      have q2 : (gt ls 0 == 69) = false := by simp; exact fun g => he (.inr g)
      clear he NO YES UN X0 hcell hn
      go_wp2_with (first
          | (go_at_call 50; refine CI.out.mono ?_; rintro e w2 ⟨u, rfl, hu, B2⟩; replace hu := hide hu; replace B2 := hide B2))
      go_ret
      exact ⟨u, rfl, by rw [hu.out, E.out], bto B1.out B2.out⟩
end Go.Proofs.YtbdacepomdlcbaaGreatDoor
set_option linter.unusedVariables false
set_option linter.unusedSimpArgs false
namespace Go.Proofs.YtbdacepomdlcbaaGreatDoor
open Go.RowKit Go.Shelf

def PostR (t : TS) (w : World) (e : Ending) (w' : World) : Prop := ∃ u c, e = .returned (.tuple #[.string u, .int .i64 c]) ∧ Hid (Sp2 wtA [t] u c) ∧ Below w.heap.size w w'
theorem fin4 {t : TS} (hm : t.may = true) {u : ByteArray} (hu : bl u = wtA t) : Sp2 wtA [t] u 0 := .inl ⟨fun x hx => by rw [List.mem_singleton.1 hx]; exact hm, rfl, by rw [hu]; exact (spK_one wtA t).symm⟩
theorem wt_fixed {k : Int} {s : ByteArray} (hk : ¬ (k = 1 ∨ k = 2 ∨ k = 3 ∨ k = 4 ∨ k = 5 ∨ k = 7 ∨ k = 9 ∨ k = 10 ∨ k = 11 ∨ k = 12)) : wtA ⟨k, s, 0, 0, false, false⟩ = bl (fx k) := by
  unfold wtA
  simp only
  rw [if_neg (by omega), if_neg (by omega), if_neg (by omega), if_neg (by omega), if_neg (by omega), if_neg (by omega), if_neg (by omega), if_neg (by omega), if_neg (by omega), if_neg (by omega)]
set_option maxRecDepth 100000 in
set_option maxHeartbeats 1000000 in
theorem token4_no (t : TS) (w : World) (ho : t.Ok) (hm : t.may = false) (hT : Tabs w) :
    Calls Tryz.prog 26 #[t.v] w fun e w' => PostR t w e w' := by
  obtain ⟨k, s, n, d, i, h⟩ := t
  obtain ⟨k1, k2, hs, n1, n2, d1, d2⟩ := ho
  simp only at k1 k2 hs n1 n2 d1 d2
  have B0 := hide (bplus (Below.refl w.heap.size w) (.cells #[.int .i64 k, .string s, .int .i64 n, .int .i64 d, .bool i, .bool h] 41))
  have CM := hide (mayR_any k s n d i h (w.alloc (.cells #[.int .i64 k, .string s, .int .i64 n, .int .i64 d, .bool i, .bool h] 41)) hs n1 n2 d1 d2 (hT.below B0.out))
  have E := hide (show mayT k (bl s) n d i h = false from hm)
  have FIN := hide (show Sp2 wtA [⟨k, s, n, d, i, h⟩] ⟨#[]⟩ 1 from .inr ⟨⟨_, by simp, hm⟩, rfl, rfl⟩)
  clear hT hm
  unfold TS.v tokV
  unfold tokV at CM
  go_enter Tryz.func26, Tryz.ntmps26
  go_wp2_with (go_at_call 48; refine CM.out.mono ?_; rintro e w1 ⟨rfl, B1⟩; rw [E.out]; replace B1 := hide (show Below w.heap.size w w1 from bto B0.out B1))
  go_ret2
  exact ⟨_, _, rfl, FIN.out, B1.out⟩
set_option maxRecDepth 100000 in
set_option maxHeartbeats 1000000 in
theorem token4_1 (s : ByteArray) (w : World) (hs : s.size ≤ 1099511627776) (hT : Tabs w) (hm : (⟨1, s, 0, 0, false, false⟩ : TS).may = true) :
    Calls Tryz.prog 26 #[.agg #[.int .i64 1, .string s, .int .i64 0, .int .i64 0, .bool false, .bool false]] w fun e w' => PostR ⟨1, s, 0, 0, false, false⟩ w e w' := by
  have TX := hide (Tok6.box w 1 s 0 0 false false 41)
  have B0 := hide (bplus (Below.refl w.heap.size w) (.cells #[.int .i64 1, .string s, .int .i64 0, .int .i64 0, .bool false, .bool false] 41))
  have CM := hide (mayR_any 1 s 0 0 false false (w.alloc (.cells #[.int .i64 1, .string s, .int .i64 0, .int .i64 0, .bool false, .bool false] 41)) hs (by omega) (by omega) (by omega) (by omega) (hT.below B0.out))
  have W1 := hide (fun (W : World) (h : Below w.heap.size w W) => hT.below h)
  have E := hide (show mayT 1 (bl s) 0 0 false false = true from hm)
  have FIN := hide (fun (u : ByteArray) (hu : bl u = wtA ⟨1, s, 0, 0, false, false⟩) => fin4 hm hu)
  have HCH := hide (show chB (bl s) = true by have hm2 : mayT 1 (bl s) 0 0 false false = true := hm; rw [may_name (.inl rfl)] at hm2; simp only [Bool.and_eq_true] at hm2; exact hm2.2.1)
  have CI := hide (fun (W : World) (h : Below w.heap.size w W) => ident4_any s W hs HCH.out (W1.out W h))
  have LI := hide (show ∀ u : ByteArray, bl u = wId (bl s) → u.size ≤ 6 * s.size + 2 from fun u hu => by rw [← bl_len, hu]; exact wId_len s)
  clear hT hm
  unfold tokV at CM
  go_enter Tryz.func26, Tryz.ntmps26
  go_wp2_with (first
    | (go_at_call 48; refine CM.out.mono ?_; rintro e w1 ⟨rfl, B1⟩; rw [E.out]; have T1 := hide (TX.out.below B1); obtain ⟨z1, q0, q1, q2, q3, q4, q5⟩ := T1.out; replace B1 := hide (show Below w.heap.size w w1 from bto B0.out B1))
    | (go_at_call 50; refine (CI.out _ B1.out).mono ?_; rintro e w2 ⟨u, rfl, hu, B2⟩; have hz := LI.out u hu; replace hu := hide hu; replace B1 := hide (bto B1.out B2)))
  go_ret2
  exact ⟨_, 0, rfl, FIN.out _ (by rw [hu.out]; rfl), B1.out⟩
set_option maxRecDepth 100000 in
set_option maxHeartbeats 1000000 in
theorem token4_2 (s : ByteArray) (w : World) (hs : s.size ≤ 1099511627776) (hT : Tabs w) (hm : (⟨2, s, 0, 0, false, false⟩ : TS).may = true) :
    Calls Tryz.prog 26 #[.agg #[.int .i64 2, .string s, .int .i64 0, .int .i64 0, .bool false, .bool false]] w fun e w' => PostR ⟨2, s, 0, 0, false, false⟩ w e w' := by
  have TX := hide (Tok6.box w 2 s 0 0 false false 41)
  have B0 := hide (bplus (Below.refl w.heap.size w) (.cells #[.int .i64 2, .string s, .int .i64 0, .int .i64 0, .bool false, .bool false] 41))
  have CM := hide (mayR_any 2 s 0 0 false false (w.alloc (.cells #[.int .i64 2, .string s, .int .i64 0, .int .i64 0, .bool false, .bool false] 41)) hs (by omega) (by omega) (by omega) (by omega) (hT.below B0.out))
  have W1 := hide (fun (W : World) (h : Below w.heap.size w W) => hT.below h)
  have E := hide (show mayT 2 (bl s) 0 0 false false = true from hm)
  have FIN := hide (fun (u : ByteArray) (hu : bl u = wtA ⟨2, s, 0, 0, false, false⟩) => fin4 hm hu)
  have HCH := hide (show chB (bl s) = true by have hm2 : mayT 2 (bl s) 0 0 false false = true := hm; rw [may_name (.inr (.inl rfl))] at hm2; simp only [Bool.and_eq_true] at hm2; exact hm2.2.1)
  have CI := hide (fun (W : World) (h : Below w.heap.size w W) => ident4_any s W hs HCH.out (W1.out W h))
  have LI := hide (show ∀ u : ByteArray, bl u = wId (bl s) → u.size ≤ 6 * s.size + 2 from fun u hu => by rw [← bl_len, hu]; exact wId_len s)
  clear hT hm
  unfold tokV at CM
  go_enter Tryz.func26, Tryz.ntmps26
  go_wp2_with (first
    | (go_at_call 48; refine CM.out.mono ?_; rintro e w1 ⟨rfl, B1⟩; rw [E.out]; have T1 := hide (TX.out.below B1); obtain ⟨z1, q0, q1, q2, q3, q4, q5⟩ := T1.out; replace B1 := hide (show Below w.heap.size w w1 from bto B0.out B1))
    | (go_at_call 50; refine (CI.out _ B1.out).mono ?_; rintro e w2 ⟨u, rfl, hu, B2⟩; have hz := LI.out u hu; replace hu := hide hu; replace B1 := hide (bto B1.out B2)))
  go_ret2
  exact ⟨_, 0, rfl, FIN.out _ (by rw [bl_app, hu.out]; rfl), B1.out⟩
set_option maxRecDepth 100000 in
set_option maxHeartbeats 1000000 in
theorem token4_3 (s : ByteArray) (w : World) (hs : s.size ≤ 1099511627776) (hT : Tabs w) (hm : (⟨3, s, 0, 0, false, false⟩ : TS).may = true) :
    Calls Tryz.prog 26 #[.agg #[.int .i64 3, .string s, .int .i64 0, .int .i64 0, .bool false, .bool false]] w fun e w' => PostR ⟨3, s, 0, 0, false, false⟩ w e w' := by
  have TX := hide (Tok6.box w 3 s 0 0 false false 41)
  have B0 := hide (bplus (Below.refl w.heap.size w) (.cells #[.int .i64 3, .string s, .int .i64 0, .int .i64 0, .bool false, .bool false] 41))
  have CM := hide (mayR_any 3 s 0 0 false false (w.alloc (.cells #[.int .i64 3, .string s, .int .i64 0, .int .i64 0, .bool false, .bool false] 41)) hs (by omega) (by omega) (by omega) (by omega) (hT.below B0.out))
  have W1 := hide (fun (W : World) (h : Below w.heap.size w W) => hT.below h)
  have E := hide (show mayT 3 (bl s) 0 0 false false = true from hm)
  have FIN := hide (fun (u : ByteArray) (hu : bl u = wtA ⟨3, s, 0, 0, false, false⟩) => fin4 hm hu)
  have HCH := hide (show chB (bl s) = true by have hm2 : mayT 3 (bl s) 0 0 false false = true := hm; rw [may_name (.inr (.inr rfl))] at hm2; simp only [Bool.and_eq_true] at hm2; exact hm2.2.1)
  have CI := hide (fun (W : World) (h : Below w.heap.size w W) => ident4_any s W hs HCH.out (W1.out W h))
  have LI := hide (show ∀ u : ByteArray, bl u = wId (bl s) → u.size ≤ 6 * s.size + 2 from fun u hu => by rw [← bl_len, hu]; exact wId_len s)
  clear hT hm
  unfold tokV at CM
  go_enter Tryz.func26, Tryz.ntmps26
  go_wp2_with (first
    | (go_at_call 48; refine CM.out.mono ?_; rintro e w1 ⟨rfl, B1⟩; rw [E.out]; have T1 := hide (TX.out.below B1); obtain ⟨z1, q0, q1, q2, q3, q4, q5⟩ := T1.out; replace B1 := hide (show Below w.heap.size w w1 from bto B0.out B1))
    | (go_at_call 50; refine (CI.out _ B1.out).mono ?_; rintro e w2 ⟨u, rfl, hu, B2⟩; have hz := LI.out u hu; replace hu := hide hu; replace B1 := hide (bto B1.out B2)))
  go_ret2
  exact ⟨_, 0, rfl, FIN.out _ (by rw [bl_app, hu.out]; rfl), B1.out⟩
set_option maxRecDepth 100000 in
set_option maxHeartbeats 1000000 in
theorem token4_4t (s : ByteArray) (w : World) (hs : s.size ≤ 1099511627776) (hT : Tabs w) (hm : (⟨4, s, 0, 0, false, true⟩ : TS).may = true) :
    Calls Tryz.prog 26 #[.agg #[.int .i64 4, .string s, .int .i64 0, .int .i64 0, .bool false, .bool true]] w fun e w' => PostR ⟨4, s, 0, 0, false, true⟩ w e w' := by
  have TX := hide (Tok6.box w 4 s 0 0 false true 41)
  have B0 := hide (bplus (Below.refl w.heap.size w) (.cells #[.int .i64 4, .string s, .int .i64 0, .int .i64 0, .bool false, .bool true] 41))
  have CM := hide (mayR_any 4 s 0 0 false true (w.alloc (.cells #[.int .i64 4, .string s, .int .i64 0, .int .i64 0, .bool false, .bool true] 41)) hs (by omega) (by omega) (by omega) (by omega) (hT.below B0.out))
  have W1 := hide (fun (W : World) (h : Below w.heap.size w W) => hT.below h)
  have E := hide (show mayT 4 (bl s) 0 0 false true = true from hm)
  have FIN := hide (fun (u : ByteArray) (hu : bl u = wtA ⟨4, s, 0, 0, false, true⟩) => fin4 hm hu)
  have HCH := hide (show chB (bl s) = true by have hm2 : mayT 4 (bl s) 0 0 false true = true := hm; rw [may_hash] at hm2; simp only [Bool.and_eq_true] at hm2; exact hm2.2.1.1)
  have CI := hide (fun (W : World) (h : Below w.heap.size w W) => ident4_any s W hs HCH.out (W1.out W h))
  have LI := hide (show ∀ u : ByteArray, bl u = wId (bl s) → u.size ≤ 6 * s.size + 2 from fun u hu => by rw [← bl_len, hu]; exact wId_len s)
  clear hT hm
  unfold tokV at CM
  go_enter Tryz.func26, Tryz.ntmps26
  go_wp2_with (first
    | (go_at_call 48; refine CM.out.mono ?_; rintro e w1 ⟨rfl, B1⟩; rw [E.out]; have T1 := hide (TX.out.below B1); obtain ⟨z1, q0, q1, q2, q3, q4, q5⟩ := T1.out; replace B1 := hide (show Below w.heap.size w w1 from bto B0.out B1))
    | (go_at_call 50; refine (CI.out _ B1.out).mono ?_; rintro e w2 ⟨u, rfl, hu, B2⟩; have hz := LI.out u hu; replace hu := hide hu; replace B1 := hide (bto B1.out B2)))
  go_ret2
  exact ⟨_, 0, rfl, FIN.out _ (by rw [bl_app, hu.out]; rfl), B1.out⟩
set_option maxRecDepth 100000 in
set_option maxHeartbeats 1000000 in
theorem token4_4f (s : ByteArray) (w : World) (hs : s.size ≤ 1099511627776) (hT : Tabs w) (hm : (⟨4, s, 0, 0, false, false⟩ : TS).may = true) :
    Calls Tryz.prog 26 #[.agg #[.int .i64 4, .string s, .int .i64 0, .int .i64 0, .bool false, .bool false]] w fun e w' => PostR ⟨4, s, 0, 0, false, false⟩ w e w' := by
  have TX := hide (Tok6.box w 4 s 0 0 false false 41)
  have B0 := hide (bplus (Below.refl w.heap.size w) (.cells #[.int .i64 4, .string s, .int .i64 0, .int .i64 0, .bool false, .bool false] 41))
  have CM := hide (mayR_any 4 s 0 0 false false (w.alloc (.cells #[.int .i64 4, .string s, .int .i64 0, .int .i64 0, .bool false, .bool false] 41)) hs (by omega) (by omega) (by omega) (by omega) (hT.below B0.out))
  have W1 := hide (fun (W : World) (h : Below w.heap.size w W) => hT.below h)
  have E := hide (show mayT 4 (bl s) 0 0 false false = true from hm)
  have FIN := hide (fun (u : ByteArray) (hu : bl u = wtA ⟨4, s, 0, 0, false, false⟩) => fin4 hm hu)
  have HCH := hide (show chB (bl s) = true by have hm2 : mayT 4 (bl s) 0 0 false false = true := hm; rw [may_hash] at hm2; simp only [Bool.and_eq_true] at hm2; exact hm2.2.1.1)
  have CH := hide (fun (W : World) => charsR_any s W hs)
  have IC := hide (raw_isC4 _ (bl s) (Nat.le_refl _) (bl_by s) (ch_whole HCH.out))
  have LN := hide (show (raw (bl s)).length ≤ 1099511627776 by have := raw_le (bl s); rw [bl_len] at this; omega)
  have LI := hide (show ∀ u : ByteArray, bl u = wNm (raw (bl s)) → u.size ≤ 6 * 1099511627776 from fun u hu => by rw [← bl_len, hu]; have := wNm_len (raw (bl s)); have := LN.out; omega)
  clear hT hm
  unfold tokV at CM
  go_enter Tryz.func26, Tryz.ntmps26
  go_wp2_with (first
    | (go_at_call 48; refine CM.out.mono ?_; rintro e w1 ⟨rfl, B1⟩; rw [E.out]; have T1 := hide (TX.out.below B1); obtain ⟨z1, q0, q1, q2, q3, q4, q5⟩ := T1.out; replace B1 := hide (show Below w.heap.size w w1 from bto B0.out B1))
    | (go_at_call 51; refine (CH.out _).mono ?_; rintro e w2 ⟨a, n, c, rfl, hN, B2⟩; replace hN := hide (hN HCH.out); replace B1 := hide (bto B1.out B2))
    | (go_at_call 52; refine (letters4_any (raw (bl s)) _ _ hN.out IC.out LN.out (W1.out _ B1.out)).mono ?_; rintro e w3 ⟨u, rfl, hu, B3⟩; have hz := LI.out u hu; replace hu := hide hu; replace B1 := hide (bto B1.out B3)))
  go_ret2
  exact ⟨_, 0, rfl, FIN.out _ (by rw [bl_app, hu.out]; rfl), B1.out⟩
set_option maxRecDepth 100000 in
set_option maxHeartbeats 1000000 in
theorem token4_5 (s : ByteArray) (w : World) (hs : s.size ≤ 1099511627776) (hT : Tabs w) (hm : (⟨5, s, 0, 0, false, false⟩ : TS).may = true) :
    Calls Tryz.prog 26 #[.agg #[.int .i64 5, .string s, .int .i64 0, .int .i64 0, .bool false, .bool false]] w fun e w' => PostR ⟨5, s, 0, 0, false, false⟩ w e w' := by
  have TX := hide (Tok6.box w 5 s 0 0 false false 41)
  have B0 := hide (bplus (Below.refl w.heap.size w) (.cells #[.int .i64 5, .string s, .int .i64 0, .int .i64 0, .bool false, .bool false] 41))
  have CM := hide (mayR_any 5 s 0 0 false false (w.alloc (.cells #[.int .i64 5, .string s, .int .i64 0, .int .i64 0, .bool false, .bool false] 41)) hs (by omega) (by omega) (by omega) (by omega) (hT.below B0.out))
  have W1 := hide (fun (W : World) (h : Below w.heap.size w W) => hT.below h)
  have E := hide (show mayT 5 (bl s) 0 0 false false = true from hm)
  have FIN := hide (fun (u : ByteArray) (hu : bl u = wtA ⟨5, s, 0, 0, false, false⟩) => fin4 hm hu)
  have HCH := hide (show chB (bl s) = true by have hm2 : mayT 5 (bl s) 0 0 false false = true := hm; rw [may_text (.inl rfl)] at hm2; simp only [Bool.and_eq_true] at hm2; exact hm2.2)
  clear hT hm
  unfold tokV at CM
  go_enter Tryz.func26, Tryz.ntmps26
  go_wp2_with (first
    | (go_at_call 48; refine CM.out.mono ?_; rintro e w1 ⟨rfl, B1⟩; rw [E.out]; have T1 := hide (TX.out.below B1); obtain ⟨z1, q0, q1, q2, q3, q4, q5⟩ := T1.out; replace B1 := hide (show Below w.heap.size w w1 from bto B0.out B1))
    | (go_at_call 53; refine (quoted4_any s _ hs HCH.out (W1.out _ B1.out)).mono ?_; rintro e w2 ⟨u, rfl, hu, B2⟩; replace hu := hide hu; replace B1 := hide (bto B1.out B2)))
  go_ret2
  exact ⟨_, 0, rfl, FIN.out _ (by rw [hu.out]; rfl), B1.out⟩
set_option maxRecDepth 100000 in
set_option maxHeartbeats 1000000 in
theorem token4_7 (s : ByteArray) (w : World) (hs : s.size ≤ 1099511627776) (hT : Tabs w) (hm : (⟨7, s, 0, 0, false, false⟩ : TS).may = true) :
    Calls Tryz.prog 26 #[.agg #[.int .i64 7, .string s, .int .i64 0, .int .i64 0, .bool false, .bool false]] w fun e w' => PostR ⟨7, s, 0, 0, false, false⟩ w e w' := by
  have TX := hide (Tok6.box w 7 s 0 0 false false 41)
  have B0 := hide (bplus (Below.refl w.heap.size w) (.cells #[.int .i64 7, .string s, .int .i64 0, .int .i64 0, .bool false, .bool false] 41))
  have CM := hide (mayR_any 7 s 0 0 false false (w.alloc (.cells #[.int .i64 7, .string s, .int .i64 0, .int .i64 0, .bool false, .bool false] 41)) hs (by omega) (by omega) (by omega) (by omega) (hT.below B0.out))
  have W1 := hide (fun (W : World) (h : Below w.heap.size w W) => hT.below h)
  have E := hide (show mayT 7 (bl s) 0 0 false false = true from hm)
  have FIN := hide (fun (u : ByteArray) (hu : bl u = wtA ⟨7, s, 0, 0, false, false⟩) => fin4 hm hu)
  have HCH := hide (show chB (bl s) = true by have hm2 : mayT 7 (bl s) 0 0 false false = true := hm; rw [may_text (.inr rfl)] at hm2; simp only [Bool.and_eq_true] at hm2; exact hm2.2)
  clear hT hm
  unfold tokV at CM
  go_enter Tryz.func26, Tryz.ntmps26
  go_wp2_with (first
    | (go_at_call 48; refine CM.out.mono ?_; rintro e w1 ⟨rfl, B1⟩; rw [E.out]; have T1 := hide (TX.out.below B1); obtain ⟨z1, q0, q1, q2, q3, q4, q5⟩ := T1.out; replace B1 := hide (show Below w.heap.size w w1 from bto B0.out B1))
    | (go_at_call 54; refine (url4_any s _ hs HCH.out (W1.out _ B1.out)).mono ?_; rintro e w2 ⟨u, rfl, hu, B2⟩; replace hu := hide hu; replace B1 := hide (bto B1.out B2)))
  go_ret2
  exact ⟨_, 0, rfl, FIN.out _ (by rw [hu.out]; rfl), B1.out⟩
set_option maxRecDepth 100000 in
set_option maxHeartbeats 1000000 in
theorem token4_9 (s : ByteArray) (w : World) (hs : s.size ≤ 1099511627776) (hT : Tabs w) (hm : (⟨9, s, 0, 0, false, false⟩ : TS).may = true) :
    Calls Tryz.prog 26 #[.agg #[.int .i64 9, .string s, .int .i64 0, .int .i64 0, .bool false, .bool false]] w fun e w' => PostR ⟨9, s, 0, 0, false, false⟩ w e w' := by
  have TX := hide (Tok6.box w 9 s 0 0 false false 41)
  have B0 := hide (bplus (Below.refl w.heap.size w) (.cells #[.int .i64 9, .string s, .int .i64 0, .int .i64 0, .bool false, .bool false] 41))
  have CM := hide (mayR_any 9 s 0 0 false false (w.alloc (.cells #[.int .i64 9, .string s, .int .i64 0, .int .i64 0, .bool false, .bool false] 41)) hs (by omega) (by omega) (by omega) (by omega) (hT.below B0.out))
  have W1 := hide (fun (W : World) (h : Below w.heap.size w W) => hT.below h)
  have E := hide (show mayT 9 (bl s) 0 0 false false = true from hm)
  have FIN := hide (fun (u : ByteArray) (hu : bl u = wtA ⟨9, s, 0, 0, false, false⟩) => fin4 hm hu)
  clear hT hm
  unfold tokV at CM
  by_cases h : bl s = [92]
  · obtain rfl : s = ⟨#[92]⟩ := bl_inj h
    clear h
    go_enter Tryz.func26, Tryz.ntmps26
    go_wp2_with (first
      | (go_at_call 48; refine CM.out.mono ?_; rintro e w1 ⟨rfl, B1⟩; rw [E.out]; have T1 := hide (TX.out.below B1); obtain ⟨z1, q0, q1, q2, q3, q4, q5⟩ := T1.out; replace B1 := hide (show Below w.heap.size w w1 from bto B0.out B1)))
    go_ret2
    exact ⟨_, 0, rfl, FIN.out _ (by decide), B1.out⟩
  · have HNE := hide h
    have hne2 : (s.toList == [92]) = false := by
      rw [beq_eq_false_iff_ne]
      intro g
      rw [Lib.toList_data] at g
      exact h (by unfold bl; rw [g]; rfl)
    clear h
    go_enter Tryz.func26, Tryz.ntmps26
    go_wp2_with (first
      | (go_at_call 48; refine CM.out.mono ?_; rintro e w1 ⟨rfl, B1⟩; rw [E.out]; have T1 := hide (TX.out.below B1); obtain ⟨z1, q0, q1, q2, q3, q4, q5⟩ := T1.out; replace B1 := hide (show Below w.heap.size w w1 from bto B0.out B1)))
    go_ret2
    exact ⟨_, 0, rfl, FIN.out _ (by show _ = dlmT (bl s); unfold dlmT; rw [if_neg HNE.out]), B1.out⟩
set_option maxRecDepth 100000 in
set_option maxHeartbeats 1000000 in
theorem token4_10 (s : ByteArray) (n d : Int) (i : Bool) (n1 : -9223372036854775808 ≤ n) (n2 : n ≤ 9223372036854775807) (d1 : -9223372036854775808 ≤ d) (d2 : d ≤ 9223372036854775807) (w : World) (hs : s.size ≤ 1099511627776) (hT : Tabs w) (hm : (⟨10, s, n, d, i, false⟩ : TS).may = true) :
    Calls Tryz.prog 26 #[.agg #[.int .i64 10, .string s, .int .i64 n, .int .i64 d, .bool i, .bool false]] w fun e w' => PostR ⟨10, s, n, d, i, false⟩ w e w' := by
  have TX := hide (Tok6.box w 10 s n d i false 41)
  have B0 := hide (bplus (Below.refl w.heap.size w) (.cells #[.int .i64 10, .string s, .int .i64 n, .int .i64 d, .bool i, .bool false] 41))
  have CM := hide (mayR_any 10 s n d i false (w.alloc (.cells #[.int .i64 10, .string s, .int .i64 n, .int .i64 d, .bool i, .bool false] 41)) hs n1 n2 d1 d2 (hT.below B0.out))
  have W1 := hide (fun (W : World) (h : Below w.heap.size w W) => hT.below h)
  have E := hide (show mayT 10 (bl s) n d i false = true from hm)
  have FIN := hide (fun (u : ByteArray) (hu : bl u = wtA ⟨10, s, n, d, i, false⟩) => fin4 hm hu)
  obtain ⟨tt, hp⟩ : ∃ tt, plT n d i = some tt := by
    have hm2 : mayT 10 (bl s) n d i false = true := hm
    rw [may_num (.inl rfl)] at hm2; simp only [Bool.and_eq_true] at hm2
    exact som hm2.2
  have PT := hide (show ∀ u x, PlR n d i u x → bl u = tt from fun u x h => by unfold PlR at h; rw [hp] at h; exact h.2)
  have NW := hide (show numW ⟨10, s, n, d, i, false⟩ = tt by show (plT n d i).getD [] = tt; rw [hp]; rfl)
  have SL := hide (show ∀ u : ByteArray, bl u = tt → u.size ≤ 100 from fun u h => by rw [← bl_len, h]; exact plT_len n1 n2 d2 hp)
  clear hp
  clear hT hm
  unfold tokV at CM
  go_enter Tryz.func26, Tryz.ntmps26
  go_wp2_with (first
    | (go_at_call 48; refine CM.out.mono ?_; rintro e w1 ⟨rfl, B1⟩; rw [E.out]; have T1 := hide (TX.out.below B1); obtain ⟨z1, q0, q1, q2, q3, q4, q5⟩ := T1.out; replace B1 := hide (show Below w.heap.size w w1 from bto B0.out B1))
    | (go_at_call 49; refine (plainR_any n d i _ n1 n2 d1 d2 (W1.out _ B1.out)).mono ?_; rintro e w2 ⟨u, x, rfl, H, B2⟩; have hu := PT.out u x H; have hz := SL.out u hu; replace hu := hide hu; clear H q0 q1 q2 q3 q4 q5 z1; obtain ⟨z1, q0, q1, q2, q3, q4, q5⟩ := T1.out.below B2; replace B1 := hide (bto B1.out B2)))
  go_ret2
  exact ⟨_, 0, rfl, FIN.out _ (by rw [hu.out]; exact NW.out.symm), B1.out⟩
set_option maxRecDepth 100000 in
set_option maxHeartbeats 1000000 in
theorem token4_11 (s : ByteArray) (n d : Int) (i : Bool) (n1 : -9223372036854775808 ≤ n) (n2 : n ≤ 9223372036854775807) (d1 : -9223372036854775808 ≤ d) (d2 : d ≤ 9223372036854775807) (w : World) (hs : s.size ≤ 1099511627776) (hT : Tabs w) (hm : (⟨11, s, n, d, i, false⟩ : TS).may = true) :
    Calls Tryz.prog 26 #[.agg #[.int .i64 11, .string s, .int .i64 n, .int .i64 d, .bool i, .bool false]] w fun e w' => PostR ⟨11, s, n, d, i, false⟩ w e w' := by
  have TX := hide (Tok6.box w 11 s n d i false 41)
  have B0 := hide (bplus (Below.refl w.heap.size w) (.cells #[.int .i64 11, .string s, .int .i64 n, .int .i64 d, .bool i, .bool false] 41))
  have CM := hide (mayR_any 11 s n d i false (w.alloc (.cells #[.int .i64 11, .string s, .int .i64 n, .int .i64 d, .bool i, .bool false] 41)) hs n1 n2 d1 d2 (hT.below B0.out))
  have W1 := hide (fun (W : World) (h : Below w.heap.size w W) => hT.below h)
  have E := hide (show mayT 11 (bl s) n d i false = true from hm)
  have FIN := hide (fun (u : ByteArray) (hu : bl u = wtA ⟨11, s, n, d, i, false⟩) => fin4 hm hu)
  obtain ⟨tt, hp⟩ : ∃ tt, plT n d i = some tt := by
    have hm2 : mayT 11 (bl s) n d i false = true := hm
    rw [may_num (.inr rfl)] at hm2; simp only [Bool.and_eq_true] at hm2
    exact som hm2.2
  have PT := hide (show ∀ u x, PlR n d i u x → bl u = tt from fun u x h => by unfold PlR at h; rw [hp] at h; exact h.2)
  have NW := hide (show numW ⟨11, s, n, d, i, false⟩ = tt by show (plT n d i).getD [] = tt; rw [hp]; rfl)
  have SL := hide (show ∀ u : ByteArray, bl u = tt → u.size ≤ 100 from fun u h => by rw [← bl_len, h]; exact plT_len n1 n2 d2 hp)
  clear hp
  clear hT hm
  unfold tokV at CM
  go_enter Tryz.func26, Tryz.ntmps26
  go_wp2_with (first
    | (go_at_call 48; refine CM.out.mono ?_; rintro e w1 ⟨rfl, B1⟩; rw [E.out]; have T1 := hide (TX.out.below B1); obtain ⟨z1, q0, q1, q2, q3, q4, q5⟩ := T1.out; replace B1 := hide (show Below w.heap.size w w1 from bto B0.out B1))
    | (go_at_call 49; refine (plainR_any n d i _ n1 n2 d1 d2 (W1.out _ B1.out)).mono ?_; rintro e w2 ⟨u, x, rfl, H, B2⟩; have hu := PT.out u x H; have hz := SL.out u hu; replace hu := hide hu; clear H q0 q1 q2 q3 q4 q5 z1; obtain ⟨z1, q0, q1, q2, q3, q4, q5⟩ := T1.out.below B2; replace B1 := hide (bto B1.out B2)))
  go_ret2
  exact ⟨_, 0, rfl, FIN.out _ (by rw [bl_app, hu.out, ← NW.out]; rfl), B1.out⟩
set_option maxRecDepth 100000 in
set_option maxHeartbeats 1000000 in
theorem token4_12 (s : ByteArray) (n d : Int) (i : Bool) (n1 : -9223372036854775808 ≤ n) (n2 : n ≤ 9223372036854775807) (d1 : -9223372036854775808 ≤ d) (d2 : d ≤ 9223372036854775807) (w : World) (hs : s.size ≤ 1099511627776) (hT : Tabs w) (hm : (⟨12, s, n, d, i, false⟩ : TS).may = true) :
    Calls Tryz.prog 26 #[.agg #[.int .i64 12, .string s, .int .i64 n, .int .i64 d, .bool i, .bool false]] w fun e w' => PostR ⟨12, s, n, d, i, false⟩ w e w' := by
  have TX := hide (Tok6.box w 12 s n d i false 41)
  have B0 := hide (bplus (Below.refl w.heap.size w) (.cells #[.int .i64 12, .string s, .int .i64 n, .int .i64 d, .bool i, .bool false] 41))
  have CM := hide (mayR_any 12 s n d i false (w.alloc (.cells #[.int .i64 12, .string s, .int .i64 n, .int .i64 d, .bool i, .bool false] 41)) hs n1 n2 d1 d2 (hT.below B0.out))
  have W1 := hide (fun (W : World) (h : Below w.heap.size w W) => hT.below h)
  have E := hide (show mayT 12 (bl s) n d i false = true from hm)
  have FIN := hide (fun (u : ByteArray) (hu : bl u = wtA ⟨12, s, n, d, i, false⟩) => fin4 hm hu)
  obtain ⟨tt, hp⟩ : ∃ tt, plT n d i = some tt := by
    have hm2 : mayT 12 (bl s) n d i false = true := hm
    rw [may_dim] at hm2; simp only [Bool.and_eq_true] at hm2
    exact som hm2.2.2
  have PT := hide (show ∀ u x, PlR n d i u x → bl u = tt from fun u x h => by unfold PlR at h; rw [hp] at h; exact h.2)
  have NW := hide (show numW ⟨12, s, n, d, i, false⟩ = tt by show (plT n d i).getD [] = tt; rw [hp]; rfl)
  have SL := hide (show ∀ u : ByteArray, bl u = tt → u.size ≤ 100 from fun u h => by rw [← bl_len, h]; exact plT_len n1 n2 d2 hp)
  have HD := hide (show chB (bl s) = true ∧ 0 < s.size by
    have hm2 : mayT 12 (bl s) n d i false = true := hm
    rw [may_dim] at hm2; simp only [Bool.and_eq_true] at hm2
    exact ⟨hm2.1.1, bl_ne hm2.1.2⟩)
  have LU := hide (show ∀ v : ByteArray, bl v = unT (bl s) → v.size ≤ 6 * s.size + 300 from fun v hv => by
    have := wtA_len ⟨12, s, 0, 0, false, false⟩ ⟨by simp, by simp, hs, by simp, by simp, by simp, by simp⟩
    have e : wtA ⟨12, s, 0, 0, false, false⟩ = numW ⟨12, s, 0, 0, false, false⟩ ++ unT (bl s) := rfl
    rw [e, List.length_append, ← hv, bl_len] at this
    show v.size ≤ 6 * s.size + 300
    simp only at this
    omega)
  clear hp
  clear hT hm
  unfold tokV at CM
  go_enter Tryz.func26, Tryz.ntmps26
  go_wp2_with (first
    | (go_at_call 48; refine CM.out.mono ?_; rintro e w1 ⟨rfl, B1⟩; rw [E.out]; have T1 := hide (TX.out.below B1); obtain ⟨z1, q0, q1, q2, q3, q4, q5⟩ := T1.out; replace B1 := hide (show Below w.heap.size w w1 from bto B0.out B1))
    | (go_at_call 49; refine (plainR_any n d i _ n1 n2 d1 d2 (W1.out _ B1.out)).mono ?_; rintro e w2 ⟨u, x, rfl, H, B2⟩; have hu := PT.out u x H; have hz := SL.out u hu; replace hu := hide hu; clear H q0 q1 q2 q3 q4 q5 z1; obtain ⟨z1, q0, q1, q2, q3, q4, q5⟩ := T1.out.below B2; replace B1 := hide (bto B1.out B2))
    | (go_at_call 55; refine (unit4_any s _ HD.out.2 hs HD.out.1 (W1.out _ B1.out)).mono ?_; rintro e w3 ⟨v, rfl, hv, B3⟩; have hy := LU.out v hv; replace hv := hide hv; replace B1 := hide (bto B1.out B3)))
  go_ret2
  exact ⟨_, 0, rfl, FIN.out _ (by rw [bl_app, hu.out, hv.out, ← NW.out]; rfl), B1.out⟩
end Go.Proofs.YtbdacepomdlcbaaGreatDoor
