/-
  Numbers and percentages, written.
  Texts in quotes, by the reference.
  A name's, a string's text: by the reference.
  A simple selector's text: by the reference.
-/
import Derived.Test.YtmkbjcoagfnegaaGreatDoorZ20
import Derived.Test.YtmkbjcoagfnegaaGreatDoorZ14
import Derived.Deep.RegionWith
set_option linter.unusedVariables false
set_option linter.unusedSimpArgs false
namespace Go.Proofs.YtmkbjcoagfnegaaGreatDoor
open Go.RowKit Go.Shelf

end Go.Proofs.YtmkbjcoagfnegaaGreatDoor
set_option linter.unusedVariables false
set_option linter.unusedSimpArgs false
namespace Go.Proofs.YtmkbjcoagfnegaaGreatDoor
open Go.RowKit Go.Shelf

theorem cv34 (W : World) : (convert 5 9 (.int .u8 34)).run Tryz.prog W = .ok (.string ⟨#[34]⟩) W := by kernel_rfl
theorem cv92 (W : World) : (convert 5 9 (.int .u8 92)).run Tryz.prog W = .ok (.string ⟨#[92]⟩) W := by kernel_rfl
def qtL (l : List Int) : List Int := l.flatMap qtT
theorem qt_take {ls : List Int} {k : Nat} (h : k < ls.length) : qtL (ls.take (k + 1)) = qtL (ls.take k) ++ qtT (gt ls k) := by
  unfold qtL
  rw [List.take_succ_eq_append_getElem h, List.flatMap_append, gt_eq h]
  simp
/-- The state of the loop over letters. -/
def RelQs (ls : List Int) (w : World) (i s : Value) (wr : World) : Prop := ∃ (k : Nat) (t : ByteArray), i = .int .i64 k ∧ s = .string t ∧ k ≤ ls.length ∧ t.size ≤ 6 * k + 1 ∧ Hid (bl t = 34 :: qtL (ls.take k) ∧ Below w.heap.size w wr)
theorem RelQs.mk {ls : List Int} {w : World} {i s : Value} {wr : World} (k : Nat) (t : ByteArray) (h1 : i = .int .i64 k) (h2 : s = .string t) (h3 : k ≤ ls.length) (h5 : t.size ≤ 6 * k + 1) (h4 : bl t = 34 :: qtL (ls.take k) ∧ Below w.heap.size w wr) : RelQs ls w i s wr := ⟨k, t, h1, h2, h3, h5, h4⟩
set_option maxRecDepth 100000 in
set_option maxHeartbeats 2000000 in
theorem quoted4_any (s : ByteArray) (w : World) (hs : s.size ≤ 1099511627776) (hch : chB (bl s) = true) (hT : Tabs w) :
    Calls Tryz.prog 124 #[.string s] w fun e w' => ∃ u, e = .returned (.string u) ∧ bl u = 34 :: (qtL (raw (bl s)) ++ [34]) ∧ Below w.heap.size w w' := by
  have C := hide (charsR_any s w hs)
  have HT0 := hide hT
  have HCH := hide hch
  have hw : whole (bl s) = true := ch_whole hch
  have IC := hide (raw_isC4 _ (bl s) (Nat.le_refl _) (bl_by s) hw)
  have LN := hide (show (raw (bl s)).length ≤ 1099511627776 by have := raw_le (bl s); rw [bl_len] at this; omega)
  clear hT hch hw
  go_enter Tryz.func124, Tryz.ntmps124
  go_wp2_with fail
  go_at_call 114
  refine C.out.mono ?_
  rintro e w1 ⟨a, n, c, rfl, hN, B1⟩
  replace hN := hN HCH.out
  replace B1 := hide B1
  have HT := hide (HT0.out.below B1.out)
  obtain ⟨ls, hls⟩ : ∃ ls, raw (bl s) = ls := ⟨_, rfl⟩
  rw [hls] at hN IC LN
  replace hls := hide hls
  clear C HT0
  rcases hN with ⟨a', c', e', rfl⟩ | ⟨b, o, n', c', e', hn, h0, hbw, hl, hn9, hc9, hcell⟩
  · simp at e'
    obtain ⟨rfl, rfl, rfl⟩ := e'
    go_wp2
    refine wp_loop_rounds 1 ?_
    rw [rounds_succ]
    go_wp2
    go_ret
    exact ⟨_, rfl, by rw [hls.out]; rfl, B1.out⟩
  · simp at e'
    obtain ⟨rfl, rfl, rfl⟩ := e'
    have HC := hide (fun (i : Nat) (hi : i < n) (W : World) (hW : Below w1.heap.size w1 W) => (hW.cell (p := ⟨b, o + i, none⟩) hbw).trans (hcell i hi))
    have HI := hide (fun (k : Nat) (hk : k < n) => IC.out (gt ls k) (by rw [gt_eq (show k < ls.length by omega)]; exact List.getElem_mem _))
    have HN := hide hn
    have hnb : n ≤ 1099511627776 := by have := LN.out; omega
    clear hcell hn
    go_wp2
    go_loopw [15, 5] (fun i t wr => RelQs ls w1 i t wr) (fun i t wr => n - (intOf i).toNat)
    case atStart => exact .mk 0 _ rfl rfl (by omega) (Nat.le_refl _) ⟨rfl, Below.refl _ _⟩
    case round =>
      obtain ⟨k, t, rfl, rfl, k1, ht6, R⟩ := hrel
      rw [← HN.out] at k1
      by_cases hk : k < n
      · have c0 := HC.out k hk wr R.out.2
        have hk' : (k : Int) < n := by omega
        have CC := hide (HI.out k hk)
        have ST := hide (qt_take (ls := ls) (k := k) (by rw [← HN.out]; exact hk))
        obtain ⟨x, hx⟩ : ∃ x, gt ls k = x := ⟨_, rfl⟩
        rw [hx] at c0 CC ST
        have TT := hide (HT.out.below R.out.2)
        clear hx
        have FIN := hide (fun (u : ByteArray) (W : World) (hu : bl u = qtT x) (hW : Below wr.heap.size wr W) => show RelQs ls w1 (.int .i64 ((k + 1 : Nat) : Int)) (.string (t ++ u)) W from
          .mk (k + 1) _ rfl rfl (by rw [← HN.out]; omega) (by
            have e1 : (t ++ u).size = t.size + u.size := by simp
            have e2 : u.size ≤ 6 := by rw [← bl_len, hu]; exact qtT_len x
            omega) ⟨by rw [bl_app, hu, R.out.1, ST.out]; rfl, bto R.out.2 hW⟩)
        cases hh : isHid x with
        | true =>
          have E := hide (show qtT x = esc x by
            unfold qtT
            rw [if_neg (by rintro (rfl | rfl) <;> exact absurd hh (by decide)), if_pos hh])
          have CE := hide (esc4_any x wr (hid_bd hh).1 (hid_bd hh).2 TT.out)
          have LE := hide (show ∀ u : ByteArray, bl u = esc x → u.size ≤ 6 from fun u hu => by rw [← bl_len, hu]; exact esc_len (hid_bd hh).1 (hid_bd hh).2)
          replace hh := hide hh
          go_wp2_with (first
            | (go_at_call 155; refine (hiddenR_any x _).mono ?_; rintro e w2 ⟨rfl, rfl⟩; rw [hh.out])
            | (go_at_call 154; refine CE.out.mono ?_; rintro e w2 ⟨u, rfl, hu, B2⟩; have hz := LE.out u hu; replace hu := hide hu; replace B2 := hide B2))
          go_roundw
          case rel => exact FIN.out u _ (by rw [hu.out, E.out]) B2.out
          case measure => simp [intOf]; omega
        | false =>
          by_cases h1 : x = 34 ∨ x = 92
          · have E := hide (show qtT x = 92 :: enc1 x by unfold qtT; rw [if_pos h1])
            replace hh := hide hh
            have v1 := cv34
            have v2 := cv92
            rcases h1 with rfl | rfl
            · go_wp2_with (go_at_call 155; refine (hiddenR_any _ _).mono ?_; rintro e w2 ⟨rfl, rfl⟩; rw [hh.out])
              go_roundw
              case rel => exact FIN.out ⟨#[92, 34]⟩ _ (by rw [E.out]; decide) (Below.refl _ _)
              case measure => simp [intOf]; omega
            · go_wp2_with (go_at_call 155; refine (hiddenR_any _ _).mono ?_; rintro e w2 ⟨rfl, rfl⟩; rw [hh.out])
              go_roundw
              case rel => exact FIN.out ⟨#[92, 92]⟩ _ (by rw [E.out]; decide) (Below.refl _ _)
              case measure => simp [intOf]; omega
          · have e1 : (x == 34) = false := by simp; exact fun h => h1 (.inl h)
            have e2 : (x == 92) = false := by simp; exact fun h => h1 (.inr h)
            have NL := Nums.lit (k := .i32) wr 21 [x] 1 rfl (by omega) (by omega)
            have CT := hide (text4_one x _ _ CC.out NL)
            have BA := hide (bplus (Below.refl wr.heap.size wr) (.cells #[.int .i32 x] 21))
            have LE := hide (show ∀ u : ByteArray, bl u = enc1 x → u.size ≤ 4 from fun u hu => by rw [← bl_len, hu]; exact (enc1_len x).2)
            have E := hide (show qtT x = enc1 x by unfold qtT; rw [if_neg h1, hh]; rfl)
            clear NL h1
            replace hh := hide hh
            go_wp2_with (first
              | (go_at_call 155; refine (hiddenR_any x _).mono ?_; rintro e w2 ⟨rfl, rfl⟩; rw [hh.out])
              | (go_at_call 82; refine CT.out.mono ?_; rintro e w2 ⟨u, rfl, hu, B2⟩; have hz := LE.out u hu; replace hu := hide hu; replace B2 := hide (bto BA.out B2)))
            go_roundw
            case rel => exact FIN.out u _ (by rw [hu.out, E.out]) B2.out
            case measure => simp [intOf]; omega
      · have hk' : ¬ (k : Int) < n := by omega
        go_wp2
        go_ret
        exact ⟨_, rfl, by rw [bl_app, R.out.1, List.take_of_length_le (by rw [← HN.out]; omega), hls.out]; rfl, bto B1.out R.out.2⟩
end Go.Proofs.YtmkbjcoagfnegaaGreatDoor
set_option linter.unusedVariables false
set_option linter.unusedSimpArgs false
namespace Go.Proofs.YtmkbjcoagfnegaaGreatDoor
open Go.RowKit Go.Shelf

set_option maxRecDepth 100000 in
set_option maxHeartbeats 2000000 in
theorem identR9_any (s : ByteArray) (w : World) (hs : s.size ≤ 1048576) (hm : nmS9 s = true) (hT : Tabs w) : Calls Tryz.prog 90 #[.string s] w fun e w' => ∃ u, e = .returned (.string u) ∧ bl u = wId (bl s) ∧ Below w.heap.size w w' := by
  have C := hide (token4_id s w (by omega) hT)
  have HM := hide (nmS9_may hm)
  clear hT hm
  go_enter Tryz.func90, Tryz.ntmps90
  go_wp2_with (go_at_call 91; refine C.out.mono ?_; rintro e w1 ⟨u, c, rfl, H, B1⟩; replace B1 := hide B1)
  go_ret
  refine ⟨u, rfl, ?_, B1.out⟩
  rcases H.out with ⟨_, _, h⟩ | ⟨⟨t, ht, h⟩, _, _⟩
  · rw [h]; exact spK_one wtI (idT s)
  · rw [List.mem_singleton.1 ht, HM.out] at h; cases h
set_option maxRecDepth 100000 in
set_option maxHeartbeats 2000000 in
theorem strR9_any (s : ByteArray) (w : World) (hs : s.size ≤ 1048576) (hm : chB (bl s) = true) (hT : Tabs w) :
    Calls Tryz.prog 91 #[.agg #[.int .i64 5, .string s, .int .i64 0, .int .i64 0, .bool false, .bool false]] w fun e w' => ∃ u, e = .returned (.tuple #[.string u, .int .i64 0]) ∧ bl u = quT s ∧ Below w.heap.size w w' := by
  have TX := hide (Tok6.box w 5 s 0 0 false false 73)
  have B0 := hide (bplus (Below.refl w.heap.size w) (.cells #[.int .i64 5, .string s, .int .i64 0, .int .i64 0, .bool false, .bool false] 73))
  have CM := hide (mayR_any 5 s 0 0 false false (w.alloc (.cells #[.int .i64 5, .string s, .int .i64 0, .int .i64 0, .bool false, .bool false] 73)) (by omega) (by omega) (by omega) (by omega) (by omega) (hT.below B0.out))
  have CQ := hide (fun (W : World) (h : Below w.heap.size w W) => quoted4_any s W (by omega) hm (hT.below h))
  have E := hide (show mayT 5 (bl s) 0 0 false false = true from txt_may hm)
  have FIN := hide (fun (u : ByteArray) (hu : bl u = 34 :: (qtL (raw (bl s)) ++ [34])) => show bl u = quT s by rw [hu]; unfold quT qtR qtL; rw [List.drop_zero])
  clear hT hm
  unfold tokV at CM
  go_enter Tryz.func91, Tryz.ntmps91
  go_wp2_with (first
    | (go_at_call 120; refine CM.out.mono ?_; rintro e w1 ⟨rfl, B1⟩; rw [E.out]; have T1 := hide (TX.out.below B1); obtain ⟨z1, q0, q1, q2, q3, q4, q5⟩ := T1.out; replace B1 := hide (show Below w.heap.size w w1 from bto B0.out B1))
    | (go_at_call 124; refine (CQ.out _ B1.out).mono ?_; rintro e w2 ⟨u, rfl, hu, B2⟩; replace hu := hide hu; replace B1 := hide (bto B1.out B2)))
  go_ret2
  exact ⟨u, rfl, FIN.out u hu.out, B1.out⟩
/-- What a reading function has before it: the box of what it was handed, what lies below. -/
structure Bq (w : World) (o : Obj) (wc : World) : Prop where
  x : wc.heap[w.heap.size]? = some o
  l : Below w.heap.size w wc
theorem Bq.start (w : World) (o : Obj) : Bq w o (w.alloc o) := ⟨heap_alloc_new w o, bplus (Below.refl _ _) o⟩
theorem Bq.up {w : World} {o : Obj} {wc wd : World} (h : Bq w o wc) (hb : Below wc.heap.size wc wd) : Bq w o wd := ⟨(hb.block _ (Array.getElem?_eq_some_iff.1 h.x).1).trans h.x, bto h.l hb⟩
theorem bl_three (a b c : ByteArray) : bl ((a ++ b) ++ c) = bl a ++ (bl b ++ bl c) := by rw [bl_app, bl_app, List.append_assoc]
end Go.Proofs.YtmkbjcoagfnegaaGreatDoor
set_option linter.unusedVariables false
set_option linter.unusedSimpArgs false
namespace Go.Proofs.YtmkbjcoagfnegaaGreatDoor
open Go.RowKit Go.Shelf

theorem ixO_1 (W : World) : (Instr.index 141 (.agg #[.string ⟨#[]⟩, .string ⟨#[61]⟩, .string ⟨#[126, 61]⟩, .string ⟨#[124, 61]⟩, .string ⟨#[94, 61]⟩, .string ⟨#[36, 61]⟩, .string ⟨#[42, 61]⟩]) (.int .i64 1)).run Tryz.prog W = .ok (.string (opS 1)) W := by kernel_rfl
theorem ixO_2 (W : World) : (Instr.index 141 (.agg #[.string ⟨#[]⟩, .string ⟨#[61]⟩, .string ⟨#[126, 61]⟩, .string ⟨#[124, 61]⟩, .string ⟨#[94, 61]⟩, .string ⟨#[36, 61]⟩, .string ⟨#[42, 61]⟩]) (.int .i64 2)).run Tryz.prog W = .ok (.string (opS 2)) W := by kernel_rfl
theorem ixO_3 (W : World) : (Instr.index 141 (.agg #[.string ⟨#[]⟩, .string ⟨#[61]⟩, .string ⟨#[126, 61]⟩, .string ⟨#[124, 61]⟩, .string ⟨#[94, 61]⟩, .string ⟨#[36, 61]⟩, .string ⟨#[42, 61]⟩]) (.int .i64 3)).run Tryz.prog W = .ok (.string (opS 3)) W := by kernel_rfl
theorem ixO_4 (W : World) : (Instr.index 141 (.agg #[.string ⟨#[]⟩, .string ⟨#[61]⟩, .string ⟨#[126, 61]⟩, .string ⟨#[124, 61]⟩, .string ⟨#[94, 61]⟩, .string ⟨#[36, 61]⟩, .string ⟨#[42, 61]⟩]) (.int .i64 4)).run Tryz.prog W = .ok (.string (opS 4)) W := by kernel_rfl
theorem ixO_5 (W : World) : (Instr.index 141 (.agg #[.string ⟨#[]⟩, .string ⟨#[61]⟩, .string ⟨#[126, 61]⟩, .string ⟨#[124, 61]⟩, .string ⟨#[94, 61]⟩, .string ⟨#[36, 61]⟩, .string ⟨#[42, 61]⟩]) (.int .i64 5)).run Tryz.prog W = .ok (.string (opS 5)) W := by kernel_rfl
theorem ixO_6 (W : World) : (Instr.index 141 (.agg #[.string ⟨#[]⟩, .string ⟨#[61]⟩, .string ⟨#[126, 61]⟩, .string ⟨#[124, 61]⟩, .string ⟨#[94, 61]⟩, .string ⟨#[36, 61]⟩, .string ⟨#[42, 61]⟩]) (.int .i64 6)).run Tryz.prog W = .ok (.string (opS 6)) W := by kernel_rfl
theorem ixO {k : Int} (h : 1 ≤ k) (h' : k ≤ 6) (W : World) : (Instr.index 141 (.agg #[.string ⟨#[]⟩, .string ⟨#[61]⟩, .string ⟨#[126, 61]⟩, .string ⟨#[124, 61]⟩, .string ⟨#[94, 61]⟩, .string ⟨#[36, 61]⟩, .string ⟨#[42, 61]⟩]) (.int .i64 k)).run Tryz.prog W = .ok (.string (opS k)) W := by
  have wy : k = 1 ∨ k = 2 ∨ k = 3 ∨ k = 4 ∨ k = 5 ∨ k = 6 := by omega
  rcases wy with rfl | rfl | rfl | rfl | rfl | rfl
  · exact ixO_1 W
  · exact ixO_2 W
  · exact ixO_3 W
  · exact ixO_4 W
  · exact ixO_5 W
  · exact ixO_6 W
theorem ixF_9 (W : World) : (Instr.index 143 (.agg #[.string ⟨#[]⟩, .string ⟨#[]⟩, .string ⟨#[]⟩, .string ⟨#[]⟩, .string ⟨#[]⟩, .string ⟨#[]⟩, .string ⟨#[]⟩, .string ⟨#[]⟩, .string ⟨#[]⟩, .string ⟨#[58, 114, 111, 111, 116]⟩, .string ⟨#[58, 101, 109, 112, 116, 121]⟩, .string ⟨#[58, 102, 105, 114, 115, 116, 45, 99, 104, 105, 108, 100]⟩, .string ⟨#[58, 108, 97, 115, 116, 45, 99, 104, 105, 108, 100]⟩, .string ⟨#[58, 111, 110, 108, 121, 45, 99, 104, 105, 108, 100]⟩]) (.int .i64 9)).run Tryz.prog W = .ok (.string (frS 9)) W := by kernel_rfl
theorem ixF_10 (W : World) : (Instr.index 143 (.agg #[.string ⟨#[]⟩, .string ⟨#[]⟩, .string ⟨#[]⟩, .string ⟨#[]⟩, .string ⟨#[]⟩, .string ⟨#[]⟩, .string ⟨#[]⟩, .string ⟨#[]⟩, .string ⟨#[]⟩, .string ⟨#[58, 114, 111, 111, 116]⟩, .string ⟨#[58, 101, 109, 112, 116, 121]⟩, .string ⟨#[58, 102, 105, 114, 115, 116, 45, 99, 104, 105, 108, 100]⟩, .string ⟨#[58, 108, 97, 115, 116, 45, 99, 104, 105, 108, 100]⟩, .string ⟨#[58, 111, 110, 108, 121, 45, 99, 104, 105, 108, 100]⟩]) (.int .i64 10)).run Tryz.prog W = .ok (.string (frS 10)) W := by kernel_rfl
theorem ixF_11 (W : World) : (Instr.index 143 (.agg #[.string ⟨#[]⟩, .string ⟨#[]⟩, .string ⟨#[]⟩, .string ⟨#[]⟩, .string ⟨#[]⟩, .string ⟨#[]⟩, .string ⟨#[]⟩, .string ⟨#[]⟩, .string ⟨#[]⟩, .string ⟨#[58, 114, 111, 111, 116]⟩, .string ⟨#[58, 101, 109, 112, 116, 121]⟩, .string ⟨#[58, 102, 105, 114, 115, 116, 45, 99, 104, 105, 108, 100]⟩, .string ⟨#[58, 108, 97, 115, 116, 45, 99, 104, 105, 108, 100]⟩, .string ⟨#[58, 111, 110, 108, 121, 45, 99, 104, 105, 108, 100]⟩]) (.int .i64 11)).run Tryz.prog W = .ok (.string (frS 11)) W := by kernel_rfl
theorem ixF_12 (W : World) : (Instr.index 143 (.agg #[.string ⟨#[]⟩, .string ⟨#[]⟩, .string ⟨#[]⟩, .string ⟨#[]⟩, .string ⟨#[]⟩, .string ⟨#[]⟩, .string ⟨#[]⟩, .string ⟨#[]⟩, .string ⟨#[]⟩, .string ⟨#[58, 114, 111, 111, 116]⟩, .string ⟨#[58, 101, 109, 112, 116, 121]⟩, .string ⟨#[58, 102, 105, 114, 115, 116, 45, 99, 104, 105, 108, 100]⟩, .string ⟨#[58, 108, 97, 115, 116, 45, 99, 104, 105, 108, 100]⟩, .string ⟨#[58, 111, 110, 108, 121, 45, 99, 104, 105, 108, 100]⟩]) (.int .i64 12)).run Tryz.prog W = .ok (.string (frS 12)) W := by kernel_rfl
theorem ixF_13 (W : World) : (Instr.index 143 (.agg #[.string ⟨#[]⟩, .string ⟨#[]⟩, .string ⟨#[]⟩, .string ⟨#[]⟩, .string ⟨#[]⟩, .string ⟨#[]⟩, .string ⟨#[]⟩, .string ⟨#[]⟩, .string ⟨#[]⟩, .string ⟨#[58, 114, 111, 111, 116]⟩, .string ⟨#[58, 101, 109, 112, 116, 121]⟩, .string ⟨#[58, 102, 105, 114, 115, 116, 45, 99, 104, 105, 108, 100]⟩, .string ⟨#[58, 108, 97, 115, 116, 45, 99, 104, 105, 108, 100]⟩, .string ⟨#[58, 111, 110, 108, 121, 45, 99, 104, 105, 108, 100]⟩]) (.int .i64 13)).run Tryz.prog W = .ok (.string (frS 13)) W := by kernel_rfl
theorem ixF {k : Int} (h : 9 ≤ k) (h' : k ≤ 13) (W : World) : (Instr.index 143 (.agg #[.string ⟨#[]⟩, .string ⟨#[]⟩, .string ⟨#[]⟩, .string ⟨#[]⟩, .string ⟨#[]⟩, .string ⟨#[]⟩, .string ⟨#[]⟩, .string ⟨#[]⟩, .string ⟨#[]⟩, .string ⟨#[58, 114, 111, 111, 116]⟩, .string ⟨#[58, 101, 109, 112, 116, 121]⟩, .string ⟨#[58, 102, 105, 114, 115, 116, 45, 99, 104, 105, 108, 100]⟩, .string ⟨#[58, 108, 97, 115, 116, 45, 99, 104, 105, 108, 100]⟩, .string ⟨#[58, 111, 110, 108, 121, 45, 99, 104, 105, 108, 100]⟩]) (.int .i64 k)).run Tryz.prog W = .ok (.string (frS k)) W := by
  have wy : k = 9 ∨ k = 10 ∨ k = 11 ∨ k = 12 ∨ k = 13 := by omega
  rcases wy with rfl | rfl | rfl | rfl | rfl
  · exact ixF_9 W
  · exact ixF_10 W
  · exact ixF_11 W
  · exact ixF_12 W
  · exact ixF_13 W
theorem ixC_1 (W : World) : (Instr.index 117 (.agg #[.string ⟨#[]⟩, .string ⟨#[32]⟩, .string ⟨#[32, 62, 32]⟩, .string ⟨#[32, 43, 32]⟩, .string ⟨#[32, 126, 32]⟩]) (.int .i64 1)).run Tryz.prog W = .ok (.string (coS 1)) W := by kernel_rfl
theorem ixC_2 (W : World) : (Instr.index 117 (.agg #[.string ⟨#[]⟩, .string ⟨#[32]⟩, .string ⟨#[32, 62, 32]⟩, .string ⟨#[32, 43, 32]⟩, .string ⟨#[32, 126, 32]⟩]) (.int .i64 2)).run Tryz.prog W = .ok (.string (coS 2)) W := by kernel_rfl
theorem ixC_3 (W : World) : (Instr.index 117 (.agg #[.string ⟨#[]⟩, .string ⟨#[32]⟩, .string ⟨#[32, 62, 32]⟩, .string ⟨#[32, 43, 32]⟩, .string ⟨#[32, 126, 32]⟩]) (.int .i64 3)).run Tryz.prog W = .ok (.string (coS 3)) W := by kernel_rfl
theorem ixC_4 (W : World) : (Instr.index 117 (.agg #[.string ⟨#[]⟩, .string ⟨#[32]⟩, .string ⟨#[32, 62, 32]⟩, .string ⟨#[32, 43, 32]⟩, .string ⟨#[32, 126, 32]⟩]) (.int .i64 4)).run Tryz.prog W = .ok (.string (coS 4)) W := by kernel_rfl
theorem ixC {k : Int} (h : 1 ≤ k) (h' : k ≤ 4) (W : World) : (Instr.index 117 (.agg #[.string ⟨#[]⟩, .string ⟨#[32]⟩, .string ⟨#[32, 62, 32]⟩, .string ⟨#[32, 43, 32]⟩, .string ⟨#[32, 126, 32]⟩]) (.int .i64 k)).run Tryz.prog W = .ok (.string (coS k)) W := by
  have wy : k = 1 ∨ k = 2 ∨ k = 3 ∨ k = 4 := by omega
  rcases wy with rfl | rfl | rfl | rfl
  · exact ixC_1 W
  · exact ixC_2 W
  · exact ixC_3 W
  · exact ixC_4 W
/-- A list's text, by the reference. -/
def LsR (n : Nat) : Prop := ∀ (left : Nat) (l : List Cx) (v : Value) (w : World), left ≤ 65 → CM w n v l → lsM left l = true → (lsT n l).length ≤ 1000000000000 → Tabs w →
    Calls Tryz.prog 38 #[v] w fun e w' => ∃ u, e = .returned (.string u) ∧ bl u = lsT n l ∧ Below w.heap.size w w'
theorem lt1 {u : ByteArray} (h : u.size ≤ 1000000000000) : ¬ 9223372036854775807 < 1 + u.size := by omega
theorem lt2 {u : ByteArray} (h : u.size ≤ 1000000000000) : ¬ 9223372036854775807 < 1 + u.size + 1 := by omega
theorem lt5 {u : ByteArray} (h : u.size ≤ 1000000000000) (n : Nat) (hn : n ≤ 20) : ¬ 9223372036854775807 < n + u.size := by omega
theorem lt6 {u : ByteArray} (h : u.size ≤ 1000000000000) (n : Nat) (hn : n ≤ 20) : ¬ 9223372036854775807 < n + u.size + 1 := by omega
theorem lt8 {u : ByteArray} (h : u.size ≤ 1000000000000) : ¬ 9223372036854775807 < u.size + 2 := by omega
theorem sums4 {u o v : ByteArray} (h : u.size ≤ 1000000000000) (ho : o.size ≤ 2) (hv : v.size ≤ 1000000000002) : ¬ 9223372036854775807 < 1 + u.size ∧ ¬ 9223372036854775807 < 1 + u.size + o.size ∧ ¬ 9223372036854775807 < 1 + u.size + o.size + v.size ∧ ¬ 9223372036854775807 < 1 + u.size + o.size + v.size + 1 := by omega
theorem Bq.drewN {w : World} {o : Obj} {wc : World} (h : Bq w o wc) (n : Nat) : Bq w o (wc.drewN n) := ⟨h.x, below_drewN h.l n⟩
set_option maxRecDepth 100000 in
set_option maxHeartbeats 8000000 in
theorem oneR_any (n left : Nat) (s : Sl) (ua : Option Addr) (uc : Nat) (w : World) (hl65 : left ≤ 65) (hu : CM w n (.slice ua s.ls.length uc) s.ls) (hm : slM left (lsM (left - 1)) s = true) (hl : (slT (lsT n) s).length ≤ 1000000000000) (ok : SlOk s) (hT : Tabs w) (IH : LsR n) :
    Calls Tryz.prog 60 #[s.v (.slice ua s.ls.length uc)] w fun e w' => ∃ u, e = .returned (.string u) ∧ bl u = slT (lsT n) s ∧ Below w.heap.size w w' := by
  have Q := hide (Bq.start w (obS s (.slice ua s.ls.length uc)))
  have ST := hide (show slT (lsT n) s = bl (frS s.k) ++ slB (lsT n) s from rfl)
  rcases sl_ways hm with h | ⟨h, hn⟩ | ⟨h, hn, hv, ho0, ho6⟩ | ⟨h, hr⟩ | h
  · rw [ST.out, slB_0 h, List.append_nil]
    clear hm IH hT ok hl hu ST
    generalize s.ls.length = ln at *
    unfold Sl.v slV
    unfold obS at Q
    obtain ⟨k, op, a, b', nm, vl, fo, ls⟩ := s
    simp only [Sl.k, Sl.op, Sl.a, Sl.b, Sl.nm, Sl.vl, Sl.fo, Sl.ls] at *
    obtain ⟨q0, q1, q2, q3, q4, q5, q6, q7⟩ := bxk_8 Q.out.x
    by_cases h1 : k = 1
    · subst h1
      go_enter Tryz.func60, Tryz.ntmps60
      go_wp2
      go_ret
      exact ⟨_, rfl, rfl, Q.out.l⟩
    · have JX := hide (ixF (k := k) (by omega) (by omega))
      have jx := JX.out
      generalize frS k = fs at jx JX ⊢
      have g1 : (k == 1) = false := by simp; omega
      have g2 : (k == 2) = false := by simp; omega
      have g3 : (k == 3) = false := by simp; omega
      have g4 : (k == 4) = false := by simp; omega
      have g5 : (k == 5) = false := by simp; omega
      have g6 : (k == 6) = false := by simp; omega
      have g7 : (k == 7) = false := by simp; omega
      have g8 : (k == 8) = false := by simp; omega
      have g14 : (k == 14) = false := by simp; omega
      have g15 : (k == 15) = false := by simp; omega
      clear h h1
      go_enter Tryz.func60, Tryz.ntmps60
      go_wp2
      go_ret
      exact ⟨_, rfl, rfl, Q.out.l⟩
  · rw [ST.out, slB_2 h]
    have CI := hide (fun (W : World) (h : Below w.heap.size w W) => identR9_any s.nm W ok.hn hn (hT.below h))
    have SZ1 := hide (fun (u : ByteArray) (h : bl u = wId (bl s.nm)) => show u.size ≤ 1000000000000 from Nat.le_trans (wId_size h ok.hn) (by decide))
    clear hm IH hT ok hl hu hn ST
    generalize s.ls.length = ln at *
    unfold Sl.v slV
    unfold obS at Q
    obtain ⟨k, op, a, b', nm, vl, fo, ls⟩ := s
    simp only [Sl.k, Sl.op, Sl.a, Sl.b, Sl.nm, Sl.vl, Sl.fo, Sl.ls] at *
    obtain ⟨q0, q1, q2, q3, q4, q5, q6, q7⟩ := bxk_8 Q.out.x
    rcases h with rfl | rfl | rfl
    · go_enter Tryz.func60, Tryz.ntmps60
      go_wp2_with (go_at_call 90; refine (CI.out _ Q.out.l).mono ?_; rintro e w1 ⟨u1, rfl, hu1, B1⟩; have E1 := hide hu1; have z1 := SZ1.out u1 hu1; have y1 := lt1 z1; have y2 := lt2 z1; replace Q := hide (Q.out.up B1); obtain ⟨q0, q1, q2, q3, q4, q5, q6, q7⟩ := bxk_8 Q.out.x; clear hu1 B1)
      go_ret
      exact ⟨_, rfl, by rw [E1.out]; rfl, Q.out.l⟩
    · go_enter Tryz.func60, Tryz.ntmps60
      go_wp2_with (go_at_call 90; refine (CI.out _ Q.out.l).mono ?_; rintro e w1 ⟨u1, rfl, hu1, B1⟩; have E1 := hide hu1; have z1 := SZ1.out u1 hu1; have y1 := lt1 z1; have y2 := lt2 z1; replace Q := hide (Q.out.up B1); obtain ⟨q0, q1, q2, q3, q4, q5, q6, q7⟩ := bxk_8 Q.out.x; clear hu1 B1)
      go_ret
      exact ⟨_, rfl, by rw [bl_app, E1.out]; rfl, Q.out.l⟩
    · go_enter Tryz.func60, Tryz.ntmps60
      go_wp2_with (go_at_call 90; refine (CI.out _ Q.out.l).mono ?_; rintro e w1 ⟨u1, rfl, hu1, B1⟩; have E1 := hide hu1; have z1 := SZ1.out u1 hu1; have y1 := lt1 z1; have y2 := lt2 z1; replace Q := hide (Q.out.up B1); obtain ⟨q0, q1, q2, q3, q4, q5, q6, q7⟩ := bxk_8 Q.out.x; clear hu1 B1)
      go_ret
      exact ⟨_, rfl, by rw [bl_app, E1.out]; rfl, Q.out.l⟩
  · rw [ST.out, slB_5 h]
    have CI := hide (fun (W : World) (h : Below w.heap.size w W) => identR9_any s.nm W ok.hn hn (hT.below h))
    have SZ1 := hide (fun (u : ByteArray) (h : bl u = wId (bl s.nm)) => show u.size ≤ 1000000000000 from Nat.le_trans (wId_size h ok.hn) (by decide))
    have CV := hide (fun (W : World) (h : Below w.heap.size w W) => strR9_any s.vl W ok.hv hv (hT.below h))
    have SZ2 := hide (fun (u : ByteArray) (h : bl u = quT s.vl) => show u.size ≤ 1000000000000 from Nat.le_trans (qu_size h ok.hv) (by decide))
    have AT := hide (show atT s = wId (bl s.nm) ++ (if s.op = 0 then [] else bl (opS s.op) ++ (quT s.vl ++ (if s.fo = true then [32, 105] else []))) from rfl)
    clear hm IH hT ok hl hu hn hv ST
    generalize atT s = AA at AT ⊢
    generalize s.ls.length = ln at *
    unfold Sl.v slV
    unfold obS at Q
    obtain ⟨k, op, a, b', nm, vl, fo, ls⟩ := s
    simp only [Sl.k, Sl.op, Sl.a, Sl.b, Sl.nm, Sl.vl, Sl.fo, Sl.ls] at *
    obtain ⟨q0, q1, q2, q3, q4, q5, q6, q7⟩ := bxk_8 Q.out.x
    subst h
    by_cases h0 : op = 0
    · have E := hide (show AA = wId (bl nm) by rw [AT.out]; simp [h0])
      clear AT
      subst h0
      go_enter Tryz.func60, Tryz.ntmps60
      go_wp2_with (go_at_call 90; refine (CI.out _ Q.out.l).mono ?_; rintro e w1 ⟨u1, rfl, hu1, B1⟩; have E1 := hide hu1; have z1 := SZ1.out u1 hu1; have y1 := lt1 z1; have y2 := lt2 z1; replace Q := hide (Q.out.up B1); obtain ⟨q0, q1, q2, q3, q4, q5, q6, q7⟩ := bxk_8 Q.out.x; clear hu1 B1)
      go_ret
      exact ⟨_, rfl, by rw [bl_three, E1.out, E.out]; rfl, Q.out.l⟩
    · have JX := hide (ixO (k := op) (by omega) ho6)
      have jx := JX.out
      have zo := opS_size op
      generalize opS op = os at jx JX zo AT
      have g0 : (op == 0) = false := by simpa using h0
      cases fo with
      | false =>
        have E := hide (show AA = wId (bl nm) ++ (bl os ++ quT vl) by rw [AT.out]; simp [h0])
        clear h0 AT JX ho0 ho6
        go_enter Tryz.func60, Tryz.ntmps60
        go_upto_region 16 with (go_at_call 91; refine (CV.out _ Q.out.l).mono ?_; rintro e w2 ⟨u2, rfl, hu2, B2⟩; have E2 := hide hu2; have z2 := SZ2.out u2 hu2; replace Q := hide (Q.out.up B2); obtain ⟨q0, q1, q2, q3, q4, q5, q6, q7⟩ := bxk_8 Q.out.x; clear hu2 B2)
        have zV : u2.size ≤ 1000000000002 := by omega
        have EV := hide (show bl u2 = quT vl from E2.out)
        go_region_with
          (go_at_call 90; refine (CI.out _ (by repeat (first | exact Q.out.l | (with_reducible refine Below.drew ?_) | (with_reducible refine below_drewN ?_ _)))).mono ?_; rintro e w1 ⟨u1, rfl, hu1, B1⟩; have E1 := hide hu1; have z1 := SZ1.out u1 hu1; obtain ⟨y1, y2, y3, y4⟩ := sums4 z1 zo zV; replace Q := hide ((Q.out.up (by repeat (first | exact Below.refl _ _ | (with_reducible refine Below.drew ?_) | (with_reducible refine below_drewN ?_ _)))).up B1); obtain ⟨q0, q1, q2, q3, q4, q5, q6, q7⟩ := bxk_8 Q.out.x; clear hu1 B1)
        all_goals
          go_wp2_with fail
          go_ret
          exact ⟨_, rfl, by rw [E.out, show bl (frS 5) = [91] from rfl, bl_app, bl_app, bl_app, bl_app, E1.out, EV.out]; simp [bl], Q.out.l⟩
      | true =>
        have E := hide (show AA = wId (bl nm) ++ (bl os ++ (quT vl ++ [32, 105])) by rw [AT.out]; simp [h0])
        clear h0 AT JX ho0 ho6
        go_enter Tryz.func60, Tryz.ntmps60
        go_upto_region 16 with (go_at_call 91; refine (CV.out _ Q.out.l).mono ?_; rintro e w2 ⟨u2, rfl, hu2, B2⟩; have E2 := hide hu2; have z2 := SZ2.out u2 hu2; have y9 := lt8 z2; replace Q := hide (Q.out.up B2); obtain ⟨q0, q1, q2, q3, q4, q5, q6, q7⟩ := bxk_8 Q.out.x; clear hu2 B2)
        have zV : (u2 ++ ⟨#[32, 105]⟩ : ByteArray).size ≤ 1000000000002 := by rw [ByteArray.size_append]; show u2.size + 2 ≤ _; omega
        have EV := hide (show bl (u2 ++ ⟨#[32, 105]⟩) = quT vl ++ [32, 105] by rw [bl_app, E2.out]; rfl)
        generalize (u2 ++ ⟨#[32, 105]⟩ : ByteArray) = V at *
        go_region_with
          (go_at_call 90; refine (CI.out _ (by repeat (first | exact Q.out.l | (with_reducible refine Below.drew ?_) | (with_reducible refine below_drewN ?_ _)))).mono ?_; rintro e w1 ⟨u1, rfl, hu1, B1⟩; have E1 := hide hu1; have z1 := SZ1.out u1 hu1; obtain ⟨y1, y2, y3, y4⟩ := sums4 z1 zo zV; replace Q := hide ((Q.out.up (by repeat (first | exact Below.refl _ _ | (with_reducible refine Below.drew ?_) | (with_reducible refine below_drewN ?_ _)))).up B1); obtain ⟨q0, q1, q2, q3, q4, q5, q6, q7⟩ := bxk_8 Q.out.x; clear hu1 B1)
        all_goals
          go_wp2_with fail
          go_ret
          exact ⟨_, rfl, by rw [E.out, show bl (frS 5) = [91] from rfl, bl_app, bl_app, bl_app, bl_app, E1.out, EV.out]; simp [bl], Q.out.l⟩
  · rw [ST.out, slB_6 h]
    have CT := hide (fun (W : World) (hW : Below w.heap.size w W) => IH (left - 1) s.ls _ W (by omega) (hu.low hW) hr (by have h1 := hl; rw [ST.out, slB_6 h, List.length_append, List.length_append] at h1; omega) (hT.below hW))
    have SZ := hide (fun (u : ByteArray) (hu : bl u = lsT n s.ls) => show u.size ≤ 1000000000000 by have h1 := hl; rw [ST.out, slB_6 h, List.length_append, List.length_append, ← hu] at h1; have h2 := bl_len u; omega)
    clear hm IH hT ok hl hu hr ST
    generalize lsT n s.ls = AA at *
    generalize s.ls.length = ln at *
    unfold Sl.v slV
    unfold obS at Q
    obtain ⟨k, op, a, b', nm, vl, fo, ls⟩ := s
    simp only [Sl.k, Sl.op, Sl.a, Sl.b, Sl.nm, Sl.vl, Sl.fo, Sl.ls] at *
    obtain ⟨q0, q1, q2, q3, q4, q5, q6, q7⟩ := bxk_8 Q.out.x
    rcases h with rfl | rfl | rfl
    all_goals
      go_enter Tryz.func60, Tryz.ntmps60
      go_wp2_with (go_at_call 38; refine (CT.out _ Q.out.l).mono ?_; rintro e w1 ⟨u1, rfl, hu1, B1⟩; have E1 := hide hu1; have z1 := SZ.out u1 hu1; have y1 := lt5 z1 5 (by decide); have y2 := lt6 z1 5 (by decide); have y3 := lt5 z1 4 (by decide); have y4 := lt6 z1 4 (by decide); have y5 := lt5 z1 7 (by decide); have y6 := lt6 z1 7 (by decide); replace Q := hide (Q.out.up B1); clear hu1 B1)
      go_ret
      exact ⟨_, rfl, by rw [bl_three, E1.out]; rfl, Q.out.l⟩
  · rw [ST.out, slB_14 h]
    have CT := hide (fun (W : World) (h : Below w.heap.size w W) => stepR_any s.a s.b W ok.a1 ok.a2 ok.b1 ok.b2 (hT.below h))
    have SZ := hide (fun (u : ByteArray) (h : bl u = stT s.a s.b) => show u.size ≤ 1000000000000 from Nat.le_trans (st_size h ok) (by decide))
    clear hm IH hT ok hl hu ST
    generalize s.ls.length = ln at *
    unfold Sl.v slV
    unfold obS at Q
    obtain ⟨k, op, a, b', nm, vl, fo, ls⟩ := s
    simp only [Sl.k, Sl.op, Sl.a, Sl.b, Sl.nm, Sl.vl, Sl.fo, Sl.ls] at *
    obtain ⟨q0, q1, q2, q3, q4, q5, q6, q7⟩ := bxk_8 Q.out.x
    rcases h with rfl | rfl
    all_goals
      go_enter Tryz.func60, Tryz.ntmps60
      go_wp2_with (go_at_call 92; refine (CT.out _ Q.out.l).mono ?_; rintro e w1 ⟨u1, rfl, hu1, B1⟩; have E1 := hide hu1; have z1 := SZ.out u1 hu1; have y1 := lt5 z1 11 (by decide); have y2 := lt6 z1 11 (by decide); have y3 := lt5 z1 16 (by decide); have y4 := lt6 z1 16 (by decide); replace Q := hide (Q.out.up B1); clear hu1 B1)
      go_ret
      exact ⟨_, rfl, by rw [bl_three, E1.out]; rfl, Q.out.l⟩
end Go.Proofs.YtmkbjcoagfnegaaGreatDoor

