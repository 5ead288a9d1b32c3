/-
  The reference's names.
  The reference's identifiers.
  Which tokens may be: by the reference.
  Which tokens may be: by the reference: hashes, signs, numbers.
-/
import Derived.Test.YtmkbjcoagfnegaaGreatDoorZ12
import Derived.Test.YtmkbjcoagfnegaaGreatDoorZ11
set_option linter.unusedVariables false
set_option linter.unusedSimpArgs false
namespace Go.Proofs.YtmkbjcoagfnegaaGreatDoor
open Go.RowKit Go.Shelf

/-- The state of the loop over letters. -/
def RelLs (ls : List Int) (w : World) (i s : Value) (wr : World) : Prop := ∃ (k : Nat) (t : ByteArray), i = .int .i64 k ∧ s = .string t ∧ k ≤ ls.length ∧ t.size ≤ 6 * k ∧ Hid (bl t = wNm (ls.take k) ∧ Below w.heap.size w wr)
theorem RelLs.mk {ls : List Int} {w : World} {i s : Value} {wr : World} (k : Nat) (t : ByteArray) (h1 : i = .int .i64 k) (h2 : s = .string t) (h3 : k ≤ ls.length) (h5 : t.size ≤ 6 * k) (h4 : bl t = wNm (ls.take k) ∧ Below w.heap.size w wr) : RelLs ls w i s wr := ⟨k, t, h1, h2, h3, h5, h4⟩
theorem wNm_take {ls : List Int} {k : Nat} (h : k < ls.length) : wNm (ls.take (k + 1)) = wNm (ls.take k) ++ wLt (gt ls k) := by
  unfold wNm
  rw [List.take_succ_eq_append_getElem h, List.flatMap_append, gt_eq h]
  simp
set_option maxRecDepth 100000 in
set_option maxHeartbeats 2000000 in
theorem letters4_any (ls : List Int) (v : Value) (w : World) (hv : Nums .i32 w v ls) (hc : ∀ x ∈ ls, isC x = true) (hl9 : ls.length ≤ 1099511627776) (hT : Tabs w) :
    Calls Tryz.prog 123 #[v] w fun e w' => ∃ s, e = .returned (.string s) ∧ bl s = wNm ls ∧ Below w.heap.size w w' := by
  rcases hv with ⟨a, c, rfl, rfl⟩ | ⟨b, o, n, c, rfl, hn, h0, hbw, hl, hn9, hc9, hcell⟩
  · go_enter Tryz.func123, Tryz.ntmps123
    go_wp2
    refine wp_loop_rounds 1 ?_
    rw [rounds_succ]
    go_wp2
    go_ret
    exact ⟨_, rfl, rfl, Below.refl _ _⟩
  · have HC := hide (fun (i : Nat) (hi : i < n) (W : World) (hW : Below w.heap.size w W) => (hW.cell (p := ⟨b, o + i, none⟩) hbw).trans (hcell i hi))
    have HI := hide (fun (k : Nat) (hk : k < n) => hc (gt ls k) (by rw [gt_eq (show k < ls.length by omega)]; exact List.getElem_mem _))
    have HN := hide hn
    have HT := hide hT
    have hnb : n ≤ 1099511627776 := by omega
    clear hcell hc hT hn
    go_enter Tryz.func123, Tryz.ntmps123
    go_wp2
    go_loopw [8, 3] (fun i s wr => RelLs ls w i s wr) (fun i s wr => n - (intOf i).toNat)
    case atStart => exact .mk 0 _ rfl rfl (by omega) (Nat.le_refl _) ⟨rfl, Below.refl _ _⟩
    case round =>
      obtain ⟨k, t, rfl, rfl, k1, ht6, R⟩ := hrel
      rw [← HN.out] at k1
      by_cases hk : k < n
      · have c0 := HC.out k hk wr R.out.2
        have hk' : (k : Int) < n := by omega
        have CC := hide (HI.out k hk)
        have ST := hide (wNm_take (ls := ls) (k := k) (by rw [← HN.out]; exact hk))
        obtain ⟨x, hx⟩ : ∃ x, gt ls k = x := ⟨_, rfl⟩
        rw [hx] at c0 CC ST
        have TT := hide (HT.out.below R.out.2)
        clear hx
        have FIN := hide (fun (u : ByteArray) (W : World) (hu : bl u = wLt x) (hW : Below wr.heap.size wr W) => show RelLs ls w (.int .i64 ((k + 1 : Nat) : Int)) (.string (t ++ u)) W from
          .mk (k + 1) _ rfl rfl (by rw [← HN.out]; omega) (by
            have e1 : (t ++ u).size = t.size + u.size := by simp
            have e2 : u.size ≤ 6 := by rw [← bl_len, hu]; exact wLt_len x
            omega) ⟨by rw [bl_app, hu, R.out.1, ST.out], bto R.out.2 hW⟩)
        cases hh : isHid x with
        | true =>
          have E := hide (show wLt x = esc x by unfold wLt; rw [if_pos hh])
          have CE := hide (esc4_any x wr (hid_bd hh).1 (hid_bd hh).2 TT.out)
          have LE := hide (show ∀ u : ByteArray, bl u = esc x → u.size ≤ 6 from fun u hu => by rw [← bl_len, hu]; exact esc_len (hid_bd hh).1 (hid_bd hh).2)
          replace hh := hide hh
          go_wp2_with (first
            | (go_at_call 155; refine (hiddenR_any x _).mono ?_; rintro e w1 ⟨rfl, rfl⟩; rw [hh.out])
            | (go_at_call 154; refine CE.out.mono ?_; rintro e w1 ⟨u, rfl, hu, B1⟩; have hz := LE.out u hu; replace hu := hide hu; replace B1 := hide B1))
          go_roundw
          case rel => exact FIN.out u _ (by rw [hu.out, E.out]) B1.out
          case measure => simp [intOf]; omega
        | false =>
          have NL := Nums.lit (k := .i32) wr 21 [x] 1 rfl (by omega) (by omega)
          have CT := hide (text4_one x _ _ CC.out NL)
          have BA := hide (bplus (Below.refl wr.heap.size wr) (.cells #[.int .i32 x] 21))
          have LE := hide (show ∀ u : ByteArray, bl u = enc1 x → u.size ≤ 4 from fun u hu => by rw [← bl_len, hu]; exact (enc1_len x).2)
          clear NL
          cases hf : isLet x with
          | true =>
            have E := hide (show wLt x = enc1 x by unfold wLt; rw [hh, hf]; rfl)
            replace hh := hide hh
            replace hf := hide hf
            go_wp2_with (first
              | (go_at_call 155; refine (hiddenR_any x _).mono ?_; rintro e w1 ⟨rfl, rfl⟩; rw [hh.out])
              | (go_at_call 75; refine (isLet4_any x _).mono ?_; rintro e w1 ⟨rfl, rfl⟩; rw [hf.out])
              | (go_at_call 82; refine CT.out.mono ?_; rintro e w1 ⟨u, rfl, hu, B1⟩; have hz := LE.out u hu; replace hu := hide hu; replace B1 := hide (bto BA.out B1)))
            go_roundw
            case rel => exact FIN.out u _ (by rw [hu.out, E.out]) B1.out
            case measure => simp [intOf]; omega
          | false =>
            have E := hide (show wLt x = 92 :: enc1 x by unfold wLt; rw [hh, hf]; rfl)
            replace hh := hide hh
            replace hf := hide hf
            go_wp2_with (first
              | (go_at_call 155; refine (hiddenR_any x _).mono ?_; rintro e w1 ⟨rfl, rfl⟩; rw [hh.out])
              | (go_at_call 75; refine (isLet4_any x _).mono ?_; rintro e w1 ⟨rfl, rfl⟩; rw [hf.out])
              | (go_at_call 82; refine CT.out.mono ?_; rintro e w1 ⟨u, rfl, hu, B1⟩; have hz := LE.out u hu; replace hu := hide hu; replace B1 := hide (bto BA.out B1)))
            go_roundw
            case rel => exact FIN.out (⟨#[92]⟩ ++ u) _ (by rw [bl_app, hu.out, E.out]; rfl) B1.out
            case measure => simp [intOf]; omega
      · have hk' : ¬ (k : Int) < n := by omega
        go_wp2
        go_ret
        exact ⟨t, rfl, by rw [R.out.1, List.take_of_length_le (by rw [← HN.out]; omega)], R.out.2⟩
end Go.Proofs.YtmkbjcoagfnegaaGreatDoor
set_option linter.unusedVariables false
set_option linter.unusedSimpArgs false
namespace Go.Proofs.YtmkbjcoagfnegaaGreatDoor
open Go.RowKit Go.Shelf

set_option maxRecDepth 100000 in
theorem run_tail (W : World) (b o n c : Nat) (p : Nat) (hp : p ≤ n) (h1 : c ≠ p) (h0 : p ≠ 0) : (Instr.slice 82 (.slice (some ⟨b, o, none⟩) n c) (some (.int .i64 (p : Int))) none none).run Tryz.prog W = .ok (.slice (some ⟨b, o + p, none⟩) (n - p) (c - p)) W := by
  rw [run_slice_l (P := Tryz.prog) (w := W) (t := 82) (a := some ⟨b, o, none⟩) (len := n) (cap := c) (ht := by simp [go_sem]) .i64 (p : Int) (by omega) (by omega)]
  simp [go_sem, h1, h0, Addr.add]
set_option maxRecDepth 100000 in
theorem run_tail_end (W : World) (b o n c : Nat) (p : Nat) (hp : p ≤ n) (h1 : c = p) (h0 : p ≠ 0) : (Instr.slice 82 (.slice (some ⟨b, o, none⟩) n c) (some (.int .i64 (p : Int))) none none).run Tryz.prog W = .ok (.slice (some ⟨b, o, none⟩) (n - p) (c - p)) W := by
  rw [run_slice_l (P := Tryz.prog) (w := W) (t := 82) (a := some ⟨b, o, none⟩) (len := n) (cap := c) (ht := by simp [go_sem]) .i64 (p : Int) (by omega) (by omega)]
  simp [go_sem, h1, h0, Addr.add]
theorem Nums.part4 {k : IntKind} {w : World} {b o n c : Nat} {bs : List Int} (h : Nums k w (.slice (some ⟨b, o, none⟩) n c) bs) (p q : Nat) (h1 : p ≤ q) (h2 : q ≤ n) (hc : p < c) :
    Nums k w (.slice (some ⟨b, o + p, none⟩) (q - p) (c - p)) ((bs.drop p).take (q - p)) := by
  rcases h with ⟨a, c', e, rfl⟩ | ⟨b', o', n', c', e, hn, h0, hbw, hl, hn9, hc9, hcc⟩
  · simp at e; obtain ⟨_, rfl, _⟩ := e
    exact .inl ⟨_, _, by rw [show q - p = 0 by omega], by simp⟩
  · simp at e
    obtain ⟨⟨rfl, rfl⟩, rfl, rfl⟩ := e
    by_cases h : q - p = 0
    · exact .inl ⟨_, _, by rw [h], by rw [h]; rfl⟩
    · refine .inr ⟨b, o + p, q - p, c - p, rfl, by rw [List.length_take, List.length_drop]; omega, by omega, hbw, by omega, by omega, by omega, fun i hi => ?_⟩
      rw [Nat.add_assoc, hcc (p + i) (by omega)]
      congr 2
      unfold gt
      simp [List.getD_eq_getElem?_getD, List.getElem?_take, hi]
theorem raw_isC4 (n : Nat) : ∀ bs : List Int, bs.length ≤ n → By bs → whole bs = true → ∀ x ∈ raw bs, isC x = true := by
  induction n with
  | zero => intro bs h _ _ x hx; obtain rfl : bs = [] := List.eq_nil_of_length_eq_zero (by omega); rw [raw_nil] at hx; simp at hx
  | succ n ih =>
    intro bs h hb hw x hx
    by_cases hne : bs = []
    · subst hne; rw [raw_nil] at hx; simp at hx
    · have hs := stp_len bs hne
      rw [whole_cut hne, Bool.and_eq_true] at hw
      rw [raw_cut hne] at hx
      rcases List.mem_cons.1 hx with rfl | hx
      · exact (stp_back bs hb hne hw.1).1
      · exact ih _ (by rw [List.length_drop]; omega) (hb.drop _) hw.2 x hx
theorem nx_gt4 {a : List Int} {i : Nat} (h : i < a.length) : nx a i = gt a i := by simp [gt, nx, List.getD_eq_getElem?_getD, h]
theorem gt_cons {l : List Int} (h : 0 < l.length) : l = gt l 0 :: l.drop 1 := by
  cases l with
  | nil => simp at h
  | cons a r => rfl
theorem gt_cons2 {l : List Int} (h : 1 < l.length) : l = gt l 0 :: gt l 1 :: l.drop 2 := by
  cases l with
  | nil => simp at h
  | cons a r =>
    cases r with
    | nil => simp at h
    | cons b q => rfl
/-- What is left of a slice. -/
theorem Nums.tail4 {k : IntKind} {w : World} {b o n c : Nat} {bs : List Int} (h : Nums k w (.slice (some ⟨b, o, none⟩) n c) bs) (p : Nat) (hp : p ≤ n) (hn : n = bs.length) (hc : n ≤ c) (hp0 : p ≠ 0) :
    Nums k w (.slice (some (if c = p then ⟨b, o, none⟩ else (⟨b, o + p, none⟩ : Addr))) (n - p) (c - p)) (bs.drop p) := by
  by_cases h1 : c = p
  · rw [if_pos h1]
    exact .inl ⟨_, _, by rw [show n - p = 0 by omega], List.drop_of_length_le (by omega)⟩
  · rw [if_neg h1]
    have := h.part4 p n hp (Nat.le_refl _) (by omega)
    rw [List.take_of_length_le (by rw [List.length_drop]; omega)] at this
    exact this
theorem wNm_len (l : List Int) : (wNm l).length ≤ 6 * l.length := by
  induction l with
  | nil => exact Nat.le_refl _
  | cons a r ih =>
    rw [wNm_cons, List.length_append]
    have := wLt_len a
    simp; omega
theorem wId_digit {bs : List Int} {c : Int} {r : List Int} (h : bs ≠ [45]) (hr : raw bs = c :: r) (hd : isDig c = true) : wId bs = esc c ++ wNm r := by
  unfold wId
  rw [if_neg h, hr]
  show hdT c ++ _ = _
  have : c ≠ 45 := by rintro rfl; exact absurd hd (by decide)
  rw [if_neg this]
  unfold hdT; rw [if_pos hd]
theorem wId_minus {bs : List Int} {c : Int} {r : List Int} (h : bs ≠ [45]) (hr : raw bs = 45 :: c :: r) (hd : isDig c = true) : wId bs = 45 :: (esc c ++ wNm r) := by
  unfold wId
  rw [if_neg h, hr]
  show hdT 45 ++ _ = _
  rw [if_pos rfl]
  show hdT 45 ++ (hdT c ++ _) = _
  have e : hdT 45 = [45] := by decide
  rw [e]
  unfold hdT; rw [if_pos hd]; rfl
theorem wId_plain {bs : List Int} (h : bs ≠ [45]) (h0 : isDig (nx (raw bs) 0) = false) (h1 : nx (raw bs) 0 = 45 → isDig (nx (raw bs) 1) = false) : wId bs = wNm (raw bs) := by
  unfold wId
  rw [if_neg h]
  cases hr : raw bs with
  | nil => rfl
  | cons c r =>
    rw [hr] at h0 h1
    have e0 : nx (c :: r) 0 = c := rfl
    rw [e0] at h0 h1
    have e1 : hdT c = wLt c := by unfold hdT; rw [h0]; rfl
    show hdT c ++ _ = _
    rw [wNm_cons, e1]
    congr 1
    split
    · rename_i h45
      have h2 := h1 h45
      cases r with
      | nil => rfl
      | cons d q =>
        have e2 : nx (c :: d :: q) 1 = d := rfl
        rw [e2] at h2
        show hdT d ++ _ = _
        rw [wNm_cons]
        unfold hdT; rw [h2]; rfl
    · rfl
set_option maxRecDepth 100000 in
set_option maxHeartbeats 2000000 in
theorem ident4_any (s : ByteArray) (w : World) (hs : s.size ≤ 1099511627776) (hch : chB (bl s) = true) (hT : Tabs w) :
    Calls Tryz.prog 122 #[.string s] w fun e w' => ∃ u, e = .returned (.string u) ∧ bl u = wId (bl s) ∧ Below w.heap.size w w' := by
  have C := hide (charsR_any s w hs)
  have HT := hide hT
  have HCH := hide hch
  have hw : whole (bl s) = true := by unfold chB at hch; rw [Bool.and_eq_true] at hch; exact hch.1
  have IC := hide (raw_isC4 _ (bl s) (Nat.le_refl _) (bl_by s) hw)
  have LN := hide (show (raw (bl s)).length ≤ 1099511627776 by have := raw_le (bl s); rw [bl_len] at this; omega)
  clear hT hch hw
  by_cases hd : bl s = [45]
  · have E := hide (show wId (bl s) = [92, 45] by unfold wId; rw [if_pos hd])
    have hne2 : (s.toList == [45]) = true := by
      obtain rfl : s = ⟨#[45]⟩ := bl_inj hd
      rw [Lib.toList_data]
      rfl
    go_enter Tryz.func122, Tryz.ntmps122
    go_wp2_with (go_at_call 114; refine C.out.mono ?_; rintro e w1 ⟨a, n, c, rfl, hN, B1⟩; replace B1 := hide B1; clear hN)
    go_ret
    exact ⟨_, rfl, by rw [E.out]; rfl, B1.out⟩
  · have hne2 : (s.toList == [45]) = false := by
      rw [beq_eq_false_iff_ne]
      intro h
      rw [Lib.toList_data] at h
      exact hd (by unfold bl; rw [h]; rfl)
    have WD := hide (fun c r hr hg => wId_digit (c := c) (r := r) hd hr hg)
    have WM := hide (fun c r hr hg => wId_minus (c := c) (r := r) hd hr hg)
    have WP := hide (fun h0 h1 => wId_plain hd h0 h1)
    clear hd
    go_enter Tryz.func122, Tryz.ntmps122
    go_wp2_with fail
    go_at_call 114
    refine C.out.mono ?_
    rintro e w1 ⟨a, n, c, rfl, hN, B1⟩
    replace hN := hN HCH.out
    replace B1 := hide B1
    have NN := hide hN
    have T1 := hide (HT.out.below B1.out)
    obtain ⟨ls, hls⟩ : ∃ ls, raw (bl s) = ls := ⟨_, rfl⟩
    rw [hls] at hN NN IC LN WD WM WP
    clear hls
    rcases hN with ⟨a', c', e', rfl⟩ | ⟨b, o, n', c', e', hn, h0, hbw, hl, hn9, hc9, hcell⟩
    · simp at e'
      obtain ⟨rfl, rfl, rfl⟩ := e'
      have CL := hide (letters4_any [] _ w1 NN.out IC.out LN.out T1.out)
      go_wp2_with (go_at_call 123; refine CL.out.mono ?_; rintro e w2 ⟨u, rfl, hu, B2⟩; replace hu := hide hu; replace B2 := hide B2)
      go_ret
      exact ⟨u, rfl, by rw [hu.out, WP.out (by rfl) (fun h => by rfl)], bto B1.out B2.out⟩
    · simp at e'
      obtain ⟨rfl, rfl, rfl⟩ := e'
      have k0 : w1.cell? ⟨b, o, none⟩ = some (.int .i32 (gt ls 0)) := hcell 0 h0
      have HN := hide hn
      have g0 : (0 : Int) < n := by omega
      have hnb : n ≤ 1099511627776 := by have := LN.out; omega
      have X0 := hide (show nx ls 0 = gt ls 0 from nx_gt4 (by omega))
      cases D0 : isDig (gt ls 0) with
      | true =>
        have CE := hide (esc4_any (gt ls 0) w1 (dig_bd D0).1 (dig_bd D0).2 T1.out)
        have E := hide (WD.out (gt ls 0) (ls.drop 1) (gt_cons (by omega)) D0)
        replace D0 := hide D0
        clear WD WM WP hcell hn
        obtain ⟨x, hx⟩ : ∃ x, gt ls 0 = x := ⟨_, rfl⟩
        rw [hx] at k0 CE E D0
        clear hx X0
        have CES := hide (fun (W : World) (hb : Below w1.heap.size w1 W) => esc4_any x W (dig_bd D0.out).1 (dig_bd D0.out).2 (T1.out.below hb))
        have CLS := hide (fun (W : World) (v : Value) (hb : Below w1.heap.size w1 W) (hv : Nums .i32 w1 v (ls.drop 1)) => letters4_any (ls.drop 1) v W (hv.below hb) (fun y hy => IC.out y (List.mem_of_mem_drop hy)) (by have := LN.out; rw [List.length_drop]; omega) (T1.out.below hb))
        have KP := hide (fun (W : World) (hb : Below w1.heap.size w1 W) => (hb.cell (p := ⟨b, o, none⟩) hbw).trans k0)
        have NP := NN.out.tail4 1 (by omega) HN.out hl (by omega)
        have LE := hide (show ∀ u : ByteArray, bl u = esc x → u.size ≤ 6 from fun u hu => by rw [← bl_len, hu]; exact esc_len (dig_bd D0.out).1 (dig_bd D0.out).2)
        have LW := hide (show ∀ u : ByteArray, bl u = wNm (ls.drop 1) → u.size ≤ 6 * 1099511627776 from fun u hu => by rw [← bl_len, hu]; have := wNm_len (ls.drop 1); have := LN.out; rw [List.length_drop] at *; omega)
        clear CE NN
        go_wp2_with (go_at_call 149; refine (digitR_any x _).mono ?_; rintro e w2 ⟨rfl, rfl⟩; rw [D0.out])
        by_cases hc1 : c = 1
        · have hn1 : n = 1 := by omega
          replace NP := hide (show Nums .i32 w2 (.slice (some ⟨b, o, none⟩) 0 0) (ls.drop 1) from .inl ⟨_, _, rfl, List.drop_of_length_le (by rw [← HN.out, hn1]; exact Nat.le_refl _)⟩)
          have hsl : ∀ W : World, (Instr.slice 82 (.slice (some ⟨b, o, none⟩) n c) (some (.int .i64 1)) none none).run Tryz.prog W = .ok (.slice (some ⟨b, o, none⟩) 0 0) W := fun W => by
            have := run_tail_end W b o n c 1 (by omega) hc1 (by omega)
            rw [hc1, hn1] at *
            exact this
          clear hc1 hn1
          go_region_held3 (fun w' => w'.cell? ⟨b, o, none⟩ = some (.int .i32 x))
            (exact KP.out _ (by repeat (first | exact Below.refl _ _ | (with_reducible refine Below.drew ?_) | (with_reducible refine below_drewN ?_ _) | (refine bto ?_ (by assumption)))))
            (first
              | (go_at_call 154; refine (CES.out _ (by repeat (first | exact Below.refl _ _ | (with_reducible refine Below.drew ?_) | (with_reducible refine below_drewN ?_ _) | (refine bto ?_ (by assumption))))).mono ?_; rintro _ we ⟨u, rfl, hu, he⟩; have hz := LE.out u hu; replace hu := hide hu; (try (have hq : ¬ (9223372036854775807 < u.size + v.size) := (by omega))))
              | (go_at_call 123; refine (CLS.out _ _ (by repeat (first | exact Below.refl _ _ | (with_reducible refine Below.drew ?_) | (with_reducible refine below_drewN ?_ _) | (refine bto ?_ (by assumption)))) NP.out).mono ?_; rintro _ wl ⟨v, rfl, hv, hvl⟩; have hy := LW.out v hv; replace hv := hide hv; (try (have hq : ¬ (9223372036854775807 < u.size + v.size) := (by omega)))))
          all_goals
            go_wp2
            go_ret
            refine ⟨_, rfl, by rw [bl_app, hu.out, hv.out, E.out], bto B1.out ?_⟩
            repeat (first | exact Below.refl _ _ | (with_reducible refine Below.drew ?_) | (with_reducible refine below_drewN ?_ _) | (refine bto ?_ (by assumption)))
        · rw [if_neg hc1] at NP
          replace NP := hide NP
          have hsl : ∀ W : World, (Instr.slice 82 (.slice (some ⟨b, o, none⟩) n c) (some (.int .i64 1)) none none).run Tryz.prog W = .ok (.slice (some ⟨b, o + 1, none⟩) (n - 1) (c - 1)) W := fun W => run_tail W b o n c 1 (by omega) hc1 (by omega)
          go_region_held3 (fun w' => w'.cell? ⟨b, o, none⟩ = some (.int .i32 x))
            (exact KP.out _ (by repeat (first | exact Below.refl _ _ | (with_reducible refine Below.drew ?_) | (with_reducible refine below_drewN ?_ _) | (refine bto ?_ (by assumption)))))
            (first
              | (go_at_call 154; refine (CES.out _ (by repeat (first | exact Below.refl _ _ | (with_reducible refine Below.drew ?_) | (with_reducible refine below_drewN ?_ _) | (refine bto ?_ (by assumption))))).mono ?_; rintro _ we ⟨u, rfl, hu, he⟩; have hz := LE.out u hu; replace hu := hide hu; (try (have hq : ¬ (9223372036854775807 < u.size + v.size) := (by omega))))
              | (go_at_call 123; refine (CLS.out _ _ (by repeat (first | exact Below.refl _ _ | (with_reducible refine Below.drew ?_) | (with_reducible refine below_drewN ?_ _) | (refine bto ?_ (by assumption)))) NP.out).mono ?_; rintro _ wl ⟨v, rfl, hv, hvl⟩; have hy := LW.out v hv; replace hv := hide hv; (try (have hq : ¬ (9223372036854775807 < u.size + v.size) := (by omega)))))
          all_goals
            go_wp2
            go_ret
            refine ⟨_, rfl, by rw [bl_app, hu.out, hv.out, E.out], bto B1.out ?_⟩
            repeat (first | exact Below.refl _ _ | (with_reducible refine Below.drew ?_) | (with_reducible refine below_drewN ?_ _) | (refine bto ?_ (by assumption)))
      | false =>
        have CL := hide (letters4_any ls _ w1 NN.out IC.out LN.out T1.out)
        replace D0 := hide D0
        by_cases h1 : n = 1
        · have E := hide (WP.out (by rw [X0.out]; exact D0.out) (fun h => by rw [show nx ls 1 = -1 by unfold nx; rw [List.getD_eq_getElem?_getD, List.getElem?_eq_none (by omega)]; rfl]; rfl))
          have D1 := D0
          have hn1 : ¬ (1 : Int) < n := by omega
          clear WD WM WP hcell hn h1 X0
          go_wp2_with (first
            | (go_at_call_of 149 (Value.int IntKind.i32 (gt ls 0)); refine (digitR_any _ _).mono ?_; rintro e w2 ⟨rfl, rfl⟩; rw [D0.out])
            | (go_at_call 149; refine (digitR_any _ _).mono ?_; rintro e w2 ⟨rfl, rfl⟩; rw [D1.out])
            | (go_at_call 123; refine CL.out.mono ?_; rintro e w2 ⟨u, rfl, hu, B2⟩; replace hu := hide hu; replace B2 := hide B2))
          go_ret
          exact ⟨u, rfl, by rw [hu.out, E.out], bto B1.out B2.out⟩
        · have k1 : w1.cell? ⟨b, o + 1, none⟩ = some (.int .i32 (gt ls 1)) := hcell 1 (by omega)
          have X1 := hide (show nx ls 1 = gt ls 1 from nx_gt4 (by omega))
          have hn1 : (1 : Int) < n := by omega
          have hn2 : 1 < n := by omega
          by_cases h45 : gt ls 0 = 45
          · cases D1 : isDig (gt ls 1) with
            | true =>
              have E := hide (WM.out (gt ls 1) (ls.drop 2) (by rw [← h45]; exact gt_cons2 (by omega)) D1)
              replace D1 := hide D1
              rw [h45] at k0 D0
              clear WD WM WP hcell hn X0 X1 CL h45
              obtain ⟨x, hx⟩ : ∃ x, gt ls 1 = x := ⟨_, rfl⟩
              rw [hx] at k1 E D1
              clear hx
              have CES := hide (fun (W : World) (hb : Below w1.heap.size w1 W) => esc4_any x W (dig_bd D1.out).1 (dig_bd D1.out).2 (T1.out.below hb))
              have CLS := hide (fun (W : World) (v : Value) (hb : Below w1.heap.size w1 W) (hv : Nums .i32 w1 v (ls.drop 2)) => letters4_any (ls.drop 2) v W (hv.below hb) (fun y hy => IC.out y (List.mem_of_mem_drop hy)) (by have := LN.out; rw [List.length_drop]; omega) (T1.out.below hb))
              have KP := hide (fun (W : World) (hb : Below w1.heap.size w1 W) => (hb.cell (p := ⟨b, o + 1, none⟩) hbw).trans k1)
              have NP := NN.out.tail4 2 (by omega) HN.out hl (by omega)
              have LE := hide (show ∀ u : ByteArray, bl u = esc x → u.size ≤ 6 from fun u hu => by rw [← bl_len, hu]; exact esc_len (dig_bd D1.out).1 (dig_bd D1.out).2)
              have LW := hide (show ∀ u : ByteArray, bl u = wNm (ls.drop 2) → u.size ≤ 6 * 1099511627776 from fun u hu => by rw [← bl_len, hu]; have := wNm_len (ls.drop 2); have := LN.out; rw [List.length_drop] at *; omega)
              clear NN
              go_wp2_with (first
                | (go_at_call_of 149 (Value.int IntKind.i32 45); refine (digitR_any _ _).mono ?_; rintro e w2 ⟨rfl, rfl⟩; rw [D0.out])
                | (go_at_call 149; refine (digitR_any _ _).mono ?_; rintro e w2 ⟨rfl, rfl⟩; rw [D1.out]))
              by_cases hc1 : c = 2
              · have hq1 : n = 2 := by omega
                replace NP := hide (show Nums .i32 w2 (.slice (some ⟨b, o, none⟩) 0 0) (ls.drop 2) from .inl ⟨_, _, rfl, List.drop_of_length_le (by rw [← HN.out, hq1]; exact Nat.le_refl _)⟩)
                have hsl : ∀ W : World, (Instr.slice 82 (.slice (some ⟨b, o, none⟩) n c) (some (.int .i64 2)) none none).run Tryz.prog W = .ok (.slice (some ⟨b, o, none⟩) 0 0) W := fun W => by
                  have := run_tail_end W b o n c 2 (by omega) hc1 (by omega)
                  rw [hc1, hq1] at *
                  exact this
                clear hc1 hq1
                go_region_held3 (fun w' => w'.cell? ⟨b, o + 1, none⟩ = some (.int .i32 x))
                  (exact KP.out _ (by repeat (first | exact Below.refl _ _ | (with_reducible refine Below.drew ?_) | (with_reducible refine below_drewN ?_ _) | (refine bto ?_ (by assumption)))))
                  (first
                    | (go_at_call 154; refine (CES.out _ (by repeat (first | exact Below.refl _ _ | (with_reducible refine Below.drew ?_) | (with_reducible refine below_drewN ?_ _) | (refine bto ?_ (by assumption))))).mono ?_; rintro _ we ⟨u, rfl, hu, he⟩; have hz := LE.out u hu; replace hu := hide hu; (try (have hq : ¬ (9223372036854775807 < 1 + u.size) := (by omega))))
                    | (go_at_call 123; refine (CLS.out _ _ (by repeat (first | exact Below.refl _ _ | (with_reducible refine Below.drew ?_) | (with_reducible refine below_drewN ?_ _) | (refine bto ?_ (by assumption)))) NP.out).mono ?_; rintro _ wl ⟨v, rfl, hv, hvl⟩; have hy := LW.out v hv; replace hv := hide hv; (try (have hq3 : ¬ (9223372036854775807 < 1 + u.size + v.size) := (by omega)))))
                all_goals
                  go_wp2
                  go_ret
                  refine ⟨_, rfl, by rw [bl_app, bl_app, hu.out, hv.out, E.out]; rfl, bto B1.out ?_⟩
                  repeat (first | exact Below.refl _ _ | (with_reducible refine Below.drew ?_) | (with_reducible refine below_drewN ?_ _) | (refine bto ?_ (by assumption)))
              · rw [if_neg hc1] at NP
                replace NP := hide NP
                have hsl : ∀ W : World, (Instr.slice 82 (.slice (some ⟨b, o, none⟩) n c) (some (.int .i64 2)) none none).run Tryz.prog W = .ok (.slice (some ⟨b, o + 2, none⟩) (n - 2) (c - 2)) W := fun W => run_tail W b o n c 2 (by omega) hc1 (by omega)
                go_region_held3 (fun w' => w'.cell? ⟨b, o + 1, none⟩ = some (.int .i32 x))
                  (exact KP.out _ (by repeat (first | exact Below.refl _ _ | (with_reducible refine Below.drew ?_) | (with_reducible refine below_drewN ?_ _) | (refine bto ?_ (by assumption)))))
                  (first
                    | (go_at_call 154; refine (CES.out _ (by repeat (first | exact Below.refl _ _ | (with_reducible refine Below.drew ?_) | (with_reducible refine below_drewN ?_ _) | (refine bto ?_ (by assumption))))).mono ?_; rintro _ we ⟨u, rfl, hu, he⟩; have hz := LE.out u hu; replace hu := hide hu; (try (have hq : ¬ (9223372036854775807 < 1 + u.size) := (by omega))))
                    | (go_at_call 123; refine (CLS.out _ _ (by repeat (first | exact Below.refl _ _ | (with_reducible refine Below.drew ?_) | (with_reducible refine below_drewN ?_ _) | (refine bto ?_ (by assumption)))) NP.out).mono ?_; rintro _ wl ⟨v, rfl, hv, hvl⟩; have hy := LW.out v hv; replace hv := hide hv; (try (have hq3 : ¬ (9223372036854775807 < 1 + u.size + v.size) := (by omega)))))
                all_goals
                  go_wp2
                  go_ret
                  refine ⟨_, rfl, by rw [bl_app, bl_app, hu.out, hv.out, E.out]; rfl, bto B1.out ?_⟩
                  repeat (first | exact Below.refl _ _ | (with_reducible refine Below.drew ?_) | (with_reducible refine below_drewN ?_ _) | (refine bto ?_ (by assumption)))
            | false =>
              have E := hide (WP.out (by rw [X0.out]; exact D0.out) (fun h => by rw [X1.out]; exact D1))
              rw [h45] at k0 D0
              replace D1 := hide D1
              clear WD WM WP hcell hn h1 X0 X1 h45
              go_wp2_with (first
                | (go_at_call_of 149 (Value.int IntKind.i32 45); refine (digitR_any _ _).mono ?_; rintro e w2 ⟨rfl, rfl⟩; rw [D0.out])
                | (go_at_call 149; refine (digitR_any _ _).mono ?_; rintro e w2 ⟨rfl, rfl⟩; rw [D1.out])
                | (go_at_call 123; refine CL.out.mono ?_; rintro e w2 ⟨u, rfl, hu, B2⟩; replace hu := hide hu; replace B2 := hide B2))
              go_ret
              exact ⟨u, rfl, by rw [hu.out, E.out], bto B1.out B2.out⟩
          · have E := hide (WP.out (by rw [X0.out]; exact D0.out) (fun h => absurd (by rw [← X0.out]; exact h) h45))
            have z : (gt ls 0 == 45) = false := by simpa using h45
            have D1 := D0
            clear WD WM WP hcell hn h1 X0 X1 h45
            go_wp2_with (first
              | (go_at_call_of 149 (Value.int IntKind.i32 (gt ls 0)); refine (digitR_any _ _).mono ?_; rintro e w2 ⟨rfl, rfl⟩; rw [D0.out])
              | (go_at_call 149; refine (digitR_any _ _).mono ?_; rintro e w2 ⟨rfl, rfl⟩; rw [D1.out])
              | (go_at_call 123; refine CL.out.mono ?_; rintro e w2 ⟨u, rfl, hu, B2⟩; replace hu := hide hu; replace B2 := hide B2))
            go_ret
            exact ⟨u, rfl, by rw [hu.out, E.out], bto B1.out B2.out⟩
end Go.Proofs.YtmkbjcoagfnegaaGreatDoor
set_option linter.unusedVariables false
set_option linter.unusedSimpArgs false
namespace Go.Proofs.YtmkbjcoagfnegaaGreatDoor
open Go.RowKit

theorem z_ways (n d : Int) (i h : Bool) : ((n == 0) = false ∧ zB n d i = false) ∨ ((n == 0) = true ∧ (d == 0) = false ∧ zB n d i = false) ∨ ((n == 0) = true ∧ (d == 0) = true ∧ i = true ∧ zB n d i = false) ∨ ((n == 0) = true ∧ (d == 0) = true ∧ i = false ∧ zB n d i = true) := by
  unfold zB
  cases (n == 0) <;> cases (d == 0) <;> cases i <;> simp
/-- Where the reference's May stands behind its characters. -/
structure MR (w w1 : World) (k : Int) (s : ByteArray) (n d : Int) (i h : Bool) : Prop where
  bel : Below w.heap.size w w1
  t0 : Tok6 w1 w.heap.size k s n d i h
  t1 : Tok6 w1 (w.heap.size + 1) k ⟨#[]⟩ 0 0 false false
  fr : ∀ j, w1.frozen? ⟨w.heap.size + 1, j, none⟩ = false
  ap : ∀ j x, w1.cell? ⟨w.heap.size + 1, j, none⟩ ≠ some (.int .i32 x)
theorem MR.mk' {w w1 : World} {k : Int} {s : ByteArray} {n d : Int} {i h : Bool} (hb : Below ((w.alloc (.cells #[.int .i64 k, .string s, .int .i64 n, .int .i64 d, .bool i, .bool h] 73)).alloc (.cells #[.int .i64 k, .string ⟨#[]⟩, .int .i64 0, .int .i64 0, .bool false, .bool false] 73)).heap.size ((w.alloc (.cells #[.int .i64 k, .string s, .int .i64 n, .int .i64 d, .bool i, .bool h] 73)).alloc (.cells #[.int .i64 k, .string ⟨#[]⟩, .int .i64 0, .int .i64 0, .bool false, .bool false] 73)) w1) : MR w w1 k s n d i h := by
  have e1 : (w.alloc (.cells #[.int .i64 k, .string s, .int .i64 n, .int .i64 d, .bool i, .bool h] 73)).heap.size = w.heap.size + 1 := by simp
  have T0 := ((Tok6.box w k s n d i h 73).below (bplus (Below.refl _ _) (.cells #[.int .i64 k, .string ⟨#[]⟩, .int .i64 0, .int .i64 0, .bool false, .bool false] 73))).below hb
  have T1 := (Tok6.box (w.alloc (.cells #[.int .i64 k, .string s, .int .i64 n, .int .i64 d, .bool i, .bool h] 73)) k ⟨#[]⟩ 0 0 false false 73).below hb
  rw [e1] at T1
  refine ⟨bto (bplus (bplus (Below.refl _ _) _) _) hb, T0, T1, fun j => ?_, fun j x hx => ?_⟩
  rotate_left
  · rw [hb.cell (p := ⟨w.heap.size + 1, j, none⟩) (by simp)] at hx
    have hblk := heap_alloc_new (w.alloc (.cells #[.int .i64 k, .string s, .int .i64 n, .int .i64 d, .bool i, .bool h] 73)) (.cells #[.int .i64 k, .string ⟨#[]⟩, .int .i64 0, .int .i64 0, .bool false, .bool false] 73)
    rw [e1] at hblk
    rw [row_blk hblk] at hx
    match j with
    | 0 => simp at hx
    | 1 => simp at hx
    | 2 => simp at hx
    | 3 => simp at hx
    | 4 => simp at hx
    | 5 => simp at hx
    | j + 6 => simp at hx
  rw [hb.frozen (p := ⟨w.heap.size + 1, j, none⟩) (by simp)]
  have := World.frozen?_alloc_new (w.alloc (.cells #[.int .i64 k, .string s, .int .i64 n, .int .i64 d, .bool i, .bool h] 73)) #[.int .i64 k, .string ⟨#[]⟩, .int .i64 0, .int .i64 0, .bool false, .bool false] 73 j
  rw [e1] at this
  exact this
theorem nums_len {k : IntKind} {w : World} {a : Option Addr} {n c : Nat} {l : List Int} (h : Nums k w (.slice a n c) l) : n = l.length := by
  rcases h with ⟨a', c', h1, h2⟩ | ⟨b, o, m, c', h1, h2, _⟩
  · simp at h1; rw [h2, h1.2.1]; rfl
  · simp at h1; omega
set_option maxRecDepth 100000 in
set_option maxHeartbeats 4000000 in
theorem mayR_name (k : Int) (s : ByteArray) (n d : Int) (i h : Bool) (w : World) (hk : k = 1 ∨ k = 2 ∨ k = 3) (hs : s.size ≤ 1099511627776) :
    Calls Tryz.prog 120 #[tokV k s n d i h] w fun e w' => e = .returned (.bool (mayT k (bl s) n d i h)) ∧ Below w.heap.size w w' := by
  have M := hide (may_name hk (bl s) n d i h)
  unfold tokV
  have CH := hide (fun W => charsR_any s W hs)
  have RE := hide (raw_empty (bl s))
  have EM := hide (emp_iff s)
  go_enter Tryz.func120, Tryz.ntmps120
  go_wp2_with fail
  go_at_call 114
  refine (CH.out _).mono ?_
  rintro e w1 ⟨a, nn, c, rfl, hN, hb⟩
  have R := MR.mk' hb
  clear hb
  have BB := hide R.bel
  obtain ⟨z0, p0, p1, p2, p3, p4, p5⟩ := R.t0
  obtain ⟨z1, q0, q1, q2, q3, q4, q5⟩ := R.t1
  have fr1 := R.fr 1
  clear R
  have NL := hide (fun hc => nums_len (hN hc))
  clear hN
  rcases z_ways n d i h with ⟨x1, x2⟩ | ⟨x1, x3, x2⟩ | ⟨x1, x3, rfl, x2⟩ | ⟨x1, x3, rfl, x2⟩
  case inr.inr.inr =>
    cases h with
    | true =>
      have F := hide (show mayT k (bl s) n d false true = false by rw [M.out]; simp)
      rcases hk with rfl | rfl | rfl
      all_goals
        go_wp2
        go_ret
        refine ⟨ret_bool F.out.symm, ?_⟩
        repeat (first | (with_reducible exact BB.out) | (with_reducible refine Below.setCell ?_ (by simp) _) | (with_reducible refine bplus ?_ _))
    | false =>
      have M2 := hide (show mayT k (bl s) n d false false = (chB (bl s) && !(bl s).isEmpty) by rw [M.out, x2]; rfl)
      cases hc : chB (bl s) with
      | false =>
        have F := hide (show mayT k (bl s) n d false false = false by rw [M2.out, hc]; rfl)
        clear hc
        rcases hk with rfl | rfl | rfl
        all_goals
          go_wp2
          go_ret
          refine ⟨ret_bool F.out.symm, ?_⟩
          repeat (first | (with_reducible exact BB.out) | (with_reducible refine Below.setCell ?_ (by simp) _) | (with_reducible refine bplus ?_ _))
      | true =>
        have hl := NL.out hc
        by_cases he : bl s = []
        · have F := hide (show mayT k (bl s) n d false false = false by rw [M2.out, he]; simp)
          have hnn : ¬ (0 : Int) < nn := by have := RE.out.2 he; omega
          clear hc hl he
          rcases hk with rfl | rfl | rfl
          all_goals
            go_wp2
            go_ret
            refine ⟨ret_bool (by rw [F.out]; simp; omega), ?_⟩
            repeat (first | (with_reducible exact BB.out) | (with_reducible refine Below.setCell ?_ (by simp) _) | (with_reducible refine bplus ?_ _))
        · have F := hide (show mayT k (bl s) n d false false = true by rw [M2.out, hc]; cases hb : bl s; exact absurd hb he; rfl)
          have hnn : (0 : Int) < nn := by
            have : ¬ (raw (bl s)).length = 0 := fun h0 => he (RE.out.1 h0)
            omega
          clear hc hl he
          rcases hk with rfl | rfl | rfl
          all_goals
            go_wp2
            go_ret
            refine ⟨ret_bool (by rw [F.out]; simp; omega), ?_⟩
            repeat (first | (with_reducible exact BB.out) | (with_reducible refine Below.setCell ?_ (by simp) _) | (with_reducible refine bplus ?_ _))
  all_goals
    have F := hide (M.out.trans (by rw [x2, Bool.false_and, Bool.false_and]))
    rcases hk with rfl | rfl | rfl
    all_goals
      go_wp2
      go_ret
      refine ⟨ret_bool F.out.symm, ?_⟩
      repeat (first | (with_reducible exact BB.out) | (with_reducible refine Below.setCell ?_ (by simp) _) | (with_reducible refine bplus ?_ _))
set_option maxRecDepth 100000 in
set_option maxHeartbeats 4000000 in
theorem mayR_text (k : Int) (s : ByteArray) (n d : Int) (i h : Bool) (w : World) (hk : k = 5 ∨ k = 7) (hs : s.size ≤ 1099511627776) :
    Calls Tryz.prog 120 #[tokV k s n d i h] w fun e w' => e = .returned (.bool (mayT k (bl s) n d i h)) ∧ Below w.heap.size w w' := by
  have M := hide (may_text hk (bl s) n d i h)
  unfold tokV
  have CH := hide (fun W => charsR_any s W hs)
  have RE := hide (raw_empty (bl s))
  have EM := hide (emp_iff s)
  go_enter Tryz.func120, Tryz.ntmps120
  go_wp2_with fail
  go_at_call 114
  refine (CH.out _).mono ?_
  rintro e w1 ⟨a, nn, c, rfl, hN, hb⟩
  have R := MR.mk' hb
  clear hb
  have BB := hide R.bel
  obtain ⟨z0, p0, p1, p2, p3, p4, p5⟩ := R.t0
  obtain ⟨z1, q0, q1, q2, q3, q4, q5⟩ := R.t1
  have fr1 := R.fr 1
  clear R
  have NL := hide (fun hc => nums_len (hN hc))
  clear hN
  rcases z_ways n d i h with ⟨x1, x2⟩ | ⟨x1, x3, x2⟩ | ⟨x1, x3, rfl, x2⟩ | ⟨x1, x3, rfl, x2⟩
  case inr.inr.inr =>
    cases h with
    | true =>
      have F := hide (show mayT k (bl s) n d false true = false by rw [M.out]; simp)
      rcases hk with rfl | rfl
      all_goals
        go_wp2
        go_ret
        refine ⟨ret_bool F.out.symm, ?_⟩
        repeat (first | (with_reducible exact BB.out) | (with_reducible refine Below.setCell ?_ (by simp) _) | (with_reducible refine bplus ?_ _))
    | false =>
      have F := hide (show mayT k (bl s) n d false false = chB (bl s) by rw [M.out, x2]; rfl)
      rcases hk with rfl | rfl
      all_goals
        go_wp2
        go_ret
        refine ⟨ret_bool F.out.symm, ?_⟩
        repeat (first | (with_reducible exact BB.out) | (with_reducible refine Below.setCell ?_ (by simp) _) | (with_reducible refine bplus ?_ _))
  all_goals
    have F := hide (M.out.trans (by rw [x2, Bool.false_and, Bool.false_and]))
    rcases hk with rfl | rfl
    all_goals
      go_wp2
      go_ret
      refine ⟨ret_bool F.out.symm, ?_⟩
      repeat (first | (with_reducible exact BB.out) | (with_reducible refine Below.setCell ?_ (by simp) _) | (with_reducible refine bplus ?_ _))
set_option maxRecDepth 100000 in
set_option maxHeartbeats 4000000 in
theorem mayR_rest (k : Int) (s : ByteArray) (n d : Int) (i h : Bool) (w : World) (hk : ¬ (k = 1 ∨ k = 2 ∨ k = 3 ∨ k = 4 ∨ k = 5 ∨ k = 7 ∨ k = 9 ∨ k = 10 ∨ k = 11 ∨ k = 12)) (hs : s.size ≤ 1099511627776) :
    Calls Tryz.prog 120 #[tokV k s n d i h] w fun e w' => e = .returned (.bool (mayT k (bl s) n d i h)) ∧ Below w.heap.size w w' := by
  have M := hide (may_rest hk (bl s) n d i h)
  have g1 : (k == 1) = false := by simp; omega
  have g2 : (k == 2) = false := by simp; omega
  have g3 : (k == 3) = false := by simp; omega
  have g4 : (k == 4) = false := by simp; omega
  have g5 : (k == 5) = false := by simp; omega
  have g7 : (k == 7) = false := by simp; omega
  have g9 : (k == 9) = false := by simp; omega
  have g10 : (k == 10) = false := by simp; omega
  have g11 : (k == 11) = false := by simp; omega
  have g12 : (k == 12) = false := by simp; omega
  clear hk
  unfold tokV
  have CH := hide (fun W => charsR_any s W hs)
  have RE := hide (raw_empty (bl s))
  have EM := hide (emp_iff s)
  go_enter Tryz.func120, Tryz.ntmps120
  go_wp2_with fail
  go_at_call 114
  refine (CH.out _).mono ?_
  rintro e w1 ⟨a, nn, c, rfl, hN, hb⟩
  have R := MR.mk' hb
  clear hb
  have BB := hide R.bel
  obtain ⟨z0, p0, p1, p2, p3, p4, p5⟩ := R.t0
  obtain ⟨z1, q0, q1, q2, q3, q4, q5⟩ := R.t1
  clear R
  have NL := hide (fun hc => nums_len (hN hc))
  clear hN
  by_cases k1 : 1 ≤ k
  · by_cases k2 : k ≤ 24
    · have M2 := hide (show mayT k (bl s) n d i h = (s.toList.isEmpty && (zB n d i && !h)) by rw [M.out, ← EM.out]; simp [k1, k2])
      cases he : s.toList.isEmpty with
      | false =>
        have F := hide (show mayT k (bl s) n d i h = false by rw [M2.out, he]; rfl)
        have hse : (s.toList == []) = false := by
          cases hq : s.toList with
          | nil => rw [hq] at he; cases he
          | cons c r => rfl
        go_wp2
        go_ret
        refine ⟨ret_bool F.out.symm, ?_⟩
        repeat (first | (with_reducible exact BB.out) | (with_reducible refine Below.setCell ?_ (by simp) _) | (with_reducible refine bplus ?_ _))
      | true =>
        rcases z_ways n d i h with ⟨x1, x2⟩ | ⟨x1, x3, x2⟩ | ⟨x1, x3, rfl, x2⟩ | ⟨x1, x3, rfl, x2⟩
        case inr.inr.inr =>
          cases h
          all_goals
            have F := hide (M2.out.trans (by rw [he, x2]))
            go_wp2
            go_ret
            refine ⟨ret_bool F.out.symm, ?_⟩
            repeat (first | (with_reducible exact BB.out) | (with_reducible refine Below.setCell ?_ (by simp) _) | (with_reducible refine bplus ?_ _))
        all_goals
          have F := hide (M2.out.trans (by rw [he, x2, Bool.false_and, Bool.and_false]))
          go_wp2
          go_ret
          refine ⟨ret_bool F.out.symm, ?_⟩
          repeat (first | (with_reducible exact BB.out) | (with_reducible refine Below.setCell ?_ (by simp) _) | (with_reducible refine bplus ?_ _))
    · have F := hide (show mayT k (bl s) n d i h = false by rw [M.out]; simp [k2])
      have k2' : 24 < k := by omega
      go_wp2
      go_ret
      refine ⟨ret_bool F.out.symm, ?_⟩
      repeat (first | (with_reducible exact BB.out) | (with_reducible refine Below.setCell ?_ (by simp) _) | (with_reducible refine bplus ?_ _))
  · have F := hide (show mayT k (bl s) n d i h = false by rw [M.out]; simp [k1])
    have k1' : k < 1 := by omega
    go_wp2
    go_ret
    refine ⟨ret_bool F.out.symm, ?_⟩
    repeat (first | (with_reducible exact BB.out) | (with_reducible refine Below.setCell ?_ (by simp) _) | (with_reducible refine bplus ?_ _))
end Go.Proofs.YtmkbjcoagfnegaaGreatDoor
set_option linter.unusedVariables false
set_option linter.unusedSimpArgs false
namespace Go.Proofs.YtmkbjcoagfnegaaGreatDoor
open Go.RowKit

set_option maxRecDepth 100000 in
set_option maxHeartbeats 4000000 in
theorem mayR_hash (s : ByteArray) (n d : Int) (i h : Bool) (w : World)  (hs : s.size ≤ 1099511627776) :
    Calls Tryz.prog 120 #[tokV 4 s n d i h] w fun e w' => e = .returned (.bool (mayT 4 (bl s) n d i h)) ∧ Below w.heap.size w w' := by
  have M := hide (may_hash (bl s) n d i h)
  have HR := hide (fun hb hn hw => hash_raw (bl s) hb hn hw)
  unfold tokV
  have CH := hide (fun W => charsR_any s W hs)
  have RE := hide (raw_empty (bl s))
  have EM := hide (emp_iff s)
  go_enter Tryz.func120, Tryz.ntmps120
  go_wp2_with fail
  go_at_call 114
  refine (CH.out _).mono ?_
  rintro e w1 ⟨a, nn, c, rfl, hN, hb⟩
  have R := MR.mk' hb
  clear hb
  have BB := hide R.bel
  have AP := hide R.ap
  obtain ⟨z0, p0, p1, p2, p3, p4, p5⟩ := R.t0
  obtain ⟨z1, q0, q1, q2, q3, q4, q5⟩ := R.t1
  have fr1 := R.fr 1
  have fr5 := R.fr 5
  clear R
  have NL := hide (fun hc => nums_len (hN hc))
  have NN := hide hN
  clear hN
  rcases z_ways n d i h with ⟨x1, x2⟩ | ⟨x1, x3, x2⟩ | ⟨x1, x3, rfl, x2⟩ | ⟨x1, x3, rfl, x2⟩
  case inr.inr.inr =>
    have M2 := hide (show mayT 4 (bl s) n d false h = ((chB (bl s) && !(bl s).isEmpty) && (h || fB (bl s))) by rw [M.out, x2]; rfl)
    cases hc : chB (bl s) with
    | false =>
      have F := hide (show mayT 4 (bl s) n d false h = false by rw [M2.out, hc]; rfl)
      clear hc
      go_wp2
      go_region
      all_goals go_wp2
      all_goals go_ret
      all_goals refine ⟨ret_bool F.out.symm, ?_⟩
      all_goals
        repeat (first | (with_reducible exact BB.out) | (with_reducible refine Below.setCell ?_ (by simp) _) | (with_reducible refine bplus ?_ _) | (with_reducible refine Below.drew ?_) | (with_reducible refine below_drewN ?_ _))
    | true =>
      have hl := NL.out hc
      by_cases he : bl s = []
      · have F := hide (show mayT 4 (bl s) n d false h = false by rw [M2.out, he]; simp)
        have hnn : nn = 0 := by have := RE.out.2 he; omega
        subst hnn
        clear hc hl he
        go_wp2
        go_region
        all_goals go_wp2
        all_goals go_ret
        all_goals refine ⟨ret_bool F.out.symm, ?_⟩
        all_goals
          repeat (first | (with_reducible exact BB.out) | (with_reducible refine Below.setCell ?_ (by simp) _) | (with_reducible refine bplus ?_ _) | (with_reducible refine Below.drew ?_) | (with_reducible refine below_drewN ?_ _))
      · have F0 := hide (show mayT 4 (bl s) n d false h = (h || fB (bl s)) by rw [M2.out, hc]; cases hb : bl s; exact absurd hb he; rfl)
        have hnn : 0 < nn := by
          have : ¬ (raw (bl s)).length = 0 := fun h0 => he (RE.out.1 h0)
          omega
        have hnn' : ((nn : Int) == 0) = false := by simp; omega
        cases h with
        | true =>
          have F := hide (show mayT 4 (bl s) n d false true = true by rw [F0.out]; rfl)
          clear hc hl he
          go_wp2
          go_region
          all_goals go_wp2
          all_goals go_ret
          all_goals refine ⟨ret_bool F.out.symm, ?_⟩
          all_goals
            repeat (first | (with_reducible exact BB.out) | (with_reducible refine Below.setCell ?_ (by simp) _) | (with_reducible refine bplus ?_ _) | (with_reducible refine Below.drew ?_) | (with_reducible refine below_drewN ?_ _))
        | false =>
          have hwh : whole (bl s) = true := by unfold chB at hc; simp at hc; exact hc.1
          have G := hide (show mayT 4 (bl s) n d false false = gB (raw (bl s)) by rw [F0.out, HR.out (bl_by s) he hwh]; rfl)
          rcases NN.out hc with ⟨a', c', hv, hr⟩ | ⟨b, o, m, c', hv, hm, hm0, hbw, hmc, hm9, hc9, hcell⟩
          · simp at hv; omega
          · simp only [Value.slice.injEq] at hv
            obtain ⟨rfl, rfl, rfl⟩ := hv
            have hbn : b ≠ w.heap.size + 1 := fun hb => by
              have := hcell 0 hm0
              rw [hb] at this
              exact AP.out _ _ this
            have l0 := hcell 0 hm0
            rw [Nat.add_zero] at l0
            have e0 : gt (raw (bl s)) 0 = nx (raw (bl s)) 0 := by rw [gt_eq (by omega)]; simp [nx, List.getD_eq_getElem?_getD, List.getElem?_eq_getElem (show 0 < (raw (bl s)).length by omega)]
            rw [e0] at l0
            have GB := hide (show gB (raw (bl s)) = (isDig (nx (raw (bl s)) 0) || ((nx (raw (bl s)) 0 == 45) && (((raw (bl s)).length == 1) || isDig (nx (raw (bl s)) 1)))) from rfl)
            have HM := hide hm
            have l1 : 1 < nn → w1.cell? ⟨b, o + 1, none⟩ = some (.int .i32 (nx (raw (bl s)) 1)) := fun h1 => by
              rw [hcell 1 h1, gt_eq (by omega)]; simp [nx, List.getD_eq_getElem?_getD, List.getElem?_eq_getElem (show 1 < (raw (bl s)).length by omega)]
            have L1 := hide l1
            clear hcell e0 hc hl he hwh hm l1
            generalize nx (raw (bl s)) 0 = u0 at *
            generalize nx (raw (bl s)) 1 = u1 at *
            cases hd0 : isDig u0 with
            | true =>
              have F := hide (show mayT 4 (bl s) n d false false = true by rw [G.out, GB.out, hd0]; rfl)
              have D0 := hide hd0
              clear hd0
              go_wp2
              go_region
              all_goals go_wp2_with (go_at_call 149; refine (digitR_any _ _).mono ?_; rintro e2 w2 ⟨rfl, rfl⟩; rw [D0.out])
              all_goals go_ret
              all_goals refine ⟨ret_bool F.out.symm, ?_⟩
              all_goals
                repeat (first | (with_reducible exact BB.out) | (with_reducible refine Below.setCell ?_ (by simp) _) | (with_reducible refine bplus ?_ _) | (with_reducible refine Below.drew ?_) | (with_reducible refine below_drewN ?_ _))
            | false =>
              have D0 := hide hd0
              by_cases h45 : u0 = 45
              · have h45' : (u0 == 45) = true := by simpa using h45
                by_cases hn1 : nn = 1
                · subst hn1
                  have F := hide (show mayT 4 (bl s) n d false false = true by rw [G.out, GB.out, hd0, h45', ← HM.out]; rfl)
                  clear hd0 h45
                  go_wp2
                  go_region
                  all_goals go_wp2_with (go_at_call 149; refine (digitR_any _ _).mono ?_; rintro e2 w2 ⟨rfl, rfl⟩; rw [D0.out])
                  all_goals go_ret
                  all_goals refine ⟨ret_bool F.out.symm, ?_⟩
                  all_goals
                    repeat (first | (with_reducible exact BB.out) | (with_reducible refine Below.setCell ?_ (by simp) _) | (with_reducible refine bplus ?_ _) | (with_reducible refine Below.drew ?_) | (with_reducible refine below_drewN ?_ _))
                · have F := hide (show mayT 4 (bl s) n d false false = isDig u1 by
                    have : ((raw (bl s)).length == 1) = false := by rw [← HM.out]; simpa using hn1
                    rw [G.out, GB.out, hd0, h45', this]; rfl)
                  have l1 := L1.out (by omega)
                  have hn1' : ((nn : Int) == 1) = false := by simp; omega
                  have hi1 : (1 : Int) < nn := by omega
                  by_cases hu : u1 = u0
                  · have F2 := hide (show mayT 4 (bl s) n d false false = false by rw [F.out, hu, hd0])
                    subst hu
                    clear hd0 h45 F
                    go_wp2
                    go_region
                    all_goals go_wp2_with (go_at_call 149; refine (digitR_any _ _).mono ?_; rintro e2 w2 ⟨rfl, rfl⟩; rw [D0.out])
                    all_goals go_ret
                    all_goals refine ⟨ret_bool F2.out.symm, ?_⟩
                    all_goals
                      repeat (first | (with_reducible exact BB.out) | (with_reducible refine Below.setCell ?_ (by simp) _) | (with_reducible refine bplus ?_ _) | (with_reducible refine Below.drew ?_) | (with_reducible refine below_drewN ?_ _))
                  · clear hd0 h45
                    go_wp2
                    go_region
                    all_goals go_wp2_with (first | (go_at_call_of 149 (Value.int IntKind.i32 u0); refine (digitR_any _ _).mono ?_; rintro e2 w2 ⟨rfl, rfl⟩; rw [D0.out]) | (go_at_call 149; refine (digitR_any u1 _).mono ?_; rintro e2 w2 ⟨rfl, rfl⟩))
                    all_goals go_ret
                    all_goals refine ⟨ret_bool F.out.symm, ?_⟩
                    all_goals
                      repeat (first | (with_reducible exact BB.out) | (with_reducible refine Below.setCell ?_ (by simp) _) | (with_reducible refine bplus ?_ _) | (with_reducible refine Below.drew ?_) | (with_reducible refine below_drewN ?_ _))
              · have h45' : (u0 == 45) = false := by simpa using h45
                have F := hide (show mayT 4 (bl s) n d false false = false by rw [G.out, GB.out, hd0, h45']; rfl)
                clear hd0 h45
                go_wp2
                go_region
                all_goals go_wp2_with (go_at_call 149; refine (digitR_any _ _).mono ?_; rintro e2 w2 ⟨rfl, rfl⟩; rw [D0.out])
                all_goals go_ret
                all_goals refine ⟨ret_bool F.out.symm, ?_⟩
                all_goals
                  repeat (first | (with_reducible exact BB.out) | (with_reducible refine Below.setCell ?_ (by simp) _) | (with_reducible refine bplus ?_ _) | (with_reducible refine Below.drew ?_) | (with_reducible refine below_drewN ?_ _))
  all_goals
    have F := hide (M.out.trans (by rw [x2, Bool.false_and]))
    go_wp2
    go_region
    all_goals go_wp2
    all_goals go_ret
    all_goals refine ⟨ret_bool F.out.symm, ?_⟩
    all_goals
      repeat (first | (with_reducible exact BB.out) | (with_reducible refine Below.setCell ?_ (by simp) _) | (with_reducible refine bplus ?_ _) | (with_reducible refine Below.drew ?_) | (with_reducible refine below_drewN ?_ _))
end Go.Proofs.YtmkbjcoagfnegaaGreatDoor

