/-
  Addresses, written: by the program.
  Units, written: by the program.
  Any token, written: by the program.
-/
import Derived.Test.YtbdacepomdlcbaaGreatDoorJv
set_option linter.unusedVariables false
set_option linter.unusedSimpArgs false
namespace Go.Proofs.YtbdacepomdlcbaaGreatDoor
open Go.RowKit Go.Shelf

def urR (bs : List Int) (p : Nat) : List Int := urL (raw (bs.drop p))
theorem urR_step {bs : List Int} {p k : Nat} {c : Int} (h : raw (bs.drop p) = c :: raw (bs.drop (p + k))) : urR bs p = urT c ++ urR bs (p + k) := by
  unfold urR urL; rw [h, List.flatMap_cons]
theorem urR_end {bs : List Int} {p : Nat} (h : bs.length ≤ p) : urR bs p = [] := by
  unfold urR urL; rw [List.drop_of_length_le h, raw_nil]; rfl
theorem urR_0 (bs : List Int) : urR bs 0 = urL (raw bs) := by unfold urR; rw [List.drop_zero]
set_option maxRecDepth 100000 in
set_option maxHeartbeats 4000000 in
theorem wUrl_any (B b : Nat) (xs : List Int) (s : ByteArray) (w : World) (hw : whole (bl s) = true) (h : Bd B b xs w) (hl : xs.length + 6 * s.size + 5 ≤ 70368744177664) (hB : B ≤ w.heap.size) (hT : TB B w) :
    Calls Tryz.prog 71 #[.pointer (some ⟨b, 0, none⟩), .string s] w fun e w' => e = .returned (.tuple #[]) ∧ PB B b (xs ++ (117 :: 114 :: 108 :: 40 :: (urL (raw (bl s)) ++ [41]))) w w' := by
  have C1 := hide (wstr_any B b xs ⟨#[117, 114, 108, 40]⟩ w h (by show _ + 4 ≤ _; omega) hB)
  have SE := hide (show bl ⟨#[117, 114, 108, 40]⟩ = [117, 114, 108, 40] from rfl)
  have HT := hide hT
  have HW := hide hw
  clear h hT hw
  go_enter Tryz.func71, Tryz.ntmps71
  go_wp2_with (go_at_call 39; refine C1.out.mono ?_; rintro e w0 ⟨rfl, P0⟩; rw [SE.out] at P0; replace P0 := hide P0; clear C1)
  have hB0 : B ≤ w0.heap.size := P0.out.size hB
  have ST := hide (PB.range P0.out.bd hB0 s)
  have HBK := hide (Nat.ne_of_lt P0.out.bd.lt : b ≠ w0.heap.size)
  go_wp2
  go_loopw [] (fun wr => RelW B b (xs ++ [117, 114, 108, 40]) s w0 (urR (bl s)) wr) (fun wr => s.size - wr.iterPos w0.heap.size)
  case atStart =>
    exact RelW.mk 0 [] (Nat.zero_le _) ⟨by rw [List.append_nil]; exact ST.out.1, ST.out.2, rfl, HW.out, Nat.zero_le _⟩
  case round =>
    clear ST
    obtain ⟨p, done, hp, H⟩ := id hrel
    clear hrel
    by_cases hlt : p < s.size
    · obtain ⟨wi, c, k, r⟩ := rnd_of H.out.1 hB0 H.out.2.1 H.out.2.2.2.1 hlt
      have hnx := r.nx
      have IP := hide (show wr.iterPos w0.heap.size = p by simp only [World.iterPos, H.out.2.1])
      have LN := hide (show (xs ++ [117, 114, 108, 40] ++ done).length ≤ 70368744177664 by have := H.out.2.2.2.2; simp; omega)
      have SZ := r.pb.size hB0
      have TT := hide (HT.out.on (P0.out.bel.trans r.pb.bel))
      have STP := hide (urR_step r.rw)
      have K1 := r.k1
      have KS := r.ks
      replace r := hide r
      have PW := hide (fun (W1 : World) (hb1 : Below wi.heap.size wi W1) => (PB.start r.out.pb.bd).grow SZ hb1)
      have ON := hide (fun w1 (P : PB B b ((xs ++ [117, 114, 108, 40] ++ done) ++ urT c) wi w1) => r.out.on (R := urR (bl s)) HBK.out P H.out.2.2.1 STP.out H.out.2.2.2.2 (urT_len c))
      have CC := hide (contains_any c wi r.out.isc)
      clear STP H
      by_cases h1 : isHid c = true ∨ c = 32
      · have hn : ¬ urS c := by
          rintro hu
          rcases h1 with h | rfl
          · rcases hu with rfl | rfl | rfl | rfl | rfl <;> exact absurd h (by decide)
          · rcases hu with h | h | h | h | h <;> omega
        have E := hide (show urT c = esc c by unfold urT; rw [if_neg hn, if_pos h1])
        have bd : 0 ≤ c ∧ c < 65536 := by
          rcases h1 with h | rfl
          · exact hid_bd h
          · omega
        have CL := hide (wEsc_any B b (xs ++ [117, 114, 108, 40] ++ done) c wi bd.1 bd.2 r.out.pb.bd (by have := LN.out; omega) SZ TT.out)
        rw [E.out] at ON
        clear LN TT r hn CC bd PW
        cases hh : isHid c with
        | true =>
          replace hh := hide hh
          clear h1
          go_wp2_with (first
            | (go_at_call 101; refine (isHidden_any c _).mono ?_; rintro e w1 ⟨rfl, rfl⟩; rw [hh.out])
            | (go_at_call 97; refine CL.out.mono ?_; rintro e w1 ⟨rfl, P1⟩; replace P1 := hide P1))
          go_roundw
          case rel => exact (ON.out _ P1.out).1
          case measure => rw [(ON.out _ P1.out).2, IP.out]; omega
        | false =>
          obtain rfl : c = 32 := by
            rcases h1 with h | h
            · rw [h] at hh; cases hh
            · exact h
          replace hh := hide hh
          clear h1
          go_wp2_with (first
            | (go_at_call 101; refine (isHidden_any _ _).mono ?_; rintro e w1 ⟨rfl, rfl⟩; rw [hh.out])
            | (go_at_call 97; refine CL.out.mono ?_; rintro e w1 ⟨rfl, P1⟩; replace P1 := hide P1))
          go_roundw
          case rel => exact (ON.out _ P1.out).1
          case measure => rw [(ON.out _ P1.out).2, IP.out]; omega
      · have hh : isHid c = false := by simpa using fun h => h1 (.inl h)
        have e0 : (c == 32) = false := by simp; exact fun h => h1 (.inr h)
        replace hh := hide hh
        by_cases hu : urS c
        · have E := hide (show urT c = 92 :: enc1 c by unfold urT; rw [if_pos hu])
          have U := hide (show decide (urS c) = true from decide_eq_true hu)
          have CL := hide (fun (W1 : World) (hb1 : Below wi.heap.size wi W1) => wSl_any B b (xs ++ [117, 114, 108, 40] ++ done) c W1 r.out.isc (PW.out W1 hb1).bd (by have := LN.out; omega) ((PW.out W1 hb1).size SZ))
          rw [E.out] at ON
          clear LN TT r hu h1
          go_wp2_with (first
            | (go_at_call 101; refine (isHidden_any c _).mono ?_; rintro e w1 ⟨rfl, rfl⟩; rw [hh.out])
            | (go_at_call 103; refine CC.out.mono ?_; rintro e w1 ⟨rfl, B1⟩; rw [U.out]; replace B1 := hide B1)
            | (go_at_call 100; refine (CL.out _ B1.out).mono ?_; rintro e w2 ⟨rfl, P1⟩; replace P1 := hide ((PW.out _ B1.out).trans P1)))
          go_roundw
          case rel => exact (ON.out _ P1.out).1
          case measure => rw [(ON.out _ P1.out).2, IP.out]; omega
        · have E := hide (show urT c = enc1 c by unfold urT; rw [if_neg hu, if_neg h1])
          have U := hide (show decide (urS c) = false from decide_eq_false hu)
          have CL := hide (fun (W1 : World) (hb1 : Below wi.heap.size wi W1) => wrune_any B b (xs ++ [117, 114, 108, 40] ++ done) c W1 r.out.isc (PW.out W1 hb1).bd (by have := LN.out; omega) ((PW.out W1 hb1).size SZ))
          rw [E.out] at ON
          clear LN TT r hu h1
          go_wp2_with (first
            | (go_at_call 101; refine (isHidden_any c _).mono ?_; rintro e w1 ⟨rfl, rfl⟩; rw [hh.out])
            | (go_at_call 103; refine CC.out.mono ?_; rintro e w1 ⟨rfl, B1⟩; rw [U.out]; replace B1 := hide B1)
            | (go_at_call 102; refine (CL.out _ B1.out).mono ?_; rintro e w2 ⟨rfl, P1⟩; replace P1 := hide ((PW.out _ B1.out).trans P1)))
          go_roundw
          case rel => exact (ON.out _ P1.out).1
          case measure => rw [(ON.out _ P1.out).2, IP.out]; omega
    · have hnx : ∀ ty, (Instr.next (.pointer (some ⟨w0.heap.size, 0, none⟩)) true ty).run Tryz.prog wr = _ := fun ty => Lib.run_next_end_at wr w0.heap.size s p ty H.out.2.1 hlt
      have e : urL (raw (bl s)) = done := by rw [← urR_0, H.out.2.2.1, urR_end (by rw [bl_len]; omega), List.append_nil]
      have CL := hide (wbyte_any B b (xs ++ [117, 114, 108, 40] ++ done) 41 wr H.out.1.bd (by have := H.out.2.2.2.2; simp; omega) (H.out.1.size hB0))
      have PF := hide (fun w1 (P : PB B b (xs ++ [117, 114, 108, 40] ++ done ++ [41]) wr w1) => show PB B b (xs ++ (117 :: 114 :: 108 :: 40 :: (urL (raw (bl s)) ++ [41]))) w w1 by
        have := (P0.out.trans H.out.1).trans P
        rw [e]
        simpa using this)
      clear e
      go_wp2_with (go_at_call 47; refine CL.out.mono ?_; rintro e w1 ⟨rfl, P1⟩; replace P1 := hide P1)
      go_end0
      exact ⟨rfl, PF.out _ P1.out⟩
set_option maxRecDepth 100000 in
set_option maxHeartbeats 2000000 in
theorem writes_url (s : ByteArray) (hs : s.size ≤ 1099511627776) (hw : whole (bl s) = true) : Writes (fun t => 117 :: 114 :: 108 :: 40 :: (urL (raw (bl t.s)) ++ [41])) (knT 7 s) := by
  intro B b xs W hb hl hB hT hK
  have PW := hide (fun (W1 : World) (hb1 : Below W.heap.size W W1) => (PB.start hb).grow hB hb1)
  have C := hide (fun (W1 : World) (hb1 : Below W.heap.size W W1) => wUrl_any B b xs s W1 hw (PW.out W1 hb1).bd (by omega) ((PW.out W1 hb1).size hB) (hT.on (PW.out W1 hb1).bel))
  clear hb hT hK hw
  unfold TS.v knT tokV
  go_enter Tryz.func40, Tryz.ntmps40
  go_wp2_with (go_at_call 71; refine (C.out _ (by first | exact Below.refl _ _ | exact bplus (Below.refl _ _) _)).mono ?_; rintro e w1 ⟨rfl, P1⟩; replace P1 := hide ((PW.out _ (by first | exact Below.refl _ _ | exact bplus (Below.refl _ _) _)).trans P1))
  go_end0
  exact ⟨rfl, P1.out⟩
end Go.Proofs.YtbdacepomdlcbaaGreatDoor
set_option linter.unusedVariables false
set_option linter.unusedSimpArgs false
namespace Go.Proofs.YtbdacepomdlcbaaGreatDoor
open Go.RowKit Go.Shelf

/-- It would go on with a number ahead of it. -/
def exL (l : List Int) : Bool := ((nx l 0 == 101) || (nx l 0 == 69)) && (isDig (nx l 1) || ((nx l 1 == 45) && isDig (nx l 2)))
def unT (bs : List Int) : List Int := if exL bs = true then esc (nx bs 0) ++ wNm (raw (bs.drop 1)) else wId bs
theorem bl_cut1 (s : ByteArray) : bl (s.extract 1 s.size) = (bl s).drop 1 := by
  unfold bl
  rw [ByteArray.data_extract, Array.toList_extract, List.extract_eq_take_drop, ← List.map_drop]
  congr 1
  rw [List.take_of_length_le]
  rw [List.length_drop, Array.length_toList]
  show s.size - 1 ≤ s.size - 1
  exact Nat.le_refl _
theorem ex_trm {s : ByteArray} (h : nx (bl s) 0 = 101 ∨ nx (bl s) 0 = 69) : exL (bl s) = isDig (nx (bl (trm (s.extract 1 s.size))) 0) := by
  rw [trm_bl, bl_cut1]
  unfold exL
  have e1 : ((nx (bl s) 0 == 101) || (nx (bl s) 0 == 69)) = true := by rcases h with h | h <;> rw [h] <;> rfl
  rw [e1, Bool.true_and, nx_drop]
  by_cases h1 : nx (bl s) (1 + 0) = 45
  · rw [if_pos h1, nx_drop, nx_drop]
    have h1' : nx (bl s) 1 = 45 := h1
    rw [h1']
    show (isDig 45 || _) = _
    rw [show isDig 45 = false from by decide]
    simp
  · rw [if_neg h1, nx_drop]
    have : (nx (bl s) 1 == 45) = false := by simpa using h1
    rw [this]; simp
set_option maxHeartbeats 1000000 in
theorem isExp_any (s : ByteArray) (w : World) (h1 : 0 < s.size) (hs : s.size ≤ 1099511627776) : Calls Tryz.prog 104 #[.string s] w fun e w' => e = .returned (.bool (exL (bl s))) ∧ w' = w := by
  have cx := bl_nx s 0 h1
  have h1' : 1 ≤ s.size := h1
  have g1 : (1 : Int) ≤ s.size := by omega
  have b8 : (s[0].toNat : Int) ≤ 255 := by have := s[0].toNat_lt; omega
  have b0 : (0 : Int) ≤ (s[0].toNat : Int) := by omega
  by_cases h : nx (bl s) 0 = 101 ∨ nx (bl s) 0 = 69
  · have E := hide (ex_trm h)
    have C := hide (sh_strings_TrimPrefix (s.extract 1 s.size) ⟨#[45]⟩ w)
    have C' : Hid (Calls Tryz.prog 114 #[.string (s.extract 1 s.size), .string ⟨#[45]⟩] w fun e w' => e = .returned (.string (trm (s.extract 1 s.size))) ∧ w' = w) := C
    rw [cx] at h
    have n2 : (s[0].toNat : Int) = 101 ∨ (¬ (s[0].toNat : Int) = 101 ∧ (s[0].toNat : Int) = 69) := by omega
    generalize trm (s.extract 1 s.size) = r at *
    clear C cx h
    by_cases h0 : r.size = 0
    · have n1 := emp_t h0
      have F := hide (show exL (bl s) = false by rw [E.out]; exact nx_neg _ (bl_nil h0))
      clear E
      rcases n2 with e1 | ⟨e1, e2⟩
      all_goals
        go_enter Tryz.func104, Tryz.ntmps104
        go_wp2_with (go_at_call 114; refine C'.out.mono ?_; rintro e w1 ⟨rfl, rfl⟩)
        go_ret
        exact ⟨ret_bool F.out.symm, rfl⟩
    · have h3 : 0 < r.size := by omega
      have n1 := emp_f h3
      have cx := bl_nx r 0 h3
      have c8 : (r[0].toNat : Int) ≤ 255 := by have := r[0].toNat_lt; omega
      have c0 : (0 : Int) ≤ (r[0].toNat : Int) := by omega
      have F := hide (show exL (bl s) = isDig (r[0].toNat : Int) by rw [E.out, cx])
      clear E cx
      rcases n2 with e1 | ⟨e1, e2⟩
      all_goals
        go_enter Tryz.func104, Tryz.ntmps104
        go_wp2_with (first
          | (go_at_call 114; refine C'.out.mono ?_; rintro e w1 ⟨rfl, rfl⟩)
          | (go_at_call 96; refine (isDigitS_any _ _).mono ?_; rintro e w1 ⟨rfl, rfl⟩))
        go_ret
        exact ⟨ret_bool F.out.symm, rfl⟩
  · have F := hide (show exL (bl s) = false by
      unfold exL
      have e1 : (nx (bl s) 0 == 101) = false := by simp; exact fun g => h (.inl g)
      have e2 : (nx (bl s) 0 == 69) = false := by simp; exact fun g => h (.inr g)
      rw [e1, e2]; rfl)
    rw [cx] at h
    have e1 : ((s[0].toNat : Int) != 101) = true := by rw [bne_iff_ne]; exact fun g => h (.inl g)
    have e2 : ((s[0].toNat : Int) != 69) = true := by rw [bne_iff_ne]; exact fun g => h (.inr g)
    clear h cx
    go_enter Tryz.func104, Tryz.ntmps104
    go_wp2
    go_ret
    exact ⟨ret_bool F.out.symm, rfl⟩
theorem ex_low {bs : List Int} (h : exL bs = true) : nx bs 0 = 101 ∨ nx bs 0 = 69 := by
  unfold exL at h
  rw [Bool.and_eq_true] at h
  simpa using h.1
theorem ex_tail {bs : List Int} (h : exL bs = true) (hb : By bs) (hn : bs ≠ []) (hw : whole bs = true) : raw bs = nx bs 0 :: raw (bs.drop 1) ∧ whole (bs.drop 1) = true := by
  have := ex_low h
  rcases raw_head bs hb hn hw with ⟨h1, h2, _⟩ | ⟨h1, _⟩
  · exact ⟨h1, h2⟩
  · omega
set_option maxRecDepth 100000 in
set_option maxHeartbeats 2000000 in
theorem wUnit_any (B b : Nat) (xs : List Int) (s : ByteArray) (w : World) (h1 : 0 < s.size) (hs : s.size ≤ 1099511627776) (hw : whole (bl s) = true) (h : Bd B b xs w) (hl : xs.length + 6 * s.size + 6 ≤ 70368744177664) (hB : B ≤ w.heap.size) (hT : TB B w) :
    Calls Tryz.prog 74 #[.pointer (some ⟨b, 0, none⟩), .string s] w fun e w' => e = .returned (.tuple #[]) ∧ PB B b (xs ++ unT (bl s)) w w' := by
  have CX := hide (isExp_any s w h1 hs)
  cases hx : exL (bl s) with
  | false =>
    have E := hide (show unT (bl s) = wId (bl s) by unfold unT; rw [hx]; rfl)
    have C1 := hide (wId_any B b xs s w hw h (by omega) hB hT)
    replace hx := hide hx
    clear h hT hw
    go_enter Tryz.func74, Tryz.ntmps74
    go_wp2_with (first
      | (go_at_call 104; refine CX.out.mono ?_; rintro e w1 ⟨rfl, rfl⟩; rw [hx.out])
      | (go_at_call 68; refine C1.out.mono ?_; rintro e w1 ⟨rfl, P1⟩; replace P1 := hide P1))
    exact bodyPost_ret (v := .tuple #[]) (by simp [results, Tryz.results74, go_sem]) rfl ⟨rfl, by rw [E.out]; exact P1.out⟩
  | true =>
    have E := hide (show unT (bl s) = esc (nx (bl s) 0) ++ wNm (raw ((bl s).drop 1)) by unfold unT; rw [if_pos hx])
    have cx := bl_nx s 0 h1
    have lo := ex_low hx
    have hne : bl s ≠ [] := fun g => by have := bl_len s; rw [g] at this; simp at this; omega
    have tl := (ex_tail hx (bl_by s) hne hw).2
    rw [← bl_cut1] at tl E
    rw [cx] at lo E
    have b8 : (s[0].toNat : Int) ≤ 255 := by have := s[0].toNat_lt; omega
    have b0 : (0 : Int) ≤ (s[0].toNat : Int) := by omega
    have g1 : (1 : Int) ≤ s.size := by omega
    have hz : (s.extract 1 s.size).size ≤ s.size := by simp
    have C1 := hide (wEsc_any B b xs (s[0].toNat : Int) w b0 (by omega) h (by omega) hB hT)
    have LE := hide (esc_len (c := (s[0].toNat : Int)) b0 (by omega))
    have HT := hide hT
    have TL := hide tl
    replace hx := hide hx
    clear h hT hw cx lo tl hne
    go_enter Tryz.func74, Tryz.ntmps74
    go_wp2_with (first
      | (go_at_call 104; refine CX.out.mono ?_; rintro e w1 ⟨rfl, rfl⟩; rw [hx.out])
      | (go_at_call 97; refine C1.out.mono ?_; rintro e w1 ⟨rfl, P1⟩; replace P1 := hide P1)
      | (go_at_call 99; refine (wName_any B b _ (s.extract 1 s.size) _ TL.out P1.out.bd (by have := LE.out; rw [List.length_append]; omega) (P1.out.size hB) (HT.out.on P1.out.bel)).mono ?_; rintro e w2 ⟨rfl, P2⟩; replace P1 := hide (P1.out.trans P2)))
    go_end0
    refine ⟨rfl, ?_⟩
    have := P1.out
    rw [List.append_assoc] at this
    rw [E.out]
    exact this
set_option maxRecDepth 100000 in
set_option maxHeartbeats 2000000 in
theorem writes_dim (s : ByteArray) (n d : Int) (i : Bool) (tt : List Int) (h1 : 0 < s.size) (hs : s.size ≤ 1099511627776) (hw : whole (bl s) = true) (n1 : -9223372036854775808 ≤ n) (n2 : n ≤ 9223372036854775807) (d1 : -9223372036854775808 ≤ d) (d2 : d ≤ 9223372036854775807) (hp : plT n d i = some tt) : Writes (fun t => numW t ++ unT (bl t.s)) (nuT 12 s n d i) := by
  intro B b xs W hb hl hB hT hK
  have hbl := hb.lt
  have ht := plT_len n1 n2 d2 hp
  have E := hide (show numW (nuT 12 s n d i) = tt by show (plT n d i).getD [] = tt; rw [hp]; rfl)
  have PW := hide ((PB.start hb).grow hB (bplus (Below.refl W.heap.size W) (boxT (nuT 12 s n d i))))
  have C1 := hide (wNum_any 12 n d i tt B b xs s (W.alloc (boxT (nuT 12 s n d i))) n1 n2 d1 d2 hp (by omega) PW.out.bd hl (PW.out.size hB) (hT.on PW.out.bel))
  have HT := hide hT
  have HW := hide hw
  clear hb hT hK hw hp
  show Calls Tryz.prog 40 _ W fun e w' => e = .returned (.tuple #[]) ∧ PB B b (xs ++ (numW (nuT 12 s n d i) ++ unT (bl s))) W w'
  rw [E.out]
  clear E
  unfold TS.v tokV
  unfold boxT at C1
  unfold nuT at *
  go_enter Tryz.func40, Tryz.ntmps40
  go_wp2_with (first
    | (go_at_call 73; refine C1.out.mono ?_; rintro e w1 ⟨rfl, P1⟩; obtain ⟨q9, q0, q1, q2, q3, q4, q5⟩ := tok_box (box_kept (t := ⟨12, s, n, d, i, false⟩) hbl P1); replace P1 := hide (PW.out.trans P1))
    | (go_at_call 74; refine (wUnit_any B b _ s _ h1 hs HW.out P1.out.bd (by rw [List.length_append]; omega) (P1.out.size hB) (HT.out.on P1.out.bel)).mono ?_; rintro e w2 ⟨rfl, P2⟩; replace P1 := hide (P1.out.trans P2)))
  go_end0
  refine ⟨rfl, ?_⟩
  have := P1.out
  rw [List.append_assoc] at this
  exact this
end Go.Proofs.YtbdacepomdlcbaaGreatDoor
set_option linter.unusedVariables false
set_option linter.unusedSimpArgs false
namespace Go.Proofs.YtbdacepomdlcbaaGreatDoor
open Go.RowKit Go.Shelf

/-- A token's text. -/
def wtA (t : TS) : List Int :=
  if t.k = 1 then wId (bl t.s) else if t.k = 2 then wId (bl t.s) ++ [40] else if t.k = 3 then 64 :: wId (bl t.s)
  else if t.k = 4 then hshT t.h (bl t.s) else if t.k = 5 then 34 :: (qtL (raw (bl t.s)) ++ [34])
  else if t.k = 7 then 117 :: 114 :: 108 :: 40 :: (urL (raw (bl t.s)) ++ [41]) else if t.k = 9 then dlmT (bl t.s)
  else if t.k = 10 then numW t else if t.k = 11 then numW t ++ [37] else if t.k = 12 then numW t ++ unT (bl t.s) else bl (fx t.k)
theorem Writes.cong {wt wt' : TS → List Int} {t : TS} (h : Writes wt t) (e : wt t = wt' t) : Writes wt' t := by
  intro B b xs W h1 h2 h3 h4 h5
  rw [← e]
  exact h B b xs W h1 h2 h3 h4 h5
theorem zB_out {n d : Int} {i : Bool} (h : zB n d i = true) : n = 0 ∧ d = 0 ∧ i = false := by
  unfold zB at h
  simpa [and_assoc] using h
theorem bl_ne {s : ByteArray} (h : (!(bl s).isEmpty) = true) : 0 < s.size := by
  refine Nat.pos_of_ne_zero fun g => ?_
  rw [bl_nil g] at h; cases h
theorem som {n d : Int} {i : Bool} (h : (plT n d i).isSome = true) : ∃ tt, plT n d i = some tt := Option.isSome_iff_exists.1 h
theorem writes_all (t : TS) (ho : t.Ok) (hm : t.may = true) : Writes wtA t := by
  obtain ⟨k, s, n, d, i, h⟩ := t
  obtain ⟨k1, k2, hs, n1, n2, d1, d2⟩ := ho
  have hm' : mayT k (bl s) n d i h = true := hm
  simp only at k1 k2 hs n1 n2 d1 d2
  by_cases e1 : k = 1 ∨ k = 2 ∨ k = 3
  · rw [may_name e1] at hm'
    simp only [Bool.and_eq_true] at hm'
    obtain ⟨⟨hz, hh⟩, hc, hn⟩ := hm'
    obtain ⟨rfl, rfl, rfl⟩ := zB_out hz
    obtain rfl : h = false := by simpa using hh
    rcases e1 with rfl | rfl | rfl
    · exact (writes_id s hs hm).cong rfl
    · exact (writes_func s hs (ch_whole hc)).cong rfl
    · exact (writes_at s hs (ch_whole hc)).cong rfl
  by_cases e4 : k = 4
  · subst e4
    rw [may_hash] at hm'
    simp only [Bool.and_eq_true] at hm'
    obtain ⟨hz, ⟨hc, hn⟩, _⟩ := hm'
    obtain ⟨rfl, rfl, rfl⟩ := zB_out hz
    exact (writes_hash h s hs (ch_whole hc)).cong rfl
  by_cases e5 : k = 5 ∨ k = 7
  · rw [may_text e5] at hm'
    simp only [Bool.and_eq_true] at hm'
    obtain ⟨⟨hz, hh⟩, hc⟩ := hm'
    obtain ⟨rfl, rfl, rfl⟩ := zB_out hz
    obtain rfl : h = false := by simpa using hh
    rcases e5 with rfl | rfl
    · refine (writes_text s hs (ch_whole hc)).cong ?_
      show 34 :: (qtR (bl s) 0 ++ [34]) = 34 :: (qtL (raw (bl s)) ++ [34])
      unfold qtR qtL; rw [List.drop_zero]
    · exact (writes_url s hs (ch_whole hc)).cong rfl
  by_cases e9 : k = 9
  · subst e9
    rw [may_delim] at hm'
    simp only [Bool.and_eq_true] at hm'
    obtain ⟨⟨hz, hh⟩, _⟩ := hm'
    obtain ⟨rfl, rfl, rfl⟩ := zB_out hz
    obtain rfl : h = false := by simpa using hh
    exact (writes_delim s hs).cong rfl
  by_cases e10 : k = 10 ∨ k = 11
  · rw [may_num e10] at hm'
    simp only [Bool.and_eq_true] at hm'
    obtain ⟨⟨_, hh⟩, hp⟩ := hm'
    obtain rfl : h = false := by simpa using hh
    obtain ⟨tt, ht⟩ := som hp
    rcases e10 with rfl | rfl
    · exact (writes_num s n d i tt n1 n2 d1 d2 ht).cong rfl
    · exact (writes_pct s n d i tt n1 n2 d1 d2 ht).cong rfl
  by_cases e12 : k = 12
  · subst e12
    rw [may_dim] at hm'
    simp only [Bool.and_eq_true] at hm'
    obtain ⟨⟨hc, hn⟩, hh, hp⟩ := hm'
    obtain rfl : h = false := by simpa using hh
    obtain ⟨tt, ht⟩ := som hp
    exact (writes_dim s n d i tt (bl_ne hn) hs (ch_whole hc) n1 n2 d1 d2 ht).cong rfl
  · rw [may_rest (by omega)] at hm'
    simp only [Bool.and_eq_true, decide_eq_true_eq] at hm'
    obtain ⟨⟨r1, r2⟩, _, hz, hh⟩ := hm'
    obtain ⟨rfl, rfl, rfl⟩ := zB_out hz
    obtain rfl : h = false := by simpa using hh
    refine (writes_fixed k s r1 r2 (by simp [tx]; omega) (by simp [nu]; omega)).cong ?_
    show bl (fx k) = wtA ⟨k, s, 0, 0, false, false⟩
    unfold wtA
    simp only
    rw [if_neg (by omega), if_neg (by omega), if_neg (by omega), if_neg (by omega), if_neg (by omega), if_neg (by omega), if_neg (by omega), if_neg (by omega), if_neg (by omega), if_neg (by omega)]
/-! ### Bytes, and how many -/
theorem flat_by {f : Int → List Int} {l : List Int} (h : ∀ x ∈ l, By (f x)) : By (l.flatMap f) := by
  intro y hy
  obtain ⟨x, hx, hy⟩ := List.mem_flatMap.1 hy
  exact h x hx y hy
theorem flat_len {f : Int → List Int} {m : Nat} (h : ∀ x, (f x).length ≤ m) (l : List Int) : (l.flatMap f).length ≤ m * l.length := by
  induction l with
  | nil => simp
  | cons a r ih =>
    have := h a
    rw [List.flatMap_cons, List.length_append, List.length_cons, Nat.mul_add]
    omega
theorem qtT_by {c : Int} (h : isC c = true) : By (qtT c) := by
  unfold qtT
  split
  · exact by_cons (by omega) (enc1_by h)
  split
  · exact esc_by c
  · exact enc1_by h
theorem urT_by {c : Int} (h : isC c = true) : By (urT c) := by
  unfold urT
  split
  · exact by_cons (by omega) (enc1_by h)
  split
  · exact esc_by c
  · exact enc1_by h
theorem digs_by {l : List Int} (h : Digs l) : By l := fun x hx => by
  have := h x hx
  simp [isDig] at this
  omega
theorem pad_by {l : List Int} (h : By l) (p : Nat) : By (pad l p) := by
  unfold pad
  refine By.app (fun x hx => ?_) h
  rw [List.eq_of_mem_replicate hx]; omega
theorem ptd_by {l : List Int} (h : By l) (p : Nat) : By (ptd l p) := by
  have hp := pad_by h p
  unfold ptd
  refine By.app (fun x hx => hp x (List.mem_of_mem_take hx)) (by_cons (by omega) ?_)
  split
  · exact by_cons (by omega) by_nil
  · exact fun x hx => hp x (List.mem_of_mem_drop hx)
theorem plT_by {n d : Int} {i : Bool} {tt : List Int} (h : plT n d i = some tt) : By tt := by
  unfold plT at h
  split at h
  · cases h
  split at h
  · cases h
    cases i
    · intro x hx; simp [plO] at hx; omega
    · intro x hx; simp [plO] at hx; omega
  unfold plV at h
  cases hf : fin (ab n).toNat d.toNat 0 with
  | none => rw [hf] at h; cases h
  | some r =>
    obtain ⟨M, p⟩ := r
    rw [hf] at h
    simp only at h
    split at h
    · cases h
    cases h
    refine By.app ?_ ?_
    · unfold neg1; split
      · exact by_cons (by omega) by_nil
      · exact by_nil
    · split
      · exact digs_by (dgt_digs M)
      · exact ptd_by (digs_by (dgt_digs M)) p
theorem numW_by (t : TS) : By (numW t) := by
  unfold numW
  cases h : plT t.n t.d t.i with
  | none => exact by_nil
  | some tt => exact plT_by h
theorem numW_len (t : TS) (ho : t.Ok) : (numW t).length ≤ 100 := by
  unfold numW
  cases h : plT t.n t.d t.i with
  | none => simp
  | some tt => exact plT_len ho.n1 ho.n2 ho.d2 h
theorem raw_c (s : ByteArray) : ∀ x ∈ raw (bl s), isC x = true := raw_isC5 _ (bl s) (Nat.le_refl _) (bl_by s)
theorem unT_by (s : ByteArray) : By (unT (bl s)) := by
  unfold unT
  split
  · exact (esc_by _).app (wNm_by (raw_isC5 _ _ (Nat.le_refl _) ((bl_by s).drop 1)))
  · exact wId_by s
theorem wtA_by (t : TS) : By (wtA t) := by
  unfold wtA
  split
  · exact wId_by _
  split
  · exact (wId_by _).app (by_cons (by omega) by_nil)
  split
  · exact by_cons (by omega) (wId_by _)
  split
  · unfold hshT
    refine by_cons (by omega) ?_
    split
    · exact wId_by _
    · exact wNm_by (raw_c _)
  split
  · exact by_cons (by omega) ((flat_by fun x hx => qtT_by (raw_c _ x hx)).app (by_cons (by omega) by_nil))
  split
  · exact by_cons (by omega) (by_cons (by omega) (by_cons (by omega) (by_cons (by omega) ((flat_by fun x hx => urT_by (raw_c _ x hx)).app (by_cons (by omega) by_nil)))))
  split
  · unfold dlmT
    split
    · exact by_cons (by omega) (by_cons (by omega) by_nil)
    · exact bl_by _
  split
  · exact numW_by t
  split
  · exact (numW_by t).app (by_cons (by omega) by_nil)
  split
  · exact (numW_by t).app (unT_by _)
  · exact bl_by _
theorem rawb_len (s : ByteArray) : (raw (bl s)).length ≤ s.size := by have := raw_le (bl s); rw [bl_len] at this; exact this.1
theorem wtA_len (t : TS) (ho : t.Ok) : (wtA t).length ≤ 6 * t.s.size + 200 := by
  have h1 := wId_len t.s
  have h2 := numW_len t ho
  have h3 := rawb_len t.s
  have h4 := wNm_len (raw (bl t.s))
  have h5 : (qtL (raw (bl t.s))).length ≤ 6 * (raw (bl t.s)).length := flat_len qtT_len _
  have h6 : (urL (raw (bl t.s))).length ≤ 6 * (raw (bl t.s)).length := flat_len urT_len _
  have h7 := fx_len t.k
  unfold wtA
  split
  · omega
  split
  · simp; omega
  split
  · simp; omega
  split
  · unfold hshT
    split <;> simp <;> omega
  split
  · simp; omega
  split
  · simp; omega
  split
  · unfold dlmT
    split
    · simp
    · rw [bl_len]; omega
  split
  · omega
  split
  · simp; omega
  split
  · rw [List.length_append]
    have : (unT (bl t.s)).length ≤ 6 * t.s.size + 8 := by
      unfold unT
      split
      · rename_i hx
        have lo := ex_low hx
        have g1 := esc_len (c := nx (bl t.s) 0) (by omega) (by omega)
        have g2 := wNm_len (raw ((bl t.s).drop 1))
        have g3 := raw_le ((bl t.s).drop 1)
        rw [List.length_drop, bl_len] at g3
        rw [List.length_append]
        omega
      · omega
    omega
  · rw [bl_len]; omega
theorem spA_by (ts : List TS) (k : Nat) : By (spK wtA ts k) := by
  induction k with
  | zero => exact by_nil
  | succ k ih =>
    show By (spK wtA ts k ++ _)
    refine ih.app ?_
    split
    · exact by_nil
    · refine By.app ?_ (wtA_by _)
      split
      · exact by_nil
      split
      · exact by_nil
      split
      · intro x hx; simp at hx; omega
      · exact by_nil
theorem spA_len (ts : List TS) (m : Nat) (ho : ∀ t ∈ ts, t.Ok) (hm : ∀ t ∈ ts, t.s.size ≤ m) (k : Nat) : (spK wtA ts k).length ≤ k * (6 * m + 204) := by
  induction k with
  | zero => simp [spK]
  | succ k ih =>
    show (spK wtA ts k ++ _).length ≤ _
    rw [List.length_append, Nat.add_mul]
    have : (match ts[k]? with
      | none => ([] : List Int)
      | some t => (match k with
        | 0 => ([] : List Int)
        | j + 1 => match ts[j]? with
          | none => []
          | some p => if apB p.k t.k = true then [47, 42, 42, 47] else []) ++ wtA t).length ≤ 6 * m + 204 := by
      split
      · simp
      · rename_i t ht
        have hmem := List.mem_of_getElem? ht
        have h1 := wtA_len t (ho t hmem)
        have h2 := hm t hmem
        rw [List.length_append]
        split
        · simp; omega
        split
        · simp; omega
        split
        · simp; omega
        · simp; omega
    exact Nat.le_trans (Nat.add_le_add ih this) (by omega)
theorem tokenA_any (t : TS) (w : World) (ho : t.Ok) (hK : KT w) (hT : Tabs w) :
    Calls Tryz.prog 75 #[t.v] w fun e w' => PostSp wtA [t] w e w' :=
  token_any wtA t w ho (fun h => writes_all t ho h) (wtA_by t) (by have := wtA_len t ho; have := ho.hs; omega) hK hT
end Go.Proofs.YtbdacepomdlcbaaGreatDoor
