/-
  Names and texts, written: by the program.
  Tokens of a name or a text, written.
  Hashes, signs and fixed tokens, written.
  Fixed tokens and numbers, written.
  Numbers and percentages, written.
  Texts in quotes, by the reference.
  Addresses, by the reference.
  Signs of an address that want a backslash: strings.ContainsRune at its constant.
-/
import Derived.Test.YtbdacepomdlcbaaGreatDoorJu
import Derived.Test.YtbdacepomdlcbaaGreatDoorShelfR
import Derived.Laws.Runes
import Derived.WalkMore
set_option linter.unusedVariables false
set_option linter.unusedSimpArgs false
namespace Go.Proofs.YtbdacepomdlcbaaGreatDoor
open Go.RowKit Go.Shelf

def nmR (bs : List Int) (p : Nat) : List Int := wNm (raw (bs.drop p))
theorem nmR_step {bs : List Int} {p k : Nat} {c : Int} (h : raw (bs.drop p) = c :: raw (bs.drop (p + k))) : nmR bs p = wLt c ++ nmR bs (p + k) := by
  unfold nmR; rw [h, wNm_cons]
theorem nmR_end {bs : List Int} {p : Nat} (h : bs.length ≤ p) : nmR bs p = [] := by
  unfold nmR; rw [List.drop_of_length_le h, raw_nil]; rfl
set_option maxRecDepth 100000 in
set_option maxHeartbeats 2000000 in
theorem wName_any (B b : Nat) (xs : List Int) (s : ByteArray) (w : World) (hw : whole (bl s) = true) (h : Bd B b xs w) (hl : xs.length + 6 * s.size ≤ 70368744177664) (hB : B ≤ w.heap.size) (hT : TB B w) :
    Calls Tryz.prog 99 #[.pointer (some ⟨b, 0, none⟩), .string s] w fun e w' => e = .returned (.tuple #[]) ∧ PB B b (xs ++ wNm (raw (bl s))) w w' := by
  have E := hide (show wNm (raw (bl s)) = nmR (bl s) 0 by unfold nmR; rw [List.drop_zero])
  have ST := hide (PB.range h hB s)
  have HT := hide hT
  have HW := hide hw
  have HBK := hide (Nat.ne_of_lt h.lt : b ≠ w.heap.size)
  clear h hT hw
  go_enter Tryz.func99, Tryz.ntmps99
  go_wp2
  go_loopw [] (fun wr => RelW B b xs s w (nmR (bl s)) wr) (fun wr => s.size - wr.iterPos w.heap.size)
  case atStart =>
    exact RelW.mk 0 [] (Nat.zero_le _) ⟨by rw [List.append_nil]; exact ST.out.1, ST.out.2, rfl, HW.out, Nat.zero_le _⟩
  case round =>
    clear ST
    obtain ⟨p, done, hp, H⟩ := id hrel
    clear hrel
    by_cases hlt : p < s.size
    · obtain ⟨wi, c, k, r⟩ := rnd_of H.out.1 hB H.out.2.1 H.out.2.2.2.1 hlt
      have hnx := r.nx
      have IP := hide (show wr.iterPos w.heap.size = p by simp only [World.iterPos, H.out.2.1])
      have LN := hide (show (xs ++ done).length ≤ 70368744177664 by have := H.out.2.2.2.2; rw [List.length_append]; omega)
      have SZ := r.pb.size hB
      have TT := hide (HT.out.on r.pb.bel)
      have STP := hide (nmR_step r.rw)
      have CL := hide (wLt_any B b (xs ++ done) c wi r.isc r.pb.bd LN.out SZ TT.out)
      have K1 := r.k1
      have KS := r.ks
      replace r := hide r
      have ON := hide (fun w1 (P : PB B b ((xs ++ done) ++ wLt c) wi w1) => r.out.on (R := nmR (bl s)) HBK.out P H.out.2.2.1 STP.out H.out.2.2.2.2 (wLt_len c))
      clear STP LN TT H r
      go_wp2_with (go_at_call 98; refine CL.out.mono ?_; rintro e w1 ⟨rfl, P1⟩; replace P1 := hide P1)
      go_roundw
      case rel => exact (ON.out _ P1.out).1
      case measure => rw [(ON.out _ P1.out).2, IP.out]; omega
    · have hnx : ∀ ty, (Instr.next (.pointer (some ⟨w.heap.size, 0, none⟩)) true ty).run Tryz.prog wr = _ := fun ty => Lib.run_next_end_at wr w.heap.size s p ty H.out.2.1 hlt
      go_wp2
      go_end0
      refine ⟨rfl, ?_⟩
      have e : nmR (bl s) 0 = done := by rw [H.out.2.2.1, nmR_end (by rw [bl_len]; omega), List.append_nil]
      rw [E.out, e]
      exact H.out.1
/-! ### A text in quotes -/
def qtT (c : Int) : List Int := if c = 34 ∨ c = 92 then 92 :: enc1 c else if isHid c = true then esc c else enc1 c
def qtR (bs : List Int) (p : Nat) : List Int := (raw (bs.drop p)).flatMap qtT
theorem qtR_step {bs : List Int} {p k : Nat} {c : Int} (h : raw (bs.drop p) = c :: raw (bs.drop (p + k))) : qtR bs p = qtT c ++ qtR bs (p + k) := by
  unfold qtR; rw [h, List.flatMap_cons]
theorem qtR_end {bs : List Int} {p : Nat} (h : bs.length ≤ p) : qtR bs p = [] := by
  unfold qtR; rw [List.drop_of_length_le h, raw_nil]; rfl
theorem qtT_len (c : Int) : (qtT c).length ≤ 6 := by
  have := enc1_len c
  unfold qtT
  split
  · simp; omega
  split
  · rename_i h; exact esc_len (hid_bd h).1 (hid_bd h).2
  · omega
set_option maxRecDepth 100000 in
set_option maxHeartbeats 2000000 in
theorem wStr_any (B b : Nat) (xs : List Int) (s : ByteArray) (w : World) (hw : whole (bl s) = true) (h : Bd B b xs w) (hl : xs.length + 6 * s.size + 2 ≤ 70368744177664) (hB : B ≤ w.heap.size) (hT : TB B w) :
    Calls Tryz.prog 70 #[.pointer (some ⟨b, 0, none⟩), .string s] w fun e w' => e = .returned (.tuple #[]) ∧ PB B b (xs ++ (34 :: (qtR (bl s) 0 ++ [34]))) w w' := by
  have C1 := hide (wbyte_any B b xs 34 w h (by omega) hB)
  have HT := hide hT
  have HW := hide hw
  clear h hT hw
  go_enter Tryz.func70, Tryz.ntmps70
  go_wp2_with (go_at_call 47; refine C1.out.mono ?_; rintro e w0 ⟨rfl, P0⟩; replace P0 := hide P0; clear C1)
  have hB0 : B ≤ w0.heap.size := P0.out.size hB
  have ST := hide (PB.range P0.out.bd hB0 s)
  have HBK := hide (Nat.ne_of_lt P0.out.bd.lt : b ≠ w0.heap.size)
  go_wp2
  go_loopw [] (fun wr => RelW B b (xs ++ [34]) s w0 (qtR (bl s)) wr) (fun wr => s.size - wr.iterPos w0.heap.size)
  case atStart =>
    exact RelW.mk 0 [] (Nat.zero_le _) ⟨by rw [List.append_nil]; exact ST.out.1, ST.out.2, rfl, HW.out, Nat.zero_le _⟩
  case round =>
    clear ST
    obtain ⟨p, done, hp, H⟩ := id hrel
    clear hrel
    by_cases hlt : p < s.size
    · obtain ⟨wi, c, k, r⟩ := rnd_of H.out.1 hB0 H.out.2.1 H.out.2.2.2.1 hlt
      have hnx := r.nx
      have IP := hide (show wr.iterPos w0.heap.size = p by simp only [World.iterPos, H.out.2.1])
      have LN := hide (show (xs ++ [34] ++ done).length ≤ 70368744177664 by have := H.out.2.2.2.2; simp; omega)
      have SZ := r.pb.size hB0
      have TT := hide (HT.out.on (P0.out.bel.trans r.pb.bel))
      have STP := hide (qtR_step r.rw)
      have K1 := r.k1
      have KS := r.ks
      replace r := hide r
      have ON := hide (fun w1 (P : PB B b ((xs ++ [34] ++ done) ++ qtT c) wi w1) => r.out.on (R := qtR (bl s)) HBK.out P H.out.2.2.1 STP.out H.out.2.2.2.2 (qtT_len c))
      clear STP H
      by_cases h1 : c = 34 ∨ c = 92
      · have E := hide (show qtT c = 92 :: enc1 c by unfold qtT; rw [if_pos h1])
        have CL := hide (wSl_any B b (xs ++ [34] ++ done) c wi r.out.isc r.out.pb.bd (by have := LN.out; omega) SZ)
        rw [E.out] at ON
        clear LN TT r
        rcases h1 with rfl | rfl
        all_goals
          go_wp2_with (go_at_call 100; refine CL.out.mono ?_; rintro e w1 ⟨rfl, P1⟩; replace P1 := hide P1)
          go_roundw
          case rel => exact (ON.out _ P1.out).1
          case measure => rw [(ON.out _ P1.out).2, IP.out]; omega
      · have e1 : (c == 34) = false := by simp; exact fun h => h1 (.inl h)
        have e2 : (c == 92) = false := by simp; exact fun h => h1 (.inr h)
        cases hh : isHid c with
        | true =>
          have E := hide (show qtT c = esc c by unfold qtT; rw [if_neg h1, if_pos hh])
          have CL := hide (wEsc_any B b (xs ++ [34] ++ done) c wi (hid_bd hh).1 (hid_bd hh).2 r.out.pb.bd (by have := LN.out; omega) SZ TT.out)
          rw [E.out] at ON
          replace hh := hide hh
          clear LN TT r h1
          go_wp2_with (first
            | (go_at_call 101; refine (isHidden_any c _).mono ?_; rintro e w1 ⟨rfl, rfl⟩; rw [hh.out])
            | (go_at_call 97; refine CL.out.mono ?_; rintro e w1 ⟨rfl, P1⟩; replace P1 := hide P1))
          go_roundw
          case rel => exact (ON.out _ P1.out).1
          case measure => rw [(ON.out _ P1.out).2, IP.out]; omega
        | false =>
          have E := hide (show qtT c = enc1 c by unfold qtT; rw [if_neg h1, hh]; rfl)
          have CL := hide (wrune_any B b (xs ++ [34] ++ done) c wi r.out.isc r.out.pb.bd (by have := LN.out; omega) SZ)
          rw [E.out] at ON
          replace hh := hide hh
          clear LN TT r h1
          go_wp2_with (first
            | (go_at_call 101; refine (isHidden_any c _).mono ?_; rintro e w1 ⟨rfl, rfl⟩; rw [hh.out])
            | (go_at_call 102; refine CL.out.mono ?_; rintro e w1 ⟨rfl, P1⟩; replace P1 := hide P1))
          go_roundw
          case rel => exact (ON.out _ P1.out).1
          case measure => rw [(ON.out _ P1.out).2, IP.out]; omega
    · have hnx : ∀ ty, (Instr.next (.pointer (some ⟨w0.heap.size, 0, none⟩)) true ty).run Tryz.prog wr = _ := fun ty => Lib.run_next_end_at wr w0.heap.size s p ty H.out.2.1 hlt
      have e : qtR (bl s) 0 = done := by rw [H.out.2.2.1, qtR_end (by rw [bl_len]; omega), List.append_nil]
      have CL := hide (wbyte_any B b (xs ++ [34] ++ done) 34 wr H.out.1.bd (by have := H.out.2.2.2.2; simp; omega) (H.out.1.size hB0))
      have PF := hide (fun w1 (P : PB B b (xs ++ [34] ++ done ++ [34]) wr w1) => show PB B b (xs ++ (34 :: (qtR (bl s) 0 ++ [34]))) w w1 by
        have := (P0.out.trans H.out.1).trans P
        rw [e]
        simpa using this)
      clear e
      go_wp2_with (go_at_call 47; refine CL.out.mono ?_; rintro e w1 ⟨rfl, P1⟩; replace P1 := hide P1)
      go_end0
      exact ⟨rfl, PF.out _ P1.out⟩
end Go.Proofs.YtbdacepomdlcbaaGreatDoor
set_option linter.unusedVariables false
set_option linter.unusedSimpArgs false
namespace Go.Proofs.YtbdacepomdlcbaaGreatDoor
open Go.RowKit Go.Shelf

def knT (k : Int) (s : ByteArray) : TS := ⟨k, s, 0, 0, false, false⟩
/-- The box of a parameter, whatever is written behind it. -/
theorem box_kept {B b : Nat} {xs : List Int} {W w1 : World} {t : TS} (hb : b < W.heap.size) (P : PB B b xs (W.alloc (boxT t)) w1) : w1.heap[W.heap.size]? = some (boxT t) :=
  P.oth _ _ (heap_alloc_new W (boxT t)) (by simp; omega) (by intro c fz hh; cases hh)
set_option maxRecDepth 100000 in
set_option maxHeartbeats 2000000 in
theorem writes_func (s : ByteArray) (hs : s.size ≤ 1099511627776) (hw : whole (bl s) = true) : Writes (fun t => wId (bl t.s) ++ [40]) (knT 2 s) := by
  intro B b xs W hb hl hB hT hK
  have PW := hide (fun (W1 : World) (hb1 : Below W.heap.size W W1) => (PB.start hb).grow hB hb1)
  have C := hide (fun (W1 : World) (hb1 : Below W.heap.size W W1) => wId_any B b xs s W1 hw (PW.out W1 hb1).bd (by omega) ((PW.out W1 hb1).size hB) (hT.on (PW.out W1 hb1).bel))
  have LW := hide (show (xs ++ wId (bl s)).length + 1 ≤ 140737488355328 by have := wId_len s; rw [List.length_append]; omega)
  clear hb hT hK hw
  unfold TS.v knT tokV
  go_enter Tryz.func40, Tryz.ntmps40
  go_wp2_with (first
    | (go_at_call 68; refine (C.out _ (by first | exact Below.refl _ _ | exact bplus (Below.refl _ _) _)).mono ?_; rintro e w1 ⟨rfl, P1⟩; replace P1 := hide ((PW.out _ (by first | exact Below.refl _ _ | exact bplus (Below.refl _ _) _)).trans P1))
    | (go_at_call 47; refine (wbyte_any B b _ 40 _ P1.out.bd LW.out (P1.out.size hB)).mono ?_; rintro e w2 ⟨rfl, P2⟩; replace P1 := hide (P1.out.trans P2)))
  go_end0
  refine ⟨rfl, ?_⟩
  have := P1.out
  rw [List.append_assoc] at this
  exact this
set_option maxRecDepth 100000 in
set_option maxHeartbeats 2000000 in
theorem writes_at (s : ByteArray) (hs : s.size ≤ 1099511627776) (hw : whole (bl s) = true) : Writes (fun t => 64 :: wId (bl t.s)) (knT 3 s) := by
  intro B b xs W hb hl hB hT hK
  have hbl := hb.lt
  have PW := hide ((PB.start hb).grow hB (bplus (Below.refl W.heap.size W) (boxT (knT 3 s))))
  have C1 := hide (wbyte_any B b xs 64 (W.alloc (boxT (knT 3 s))) PW.out.bd (by omega) (PW.out.size hB))
  have HT := hide hT
  have HW := hide hw
  clear hb hT hK hw
  unfold TS.v tokV
  unfold boxT at C1
  unfold knT at *
  go_enter Tryz.func40, Tryz.ntmps40
  go_wp2_with (first
    | (go_at_call 47; refine C1.out.mono ?_; rintro e w1 ⟨rfl, P1⟩; obtain ⟨q9, q0, q1, q2, q3, q4, q5⟩ := tok_box (box_kept (t := ⟨3, s, 0, 0, false, false⟩) hbl P1); replace P1 := hide (PW.out.trans P1))
    | (go_at_call 68; refine (wId_any B b _ s _ HW.out P1.out.bd (by rw [List.length_append]; simp; omega) (P1.out.size hB) (HT.out.on P1.out.bel)).mono ?_; rintro e w2 ⟨rfl, P2⟩; replace P1 := hide (P1.out.trans P2)))
  go_end0
  refine ⟨rfl, ?_⟩
  have := P1.out
  rw [List.append_assoc] at this
  exact this
set_option maxRecDepth 100000 in
set_option maxHeartbeats 2000000 in
theorem writes_text (s : ByteArray) (hs : s.size ≤ 1099511627776) (hw : whole (bl s) = true) : Writes (fun t => 34 :: (qtR (bl t.s) 0 ++ [34])) (knT 5 s) := by
  intro B b xs W hb hl hB hT hK
  have PW := hide (fun (W1 : World) (hb1 : Below W.heap.size W W1) => (PB.start hb).grow hB hb1)
  have C := hide (fun (W1 : World) (hb1 : Below W.heap.size W W1) => wStr_any B b xs s W1 hw (PW.out W1 hb1).bd (by omega) ((PW.out W1 hb1).size hB) (hT.on (PW.out W1 hb1).bel))
  clear hb hT hK hw
  unfold TS.v knT tokV
  go_enter Tryz.func40, Tryz.ntmps40
  go_wp2_with (go_at_call 70; refine (C.out _ (by first | exact Below.refl _ _ | exact bplus (Below.refl _ _) _)).mono ?_; rintro e w1 ⟨rfl, P1⟩; replace P1 := hide ((PW.out _ (by first | exact Below.refl _ _ | exact bplus (Below.refl _ _) _)).trans P1))
  go_end0
  exact ⟨rfl, P1.out⟩
end Go.Proofs.YtbdacepomdlcbaaGreatDoor
set_option linter.unusedVariables false
set_option linter.unusedSimpArgs false
namespace Go.Proofs.YtbdacepomdlcbaaGreatDoor
open Go.RowKit Go.Shelf

def hsT (h : Bool) (s : ByteArray) : TS := ⟨4, s, 0, 0, false, h⟩
def hshT (h : Bool) (bs : List Int) : List Int := 35 :: (if h = true then wId bs else wNm (raw bs))
set_option maxRecDepth 100000 in
set_option maxHeartbeats 2000000 in
theorem wHash_any (h : Bool) (B b : Nat) (xs : List Int) (s : ByteArray) (W : World) (hs : s.size ≤ 1099511627776) (hw : whole (bl s) = true) (hb : Bd B b xs W) (hl : xs.length ≤ 35184372088832) (hB : B ≤ W.heap.size) (hT : TB B W) :
    Calls Tryz.prog 69 #[.pointer (some ⟨b, 0, none⟩), .agg #[.int .i64 4, .string s, .int .i64 0, .int .i64 0, .bool false, .bool h]] W fun e w' => e = .returned (.tuple #[]) ∧ PB B b (xs ++ hshT h (bl s)) W w' := by
  have hbl := hb.lt
  have PW := hide ((PB.start hb).grow hB (bplus (Below.refl W.heap.size W) (boxT (hsT h s))))
  have C1 := hide (wbyte_any B b xs 35 (W.alloc (boxT (hsT h s))) PW.out.bd (by omega) (PW.out.size hB))
  have HT := hide hT
  have HW := hide hw
  clear hb hT hw
  unfold boxT at C1
  unfold hsT at *
  cases h with
  | true =>
    go_enter Tryz.func69, Tryz.ntmps69
    go_wp2_with (first
      | (go_at_call 47; refine C1.out.mono ?_; rintro e w1 ⟨rfl, P1⟩; obtain ⟨q9, q0, q1, q2, q3, q4, q5⟩ := tok_box (box_kept (t := ⟨4, s, 0, 0, false, true⟩) hbl P1); replace P1 := hide (PW.out.trans P1))
      | (go_at_call 68; refine (wId_any B b _ s _ HW.out P1.out.bd (by rw [List.length_append]; simp; omega) (P1.out.size hB) (HT.out.on P1.out.bel)).mono ?_; rintro e w2 ⟨rfl, P2⟩; replace P1 := hide (P1.out.trans P2)))
    go_end0
    refine ⟨rfl, ?_⟩
    have := P1.out
    rw [List.append_assoc] at this
    exact this
  | false =>
    go_enter Tryz.func69, Tryz.ntmps69
    go_wp2_with (first
      | (go_at_call 47; refine C1.out.mono ?_; rintro e w1 ⟨rfl, P1⟩; obtain ⟨q9, q0, q1, q2, q3, q4, q5⟩ := tok_box (box_kept (t := ⟨4, s, 0, 0, false, false⟩) hbl P1); replace P1 := hide (PW.out.trans P1))
      | (go_at_call 99; refine (wName_any B b _ s _ HW.out P1.out.bd (by rw [List.length_append]; simp; omega) (P1.out.size hB) (HT.out.on P1.out.bel)).mono ?_; rintro e w2 ⟨rfl, P2⟩; replace P1 := hide (P1.out.trans P2)))
    go_end0
    refine ⟨rfl, ?_⟩
    have := P1.out
    rw [List.append_assoc] at this
    exact this
set_option maxRecDepth 100000 in
set_option maxHeartbeats 2000000 in
theorem writes_hash (h : Bool) (s : ByteArray) (hs : s.size ≤ 1099511627776) (hw : whole (bl s) = true) : Writes (fun t => hshT t.h (bl t.s)) (hsT h s) := by
  intro B b xs W hb hl hB hT hK
  have PW := hide (fun (W1 : World) (hb1 : Below W.heap.size W W1) => (PB.start hb).grow hB hb1)
  have C := hide (fun (W1 : World) (hb1 : Below W.heap.size W W1) => wHash_any h B b xs s W1 hs hw (PW.out W1 hb1).bd hl ((PW.out W1 hb1).size hB) (hT.on (PW.out W1 hb1).bel))
  clear hb hT hK hw
  unfold TS.v hsT tokV
  go_enter Tryz.func40, Tryz.ntmps40
  go_wp2_with (go_at_call 69; refine (C.out _ (by first | exact Below.refl _ _ | exact bplus (Below.refl _ _) _)).mono ?_; rintro e w1 ⟨rfl, P1⟩; replace P1 := hide ((PW.out _ (by first | exact Below.refl _ _ | exact bplus (Below.refl _ _) _)).trans P1))
  go_end0
  exact ⟨rfl, P1.out⟩
def dlmT (bs : List Int) : List Int := if bs = [92] then [92, 10] else bs
set_option maxRecDepth 100000 in
set_option maxHeartbeats 2000000 in
theorem wDelim_any (B b : Nat) (xs : List Int) (s : ByteArray) (W : World) (hs : s.size ≤ 1099511627776) (hb : Bd B b xs W) (hl : xs.length ≤ 35184372088832) (hB : B ≤ W.heap.size) :
    Calls Tryz.prog 72 #[.pointer (some ⟨b, 0, none⟩), .string s] W fun e w' => e = .returned (.tuple #[]) ∧ PB B b (xs ++ dlmT (bl s)) W w' := by
  have C1 := hide (wstr_any B b xs s W hb (by omega) hB)
  clear hb
  by_cases h : bl s = [92]
  · obtain rfl : s = ⟨#[92]⟩ := bl_inj h
    have E := hide (show dlmT (bl ⟨#[92]⟩) = [92, 10] by unfold dlmT; rw [if_pos h])
    have SE := hide (show bl ⟨#[92]⟩ = [92] from rfl)
    clear h
    go_enter Tryz.func72, Tryz.ntmps72
    go_wp2_with (first
      | (go_at_call 39; refine C1.out.mono ?_; rintro e w1 ⟨rfl, P1⟩; rw [SE.out] at P1; replace P1 := hide P1)
      | (go_at_call 47; refine (wbyte_any B b _ 10 _ P1.out.bd (by rw [List.length_append]; simp; omega) (P1.out.size hB)).mono ?_; rintro e w2 ⟨rfl, P2⟩; replace P1 := hide (P1.out.trans P2)))
    go_end0
    refine ⟨rfl, ?_⟩
    have := P1.out
    rw [List.append_assoc] at this
    rw [E.out]
    exact this
  · have E := hide (show dlmT (bl s) = bl s by unfold dlmT; rw [if_neg h])
    have hne2 : (s.toList == [92]) = false := by
      rw [beq_eq_false_iff_ne]
      intro g
      rw [Lib.toList_data] at g
      exact h (by unfold bl; rw [g]; rfl)
    clear h
    go_enter Tryz.func72, Tryz.ntmps72
    go_wp2_with (go_at_call 39; refine C1.out.mono ?_; rintro e w1 ⟨rfl, P1⟩; replace P1 := hide P1)
    go_end0
    exact ⟨rfl, by rw [E.out]; exact P1.out⟩
set_option maxRecDepth 100000 in
set_option maxHeartbeats 2000000 in
theorem writes_delim (s : ByteArray) (hs : s.size ≤ 1099511627776) : Writes (fun t => dlmT (bl t.s)) (knT 9 s) := by
  intro B b xs W hb hl hB hT hK
  have PW := hide (fun (W1 : World) (hb1 : Below W.heap.size W W1) => (PB.start hb).grow hB hb1)
  have C := hide (fun (W1 : World) (hb1 : Below W.heap.size W W1) => wDelim_any B b xs s W1 hs (PW.out W1 hb1).bd hl ((PW.out W1 hb1).size hB))
  clear hb hT hK
  unfold TS.v knT tokV
  go_enter Tryz.func40, Tryz.ntmps40
  go_wp2_with (go_at_call 72; refine (C.out _ (by first | exact Below.refl _ _ | exact bplus (Below.refl _ _) _)).mono ?_; rintro e w1 ⟨rfl, P1⟩; replace P1 := hide ((PW.out _ (by first | exact Below.refl _ _ | exact bplus (Below.refl _ _) _)).trans P1))
  go_end0
  exact ⟨rfl, P1.out⟩
end Go.Proofs.YtbdacepomdlcbaaGreatDoor
set_option linter.unusedVariables false
set_option linter.unusedSimpArgs false
namespace Go.Proofs.YtbdacepomdlcbaaGreatDoor
open Go.RowKit Go.Shelf

theorem fld5w (a0 a1 a2 a3 a4 : Bool) (a5 : ByteArray) (w : World) : (Instr.field 97 (.agg #[.bool a0, .bool a1, .bool a2, .bool a3, .bool a4, .string a5]) 5).run Tryz.prog w = .ok (.string a5) w := by kernel_rfl
theorem fx_len (k : Int) : (fx k).size ≤ 6 := by
  unfold fx
  by_cases h6 : k = 6
  · rw [if_pos h6]; decide
  rw [if_neg h6]
  by_cases h8 : k = 8
  · rw [if_pos h8]; decide
  rw [if_neg h8]
  by_cases h13 : k = 13
  · rw [if_pos h13]; decide
  rw [if_neg h13]
  by_cases h14 : k = 14
  · rw [if_pos h14]; decide
  rw [if_neg h14]
  by_cases h15 : k = 15
  · rw [if_pos h15]; decide
  rw [if_neg h15]
  by_cases h16 : k = 16
  · rw [if_pos h16]; decide
  rw [if_neg h16]
  by_cases h17 : k = 17
  · rw [if_pos h17]; decide
  rw [if_neg h17]
  by_cases h18 : k = 18
  · rw [if_pos h18]; decide
  rw [if_neg h18]
  by_cases h19 : k = 19
  · rw [if_pos h19]; decide
  rw [if_neg h19]
  by_cases h20 : k = 20
  · rw [if_pos h20]; decide
  rw [if_neg h20]
  by_cases h21 : k = 21
  · rw [if_pos h21]; decide
  rw [if_neg h21]
  by_cases h22 : k = 22
  · rw [if_pos h22]; decide
  rw [if_neg h22]
  by_cases h23 : k = 23
  · rw [if_pos h23]; decide
  rw [if_neg h23]
  by_cases h24 : k = 24
  · rw [if_pos h24]; decide
  rw [if_neg h24]
  decide
set_option maxRecDepth 100000 in
set_option maxHeartbeats 2000000 in
theorem writes_fixed (k : Int) (s : ByteArray) (k1 : 1 ≤ k) (k2 : k ≤ 24) (hk : tx k = false) (hn : nu k = false) : Writes (fun t => bl (fx t.k)) (knT k s) := by
  intro B b xs W hb hl hB hT hK
  have e1 : (k == 1) = false := by simp [tx] at hk; simp; omega
  have e2 : (k == 2) = false := by simp [tx] at hk; simp; omega
  have e3 : (k == 3) = false := by simp [tx] at hk; simp; omega
  have e4 : (k == 4) = false := by simp [tx] at hk; simp; omega
  have e5 : (k == 5) = false := by simp [tx] at hk; simp; omega
  have e7 : (k == 7) = false := by simp [tx] at hk; simp; omega
  have e9 : (k == 9) = false := by simp [tx] at hk; simp; omega
  have e10 : (k == 10) = false := by simp [nu] at hn; simp; omega
  have e11 : (k == 11) = false := by simp [nu] at hn; simp; omega
  have e12 : (k == 12) = false := by simp [tx] at hk; simp; omega
  have PW := hide (fun (W1 : World) (hb1 : Below W.heap.size W W1) => (PB.start hb).grow hB hb1)
  have C := hide (fun (W1 : World) (hb1 : Below W.heap.size W W1) => traits_any k W1 (by omega) (by omega) (hK W1 (PW.out W1 hb1).bel))
  have f5 := fld5w
  have FL := hide (fx_len k)
  clear hb hT hK hk hn
  unfold TS.v knT tokV
  go_enter Tryz.func40, Tryz.ntmps40
  go_wp2_with (first
    | (go_at_call 66; refine (C.out _ (by first | exact Below.refl _ _ | exact bplus (Below.refl _ _) _)).mono ?_; rintro e w1 ⟨rfl, B1⟩; unfold trV; have P1 := hide ((PW.out _ (by first | exact Below.refl _ _ | exact bplus (Below.refl _ _) _)).grow hB B1))
    | (go_at_call 39; refine (wstr_any B b _ (fx k) _ P1.out.bd (by have := FL.out; omega) (P1.out.size hB)).mono ?_; rintro e w2 ⟨rfl, P2⟩; replace P1 := hide (P1.out.trans P2)))
  go_end0
  exact ⟨rfl, P1.out⟩
def nuT (k : Int) (s : ByteArray) (n d : Int) (i : Bool) : TS := ⟨k, s, n, d, i, false⟩
set_option maxRecDepth 100000 in
set_option maxHeartbeats 2000000 in
theorem wNum_any (k n d : Int) (i : Bool) (tt : List Int) (B b : Nat) (xs : List Int) (s : ByteArray) (W : World) (n1 : -9223372036854775808 ≤ n) (n2 : n ≤ 9223372036854775807) (d1 : -9223372036854775808 ≤ d) (d2 : d ≤ 9223372036854775807) (hp : plT n d i = some tt) (ht : tt.length ≤ 1000) (hb : Bd B b xs W) (hl : xs.length ≤ 35184372088832) (hB : B ≤ W.heap.size) (hT : TB B W) :
    Calls Tryz.prog 73 #[.pointer (some ⟨b, 0, none⟩), .agg #[.int .i64 k, .string s, .int .i64 n, .int .i64 d, .bool i, .bool false]] W fun e w' => e = .returned (.tuple #[]) ∧ PB B b (xs ++ tt) W w' := by
  have PW := hide (fun (W1 : World) (hb1 : Below W.heap.size W W1) => (PB.start hb).grow hB hb1)
  have C := hide (fun (W1 : World) (hb1 : Below W.heap.size W W1) => plainP_any n d i W1 n1 n2 d1 d2 (hT.on (PW.out W1 hb1).bel).here)
  have PT := hide (show ∀ u x, PlR n d i u x → bl u = tt from fun u x h => by unfold PlR at h; rw [hp] at h; exact h.2)
  have SL := hide (show ∀ u : ByteArray, bl u = tt → u.size ≤ 1000 from fun u h => by rw [← bl_len, h]; exact ht)
  clear hb hT hp
  go_enter Tryz.func73, Tryz.ntmps73
  go_wp2_with (first
    | (go_at_call 94; refine (C.out _ (by first | exact Below.refl _ _ | exact bplus (Below.refl _ _) _)).mono ?_; rintro e w1 ⟨u, x, rfl, H, B1⟩; have hu := PT.out u x H; have hz := SL.out u hu; replace hu := hide hu; have P1 := hide ((PW.out _ (by first | exact Below.refl _ _ | exact bplus (Below.refl _ _) _)).grow hB B1); clear B1 H)
    | (go_at_call 39; refine (wstr_any B b _ u _ P1.out.bd (by omega) (P1.out.size hB)).mono ?_; rintro e w2 ⟨rfl, P2⟩; rw [hu.out] at P2; replace P1 := hide (P1.out.trans P2)))
  go_end0
  exact ⟨rfl, P1.out⟩
end Go.Proofs.YtbdacepomdlcbaaGreatDoor
set_option linter.unusedVariables false
set_option linter.unusedSimpArgs false
namespace Go.Proofs.YtbdacepomdlcbaaGreatDoor
open Go.RowKit Go.Shelf

def numW (t : TS) : List Int := (plT t.n t.d t.i).getD []
set_option maxRecDepth 100000 in
set_option maxHeartbeats 2000000 in
theorem writes_num (s : ByteArray) (n d : Int) (i : Bool) (tt : List Int) (n1 : -9223372036854775808 ≤ n) (n2 : n ≤ 9223372036854775807) (d1 : -9223372036854775808 ≤ d) (d2 : d ≤ 9223372036854775807) (hp : plT n d i = some tt) : Writes numW (nuT 10 s n d i) := by
  intro B b xs W hb hl hB hT hK
  have ht := plT_len n1 n2 d2 hp
  have E := hide (show numW (nuT 10 s n d i) = tt by show (plT n d i).getD [] = tt; rw [hp]; rfl)
  have PW := hide (fun (W1 : World) (hb1 : Below W.heap.size W W1) => (PB.start hb).grow hB hb1)
  have C := hide (fun (W1 : World) (hb1 : Below W.heap.size W W1) => wNum_any 10 n d i tt B b xs s W1 n1 n2 d1 d2 hp (by omega) (PW.out W1 hb1).bd hl ((PW.out W1 hb1).size hB) (hT.on (PW.out W1 hb1).bel))
  clear hb hT hK hp
  rw [E.out]
  unfold TS.v nuT tokV
  go_enter Tryz.func40, Tryz.ntmps40
  go_wp2_with (go_at_call 73; refine (C.out _ (by first | exact Below.refl _ _ | exact bplus (Below.refl _ _) _)).mono ?_; rintro e w1 ⟨rfl, P1⟩; replace P1 := hide ((PW.out _ (by first | exact Below.refl _ _ | exact bplus (Below.refl _ _) _)).trans P1))
  go_end0
  exact ⟨rfl, P1.out⟩
set_option maxRecDepth 100000 in
set_option maxHeartbeats 2000000 in
theorem writes_pct (s : ByteArray) (n d : Int) (i : Bool) (tt : List Int) (n1 : -9223372036854775808 ≤ n) (n2 : n ≤ 9223372036854775807) (d1 : -9223372036854775808 ≤ d) (d2 : d ≤ 9223372036854775807) (hp : plT n d i = some tt) : Writes (fun t => numW t ++ [37]) (nuT 11 s n d i) := by
  intro B b xs W hb hl hB hT hK
  have ht := plT_len n1 n2 d2 hp
  have E := hide (show numW (nuT 11 s n d i) = tt by show (plT n d i).getD [] = tt; rw [hp]; rfl)
  have PW := hide (fun (W1 : World) (hb1 : Below W.heap.size W W1) => (PB.start hb).grow hB hb1)
  have C := hide (fun (W1 : World) (hb1 : Below W.heap.size W W1) => wNum_any 11 n d i tt B b xs s W1 n1 n2 d1 d2 hp (by omega) (PW.out W1 hb1).bd hl ((PW.out W1 hb1).size hB) (hT.on (PW.out W1 hb1).bel))
  have LW := hide (show (xs ++ tt).length + 1 ≤ 140737488355328 by rw [List.length_append]; omega)
  clear hb hT hK hp
  show Calls Tryz.prog 40 _ W fun e w' => e = .returned (.tuple #[]) ∧ PB B b (xs ++ (numW (nuT 11 s n d i) ++ [37])) W w'
  rw [E.out]
  unfold TS.v nuT tokV
  go_enter Tryz.func40, Tryz.ntmps40
  go_wp2_with (first
    | (go_at_call 73; refine (C.out _ (by first | exact Below.refl _ _ | exact bplus (Below.refl _ _) _)).mono ?_; rintro e w1 ⟨rfl, P1⟩; replace P1 := hide ((PW.out _ (by first | exact Below.refl _ _ | exact bplus (Below.refl _ _) _)).trans P1))
    | (go_at_call 47; refine (wbyte_any B b _ 37 _ P1.out.bd LW.out (P1.out.size hB)).mono ?_; rintro e w2 ⟨rfl, P2⟩; replace P1 := hide (P1.out.trans P2)))
  go_end0
  refine ⟨rfl, ?_⟩
  have := P1.out
  rw [List.append_assoc] at this
  exact this
end Go.Proofs.YtbdacepomdlcbaaGreatDoor
set_option linter.unusedVariables false
set_option linter.unusedSimpArgs false
namespace Go.Proofs.YtbdacepomdlcbaaGreatDoor
open Go.RowKit Go.Shelf

theorem cv34 (W : World) : (convert 5 9 (.int .u8 34)).run Tryz.prog W = .ok (.string ⟨#[34]⟩) W := by kernel_rfl
theorem cv92 (W : World) : (convert 5 9 (.int .u8 92)).run Tryz.prog W = .ok (.string ⟨#[92]⟩) W := by kernel_rfl
def qtL (l : List Int) : List Int := l.flatMap qtT
theorem qt_take {ls : List Int} {k : Nat} (h : k < ls.length) : qtL (ls.take (k + 1)) = qtL (ls.take k) ++ qtT (gt ls k) := by
  unfold qtL
  rw [List.take_succ_eq_append_getElem h, List.flatMap_append, gt_eq h]
  simp
/-- The state of the loop over letters. -/
def RelQs (ls : List Int) (w : World) (i s : Value) (wr : World) : Prop := ∃ (k : Nat) (t : ByteArray), i = .int .i64 k ∧ s = .string t ∧ k ≤ ls.length ∧ t.size ≤ 6 * k + 1 ∧ Hid (bl t = 34 :: qtL (ls.take k) ∧ Below w.heap.size w wr)
theorem RelQs.mk {ls : List Int} {w : World} {i s : Value} {wr : World} (k : Nat) (t : ByteArray) (h1 : i = .int .i64 k) (h2 : s = .string t) (h3 : k ≤ ls.length) (h5 : t.size ≤ 6 * k + 1) (h4 : bl t = 34 :: qtL (ls.take k) ∧ Below w.heap.size w wr) : RelQs ls w i s wr := ⟨k, t, h1, h2, h3, h5, h4⟩
set_option maxRecDepth 100000 in
set_option maxHeartbeats 2000000 in
theorem quoted4_any (s : ByteArray) (w : World) (hs : s.size ≤ 1099511627776) (hch : chB (bl s) = true) (hT : Tabs w) :
    Calls Tryz.prog 53 #[.string s] w fun e w' => ∃ u, e = .returned (.string u) ∧ bl u = 34 :: (qtL (raw (bl s)) ++ [34]) ∧ Below w.heap.size w w' := by
  have C := hide (charsR_any s w hs)
  have HT0 := hide hT
  have HCH := hide hch
  have hw : whole (bl s) = true := ch_whole hch
  have IC := hide (raw_isC4 _ (bl s) (Nat.le_refl _) (bl_by s) hw)
  have LN := hide (show (raw (bl s)).length ≤ 1099511627776 by have := raw_le (bl s); rw [bl_len] at this; omega)
  clear hT hch hw
  go_enter Tryz.func53, Tryz.ntmps53
  go_wp2_with fail
  go_at_call 51
  refine C.out.mono ?_
  rintro e w1 ⟨a, n, c, rfl, hN, B1⟩
  replace hN := hN HCH.out
  replace B1 := hide B1
  have HT := hide (HT0.out.below B1.out)
  obtain ⟨ls, hls⟩ : ∃ ls, raw (bl s) = ls := ⟨_, rfl⟩
  rw [hls] at hN IC LN
  replace hls := hide hls
  clear C HT0
  rcases hN with ⟨a', c', e', rfl⟩ | ⟨b, o, n', c', e', hn, h0, hbw, hl, hn9, hc9, hcell⟩
  · simp at e'
    obtain ⟨rfl, rfl, rfl⟩ := e'
    go_wp2
    refine wp_loop_rounds 1 ?_
    rw [rounds_succ]
    go_wp2
    go_ret
    exact ⟨_, rfl, by rw [hls.out]; rfl, B1.out⟩
  · simp at e'
    obtain ⟨rfl, rfl, rfl⟩ := e'
    have HC := hide (fun (i : Nat) (hi : i < n) (W : World) (hW : Below w1.heap.size w1 W) => (hW.cell (p := ⟨b, o + i, none⟩) hbw).trans (hcell i hi))
    have HI := hide (fun (k : Nat) (hk : k < n) => IC.out (gt ls k) (by rw [gt_eq (show k < ls.length by omega)]; exact List.getElem_mem _))
    have HN := hide hn
    have hnb : n ≤ 1099511627776 := by have := LN.out; omega
    clear hcell hn
    go_wp2
    go_loopw [15, 5] (fun i t wr => RelQs ls w1 i t wr) (fun i t wr => n - (intOf i).toNat)
    case atStart => exact .mk 0 _ rfl rfl (by omega) (Nat.le_refl _) ⟨rfl, Below.refl _ _⟩
    case round =>
      obtain ⟨k, t, rfl, rfl, k1, ht6, R⟩ := hrel
      rw [← HN.out] at k1
      by_cases hk : k < n
      · have c0 := HC.out k hk wr R.out.2
        have hk' : (k : Int) < n := by omega
        have CC := hide (HI.out k hk)
        have ST := hide (qt_take (ls := ls) (k := k) (by rw [← HN.out]; exact hk))
        obtain ⟨x, hx⟩ : ∃ x, gt ls k = x := ⟨_, rfl⟩
        rw [hx] at c0 CC ST
        have TT := hide (HT.out.below R.out.2)
        clear hx
        have FIN := hide (fun (u : ByteArray) (W : World) (hu : bl u = qtT x) (hW : Below wr.heap.size wr W) => show RelQs ls w1 (.int .i64 ((k + 1 : Nat) : Int)) (.string (t ++ u)) W from
          .mk (k + 1) _ rfl rfl (by rw [← HN.out]; omega) (by
            have e1 : (t ++ u).size = t.size + u.size := by simp
            have e2 : u.size ≤ 6 := by rw [← bl_len, hu]; exact qtT_len x
            omega) ⟨by rw [bl_app, hu, R.out.1, ST.out]; rfl, bto R.out.2 hW⟩)
        cases hh : isHid x with
        | true =>
          have E := hide (show qtT x = esc x by
            unfold qtT
            rw [if_neg (by rintro (rfl | rfl) <;> exact absurd hh (by decide)), if_pos hh])
          have CE := hide (esc4_any x wr (hid_bd hh).1 (hid_bd hh).2 TT.out)
          have LE := hide (show ∀ u : ByteArray, bl u = esc x → u.size ≤ 6 from fun u hu => by rw [← bl_len, hu]; exact esc_len (hid_bd hh).1 (hid_bd hh).2)
          replace hh := hide hh
          go_wp2_with (first
            | (go_at_call 84; refine (hiddenR_any x _).mono ?_; rintro e w2 ⟨rfl, rfl⟩; rw [hh.out])
            | (go_at_call 81; refine CE.out.mono ?_; rintro e w2 ⟨u, rfl, hu, B2⟩; have hz := LE.out u hu; replace hu := hide hu; replace B2 := hide B2))
          go_roundw
          case rel => exact FIN.out u _ (by rw [hu.out, E.out]) B2.out
          case measure => simp [intOf]; omega
        | false =>
          by_cases h1 : x = 34 ∨ x = 92
          · have E := hide (show qtT x = 92 :: enc1 x by unfold qtT; rw [if_pos h1])
            replace hh := hide hh
            have v1 := cv34
            have v2 := cv92
            rcases h1 with rfl | rfl
            · go_wp2_with (go_at_call 84; refine (hiddenR_any _ _).mono ?_; rintro e w2 ⟨rfl, rfl⟩; rw [hh.out])
              go_roundw
              case rel => exact FIN.out ⟨#[92, 34]⟩ _ (by rw [E.out]; decide) (Below.refl _ _)
              case measure => simp [intOf]; omega
            · go_wp2_with (go_at_call 84; refine (hiddenR_any _ _).mono ?_; rintro e w2 ⟨rfl, rfl⟩; rw [hh.out])
              go_roundw
              case rel => exact FIN.out ⟨#[92, 92]⟩ _ (by rw [E.out]; decide) (Below.refl _ _)
              case measure => simp [intOf]; omega
          · have e1 : (x == 34) = false := by simp; exact fun h => h1 (.inl h)
            have e2 : (x == 92) = false := by simp; exact fun h => h1 (.inr h)
            have NL := Nums.lit (k := .i32) wr 21 [x] 1 rfl (by omega) (by omega)
            have CT := hide (text4_one x _ _ CC.out NL)
            have BA := hide (bplus (Below.refl wr.heap.size wr) (.cells #[.int .i32 x] 21))
            have LE := hide (show ∀ u : ByteArray, bl u = enc1 x → u.size ≤ 4 from fun u hu => by rw [← bl_len, hu]; exact (enc1_len x).2)
            have E := hide (show qtT x = enc1 x by unfold qtT; rw [if_neg h1, hh]; rfl)
            clear NL h1
            replace hh := hide hh
            go_wp2_with (first
              | (go_at_call 84; refine (hiddenR_any x _).mono ?_; rintro e w2 ⟨rfl, rfl⟩; rw [hh.out])
              | (go_at_call 86; refine CT.out.mono ?_; rintro e w2 ⟨u, rfl, hu, B2⟩; have hz := LE.out u hu; replace hu := hide hu; replace B2 := hide (bto BA.out B2)))
            go_roundw
            case rel => exact FIN.out u _ (by rw [hu.out, E.out]) B2.out
            case measure => simp [intOf]; omega
      · have hk' : ¬ (k : Int) < n := by omega
        go_wp2
        go_ret
        exact ⟨_, rfl, by rw [bl_app, R.out.1, List.take_of_length_le (by rw [← HN.out]; omega), hls.out]; rfl, bto B1.out R.out.2⟩
end Go.Proofs.YtbdacepomdlcbaaGreatDoor
set_option linter.unusedVariables false
set_option linter.unusedSimpArgs false
namespace Go.Proofs.YtbdacepomdlcbaaGreatDoor
open Go.RowKit Go.Shelf

theorem cu39 (W : World) : (convert 5 9 (.int .u8 39)).run Tryz.prog W = .ok (.string ⟨#[39]⟩) W := by kernel_rfl
theorem cu40 (W : World) : (convert 5 9 (.int .u8 40)).run Tryz.prog W = .ok (.string ⟨#[40]⟩) W := by kernel_rfl
theorem cu41 (W : World) : (convert 5 9 (.int .u8 41)).run Tryz.prog W = .ok (.string ⟨#[41]⟩) W := by kernel_rfl
def urS (c : Int) : Prop := c = 34 ∨ c = 39 ∨ c = 40 ∨ c = 41 ∨ c = 92
instance (c : Int) : Decidable (urS c) := by unfold urS; infer_instance
def urT (c : Int) : List Int := if urS c then 92 :: enc1 c else if isHid c = true ∨ c = 32 then esc c else enc1 c
theorem urT_len (c : Int) : (urT c).length ≤ 6 := by
  have := enc1_len c
  unfold urT
  split
  · simp; omega
  split
  · rename_i h
    rcases h with h | rfl
    · exact esc_len (hid_bd h).1 (hid_bd h).2
    · exact esc_len (by omega) (by omega)
  · omega
def urL (l : List Int) : List Int := l.flatMap urT
theorem ur_take {ls : List Int} {k : Nat} (h : k < ls.length) : urL (ls.take (k + 1)) = urL (ls.take k) ++ urT (gt ls k) := by
  unfold urL
  rw [List.take_succ_eq_append_getElem h, List.flatMap_append, gt_eq h]
  simp
/-- The state of the loop over letters. -/
def RelUs (ls : List Int) (w : World) (i s : Value) (wr : World) : Prop := ∃ (k : Nat) (t : ByteArray), i = .int .i64 k ∧ s = .string t ∧ k ≤ ls.length ∧ t.size ≤ 6 * k + 4 ∧ Hid (bl t = 117 :: 114 :: 108 :: 40 :: urL (ls.take k) ∧ Below w.heap.size w wr)
theorem RelUs.mk {ls : List Int} {w : World} {i s : Value} {wr : World} (k : Nat) (t : ByteArray) (h1 : i = .int .i64 k) (h2 : s = .string t) (h3 : k ≤ ls.length) (h5 : t.size ≤ 6 * k + 4) (h4 : bl t = 117 :: 114 :: 108 :: 40 :: urL (ls.take k) ∧ Below w.heap.size w wr) : RelUs ls w i s wr := ⟨k, t, h1, h2, h3, h5, h4⟩
set_option maxRecDepth 100000 in
set_option maxHeartbeats 2000000 in
theorem url4_any (s : ByteArray) (w : World) (hs : s.size ≤ 1099511627776) (hch : chB (bl s) = true) (hT : Tabs w) :
    Calls Tryz.prog 54 #[.string s] w fun e w' => ∃ u, e = .returned (.string u) ∧ bl u = 117 :: 114 :: 108 :: 40 :: (urL (raw (bl s)) ++ [41]) ∧ Below w.heap.size w w' := by
  have C := hide (charsR_any s w hs)
  have HT0 := hide hT
  have HCH := hide hch
  have hw : whole (bl s) = true := ch_whole hch
  have IC := hide (raw_isC4 _ (bl s) (Nat.le_refl _) (bl_by s) hw)
  have LN := hide (show (raw (bl s)).length ≤ 1099511627776 by have := raw_le (bl s); rw [bl_len] at this; omega)
  clear hT hch hw
  go_enter Tryz.func54, Tryz.ntmps54
  go_wp2_with fail
  go_at_call 51
  refine C.out.mono ?_
  rintro e w1 ⟨a, n, c, rfl, hN, B1⟩
  replace hN := hN HCH.out
  replace B1 := hide B1
  have HT := hide (HT0.out.below B1.out)
  obtain ⟨ls, hls⟩ : ∃ ls, raw (bl s) = ls := ⟨_, rfl⟩
  rw [hls] at hN IC LN
  replace hls := hide hls
  clear C HT0
  rcases hN with ⟨a', c', e', rfl⟩ | ⟨b, o, n', c', e', hn, h0, hbw, hl, hn9, hc9, hcell⟩
  · simp at e'
    obtain ⟨rfl, rfl, rfl⟩ := e'
    go_wp2
    refine wp_loop_rounds 1 ?_
    rw [rounds_succ]
    go_wp2
    go_ret
    exact ⟨_, rfl, by rw [hls.out]; rfl, B1.out⟩
  · simp at e'
    obtain ⟨rfl, rfl, rfl⟩ := e'
    have HC := hide (fun (i : Nat) (hi : i < n) (W : World) (hW : Below w1.heap.size w1 W) => (hW.cell (p := ⟨b, o + i, none⟩) hbw).trans (hcell i hi))
    have HI := hide (fun (k : Nat) (hk : k < n) => IC.out (gt ls k) (by rw [gt_eq (show k < ls.length by omega)]; exact List.getElem_mem _))
    have HN := hide hn
    have hnb : n ≤ 1099511627776 := by have := LN.out; omega
    clear hcell hn
    go_wp2
    go_loopw [15, 5] (fun i t wr => RelUs ls w1 i t wr) (fun i t wr => n - (intOf i).toNat)
    case atStart => exact .mk 0 _ rfl rfl (by omega) (Nat.le_refl _) ⟨rfl, Below.refl _ _⟩
    case round =>
      obtain ⟨k, t, rfl, rfl, k1, ht6, R⟩ := hrel
      rw [← HN.out] at k1
      by_cases hk : k < n
      · have c0 := HC.out k hk wr R.out.2
        have hk' : (k : Int) < n := by omega
        have CC := hide (HI.out k hk)
        have ST := hide (ur_take (ls := ls) (k := k) (by rw [← HN.out]; exact hk))
        obtain ⟨x, hx⟩ : ∃ x, gt ls k = x := ⟨_, rfl⟩
        rw [hx] at c0 CC ST
        have TT := hide (HT.out.below R.out.2)
        clear hx
        have FIN := hide (fun (u : ByteArray) (W : World) (hu : bl u = urT x) (hW : Below wr.heap.size wr W) => show RelUs ls w1 (.int .i64 ((k + 1 : Nat) : Int)) (.string (t ++ u)) W from
          .mk (k + 1) _ rfl rfl (by rw [← HN.out]; omega) (by
            have e1 : (t ++ u).size = t.size + u.size := by simp
            have e2 : u.size ≤ 6 := by rw [← bl_len, hu]; exact urT_len x
            omega) ⟨by rw [bl_app, hu, R.out.1, ST.out]; rfl, bto R.out.2 hW⟩)
        by_cases h1 : urS x
        · have E := hide (show urT x = 92 :: enc1 x by unfold urT; rw [if_pos h1])
          have v1 := cv34
          have v2 := cv92
          have v3 := cu39
          have v4 := cu40
          have v5 := cu41
          have hh : isHid x = false := by rcases h1 with rfl | rfl | rfl | rfl | rfl <;> decide
          replace hh := hide hh
          rcases h1 with rfl | rfl | rfl | rfl | rfl
          · go_wp2_with (go_at_call 84; refine (hiddenR_any _ _).mono ?_; rintro e w2 ⟨rfl, rfl⟩; rw [hh.out])
            go_roundw
            case rel => exact FIN.out ⟨#[92, 34]⟩ _ (by rw [E.out]; decide) (Below.refl _ _)
            case measure => simp [intOf]; omega
          · go_wp2_with (go_at_call 84; refine (hiddenR_any _ _).mono ?_; rintro e w2 ⟨rfl, rfl⟩; rw [hh.out])
            go_roundw
            case rel => exact FIN.out ⟨#[92, 39]⟩ _ (by rw [E.out]; decide) (Below.refl _ _)
            case measure => simp [intOf]; omega
          · go_wp2_with (go_at_call 84; refine (hiddenR_any _ _).mono ?_; rintro e w2 ⟨rfl, rfl⟩; rw [hh.out])
            go_roundw
            case rel => exact FIN.out ⟨#[92, 40]⟩ _ (by rw [E.out]; decide) (Below.refl _ _)
            case measure => simp [intOf]; omega
          · go_wp2_with (go_at_call 84; refine (hiddenR_any _ _).mono ?_; rintro e w2 ⟨rfl, rfl⟩; rw [hh.out])
            go_roundw
            case rel => exact FIN.out ⟨#[92, 41]⟩ _ (by rw [E.out]; decide) (Below.refl _ _)
            case measure => simp [intOf]; omega
          · go_wp2_with (go_at_call 84; refine (hiddenR_any _ _).mono ?_; rintro e w2 ⟨rfl, rfl⟩; rw [hh.out])
            go_roundw
            case rel => exact FIN.out ⟨#[92, 92]⟩ _ (by rw [E.out]; decide) (Below.refl _ _)
            case measure => simp [intOf]; omega
        · by_cases h2 : isHid x = true ∨ x = 32
          · have E := hide (show urT x = esc x by unfold urT; rw [if_neg h1, if_pos h2])
            have bd : 0 ≤ x ∧ x < 65536 := by
              rcases h2 with h | rfl
              · exact hid_bd h
              · omega
            have CE := hide (esc4_any x wr bd.1 bd.2 TT.out)
            have LE := hide (show ∀ u : ByteArray, bl u = esc x → u.size ≤ 6 from fun u hu => by rw [← bl_len, hu]; exact esc_len bd.1 bd.2)
            clear h1 bd
            cases hh : isHid x with
            | true =>
              replace hh := hide hh
              clear h2
              go_wp2_with (first
                | (go_at_call 84; refine (hiddenR_any x _).mono ?_; rintro e w2 ⟨rfl, rfl⟩; rw [hh.out])
                | (go_at_call 81; refine CE.out.mono ?_; rintro e w2 ⟨u, rfl, hu, B2⟩; have hz := LE.out u hu; replace hu := hide hu; replace B2 := hide B2))
              go_roundw
              case rel => exact FIN.out u _ (by rw [hu.out, E.out]) B2.out
              case measure => simp [intOf]; omega
            | false =>
              obtain rfl : x = 32 := by rcases h2 with h | h; · rw [h] at hh; cases hh
                                        · exact h
              replace hh := hide hh
              clear h2
              go_wp2_with (first
                | (go_at_call 84; refine (hiddenR_any _ _).mono ?_; rintro e w2 ⟨rfl, rfl⟩; rw [hh.out])
                | (go_at_call 81; refine CE.out.mono ?_; rintro e w2 ⟨u, rfl, hu, B2⟩; have hz := LE.out u hu; replace hu := hide hu; replace B2 := hide B2))
              go_roundw
              case rel => exact FIN.out u _ (by rw [hu.out, E.out]) B2.out
              case measure => simp [intOf]; omega
          · have hh : isHid x = false := by simpa using fun h => h2 (.inl h)
            have e0 : (x == 32) = false := by simp; exact fun h => h2 (.inr h)
            have e1 : (x == 34) = false := by simp; exact fun h => h1 (.inl h)
            have e2 : (x == 39) = false := by simp; exact fun h => h1 (.inr (.inl h))
            have e3 : (x == 40) = false := by simp; exact fun h => h1 (.inr (.inr (.inl h)))
            have e4 : (x == 41) = false := by simp; exact fun h => h1 (.inr (.inr (.inr (.inl h))))
            have e5 : (x == 92) = false := by simp; exact fun h => h1 (.inr (.inr (.inr (.inr h))))
            have NL := Nums.lit (k := .i32) wr 21 [x] 1 rfl (by omega) (by omega)
            have CT := hide (text4_one x _ _ CC.out NL)
            have BA := hide (bplus (Below.refl wr.heap.size wr) (.cells #[.int .i32 x] 21))
            have LE := hide (show ∀ u : ByteArray, bl u = enc1 x → u.size ≤ 4 from fun u hu => by rw [← bl_len, hu]; exact (enc1_len x).2)
            have E := hide (show urT x = enc1 x by unfold urT; rw [if_neg h1, if_neg h2])
            clear NL h1 h2
            replace hh := hide hh
            go_wp2_with (first
              | (go_at_call 84; refine (hiddenR_any x _).mono ?_; rintro e w2 ⟨rfl, rfl⟩; rw [hh.out])
              | (go_at_call 86; refine CT.out.mono ?_; rintro e w2 ⟨u, rfl, hu, B2⟩; have hz := LE.out u hu; replace hu := hide hu; replace B2 := hide (bto BA.out B2)))
            go_roundw
            case rel => exact FIN.out u _ (by rw [hu.out, E.out]) B2.out
            case measure => simp [intOf]; omega
      · have hk' : ¬ (k : Int) < n := by omega
        go_wp2
        go_ret
        exact ⟨_, rfl, by rw [bl_app, R.out.1, List.take_of_length_le (by rw [← HN.out]; omega), hls.out]; rfl, bto B1.out R.out.2⟩
end Go.Proofs.YtbdacepomdlcbaaGreatDoor
set_option linter.unusedVariables false
set_option linter.unusedSimpArgs false
namespace Go.Proofs.YtbdacepomdlcbaaGreatDoor
open Go.RowKit Go.Shelf

def qsB : ByteArray := ⟨#[34, 39, 40, 41, 92]⟩
theorem qs_low : ∀ n : Fin 128, decide (0 ≤ Lib.indexByte qsB.data.toList (n.val : Nat).toUInt8) = decide (urS (n.val : Int)) := by decide +kernel
theorem qs_ascii (c : Int) (h0 : 0 ≤ c) (h1 : c < 128) : decide (0 ≤ Lib.indexByte qsB.data.toList c.toNat.toUInt8) = decide (urS c) := by
  have := qs_low ⟨c.toNat, by omega⟩
  rw [show ((c.toNat : Nat) : Int) = c by omega] at this
  exact this
theorem qs_high {c : Int} (h : 128 ≤ c) : decide (urS c) = false := by
  rw [decide_eq_false_iff_not]; unfold urS; omega
theorem idx_none (l : List UInt8) (c : UInt8) (h : ∀ x ∈ l, x ≠ c) : Lib.indexByte l c = -1 := by
  induction l with
  | nil => rfl
  | cons y t ih =>
    have h1 : (y == c) = false := by simpa using h y (by simp)
    simp only [Lib.indexByte, h1, Bool.false_eq_true, if_false]
    rw [ih fun x hx => h x (by simp [hx])]
    rfl
theorem qs_tail : ∀ k : Fin 6, ∀ x ∈ (qsB.extract k.val 5).data.toList, x.toNat < 128 := by decide +kernel
theorem qs_none (k : Nat) (hk : k < 6) (c : UInt8) (hc : 128 ≤ c.toNat) : Lib.indexByte (qsB.extract k 5).data.toList c = -1 :=
  idx_none _ _ fun x hx h => by have := qs_tail ⟨k, hk⟩ x hx; rw [h] at this; omega
theorem valid_isC {c : Int} (h : isC c = true) : Utf8.valid c = true := by
  rw [validRune_eq]
  unfold validRune
  have := (isC_iff c).1 h
  exact decide_eq_true (by omega)
theorem validR_any (c : Int) (w : World) (h : isC c = true) : Calls Tryz.prog 146 #[.int .i32 c] w fun e w' => e = .returned (.bool true) ∧ w' = w := by
  have hi := (isC_iff c).1 h
  rcases hi.2.2 with g | g
  · have h0 := hi.1
    clear h hi
    go_enter Tryz.func146, Tryz.ntmps146
    go_wp2
    go_ret
    exact ⟨rfl, rfl⟩
  · have h0 := hi.1
    have h1 := hi.2.1
    have h2 : ¬ c < 55296 := by omega
    clear h hi
    go_enter Tryz.func146, Tryz.ntmps146
    go_wp2
    go_ret
    exact ⟨rfl, rfl⟩
def RelIx (w : World) (wr : World) : Prop := ∃ p : Nat, p ≤ 5 ∧ Hid (wr.heap[w.heap.size]? = some (.stringIter ⟨#[34, 39, 40, 41, 92]⟩ p) ∧ Below w.heap.size w wr)
theorem RelIx.mk {w wr : World} (p : Nat) (h1 : p ≤ 5) (h2 : wr.heap[w.heap.size]? = some (.stringIter ⟨#[34, 39, 40, 41, 92]⟩ p) ∧ Below w.heap.size w wr) : RelIx w wr := ⟨p, h1, h2⟩
def qx (p : Nat) : Int := [34, 39, 40, 41, 92].getD p 0
theorem qx_dec : ∀ p : Fin 5, Utf8.decode ⟨#[34, 39, 40, 41, 92]⟩ p.val = ((qx p.val).toNat, 1) ∧ (((qx p.val).toNat : Int) == 65533) = false := by decide +kernel
theorem qx_let (p : Nat) (h : p < 5) : ∃ x : Int, (∃ y : Nat, Utf8.decode ⟨#[34, 39, 40, 41, 92]⟩ p = (y, 1) ∧ (y : Int) = x) ∧ (x == 65533) = false := ⟨_, ⟨_, (qx_dec ⟨p, h⟩).1, rfl⟩, (qx_dec ⟨p, h⟩).2⟩
set_option maxRecDepth 100000 in
set_option maxHeartbeats 2000000 in
theorem index_bad (w : World) : Calls Tryz.prog 124 #[.string ⟨#[34, 39, 40, 41, 92]⟩, .int .i32 65533] w fun e w' => e = .returned (.int .i64 (-1)) ∧ Below w.heap.size w w' := by
  have ST := hide (show (w.alloc (.stringIter ⟨#[34, 39, 40, 41, 92]⟩ 0)).heap[w.heap.size]? = some (.stringIter ⟨#[34, 39, 40, 41, 92]⟩ 0) ∧ Below w.heap.size w (w.alloc (.stringIter ⟨#[34, 39, 40, 41, 92]⟩ 0)) from ⟨heap_alloc_new w _, bplus (Below.refl _ _) _⟩)
  go_enter Tryz.func124, Tryz.ntmps124
  go_wp2
  go_loopw [] (fun wr => RelIx w wr) (fun wr => 5 - wr.iterPos w.heap.size)
  case atStart => exact .mk 0 (by omega) ST.out
  case round =>
    clear ST
    obtain ⟨p, hp, H⟩ := id hrel
    clear hrel
    by_cases hlt : p < 5
    · obtain ⟨x, ⟨y, D1, Dy⟩, D2⟩ := qx_let p hlt
      have IP := hide (show wr.iterPos w.heap.size = p by simp only [World.iterPos, H.out.1])
      have NX := hide (show (wr.iterAt w.heap.size ⟨#[34, 39, 40, 41, 92]⟩ (p + 1)).heap[w.heap.size]? = some (.stringIter ⟨#[34, 39, 40, 41, 92]⟩ (p + 1)) ∧ Below w.heap.size w (wr.iterAt w.heap.size ⟨#[34, 39, 40, 41, 92]⟩ (p + 1)) from ⟨Lib.iterAt_heap wr w.heap.size _ p (p + 1) H.out.1, Lib.below_iterAt H.out.2 (Nat.le_refl _) _ _⟩)
      have hnx : ∀ ty, (Instr.next (.pointer (some ⟨w.heap.size, 0, none⟩)) true ty).run Tryz.prog wr = .ok (.tuple #[.bool true, .int .i64 (p : Int), .int .i32 x]) (wr.iterAt w.heap.size ⟨#[34, 39, 40, 41, 92]⟩ (p + 1)) := fun ty => by
        rw [Lib.run_next_any_at wr w.heap.size _ p ty H.out.1 hlt, D1, ← Dy]
      clear D1 H Dy
      go_wp2
      go_roundw
      case rel => exact .mk (p + 1) hlt NX.out
      case measure => rw [IP.out]; simp only [World.iterPos, NX.out.1]; omega
    · have hnx : ∀ ty, (Instr.next (.pointer (some ⟨w.heap.size, 0, none⟩)) true ty).run Tryz.prog wr = _ := fun ty => Lib.run_next_end_at wr w.heap.size ⟨#[34, 39, 40, 41, 92]⟩ p ty H.out.1 hlt
      go_wp2
      go_ret
      exact ⟨rfl, H.out.2⟩
theorem qi1 : (((⟨#[34, 39, 40, 41, 92]⟩ : ByteArray)[1]).toNat : Int) = 39 := by kernel_rfl
theorem qi2 : (((⟨#[34, 39, 40, 41, 92]⟩ : ByteArray)[2]).toNat : Int) = 40 := by kernel_rfl
theorem qi3 : (((⟨#[34, 39, 40, 41, 92]⟩ : ByteArray)[3]).toNat : Int) = 41 := by kernel_rfl
set_option maxRecDepth 100000 in
set_option maxHeartbeats 2000000 in
theorem index_high (c : Int) (w : World) (hc : isC c = true) (h : 128 ≤ c) (h3 : c ≠ 65533) : Calls Tryz.prog 124 #[.string ⟨#[34, 39, 40, 41, 92]⟩, .int .i32 c] w fun e w' => e = .returned (.int .i64 (-1)) ∧ Below w.heap.size w w' := by
  have hi := (isC_iff c).1 hc
  have n1 : ¬ c < 128 := by omega
  have n0 : 0 ≤ c := hi.1
  have e1 : (c == 65533) = false := by simpa using h3
  have V := hide (validR_any c w hc)
  obtain ⟨s2, s4, hl⟩ := encode_facts c (valid_isC hc) h
  have q1 := qi1
  have q2 := qi2
  have q3 := qi3
  have hcv : ∀ W : World, (convert 21 9 (.int .i32 c)).run Tryz.prog W = .ok (.string (Utf8.encode c)) W := fun W => run_convert_int_string W _ _ .i32 c (by kernel_rfl) Tryz.underlying9
  clear hc hi h3 h
  rcases (show (Utf8.encode c).size = 2 ∨ (Utf8.encode c).size = 3 ∨ (Utf8.encode c).size = 4 by omega) with hz | hz | hz
  · have hk : 1 < (Utf8.encode c).size := by omega
    have hb : 128 ≤ ((Utf8.encode c)[1]'hk).toNat := by have := hl (by omega); simp only [hz] at this; exact this
    have eq1 : ((39 : Int) == (((Utf8.encode c)[1]'hk).toNat : Int)) = false := by rw [beq_eq_false_iff_ne]; omega
    have C0 := fun (W : World) => sh_strings_IndexByte (qsB.extract 2 5) ((((Utf8.encode c)[1]'hk).toNat : Nat) : Int) W
    have R := hide (show Lib.indexByte (qsB.extract 2 5).data.toList ((((Utf8.encode c)[1]'hk).toNat : Nat) : Int).toNat.toUInt8 = -1 by rw [show ((((Utf8.encode c)[1]'hk).toNat : Nat) : Int).toNat.toUInt8 = (Utf8.encode c)[1]'hk by simp]; exact qs_none 2 (by omega) _ hb)
    simp only [R.out] at C0
    have C := hide C0
    clear C0 R
    clear hl s2 s4 hb
    go_enter Tryz.func124, Tryz.ntmps124
    go_wp2_with (go_at_call 146; refine V.out.mono ?_; rintro e w1 ⟨rfl, rfl⟩)
    go_step3
    go_wp2
    refine wp_loop_rounds 1 ?_
    rw [rounds_succ]
    go_wp2
    go_step3
    go_wp2
    go_quiet (fail)
    have B9 := hide (below_drewN (Below.refl w1.heap.size w1) nq)
    revert B9
    generalize w1.drewN nq = w9
    intro B9
    go_wp2
    go_quiet ((go_at_call 145; exact Calls.quiet_of_same (C.out _)))
    go_wp2
    rw [Exit.noGoto_ret]
    go_wp2
    rw [Exit.noGoto_ret]
    go_ret
    exact ⟨rfl, below_drewN B9.out _⟩
  · have hk : 2 < (Utf8.encode c).size := by omega
    have hb : 128 ≤ ((Utf8.encode c)[2]'hk).toNat := by have := hl (by omega); simp only [hz] at this; exact this
    have eq1 : ((40 : Int) == (((Utf8.encode c)[2]'hk).toNat : Int)) = false := by rw [beq_eq_false_iff_ne]; omega
    have C0 := fun (W : World) => sh_strings_IndexByte (qsB.extract 3 5) ((((Utf8.encode c)[2]'hk).toNat : Nat) : Int) W
    have R := hide (show Lib.indexByte (qsB.extract 3 5).data.toList ((((Utf8.encode c)[2]'hk).toNat : Nat) : Int).toNat.toUInt8 = -1 by rw [show ((((Utf8.encode c)[2]'hk).toNat : Nat) : Int).toNat.toUInt8 = (Utf8.encode c)[2]'hk by simp]; exact qs_none 3 (by omega) _ hb)
    simp only [R.out] at C0
    have C := hide C0
    clear C0 R
    clear hl s2 s4 hb
    go_enter Tryz.func124, Tryz.ntmps124
    go_wp2_with (go_at_call 146; refine V.out.mono ?_; rintro e w1 ⟨rfl, rfl⟩)
    go_step3
    go_wp2
    refine wp_loop_rounds 1 ?_
    rw [rounds_succ]
    go_wp2
    go_step3
    go_wp2
    go_quiet (fail)
    have B9 := hide (below_drewN (Below.refl w1.heap.size w1) nq)
    revert B9
    generalize w1.drewN nq = w9
    intro B9
    go_wp2
    go_quiet ((go_at_call 145; exact Calls.quiet_of_same (C.out _)))
    go_wp2
    rw [Exit.noGoto_ret]
    go_wp2
    rw [Exit.noGoto_ret]
    go_ret
    exact ⟨rfl, below_drewN B9.out _⟩
  · have hk : 3 < (Utf8.encode c).size := by omega
    have hb : 128 ≤ ((Utf8.encode c)[3]'hk).toNat := by have := hl (by omega); simp only [hz] at this; exact this
    have eq1 : ((41 : Int) == (((Utf8.encode c)[3]'hk).toNat : Int)) = false := by rw [beq_eq_false_iff_ne]; omega
    have C0 := fun (W : World) => sh_strings_IndexByte (qsB.extract 4 5) ((((Utf8.encode c)[3]'hk).toNat : Nat) : Int) W
    have R := hide (show Lib.indexByte (qsB.extract 4 5).data.toList ((((Utf8.encode c)[3]'hk).toNat : Nat) : Int).toNat.toUInt8 = -1 by rw [show ((((Utf8.encode c)[3]'hk).toNat : Nat) : Int).toNat.toUInt8 = (Utf8.encode c)[3]'hk by simp]; exact qs_none 4 (by omega) _ hb)
    simp only [R.out] at C0
    have C := hide C0
    clear C0 R
    clear hl s2 s4 hb
    go_enter Tryz.func124, Tryz.ntmps124
    go_wp2_with (go_at_call 146; refine V.out.mono ?_; rintro e w1 ⟨rfl, rfl⟩)
    go_step3
    go_wp2
    refine wp_loop_rounds 1 ?_
    rw [rounds_succ]
    go_wp2
    go_step3
    go_wp2
    go_quiet (fail)
    have B9 := hide (below_drewN (Below.refl w1.heap.size w1) nq)
    revert B9
    generalize w1.drewN nq = w9
    intro B9
    go_wp2
    go_quiet ((go_at_call 145; exact Calls.quiet_of_same (C.out _)))
    go_wp2
    rw [Exit.noGoto_ret]
    go_wp2
    rw [Exit.noGoto_ret]
    go_ret
    exact ⟨rfl, below_drewN B9.out _⟩
set_option maxRecDepth 100000 in
set_option maxHeartbeats 1000000 in
theorem contains_any (c : Int) (w : World) (hc : isC c = true) : Calls Tryz.prog 103 #[.string ⟨#[34, 39, 40, 41, 92]⟩, .int .i32 c] w fun e w' => e = .returned (.bool (decide (urS c))) ∧ Below w.heap.size w w' := by
  have hi := (isC_iff c).1 hc
  by_cases h : c < 128
  · refine (sh_strings_ContainsRune_ascii ⟨#[34, 39, 40, 41, 92]⟩ c w hi.1 h).mono ?_
    rintro e w1 ⟨rfl, rfl⟩
    exact ⟨ret_bool (qs_ascii c hi.1 h), Below.refl _ _⟩
  · have C : Hid (Calls Tryz.prog 124 #[.string ⟨#[34, 39, 40, 41, 92]⟩, .int .i32 c] w fun e w' => e = .returned (.int .i64 (-1)) ∧ Below w.heap.size w w') := by
      by_cases h3 : c = 65533
      · subst h3; exact index_bad w
      · exact index_high c w hc (by omega) h3
    have E := hide (qs_high (c := c) (by omega))
    clear hi hc h
    go_enter Tryz.func103, Tryz.ntmps103
    go_wp2_with (go_at_call 124; refine C.out.mono ?_; rintro e w1 ⟨rfl, B1⟩; replace B1 := hide B1)
    go_ret
    exact ⟨ret_bool (by rw [E.out]), B1.out⟩
end Go.Proofs.YtbdacepomdlcbaaGreatDoor
