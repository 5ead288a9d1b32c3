/-
  Tokens, written: by the program.
  One identifier, written.
  The law of identifiers.
  The law of identifiers.
-/
import Derived.Test.YtbdacepomdlcbaaGreatDoorJq
import Derived.Test.YtbdacepomdlcbaaGreatDoorJr
import Derived.Test.YtbdacepomdlcbaaGreatDoorJt
set_option linter.unusedVariables false
set_option linter.unusedSimpArgs false
namespace Go.Proofs.YtbdacepomdlcbaaGreatDoor
open Go.RowKit Go.Shelf

structure TS where
  k : Int
  s : ByteArray
  n : Int
  d : Int
  i : Bool
  h : Bool
def TS.v (t : TS) : Value := tokV t.k t.s t.n t.d t.i t.h
def TS.may (t : TS) : Bool := mayT t.k (bl t.s) t.n t.d t.i t.h
structure TS.Ok (t : TS) : Prop where
  k1 : -9223372036854775808 ≤ t.k
  k2 : t.k ≤ 9223372036854775807
  hs : t.s.size ≤ 1099511627776
  n1 : -9223372036854775808 ≤ t.n
  n2 : t.n ≤ 9223372036854775807
  d1 : -9223372036854775808 ≤ t.d
  d2 : t.d ≤ 9223372036854775807
structure Six4 (w : World) (b o : Nat) (t : TS) : Prop where
  c0 : w.cell? ⟨b, o, none⟩ = some (.int .i64 t.k)
  c1 : w.cell? ⟨b, o + 1, none⟩ = some (.string t.s)
  c2 : w.cell? ⟨b, o + 2, none⟩ = some (.int .i64 t.n)
  c3 : w.cell? ⟨b, o + 3, none⟩ = some (.int .i64 t.d)
  c4 : w.cell? ⟨b, o + 4, none⟩ = some (.bool t.i)
  c5 : w.cell? ⟨b, o + 5, none⟩ = some (.bool t.h)
theorem Six4.below {w w' : World} {b o : Nat} {t : TS} (h : Six4 w b o t) {B : Nat} (hb : Below B w w') (hB : b < B) : Six4 w' b o t := by
  obtain ⟨c0, c1, c2, c3, c4, c5⟩ := h
  exact ⟨(hb.cell (p := ⟨b, o, none⟩) hB).trans c0, (hb.cell (p := ⟨b, o + 1, none⟩) hB).trans c1, (hb.cell (p := ⟨b, o + 2, none⟩) hB).trans c2, (hb.cell (p := ⟨b, o + 3, none⟩) hB).trans c3, (hb.cell (p := ⟨b, o + 4, none⟩) hB).trans c4, (hb.cell (p := ⟨b, o + 5, none⟩) hB).trans c5⟩
def boxT (t : TS) : Obj := .cells #[.int .i64 t.k, .string t.s, .int .i64 t.n, .int .i64 t.d, .bool t.i, .bool t.h] 41
theorem tok_box {w : World} {b : Nat} {t : TS} (h : w.heap[b]? = some (boxT t)) : Tok6 w b t.k t.s t.n t.d t.i t.h :=
  ⟨(Array.getElem?_eq_some_iff.1 h).1, by rw [row_blk h]; rfl, by rw [row_blk h]; rfl, by rw [row_blk h]; rfl, by rw [row_blk h]; rfl, by rw [row_blk h]; rfl, by rw [row_blk h]; rfl⟩
def S6 (b : Nat) (t : TS) (w : World) : Prop := w.cell? ⟨b, 0, none⟩ = some (.int .i64 t.k) ∧ w.cell? ⟨b, 1, none⟩ = some (.string t.s) ∧ w.cell? ⟨b, 2, none⟩ = some (.int .i64 t.n) ∧ w.cell? ⟨b, 3, none⟩ = some (.int .i64 t.d) ∧ w.cell? ⟨b, 4, none⟩ = some (.bool t.i) ∧ w.cell? ⟨b, 5, none⟩ = some (.bool t.h)
theorem keep6 {w w' : World} {b : Nat} {t : TS} (hb : Below w.heap.size w w') (h : w.heap[b]? = some (boxT t)) : S6 b t w' := ((tok_box h).below hb).2
theorem keep12t {w w' : World} {b o c : Nat} {p t : TS} (hb : Below w.heap.size w w') (h : w.heap[c]? = some (boxT t)) (hp : Six4 w b o p) (hbw : b < w.heap.size) :
    w'.cell? ⟨b, o, none⟩ = some (.int .i64 p.k) ∧ w'.cell? ⟨b, o + 1, none⟩ = some (.string p.s) ∧ w'.cell? ⟨b, o + 2, none⟩ = some (.int .i64 p.n) ∧ w'.cell? ⟨b, o + 3, none⟩ = some (.int .i64 p.d) ∧ w'.cell? ⟨b, o + 4, none⟩ = some (.bool p.i) ∧ w'.cell? ⟨b, o + 5, none⟩ = some (.bool p.h) ∧ S6 c t w' := by
  obtain ⟨c0, c1, c2, c3, c4, c5⟩ := hp.below hb hbw
  exact ⟨c0, c1, c2, c3, c4, c5, keep6 hb h⟩
theorem six_box {w : World} {b : Nat} {t : TS} (h : w.heap[b]? = some (boxT t)) : Six4 w b 0 t :=
  ⟨by rw [row_blk h]; rfl, by rw [row_blk h]; rfl, by rw [row_blk h]; rfl, by rw [row_blk h]; rfl, by rw [row_blk h]; rfl, by rw [row_blk h]; rfl⟩
/-- A slice of tokens in memory. -/
def Toks4 (w : World) (v : Value) (ts : List TS) : Prop :=
  (∃ a c, v = .slice a 0 c ∧ ts = []) ∨
  ∃ b o n c, v = .slice (some ⟨b, o, none⟩) n c ∧ n = ts.length ∧ 0 < n ∧ b < w.heap.size ∧ n ≤ c ∧ n ≤ 1000000000000 ∧ c ≤ 9223372036854775807 ∧ ∀ i t, ts[i]? = some t → Six4 w b (o + i * 6) t
/-- The text of the first k tokens. -/
def spK (wt : TS → List Int) (ts : List TS) : Nat → List Int
  | 0 => []
  | k + 1 => spK wt ts k ++ match ts[k]? with
    | none => []
    | some t => (match k with
      | 0 => []
      | j + 1 => match ts[j]? with
        | none => []
        | some p => if apB p.k t.k = true then [47, 42, 42, 47] else []) ++ wt t
theorem spK_zero {wt : TS → List Int} {ts : List TS} {t : TS} (h : ts[0]? = some t) : spK wt ts 1 = spK wt ts 0 ++ wt t := by
  show spK wt ts 0 ++ _ = _
  rw [h]; rfl
theorem spK_apart {wt : TS → List Int} {ts : List TS} {k : Nat} {p t : TS} (h : ts[k + 1]? = some t) (hp : ts[k]? = some p) (ha : apB p.k t.k = true) : spK wt ts (k + 1 + 1) = (spK wt ts (k + 1) ++ [47, 42, 42, 47]) ++ wt t := by
  show spK wt ts (k + 1) ++ _ = _
  rw [h]
  show _ ++ ((match ts[k]? with
        | none => []
        | some p => if apB p.k t.k = true then [47, 42, 42, 47] else []) ++ wt t) = _
  rw [hp]
  show _ ++ ((if apB p.k t.k = true then [47, 42, 42, 47] else []) ++ wt t) = _
  rw [if_pos ha, List.append_assoc]
theorem spK_close {wt : TS → List Int} {ts : List TS} {k : Nat} {p t : TS} (h : ts[k + 1]? = some t) (hp : ts[k]? = some p) (ha : apB p.k t.k = false) : spK wt ts (k + 1 + 1) = spK wt ts (k + 1) ++ wt t := by
  show spK wt ts (k + 1) ++ _ = _
  rw [h]
  show _ ++ ((match ts[k]? with
        | none => []
        | some p => if apB p.k t.k = true then [47, 42, 42, 47] else []) ++ wt t) = _
  rw [hp]
  show _ ++ ((if apB p.k t.k = true then [47, 42, 42, 47] else []) ++ wt t) = _
  rw [ha]; rfl
theorem spK_le (wt : TS → List Int) (ts : List TS) {j k : Nat} (h : j ≤ k) : (spK wt ts j).length ≤ (spK wt ts k).length := by
  induction h with
  | refl => exact Nat.le_refl _
  | step _ ih => exact Nat.le_trans ih (by show _ ≤ (spK wt ts _ ++ _).length; rw [List.length_append]; omega)
def KB (B : Nat) (w : World) : Prop := ∀ W, Below B w W → KT W
/-- How a token is written. -/
def Writes (wt : TS → List Int) (t : TS) : Prop := ∀ B b xs W, Bd B b xs W → xs.length ≤ 35184372088832 → B ≤ W.heap.size → TB B W → KB B W →
  Calls Tryz.prog 40 #[.pointer (some ⟨b, 0, none⟩), t.v] W fun e w' => e = .returned (.tuple #[]) ∧ PB B b (xs ++ wt t) W w'
/-- The state of the loop over tokens. -/
def RelTk (wt : TS → List Int) (ts : List TS) (w : World) (w0 : World) (i : Value) (wr : World) : Prop := ∃ k : Nat, i = .int .i64 k ∧ k ≤ ts.length ∧ Hid (PB w.heap.size w.heap.size (spK wt ts k) w0 wr ∧ ∀ j t, j < k → ts[j]? = some t → t.may = true)
theorem RelTk.mk {wt : TS → List Int} {ts : List TS} {w w0 : World} {i : Value} {wr : World} (k : Nat) (h1 : i = .int .i64 k) (h2 : k ≤ ts.length) (h3 : PB w.heap.size w.heap.size (spK wt ts k) w0 wr ∧ ∀ j t, j < k → ts[j]? = some t → t.may = true) : RelTk wt ts w w0 i wr := ⟨k, h1, h2, h3⟩
def PostSp (wt : TS → List Int) (ts : List TS) (w : World) (e : Ending) (w' : World) : Prop := Below w.heap.size w w' ∧ (((∀ t ∈ ts, t.may = true) ∧ ∃ s, e = .returned (.tuple #[.string s, .int .i64 0]) ∧ bl s = spK wt ts ts.length) ∨ ((∃ t ∈ ts, t.may = false) ∧ e = .returned (.tuple #[.string ⟨#[]⟩, .int .i64 1])))
set_option maxRecDepth 100000 in
set_option maxHeartbeats 2000000 in
theorem tokens_any (wt : TS → List Int) (ts : List TS) (v : Value) (w : World) (hv : Toks4 w v ts) (hok : ∀ t ∈ ts, t.Ok) (hW : ∀ t ∈ ts, t.may = true → Writes wt t) (hby : By (spK wt ts ts.length)) (hl9 : (spK wt ts ts.length).length ≤ 35184372088000) (hK : KT w) (hT : Tabs w) :
    Calls Tryz.prog 18 #[v] w fun e w' => PostSp wt ts w e w' := by
  have B0 := hide (show Bd w.heap.size w.heap.size [] (w.alloc (.cells #[.pointer none, .slice none 0 0] 49)) from Lib.IsBuilderF.of (Lib.fresh_isBuilder 49 5 w))
  have A0 := hide (bplus (Below.refl w.heap.size w) (.cells #[.pointer none, .slice none 0 0] 49))
  rcases hv with ⟨a, c, rfl, rfl⟩ | ⟨b, o, n, c, rfl, hn, h0, hbw, hl, hn9, hc9, hcell⟩
  · go_enter Tryz.func18, Tryz.ntmps18
    go_wp2
    refine wp_loop_rounds 1 ?_
    rw [rounds_succ]
    go_wp2_with (go_at_call 41; refine (bstr_any w.heap.size w.heap.size [] _ (fun x hx => by cases hx) B0.out (by simp)).mono ?_; rintro e w1 ⟨s, rfl, hs, B1⟩; replace hs := hide hs; replace B1 := hide (show Below w.heap.size w w1 from A0.out.trans B1))
    go_ret2
    exact ⟨B1.out, .inl ⟨fun t ht => (by cases ht), s, rfl, hs.out⟩⟩
  · have HN := hide hn
    have HC := hide hcell
    have HOK := hide hok
    have HW := hide hW
    have HBY := hide hby
    have HL := hide hl9
    have P0 := hide (PB.start B0.out)
    obtain ⟨w0, hw0⟩ : ∃ w0, w.alloc (.cells #[.pointer none, .slice none 0 0] 49) = w0 := ⟨_, rfl⟩
    have HB := hide (show w.heap.size ≤ w0.heap.size by rw [← hw0]; simp)
    rw [hw0] at P0 A0
    have TT := hide (show TB w.heap.size w0 from fun W hb => hT.below (A0.out.trans hb))
    have KK := hide (show KB w.heap.size w0 from fun W hb => hK.below (A0.out.trans hb))
    replace hw0 := hide hw0
    clear hn hcell hok hW hby hl9 hK hT B0
    go_enter Tryz.func18, Tryz.ntmps18
    go_wp2
    rw [hw0.out]
    clear hw0
    go_loopw [9] (fun i wr => RelTk wt ts w w0 i wr) (fun i wr => n - (intOf i).toNat)
    case atStart => exact .mk 0 rfl (Nat.zero_le _) ⟨P0.out, fun j t hj => absurd hj (Nat.not_lt_zero _)⟩
    case round =>
      obtain ⟨k, rfl, k1, R⟩ := id hrel
      clear hrel
      rw [← HN.out] at k1
      clear P0
      by_cases hk : k < n
      · obtain ⟨t, ht⟩ : ∃ t, ts[k]? = some t := ⟨_, List.getElem?_eq_getElem (by rw [← HN.out]; exact hk)⟩
        have P1 := hide R.out.1
        have S1 := ((HC.out k t ht).below A0.out hbw).below P1.out.bel hbw
        have hmem : t ∈ ts := List.mem_of_getElem? ht
        have OK := hide (HOK.out t hmem)
        obtain ⟨p0, p1, p2, p3, p4, p5⟩ := id S1
        have hk' : (k : Int) < n := by omega
        have P2 := hide (P1.out.grow HB.out (bplus (Below.refl wr.heap.size wr) (boxT t)))
        have H2 := hide (heap_alloc_new wr (boxT t))
        have hsz := P1.out.size HB.out
        have CM := hide (mayS_any t.k t.s t.n t.d t.i t.h (wr.alloc (boxT t)) OK.out.k1 OK.out.k2 (by have := OK.out.hs; omega) OK.out.n1 OK.out.n2 OK.out.d1 OK.out.d2 (KK.out _ P2.out.bel) (TT.out.on P2.out.bel).here)
        have AL2 := hide (show (wr.alloc (boxT t)).heap.size = wr.heap.size + 1 by simp)
        have HWT := hide (HW.out t hmem)
        unfold tokV at CM
        cases hm : t.may with
        | false =>
          have E := hide (show mayT t.k (bl t.s) t.n t.d t.i t.h = false from hm)
          have FIN := hide (show ∃ t ∈ ts, t.may = false from ⟨t, hmem, hm⟩)
          clear hm hmem ht S1
          unfold boxT at CM
          go_wp2_with (go_at_call 37; refine CM.out.mono ?_; rintro e w1 ⟨rfl, B1⟩; rw [E.out]; replace B1 := hide (show Below w.heap.size w w1 from A0.out.trans (P2.out.grow HB.out B1).bel))
          go_ret2
          exact ⟨B1.out, .inr ⟨FIN.out, rfl⟩⟩
        | true =>
          have E := hide (show mayT t.k (bl t.s) t.n t.d t.i t.h = true from hm)
          have MAY := hide (show ∀ j t, j < k + 1 → ts[j]? = some t → t.may = true from fun j t' hj h' => by
            by_cases hjk : j < k
            · exact R.out.2 j t' hjk h'
            · obtain rfl : j = k := by omega
              rw [ht] at h'; cases h'; exact hm)
          have LK := hide (show (spK wt ts k).length ≤ 35184372088000 from Nat.le_trans (spK_le wt ts (by rw [← HN.out]; exact k1)) HL.out)
          have WT := hide (HWT.out hm)
          have HT9 := hide ht
          have NT := hide (show wr.heap.size ≠ w.heap.size by have := P1.out.bd.lt; omega)
          clear hm hmem ht S1 HWT
          unfold boxT at CM
          have FIN := hide (show ∀ W xs, spK wt ts (k + 1) = xs → PB w.heap.size w.heap.size xs w0 W → RelTk wt ts w w0 (.int .i64 ((k + 1 : Nat) : Int)) W from fun W xs hx hP => .mk (k + 1) rfl (by rw [← HN.out]; omega) ⟨by rw [hx]; exact hP, MAY.out⟩)
          by_cases hz : k = 0
          · have ST := hide (show spK wt ts (k + 1) = spK wt ts k ++ wt t by subst hz; exact spK_zero (wt := wt) HT9.out)
            have hkz : decide (0 < k) = false := by simp; exact hz
            clear hz
            go_wp2_with (go_at_call 37; refine CM.out.mono ?_; rintro e w1 ⟨rfl, B1⟩; rw [E.out]; replace H2 := hide ((B1.block wr.heap.size (by simp)).trans H2.out); replace P2 := hide (P2.out.grow HB.out B1); clear B1)
            obtain ⟨q9, q0, q1, q2, q3, q4, q5⟩ := tok_box H2.out
            go_quiet (fail)
            replace P2 := hide (P2.out.grow HB.out (below_drewN (Below.refl _ _) nq))
            go_wp2_with (go_at_call 40; refine (WT.out w.heap.size w.heap.size _ _ P2.out.bd (by have := LK.out; omega) (P2.out.size HB.out) (TT.out.on P2.out.bel) (fun W hb => KK.out W (P2.out.bel.trans hb))).mono ?_; rintro e w4 ⟨rfl, P4⟩; replace P2 := hide (P2.out.trans P4); clear P4)
            go_roundw
            case rel => exact FIN.out _ _ ST.out P2.out
            case measure => simp [intOf]; omega
          · obtain ⟨j, hj⟩ : ∃ j, k = j + 1 := ⟨k - 1, by omega⟩
            obtain ⟨p, hp⟩ : ∃ p, ts[j]? = some p := ⟨_, List.getElem?_eq_getElem (by rw [← HN.out]; omega)⟩
            have hpm : p ∈ ts := List.mem_of_getElem? hp
            have OP := hide (HOK.out p hpm)
            have SP := hide ((HC.out j p hp).below A0.out hbw)
            have SAP := hide (fun (ha : apB p.k t.k = true) => show spK wt ts (k + 1) = (spK wt ts k ++ [47, 42, 42, 47]) ++ wt t by subst hj; exact spK_apart HT9.out hp ha)
            have SCL := hide (fun (ha : apB p.k t.k = false) => show spK wt ts (k + 1) = spK wt ts k ++ wt t by subst hj; exact spK_close HT9.out hp ha)
            have hkz : (0 : Int) < k := by omega
            have hkd : decide (0 < k) = true := by simp; omega
            have hkn : 0 < k := by omega
            have hki : IntKind.i64.wrap ((k : Int) - 1) = (j : Int) := by rw [show (k : Int) - 1 = j by omega]; simp [IntKind.wrap, go_sem]; omega
            have hj0 : (0 : Int) ≤ j := by omega
            have hjn : (j : Int) < n := by omega
            have hj9 : j < n := by omega
            clear hz hj hp hpm
            go_wp2_with (go_at_call 37; refine CM.out.mono ?_; rintro e w1 ⟨rfl, B1⟩; rw [E.out]; replace H2 := hide ((B1.block wr.heap.size (by simp)).trans H2.out); replace P2 := hide (P2.out.grow HB.out B1); clear B1)
            have SP1 := hide (SP.out.below P2.out.bel hbw)
            have CA := hide (fun (W : World) (hb : Below w1.heap.size w1 W) => apartS_any p.k p.s p.n p.d p.i p.h t.k t.s t.n t.d t.i t.h W OP.out.k1 OP.out.k2 OK.out.k1 OK.out.k2 (KK.out W (P2.out.grow HB.out hb).bel))
            have hb1 : b < w1.heap.size := Nat.lt_of_lt_of_le hbw (P2.out.size HB.out)
            unfold tokV at CA
            have GR := hide (fun (W : World) (hb : Below w1.heap.size w1 W) => show PB w.heap.size w.heap.size (spK wt ts k) w0 W ∧ W.heap[wr.heap.size]? = some (boxT t) from ⟨P2.out.grow HB.out hb, (hb.block _ (Array.getElem?_eq_some_iff.1 H2.out).1).trans H2.out⟩)
            cases ha : apB p.k t.k with
            | true =>
              have HA := hide ha
              have ST := hide (SAP.out ha)
              have SE := hide (show bl ⟨#[47, 42, 42, 47]⟩ = [47, 42, 42, 47] from rfl)
              clear ha SAP SCL
              go_region_held3 (fun w' => w'.cell? ⟨b, o + j * 6, none⟩ = some (.int .i64 p.k) ∧ w'.cell? ⟨b, o + j * 6 + 1, none⟩ = some (.string p.s) ∧ w'.cell? ⟨b, o + j * 6 + 2, none⟩ = some (.int .i64 p.n) ∧ w'.cell? ⟨b, o + j * 6 + 3, none⟩ = some (.int .i64 p.d) ∧ w'.cell? ⟨b, o + j * 6 + 4, none⟩ = some (.bool p.i) ∧ w'.cell? ⟨b, o + j * 6 + 5, none⟩ = some (.bool p.h) ∧ w'.cell? ⟨wr.heap.size, 0, none⟩ = some (.int .i64 t.k) ∧ w'.cell? ⟨wr.heap.size, 1, none⟩ = some (.string t.s) ∧ w'.cell? ⟨wr.heap.size, 2, none⟩ = some (.int .i64 t.n) ∧ w'.cell? ⟨wr.heap.size, 3, none⟩ = some (.int .i64 t.d) ∧ w'.cell? ⟨wr.heap.size, 4, none⟩ = some (.bool t.i) ∧ w'.cell? ⟨wr.heap.size, 5, none⟩ = some (.bool t.h))
                (exact keep12t (by repeat (first | exact Below.refl _ _ | (with_reducible refine Below.drew ?_) | (with_reducible refine below_drewN ?_ _) | (refine bto ?_ (by assumption)))) H2.out SP1.out hb1)
                ((go_at_call 38; refine (CA.out _ (by repeat (first | exact Below.refl _ _ | (with_reducible refine Below.drew ?_) | (with_reducible refine below_drewN ?_ _) | (refine bto ?_ (by assumption))))).mono ?_; rintro _ wl ⟨rfl, hl9⟩; rw [HA.out]))
              go_wp2_with (first
                | (go_at_call 39; refine (wstr_any w.heap.size w.heap.size _ ⟨#[47, 42, 42, 47]⟩ _ (GR.out _ (by repeat (first | exact Below.refl _ _ | (with_reducible refine Below.drew ?_) | (with_reducible refine below_drewN ?_ _) | (refine bto ?_ (by assumption))))).1.bd (by have := LK.out; show _ + 4 ≤ _; omega) ((GR.out _ (by repeat (first | exact Below.refl _ _ | (with_reducible refine Below.drew ?_) | (with_reducible refine below_drewN ?_ _) | (refine bto ?_ (by assumption))))).1.size HB.out)).mono ?_; rintro e w3 ⟨rfl, P3⟩; rw [SE.out] at P3; replace H2 := hide (P3.oth _ _ (GR.out _ (by repeat (first | exact Below.refl _ _ | (with_reducible refine Below.drew ?_) | (with_reducible refine below_drewN ?_ _) | (refine bto ?_ (by assumption))))).2 (by simpa using NT.out) (by intro c fz hh; cases hh)); replace P2 := hide ((GR.out _ (by repeat (first | exact Below.refl _ _ | (with_reducible refine Below.drew ?_) | (with_reducible refine below_drewN ?_ _) | (refine bto ?_ (by assumption))))).1.trans P3); clear P3; obtain ⟨q9, q0, q1, q2, q3, q4, q5⟩ := tok_box H2.out)
                | (go_at_call 40; refine (WT.out w.heap.size w.heap.size _ _ P2.out.bd (by have := LK.out; rw [List.length_append]; show _ + 4 ≤ _; omega) (P2.out.size HB.out) (TT.out.on P2.out.bel) (fun W hb => KK.out W (P2.out.bel.trans hb))).mono ?_; rintro e w4 ⟨rfl, P4⟩; replace P2 := hide (P2.out.trans P4); clear P4))
              go_roundw
              case rel => exact FIN.out _ _ ST.out P2.out
              case measure => simp [intOf]; omega
            | false =>
              have HA := hide ha
              have ST := hide (SCL.out ha)
              clear ha SAP SCL
              go_region_held3 (fun w' => w'.cell? ⟨b, o + j * 6, none⟩ = some (.int .i64 p.k) ∧ w'.cell? ⟨b, o + j * 6 + 1, none⟩ = some (.string p.s) ∧ w'.cell? ⟨b, o + j * 6 + 2, none⟩ = some (.int .i64 p.n) ∧ w'.cell? ⟨b, o + j * 6 + 3, none⟩ = some (.int .i64 p.d) ∧ w'.cell? ⟨b, o + j * 6 + 4, none⟩ = some (.bool p.i) ∧ w'.cell? ⟨b, o + j * 6 + 5, none⟩ = some (.bool p.h) ∧ w'.cell? ⟨wr.heap.size, 0, none⟩ = some (.int .i64 t.k) ∧ w'.cell? ⟨wr.heap.size, 1, none⟩ = some (.string t.s) ∧ w'.cell? ⟨wr.heap.size, 2, none⟩ = some (.int .i64 t.n) ∧ w'.cell? ⟨wr.heap.size, 3, none⟩ = some (.int .i64 t.d) ∧ w'.cell? ⟨wr.heap.size, 4, none⟩ = some (.bool t.i) ∧ w'.cell? ⟨wr.heap.size, 5, none⟩ = some (.bool t.h))
                (exact keep12t (by repeat (first | exact Below.refl _ _ | (with_reducible refine Below.drew ?_) | (with_reducible refine below_drewN ?_ _) | (refine bto ?_ (by assumption)))) H2.out SP1.out hb1)
                ((go_at_call 38; refine (CA.out _ (by repeat (first | exact Below.refl _ _ | (with_reducible refine Below.drew ?_) | (with_reducible refine below_drewN ?_ _) | (refine bto ?_ (by assumption))))).mono ?_; rintro _ wl ⟨rfl, hl9⟩; rw [HA.out]))
              go_wp2_with (go_at_call 40; refine (WT.out w.heap.size w.heap.size _ _ (GR.out _ (by repeat (first | exact Below.refl _ _ | (with_reducible refine Below.drew ?_) | (with_reducible refine below_drewN ?_ _) | (refine bto ?_ (by assumption))))).1.bd (by have := LK.out; omega) ((GR.out _ (by repeat (first | exact Below.refl _ _ | (with_reducible refine Below.drew ?_) | (with_reducible refine below_drewN ?_ _) | (refine bto ?_ (by assumption))))).1.size HB.out) (TT.out.on (GR.out _ (by repeat (first | exact Below.refl _ _ | (with_reducible refine Below.drew ?_) | (with_reducible refine below_drewN ?_ _) | (refine bto ?_ (by assumption))))).1.bel) (fun W hb => KK.out W ((GR.out _ (by repeat (first | exact Below.refl _ _ | (with_reducible refine Below.drew ?_) | (with_reducible refine below_drewN ?_ _) | (refine bto ?_ (by assumption))))).1.bel.trans hb))).mono ?_; rintro e w4 ⟨rfl, P4⟩; replace P2 := hide ((GR.out _ (by repeat (first | exact Below.refl _ _ | (with_reducible refine Below.drew ?_) | (with_reducible refine below_drewN ?_ _) | (refine bto ?_ (by assumption))))).1.trans P4); clear P4)
              go_roundw
              case rel => exact FIN.out _ _ ST.out P2.out
              case measure => simp [intOf]; omega
      · have hk' : ¬ (k : Int) < n := by omega
        have hkn : k = ts.length := by rw [← HN.out]; omega
        have AL := hide (show ∀ t ∈ ts, t.may = true from fun t ht => by
          obtain ⟨j, hj, rfl⟩ := List.mem_iff_getElem.1 ht
          exact R.out.2 j _ (by omega) (List.getElem?_eq_getElem hj))
        have P1 := hide R.out.1
        rw [hkn] at P1
        clear hkn
        go_wp2_with (go_at_call 41; refine (bstr_any w.heap.size w.heap.size _ _ HBY.out P1.out.bd (P1.out.size HB.out)).mono ?_; rintro e w1 ⟨s, rfl, hs, B1⟩; replace hs := hide hs; replace B1 := hide (show Below w.heap.size w w1 from A0.out.trans (P1.out.bel.trans B1)))
        go_ret2
        exact ⟨B1.out, .inl ⟨AL.out, s, rfl, hs.out⟩⟩
end Go.Proofs.YtbdacepomdlcbaaGreatDoor
set_option linter.unusedVariables false
set_option linter.unusedSimpArgs false
namespace Go.Proofs.YtbdacepomdlcbaaGreatDoor
open Go.RowKit Go.Shelf

def idT (s : ByteArray) : TS := ⟨1, s, 0, 0, false, false⟩
def wtI (t : TS) : List Int := wId (bl t.s)
theorem may_id (s : ByteArray) : (idT s).may = (chB (bl s) && !(bl s).isEmpty) := by
  show mayT 1 (bl s) 0 0 false false = _
  cases hb : bl s with
  | nil => simp [mayT, fdB, txB, nuB1, nu, tx, nm]
  | cons a r =>
    have : mayT 1 (a :: r) 0 0 false false = chB (a :: r) := by
      simp [mayT, fdB, txB, nuB1, nu, tx, nm]
    rw [this]; simp
theorem may_id_ch {s : ByteArray} (h : (idT s).may = true) : chB (bl s) = true := by
  rw [may_id, Bool.and_eq_true] at h; exact h.1
theorem ch_whole {bs : List Int} (h : chB bs = true) : whole bs = true := by unfold chB at h; rw [Bool.and_eq_true] at h; exact h.1
set_option maxRecDepth 100000 in
set_option maxHeartbeats 2000000 in
theorem writes_id (s : ByteArray) (hs : s.size ≤ 1099511627776) (hm : (idT s).may = true) : Writes wtI (idT s) := by
  intro B b xs W hb hl hB hT hK
  have hw := ch_whole (may_id_ch hm)
  have PW := hide (fun (W1 : World) (hb1 : Below W.heap.size W W1) => (PB.start hb).grow hB hb1)
  have C := hide (fun (W1 : World) (hb1 : Below W.heap.size W W1) => wId_any B b xs s W1 hw (PW.out W1 hb1).bd (by omega) ((PW.out W1 hb1).size hB) (hT.on (PW.out W1 hb1).bel))
  have f0 := fld0
  have f1 := fld1
  clear hb hT hK hw hm
  unfold TS.v idT tokV wtI
  go_enter Tryz.func40, Tryz.ntmps40
  go_wp2_with (go_at_call 68; refine (C.out _ (by first | exact Below.refl _ _ | exact bplus (Below.refl _ _) _)).mono ?_; rintro e w1 ⟨rfl, P1⟩; replace P1 := hide ((PW.out _ (by first | exact Below.refl _ _ | exact bplus (Below.refl _ _) _)).trans P1))
  go_end0
  exact ⟨rfl, P1.out⟩
theorem six_row {W : World} {b o : Nat} {t : TS} {cs : Array Value} {T : TypeId} {q : Nat × Nat} (h : W.heap[b]? = some (.cells cs T q)) (h0 : cs[o]? = some (.int .i64 t.k)) (h1 : cs[o + 1]? = some (.string t.s)) (h2 : cs[o + 2]? = some (.int .i64 t.n)) (h3 : cs[o + 3]? = some (.int .i64 t.d)) (h4 : cs[o + 4]? = some (.bool t.i)) (h5 : cs[o + 5]? = some (.bool t.h)) : Six4 W b o t :=
  ⟨by rw [row_blk h]; exact h0, by rw [row_blk h]; exact h1, by rw [row_blk h]; exact h2, by rw [row_blk h]; exact h3, by rw [row_blk h]; exact h4, by rw [row_blk h]; exact h5⟩
theorem toks_one (w : World) (t : TS) (T : TypeId) : Toks4 (w.alloc (.cells #[.int .i64 t.k, .string t.s, .int .i64 t.n, .int .i64 t.d, .bool t.i, .bool t.h] T)) (.slice (some ⟨w.heap.size, 0, none⟩) 1 1) [t] :=
  .inr ⟨w.heap.size, 0, 1, 1, rfl, rfl, by omega, by simp, by omega, by omega, by omega, fun i u hi => by
    cases i with
    | zero => cases hi; exact six_row (heap_alloc_new w _) rfl rfl rfl rfl rfl rfl
    | succ i => simp at hi⟩
theorem toks_two (w : World) (t u : TS) (T : TypeId) : Toks4 (w.alloc (.cells #[.int .i64 t.k, .string t.s, .int .i64 t.n, .int .i64 t.d, .bool t.i, .bool t.h, .int .i64 u.k, .string u.s, .int .i64 u.n, .int .i64 u.d, .bool u.i, .bool u.h] T)) (.slice (some ⟨w.heap.size, 0, none⟩) 2 2) [t, u] :=
  .inr ⟨w.heap.size, 0, 2, 2, rfl, rfl, by omega, by simp, by omega, by omega, by omega, fun i x hi => by
    match i, hi with
    | 0, hi => cases hi; exact six_row (heap_alloc_new w _) rfl rfl rfl rfl rfl rfl
    | 1, hi => cases hi; exact six_row (heap_alloc_new w _) rfl rfl rfl rfl rfl rfl
    | i + 2, hi => simp at hi⟩
theorem toks_one_at (w : World) (t : TS) (T : TypeId) (m : Nat) (hm : m = w.heap.size) : Toks4 (w.alloc (.cells #[.int .i64 t.k, .string t.s, .int .i64 t.n, .int .i64 t.d, .bool t.i, .bool t.h] T)) (.slice (some ⟨m, 0, none⟩) 1 1) [t] := by subst hm; exact toks_one w t T
def Sp2 (wt : TS → List Int) (ts : List TS) (s : ByteArray) (c : Int) : Prop := ((∀ t ∈ ts, t.may = true) ∧ c = 0 ∧ bl s = spK wt ts ts.length) ∨ ((∃ t ∈ ts, t.may = false) ∧ c = 1 ∧ s = ⟨#[]⟩)
theorem PostSp.uni {wt : TS → List Int} {ts : List TS} {w : World} {e : Ending} {w' : World} (h : PostSp wt ts w e w') : Below w.heap.size w w' ∧ ∃ s c, e = .returned (.tuple #[.string s, .int .i64 c]) ∧ Hid (Sp2 wt ts s c) := by
  obtain ⟨h1, ⟨A, s, rfl, hs⟩ | ⟨A, rfl⟩⟩ := h
  · exact ⟨h1, s, 0, rfl, .inl ⟨A, rfl, hs⟩⟩
  · exact ⟨h1, _, 1, rfl, .inr ⟨A, rfl, rfl⟩⟩
theorem PostSp.of {wt : TS → List Int} {ts : List TS} {w : World} {e : Ending} {w' : World} (h : Below w.heap.size w w') {s : ByteArray} {c : Int} (he : e = .returned (.tuple #[.string s, .int .i64 c])) (H : Sp2 wt ts s c) : PostSp wt ts w e w' := by
  subst he
  rcases H with ⟨A, rfl, hs⟩ | ⟨A, rfl, rfl⟩
  · exact ⟨h, .inl ⟨A, s, rfl, hs⟩⟩
  · exact ⟨h, .inr ⟨A, rfl⟩⟩
theorem spK_one (wt : TS → List Int) (t : TS) : spK wt [t] 1 = wt t := by
  rw [spK_zero (t := t) rfl]; rfl
set_option maxRecDepth 100000 in
set_option maxHeartbeats 400000 in
theorem token_any (wt : TS → List Int) (t : TS) (w : World) (ho : t.Ok) (hW : t.may = true → Writes wt t) (hby : By (wt t)) (hl9 : (wt t).length ≤ 35184372088000) (hK : KT w) (hT : Tabs w) :
    Calls Tryz.prog 75 #[t.v] w fun e w' => PostSp wt [t] w e w' := by
  have TO := hide (toks_one_at (w.alloc (.cells #[.int .i64 t.k, .string t.s, .int .i64 t.n, .int .i64 t.d, .bool t.i, .bool t.h] 41)) t 41 (w.heap.size + 1) (by simp))
  have B0 := hide (bplus (bplus (Below.refl w.heap.size w) (.cells #[.int .i64 t.k, .string t.s, .int .i64 t.n, .int .i64 t.d, .bool t.i, .bool t.h] 41)) (.cells #[.int .i64 t.k, .string t.s, .int .i64 t.n, .int .i64 t.d, .bool t.i, .bool t.h] 41))
  have E1 : spK wt [t] [t].length = wt t := spK_one wt t
  have C := hide (tokens_any wt [t] _ _ TO.out (fun u hu => by rw [List.mem_singleton.1 hu]; exact ho) (fun u hu => by rw [List.mem_singleton.1 hu]; exact hW) (by rw [E1]; exact hby) (by rw [E1]; exact hl9) (hK.below B0.out) (hT.below B0.out))
  clear E1
  clear ho hW hby hl9 hK hT TO
  unfold TS.v tokV
  go_enter Tryz.func75, Tryz.ntmps75
  go_wp2_with (go_at_call 18; refine C.out.mono ?_; intro e w1 hP; obtain ⟨B1, u, c, rfl, H⟩ := hP.uni; clear hP; replace B1 := hide (show Below w.heap.size w w1 from bto B0.out B1))
  go_ret2
  exact .of B1.out rfl H.out
theorem fol_no5 (m : Nat) : ∀ (c lo hi : Int) (k : Nat) (r : List Int), (fol m c lo hi k r).2.2 = false → (fol m c lo hi k r).1 = 65533 := by
  induction m with
  | zero => intro c lo hi k r h; simp [fol] at h
  | succ m ih =>
    intro c lo hi k r
    cases r with
    | nil => simp [fol]
    | cons b r =>
      simp only [fol]
      split
      · simp
      · exact ih _ _ _ _ _
theorem stp_no5 (bs : List Int) (h : (stp bs).2.2 = false) : (stp bs).1 = 65533 := by
  cases bs with
  | nil => rfl
  | cons a r =>
    simp only [stp] at h ⊢
    split at h
    · rename_i q; rw [if_pos q]
    · rename_i q; rw [if_neg q]; exact fol_no5 _ _ _ _ _ _ h
theorem stp_isC5 (bs : List Int) (hb : By bs) (hne : bs ≠ []) : isC (stp bs).1 = true := by
  by_cases h : (stp bs).2.2 = true
  · exact (stp_back bs hb hne h).1
  · rw [stp_no5 bs (by simpa using h)]; rfl
theorem raw_isC5 (n : Nat) : ∀ bs : List Int, bs.length ≤ n → By bs → ∀ x ∈ raw bs, isC x = true := by
  induction n with
  | zero => intro bs h _ x hx; obtain rfl : bs = [] := List.eq_nil_of_length_eq_zero (by omega); rw [raw_nil] at hx; simp at hx
  | succ n ih =>
    intro bs h hb x hx
    by_cases hne : bs = []
    · subst hne; rw [raw_nil] at hx; simp at hx
    · have hs := stp_len bs hne
      rw [raw_cut hne] at hx
      rcases List.mem_cons.1 hx with rfl | hx
      · exact stp_isC5 bs hb hne
      · exact ih _ (by rw [List.length_drop]; omega) (hb.drop _) x hx
theorem hxL_by (n : Nat) : By (hxL n) := by
  induction n using Nat.strongRecOn with
  | _ n ih =>
    by_cases h : n < 16
    · rw [hxL_one h]; intro x hx; rw [List.mem_singleton.1 hx]; exact hd_by n h
    · rw [hxL_big h]
      exact (ih (n / 16) (by omega)).app (fun x hx => by rw [List.mem_singleton.1 hx]; exact hd_by _ (Nat.mod_lt _ (by omega)))
theorem by_cons {x : Int} {l : List Int} (h : 0 ≤ x ∧ x ≤ 255) (hl : By l) : By (x :: l) := fun y hy => by
  rcases List.mem_cons.1 hy with rfl | hy
  · exact h
  · exact hl y hy
theorem by_nil : By [] := fun x hx => by cases hx
theorem esc_by (c : Int) : By (esc c) := by_cons (by omega) ((hxL_by _).app (by_cons (by omega) by_nil))
theorem wLt_by {c : Int} (h : isC c = true) : By (wLt c) := by
  unfold wLt
  split
  · exact esc_by c
  split
  · exact enc1_by h
  · exact by_cons (by omega) (enc1_by h)
theorem hdT_by {c : Int} (h : isC c = true) : By (hdT c) := by
  unfold hdT
  split
  · exact esc_by c
  · exact wLt_by h
theorem wNm_by {l : List Int} (h : ∀ x ∈ l, isC x = true) : By (wNm l) := by
  induction l with
  | nil => exact by_nil
  | cons a r ih =>
    rw [wNm_cons]
    exact (wLt_by (h a (by simp))).app (ih fun x hx => h x (by simp [hx]))
theorem hdT_len (c : Int) : (hdT c).length ≤ 6 := by
  unfold hdT
  split
  · rename_i h; exact esc_len (dig_bd h).1 (dig_bd h).2
  · exact wLt_len c
theorem wId_by (s : ByteArray) : By (wId (bl s)) := by
  unfold wId
  split
  · exact by_cons (by omega) (by_cons (by omega) by_nil)
  · have h := raw_isC5 _ (bl s) (Nat.le_refl _) (bl_by s)
    cases hr : raw (bl s) with
    | nil => exact by_nil
    | cons c r =>
      rw [hr] at h
      show By (hdT c ++ _)
      refine (hdT_by (h c (by simp))).app ?_
      split
      · cases r with
        | nil => exact by_nil
        | cons d q =>
          show By (hdT d ++ _)
          exact (hdT_by (h d (by simp))).app (wNm_by fun x hx => h x (by simp [hx]))
      · exact wNm_by fun x hx => h x (by simp [hx])
theorem wId_len (s : ByteArray) : (wId (bl s)).length ≤ 6 * s.size + 2 := by
  unfold wId
  split
  · simp
  · have h := raw_le (bl s)
    rw [bl_len] at h
    cases hr : raw (bl s) with
    | nil => simp [wId0]
    | cons c r =>
      rw [hr] at h
      have h1 := hdT_len c
      have h2 := wNm_len r
      show (hdT c ++ _).length ≤ _
      rw [List.length_append]
      simp only [List.length_cons] at h
      split
      · cases r with
        | nil => simp [wId1]; omega
        | cons d q =>
          have h3 := hdT_len d
          have h4 := wNm_len q
          show _ + (hdT d ++ _).length ≤ _
          rw [List.length_append]
          simp only [List.length_cons] at h
          omega
      · omega
theorem idT_ok (s : ByteArray) (hs : s.size ≤ 1099511627776) : (idT s).Ok := ⟨by simp [idT], by simp [idT], hs, by simp [idT], by simp [idT], by simp [idT], by simp [idT]⟩
set_option maxRecDepth 100000 in
set_option maxHeartbeats 400000 in
theorem identS_any (s : ByteArray) (w : World) (hs : s.size ≤ 1099511627776) (hK : KT w) (hT : Tabs w) :
    Calls Tryz.prog 46 #[.string s] w fun e w' => PostSp wtI [idT s] w e w' := by
  have C := hide (fun (W : World) (hb : Below w.heap.size w W) => token_any wtI (idT s) W (idT_ok s hs) (fun h => writes_id s hs h) (wId_by s) (by have := wId_len s; show (wId (bl s)).length ≤ _; omega) (hK.below hb) (hT.below hb))
  clear hK hT
  unfold TS.v idT tokV at C
  go_enter Tryz.func46, Tryz.ntmps46
  go_wp2_with (go_at_call 75; refine (C.out _ (by first | exact Below.refl _ _ | exact bplus (Below.refl _ _) _)).mono ?_; intro e w1 hP; obtain ⟨B1, u, c, rfl, H⟩ := hP.uni; clear hP; replace B1 := hide (show Below w.heap.size w w1 from (by first | exact B1 | exact bto (bplus (Below.refl _ _) _) B1)))
  go_ret2
  exact .of B1.out rfl H.out
end Go.Proofs.YtbdacepomdlcbaaGreatDoor
set_option linter.unusedVariables false
set_option linter.unusedSimpArgs false
namespace Go.Proofs.YtbdacepomdlcbaaGreatDoor
open Go.RowKit Go.Shelf

theorem sp2_eq {wt : TS → List Int} {ts : List TS} {s u : ByteArray} {c d : Int} (h : Sp2 wt ts s c) (k : Sp2 wt ts u d) : u = s ∧ d = c := by
  rcases h with ⟨h1, h2, h3⟩ | ⟨⟨t, ht, h1⟩, h2, h3⟩ <;> rcases k with ⟨k1, k2, k3⟩ | ⟨⟨t', ht', k1⟩, k2, k3⟩
  · exact ⟨bl_inj (k3.trans h3.symm), k2.trans h2.symm⟩
  · rw [h1 t' ht'] at k1; cases k1
  · rw [k1 t ht] at h1; cases h1
  · exact ⟨k3.trans h3.symm, k2.trans h2.symm⟩
set_option maxRecDepth 100000 in
set_option maxHeartbeats 1000000 in
theorem token4_id (s : ByteArray) (w : World) (hs : s.size ≤ 1099511627776) (hT : Tabs w) :
    Calls Tryz.prog 26 #[.agg #[.int .i64 1, .string s, .int .i64 0, .int .i64 0, .bool false, .bool false]] w fun e w' => ∃ u c, e = .returned (.tuple #[.string u, .int .i64 c]) ∧ Hid (Sp2 wtI [idT s] u c) ∧ Below w.heap.size w w' := by
  have TX := hide (Tok6.box w 1 s 0 0 false false 41)
  have B0 := hide (bplus (Below.refl w.heap.size w) (.cells #[.int .i64 1, .string s, .int .i64 0, .int .i64 0, .bool false, .bool false] 41))
  have CM := hide (mayR_any 1 s 0 0 false false (w.alloc (.cells #[.int .i64 1, .string s, .int .i64 0, .int .i64 0, .bool false, .bool false] 41)) hs (by omega) (by omega) (by omega) (by omega) (hT.below B0.out))
  have W1 := hide (fun (W : World) (h : Below w.heap.size w W) => hT.below h)
  clear hT
  unfold tokV at CM
  cases hm : mayT 1 (bl s) 0 0 false false with
  | false =>
    have E := hide hm
    have FIN := hide (show Sp2 wtI [idT s] ⟨#[]⟩ 1 from .inr ⟨⟨idT s, by simp, hm⟩, rfl, rfl⟩)
    clear hm
    go_enter Tryz.func26, Tryz.ntmps26
    go_wp2_with (go_at_call 48; refine CM.out.mono ?_; rintro e w1 ⟨rfl, B1⟩; rw [E.out]; replace B1 := hide (show Below w.heap.size w w1 from bto B0.out B1))
    go_ret2
    exact ⟨_, _, rfl, FIN.out, B1.out⟩
  | true =>
    have E := hide hm
    have FIN := hide (fun (u : ByteArray) (hu : bl u = wId (bl s)) => show Sp2 wtI [idT s] u 0 from .inl ⟨fun t ht => by rw [List.mem_singleton.1 ht]; exact hm, rfl, by rw [hu]; exact (spK_one wtI (idT s)).symm⟩)
    have CI := hide (fun (W : World) (h : Below w.heap.size w W) => ident4_any s W hs (may_id_ch (s := s) hm) (W1.out W h))
    clear hm
    go_enter Tryz.func26, Tryz.ntmps26
    go_wp2_with (first
      | (go_at_call 48; refine CM.out.mono ?_; rintro e w1 ⟨rfl, B1⟩; rw [E.out]; obtain ⟨z1, q0, q1, q2, q3, q4, q5⟩ := TX.out.below B1; replace B1 := hide (show Below w.heap.size w w1 from bto B0.out B1))
      | (go_at_call 50; refine (CI.out _ B1.out).mono ?_; rintro e w2 ⟨u, rfl, hu, B2⟩; replace hu := hide hu; replace B1 := hide (bto B1.out B2)))
    go_ret2
    exact ⟨u, 0, rfl, FIN.out u hu.out, B1.out⟩
end Go.Proofs.YtbdacepomdlcbaaGreatDoor
set_option linter.unusedVariables false
set_option linter.unusedSimpArgs false
namespace Go.Proofs.YtbdacepomdlcbaaGreatDoor
open Go.RowKit Go.Shelf

theorem raw_a : raw [97] = [97] := by
  have := raw_enc1 97 [] rfl
  rw [show enc1 97 ++ [] = [97] from by decide, raw_nil] at this
  exact this
theorem raw_1 : raw [49] = [49] := by
  have := raw_enc1 49 [] rfl
  rw [show enc1 49 ++ [] = [49] from by decide, raw_nil] at this
  exact this
theorem wId_a : wId [97] = [97] := by
  unfold wId
  rw [if_neg (by decide), raw_a]
  decide
theorem hxL_49 : hxL 49 = [51, 49] := by
  rw [hxL_big (by omega), hxL_one (by omega)]
  decide
theorem wId_1 : wId [49] = [92, 51, 49, 32] := by
  unfold wId
  rw [if_neg (by decide), raw_1]
  show hdT 49 ++ _ = _
  have : hdT 49 = 92 :: (hxL 49 ++ [32]) := rfl
  rw [this, hxL_49]
  decide
theorem whole_a : whole [97] = true := by
  have := whole_enc [97]
  rwa [show enc [97] = [97] from by decide] at this
theorem whole_1 : whole [49] = true := by
  have := whole_enc [49]
  rwa [show enc [49] = [49] from by decide] at this
theorem may_a : (idT ⟨#[97]⟩).may = true := by
  rw [may_id]
  show (chB [97] && !([97] : List Int).isEmpty) = true
  unfold chB; rw [whole_a]; rfl
theorem may_1 : (idT ⟨#[49]⟩).may = true := by
  rw [may_id]
  show (chB [49] && !([49] : List Int).isEmpty) = true
  unfold chB; rw [whole_1]; rfl
theorem sp_two : spK wtI [idT ⟨#[97]⟩, idT ⟨#[49]⟩] 2 = [97, 47, 42, 42, 47, 92, 51, 49, 32] := by
  rw [spK_apart (k := 0) (p := idT ⟨#[97]⟩) (t := idT ⟨#[49]⟩) rfl rfl (by decide), spK_zero (t := idT ⟨#[97]⟩) rfl]
  show (([] ++ wId [97]) ++ [47, 42, 42, 47]) ++ wId [49] = _
  rw [wId_a, wId_1]
  rfl
end Go.Proofs.YtbdacepomdlcbaaGreatDoor
