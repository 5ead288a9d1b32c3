/-
  Tokens, plain and in memory.
  Tokens, written: by the program.
  Bytes of characters, by the reference; the law of both.
  The reference's texts of characters.
-/
import Derived.Test.YtmkbjcoagfnegaaGreatDoorZ03
import Derived.Test.YtmkbjcoagfnegaaGreatDoorZ11
import Derived.Test.YtmkbjcoagfnegaaGreatDoorZ04
set_option linter.unusedVariables false
set_option linter.unusedSimpArgs false
namespace Go.Proofs.YtmkbjcoagfnegaaGreatDoor
open Go.RowKit

structure TS where
  k : Int
  s : ByteArray
  n : Int
  d : Int
  i : Bool
  h : Bool
structure TS.Ok (t : TS) : Prop where
  k1 : -9223372036854775808 ≤ t.k
  k2 : t.k ≤ 9223372036854775807
  hs : t.s.size ≤ 1099511627776
  n1 : -9223372036854775808 ≤ t.n
  n2 : t.n ≤ 9223372036854775807
  d1 : -9223372036854775808 ≤ t.d
  d2 : t.d ≤ 9223372036854775807
structure Six4 (w : World) (b o : Nat) (t : TS) : Prop where
  c0 : w.cell? ⟨b, o, none⟩ = some (.int .i64 t.k)
  c1 : w.cell? ⟨b, o + 1, none⟩ = some (.string t.s)
  c2 : w.cell? ⟨b, o + 2, none⟩ = some (.int .i64 t.n)
  c3 : w.cell? ⟨b, o + 3, none⟩ = some (.int .i64 t.d)
  c4 : w.cell? ⟨b, o + 4, none⟩ = some (.bool t.i)
  c5 : w.cell? ⟨b, o + 5, none⟩ = some (.bool t.h)
theorem Six4.below {w w' : World} {b o : Nat} {t : TS} (h : Six4 w b o t) {B : Nat} (hb : Below B w w') (hB : b < B) : Six4 w' b o t := by
  obtain ⟨c0, c1, c2, c3, c4, c5⟩ := h
  exact ⟨(hb.cell (p := ⟨b, o, none⟩) hB).trans c0, (hb.cell (p := ⟨b, o + 1, none⟩) hB).trans c1, (hb.cell (p := ⟨b, o + 2, none⟩) hB).trans c2, (hb.cell (p := ⟨b, o + 3, none⟩) hB).trans c3, (hb.cell (p := ⟨b, o + 4, none⟩) hB).trans c4, (hb.cell (p := ⟨b, o + 5, none⟩) hB).trans c5⟩
/-- A slice of tokens in memory. -/
def Toks4 (w : World) (v : Value) (ts : List TS) : Prop :=
  (∃ a c, v = .slice a 0 c ∧ ts = []) ∨
  ∃ b o n c, v = .slice (some ⟨b, o, none⟩) n c ∧ n = ts.length ∧ 0 < n ∧ b < w.heap.size ∧ n ≤ c ∧ n ≤ 1000000000000 ∧ c ≤ 9223372036854775807 ∧ ∀ i t, ts[i]? = some t → Six4 w b (o + i * 6) t
end Go.Proofs.YtmkbjcoagfnegaaGreatDoor
set_option linter.unusedVariables false
set_option linter.unusedSimpArgs false
namespace Go.Proofs.YtmkbjcoagfnegaaGreatDoor
open Go.RowKit Go.Shelf

def TS.v (t : TS) : Value := tokV t.k t.s t.n t.d t.i t.h
def TS.may (t : TS) : Bool := mayT t.k (bl t.s) t.n t.d t.i t.h
def boxT (t : TS) : Obj := .cells #[.int .i64 t.k, .string t.s, .int .i64 t.n, .int .i64 t.d, .bool t.i, .bool t.h] 73
theorem tok_box {w : World} {b : Nat} {t : TS} (h : w.heap[b]? = some (boxT t)) : Tok6 w b t.k t.s t.n t.d t.i t.h :=
  ⟨(Array.getElem?_eq_some_iff.1 h).1, by rw [row_blk h]; rfl, by rw [row_blk h]; rfl, by rw [row_blk h]; rfl, by rw [row_blk h]; rfl, by rw [row_blk h]; rfl, by rw [row_blk h]; rfl⟩
def S6 (b : Nat) (t : TS) (w : World) : Prop := w.cell? ⟨b, 0, none⟩ = some (.int .i64 t.k) ∧ w.cell? ⟨b, 1, none⟩ = some (.string t.s) ∧ w.cell? ⟨b, 2, none⟩ = some (.int .i64 t.n) ∧ w.cell? ⟨b, 3, none⟩ = some (.int .i64 t.d) ∧ w.cell? ⟨b, 4, none⟩ = some (.bool t.i) ∧ w.cell? ⟨b, 5, none⟩ = some (.bool t.h)
theorem keep6 {w w' : World} {b : Nat} {t : TS} (hb : Below w.heap.size w w') (h : w.heap[b]? = some (boxT t)) : S6 b t w' := ((tok_box h).below hb).2
theorem keep12t {w w' : World} {b o c : Nat} {p t : TS} (hb : Below w.heap.size w w') (h : w.heap[c]? = some (boxT t)) (hp : Six4 w b o p) (hbw : b < w.heap.size) :
    w'.cell? ⟨b, o, none⟩ = some (.int .i64 p.k) ∧ w'.cell? ⟨b, o + 1, none⟩ = some (.string p.s) ∧ w'.cell? ⟨b, o + 2, none⟩ = some (.int .i64 p.n) ∧ w'.cell? ⟨b, o + 3, none⟩ = some (.int .i64 p.d) ∧ w'.cell? ⟨b, o + 4, none⟩ = some (.bool p.i) ∧ w'.cell? ⟨b, o + 5, none⟩ = some (.bool p.h) ∧ S6 c t w' := by
  obtain ⟨c0, c1, c2, c3, c4, c5⟩ := hp.below hb hbw
  exact ⟨c0, c1, c2, c3, c4, c5, keep6 hb h⟩
/-- The text of the first k tokens. -/
def spK (wt : TS → List Int) (ts : List TS) : Nat → List Int
  | 0 => []
  | k + 1 => spK wt ts k ++ match ts[k]? with
    | none => []
    | some t => (match k with
      | 0 => []
      | j + 1 => match ts[j]? with
        | none => []
        | some p => if apB p.k t.k = true then [47, 42, 42, 47] else []) ++ wt t
theorem spK_zero {wt : TS → List Int} {ts : List TS} {t : TS} (h : ts[0]? = some t) : spK wt ts 1 = spK wt ts 0 ++ wt t := by
  show spK wt ts 0 ++ _ = _
  rw [h]; rfl
theorem spK_apart {wt : TS → List Int} {ts : List TS} {k : Nat} {p t : TS} (h : ts[k + 1]? = some t) (hp : ts[k]? = some p) (ha : apB p.k t.k = true) : spK wt ts (k + 1 + 1) = (spK wt ts (k + 1) ++ [47, 42, 42, 47]) ++ wt t := by
  show spK wt ts (k + 1) ++ _ = _
  rw [h]
  show _ ++ ((match ts[k]? with
        | none => []
        | some p => if apB p.k t.k = true then [47, 42, 42, 47] else []) ++ wt t) = _
  rw [hp]
  show _ ++ ((if apB p.k t.k = true then [47, 42, 42, 47] else []) ++ wt t) = _
  rw [if_pos ha, List.append_assoc]
theorem spK_close {wt : TS → List Int} {ts : List TS} {k : Nat} {p t : TS} (h : ts[k + 1]? = some t) (hp : ts[k]? = some p) (ha : apB p.k t.k = false) : spK wt ts (k + 1 + 1) = spK wt ts (k + 1) ++ wt t := by
  show spK wt ts (k + 1) ++ _ = _
  rw [h]
  show _ ++ ((match ts[k]? with
        | none => []
        | some p => if apB p.k t.k = true then [47, 42, 42, 47] else []) ++ wt t) = _
  rw [hp]
  show _ ++ ((if apB p.k t.k = true then [47, 42, 42, 47] else []) ++ wt t) = _
  rw [ha]; rfl
theorem spK_le (wt : TS → List Int) (ts : List TS) {j k : Nat} (h : j ≤ k) : (spK wt ts j).length ≤ (spK wt ts k).length := by
  induction h with
  | refl => exact Nat.le_refl _
  | step _ ih => exact Nat.le_trans ih (by show _ ≤ (spK wt ts _ ++ _).length; rw [List.length_append]; omega)
def KB (B : Nat) (w : World) : Prop := ∀ W, Below B w W → KT W
/-- How a token is written. -/
def Writes (wt : TS → List Int) (t : TS) : Prop := ∀ B b xs W, Bd B b xs W → xs.length ≤ 35184372088832 → B ≤ W.heap.size → TB B W → KB B W →
  Calls Tryz.prog 184 #[.pointer (some ⟨b, 0, none⟩), t.v] W fun e w' => e = .returned (.tuple #[]) ∧ PB B b (xs ++ wt t) W w'
/-- The state of the loop over tokens. -/
def RelTk (wt : TS → List Int) (ts : List TS) (w : World) (w0 : World) (i : Value) (wr : World) : Prop := ∃ k : Nat, i = .int .i64 k ∧ k ≤ ts.length ∧ Hid (PB w.heap.size w.heap.size (spK wt ts k) w0 wr ∧ ∀ j t, j < k → ts[j]? = some t → t.may = true)
theorem RelTk.mk {wt : TS → List Int} {ts : List TS} {w w0 : World} {i : Value} {wr : World} (k : Nat) (h1 : i = .int .i64 k) (h2 : k ≤ ts.length) (h3 : PB w.heap.size w.heap.size (spK wt ts k) w0 wr ∧ ∀ j t, j < k → ts[j]? = some t → t.may = true) : RelTk wt ts w w0 i wr := ⟨k, h1, h2, h3⟩
def PostSp (wt : TS → List Int) (ts : List TS) (w : World) (e : Ending) (w' : World) : Prop := Below w.heap.size w w' ∧ (((∀ t ∈ ts, t.may = true) ∧ ∃ s, e = .returned (.tuple #[.string s, .int .i64 0]) ∧ bl s = spK wt ts ts.length) ∨ ((∃ t ∈ ts, t.may = false) ∧ e = .returned (.tuple #[.string ⟨#[]⟩, .int .i64 1])))
set_option maxRecDepth 100000 in
set_option maxHeartbeats 2000000 in
theorem tokens_any (wt : TS → List Int) (ts : List TS) (v : Value) (w : World) (hv : Toks4 w v ts) (hok : ∀ t ∈ ts, t.Ok) (hW : ∀ t ∈ ts, t.may = true → Writes wt t) (hby : By (spK wt ts ts.length)) (hl9 : (spK wt ts ts.length).length ≤ 35184372088000) (hK : KT w) (hT : Tabs w) :
    Calls Tryz.prog 169 #[v] w fun e w' => PostSp wt ts w e w' := by
  have B0 := hide (show Bd w.heap.size w.heap.size [] (w.alloc (.cells #[.pointer none, .slice none 0 0] 87)) from Lib.IsBuilderF.of (Lib.fresh_isBuilder 87 5 w))
  have A0 := hide (bplus (Below.refl w.heap.size w) (.cells #[.pointer none, .slice none 0 0] 87))
  rcases hv with ⟨a, c, rfl, rfl⟩ | ⟨b, o, n, c, rfl, hn, h0, hbw, hl, hn9, hc9, hcell⟩
  · go_enter Tryz.func169, Tryz.ntmps169
    go_wp2
    refine wp_loop_rounds 1 ?_
    rw [rounds_succ]
    go_wp2_with (go_at_call 37; refine (bstr_any w.heap.size w.heap.size [] _ (fun x hx => by cases hx) B0.out (by simp)).mono ?_; rintro e w1 ⟨s, rfl, hs, B1⟩; replace hs := hide hs; replace B1 := hide (show Below w.heap.size w w1 from A0.out.trans B1))
    go_ret2
    exact ⟨B1.out, .inl ⟨fun t ht => (by cases ht), s, rfl, hs.out⟩⟩
  · have HN := hide hn
    have HC := hide hcell
    have HOK := hide hok
    have HW := hide hW
    have HBY := hide hby
    have HL := hide hl9
    have P0 := hide (PB.start B0.out)
    obtain ⟨w0, hw0⟩ : ∃ w0, w.alloc (.cells #[.pointer none, .slice none 0 0] 87) = w0 := ⟨_, rfl⟩
    have HB := hide (show w.heap.size ≤ w0.heap.size by rw [← hw0]; simp)
    rw [hw0] at P0 A0
    have TT := hide (show TB w.heap.size w0 from fun W hb => hT.below (A0.out.trans hb))
    have KK := hide (show KB w.heap.size w0 from fun W hb => hK.below (A0.out.trans hb))
    replace hw0 := hide hw0
    clear hn hcell hok hW hby hl9 hK hT B0
    go_enter Tryz.func169, Tryz.ntmps169
    go_wp2
    rw [hw0.out]
    clear hw0
    go_loopw [9] (fun i wr => RelTk wt ts w w0 i wr) (fun i wr => n - (intOf i).toNat)
    case atStart => exact .mk 0 rfl (Nat.zero_le _) ⟨P0.out, fun j t hj => absurd hj (Nat.not_lt_zero _)⟩
    case round =>
      obtain ⟨k, rfl, k1, R⟩ := id hrel
      clear hrel
      rw [← HN.out] at k1
      clear P0
      by_cases hk : k < n
      · obtain ⟨t, ht⟩ : ∃ t, ts[k]? = some t := ⟨_, List.getElem?_eq_getElem (by rw [← HN.out]; exact hk)⟩
        have P1 := hide R.out.1
        have S1 := ((HC.out k t ht).below A0.out hbw).below P1.out.bel hbw
        have hmem : t ∈ ts := List.mem_of_getElem? ht
        have OK := hide (HOK.out t hmem)
        obtain ⟨p0, p1, p2, p3, p4, p5⟩ := id S1
        have hk' : (k : Int) < n := by omega
        have P2 := hide (P1.out.grow HB.out (bplus (Below.refl wr.heap.size wr) (boxT t)))
        have H2 := hide (heap_alloc_new wr (boxT t))
        have hsz := P1.out.size HB.out
        have CM := hide (mayS_any t.k t.s t.n t.d t.i t.h (wr.alloc (boxT t)) OK.out.k1 OK.out.k2 (by have := OK.out.hs; omega) OK.out.n1 OK.out.n2 OK.out.d1 OK.out.d2 (KK.out _ P2.out.bel) (TT.out.on P2.out.bel).here)
        have AL2 := hide (show (wr.alloc (boxT t)).heap.size = wr.heap.size + 1 by simp)
        have HWT := hide (HW.out t hmem)
        unfold tokV at CM
        cases hm : t.may with
        | false =>
          have E := hide (show mayT t.k (bl t.s) t.n t.d t.i t.h = false from hm)
          have FIN := hide (show ∃ t ∈ ts, t.may = false from ⟨t, hmem, hm⟩)
          clear hm hmem ht S1
          unfold boxT at CM
          go_wp2_with (go_at_call 157; refine CM.out.mono ?_; rintro e w1 ⟨rfl, B1⟩; rw [E.out]; replace B1 := hide (show Below w.heap.size w w1 from A0.out.trans (P2.out.grow HB.out B1).bel))
          go_ret2
          exact ⟨B1.out, .inr ⟨FIN.out, rfl⟩⟩
        | true =>
          have E := hide (show mayT t.k (bl t.s) t.n t.d t.i t.h = true from hm)
          have MAY := hide (show ∀ j t, j < k + 1 → ts[j]? = some t → t.may = true from fun j t' hj h' => by
            by_cases hjk : j < k
            · exact R.out.2 j t' hjk h'
            · obtain rfl : j = k := by omega
              rw [ht] at h'; cases h'; exact hm)
          have LK := hide (show (spK wt ts k).length ≤ 35184372088000 from Nat.le_trans (spK_le wt ts (by rw [← HN.out]; exact k1)) HL.out)
          have WT := hide (HWT.out hm)
          have HT9 := hide ht
          have NT := hide (show wr.heap.size ≠ w.heap.size by have := P1.out.bd.lt; omega)
          clear hm hmem ht S1 HWT
          unfold boxT at CM
          have FIN := hide (show ∀ W xs, spK wt ts (k + 1) = xs → PB w.heap.size w.heap.size xs w0 W → RelTk wt ts w w0 (.int .i64 ((k + 1 : Nat) : Int)) W from fun W xs hx hP => .mk (k + 1) rfl (by rw [← HN.out]; omega) ⟨by rw [hx]; exact hP, MAY.out⟩)
          by_cases hz : k = 0
          · have ST := hide (show spK wt ts (k + 1) = spK wt ts k ++ wt t by subst hz; exact spK_zero (wt := wt) HT9.out)
            have hkz : decide (0 < k) = false := by simp; exact hz
            clear hz
            go_wp2_with (go_at_call 157; refine CM.out.mono ?_; rintro e w1 ⟨rfl, B1⟩; rw [E.out]; replace H2 := hide ((B1.block wr.heap.size (by simp)).trans H2.out); replace P2 := hide (P2.out.grow HB.out B1); clear B1)
            obtain ⟨q9, q0, q1, q2, q3, q4, q5⟩ := tok_box H2.out
            go_quiet (fail)
            replace P2 := hide (P2.out.grow HB.out (below_drewN (Below.refl _ _) nq))
            go_wp2_with (go_at_call 184; refine (WT.out w.heap.size w.heap.size _ _ P2.out.bd (by have := LK.out; omega) (P2.out.size HB.out) (TT.out.on P2.out.bel) (fun W hb => KK.out W (P2.out.bel.trans hb))).mono ?_; rintro e w4 ⟨rfl, P4⟩; replace P2 := hide (P2.out.trans P4); clear P4)
            go_roundw
            case rel => exact FIN.out _ _ ST.out P2.out
            case measure => simp [intOf]; omega
          · obtain ⟨j, hj⟩ : ∃ j, k = j + 1 := ⟨k - 1, by omega⟩
            obtain ⟨p, hp⟩ : ∃ p, ts[j]? = some p := ⟨_, List.getElem?_eq_getElem (by rw [← HN.out]; omega)⟩
            have hpm : p ∈ ts := List.mem_of_getElem? hp
            have OP := hide (HOK.out p hpm)
            have SP := hide ((HC.out j p hp).below A0.out hbw)
            have SAP := hide (fun (ha : apB p.k t.k = true) => show spK wt ts (k + 1) = (spK wt ts k ++ [47, 42, 42, 47]) ++ wt t by subst hj; exact spK_apart HT9.out hp ha)
            have SCL := hide (fun (ha : apB p.k t.k = false) => show spK wt ts (k + 1) = spK wt ts k ++ wt t by subst hj; exact spK_close HT9.out hp ha)
            have hkz : (0 : Int) < k := by omega
            have hkd : decide (0 < k) = true := by simp; omega
            have hkn : 0 < k := by omega
            have hki : IntKind.i64.wrap ((k : Int) - 1) = (j : Int) := by rw [show (k : Int) - 1 = j by omega]; simp [IntKind.wrap, go_sem]; omega
            have hj0 : (0 : Int) ≤ j := by omega
            have hjn : (j : Int) < n := by omega
            have hj9 : j < n := by omega
            clear hz hj hp hpm
            go_wp2_with (go_at_call 157; refine CM.out.mono ?_; rintro e w1 ⟨rfl, B1⟩; rw [E.out]; replace H2 := hide ((B1.block wr.heap.size (by simp)).trans H2.out); replace P2 := hide (P2.out.grow HB.out B1); clear B1)
            have SP1 := hide (SP.out.below P2.out.bel hbw)
            have CA := hide (fun (W : World) (hb : Below w1.heap.size w1 W) => apartS_any p.k p.s p.n p.d p.i p.h t.k t.s t.n t.d t.i t.h W OP.out.k1 OP.out.k2 OK.out.k1 OK.out.k2 (KK.out W (P2.out.grow HB.out hb).bel))
            have hb1 : b < w1.heap.size := Nat.lt_of_lt_of_le hbw (P2.out.size HB.out)
            unfold tokV at CA
            have GR := hide (fun (W : World) (hb : Below w1.heap.size w1 W) => show PB w.heap.size w.heap.size (spK wt ts k) w0 W ∧ W.heap[wr.heap.size]? = some (boxT t) from ⟨P2.out.grow HB.out hb, (hb.block _ (Array.getElem?_eq_some_iff.1 H2.out).1).trans H2.out⟩)
            cases ha : apB p.k t.k with
            | true =>
              have HA := hide ha
              have ST := hide (SAP.out ha)
              have SE := hide (show bl ⟨#[47, 42, 42, 47]⟩ = [47, 42, 42, 47] from rfl)
              clear ha SAP SCL
              go_region_held3 (fun w' => w'.cell? ⟨b, o + j * 6, none⟩ = some (.int .i64 p.k) ∧ w'.cell? ⟨b, o + j * 6 + 1, none⟩ = some (.string p.s) ∧ w'.cell? ⟨b, o + j * 6 + 2, none⟩ = some (.int .i64 p.n) ∧ w'.cell? ⟨b, o + j * 6 + 3, none⟩ = some (.int .i64 p.d) ∧ w'.cell? ⟨b, o + j * 6 + 4, none⟩ = some (.bool p.i) ∧ w'.cell? ⟨b, o + j * 6 + 5, none⟩ = some (.bool p.h) ∧ w'.cell? ⟨wr.heap.size, 0, none⟩ = some (.int .i64 t.k) ∧ w'.cell? ⟨wr.heap.size, 1, none⟩ = some (.string t.s) ∧ w'.cell? ⟨wr.heap.size, 2, none⟩ = some (.int .i64 t.n) ∧ w'.cell? ⟨wr.heap.size, 3, none⟩ = some (.int .i64 t.d) ∧ w'.cell? ⟨wr.heap.size, 4, none⟩ = some (.bool t.i) ∧ w'.cell? ⟨wr.heap.size, 5, none⟩ = some (.bool t.h))
                (exact keep12t (by repeat (first | exact Below.refl _ _ | (with_reducible refine Below.drew ?_) | (with_reducible refine below_drewN ?_ _) | (refine bto ?_ (by assumption)))) H2.out SP1.out hb1)
                ((go_at_call 183; refine (CA.out _ (by repeat (first | exact Below.refl _ _ | (with_reducible refine Below.drew ?_) | (with_reducible refine below_drewN ?_ _) | (refine bto ?_ (by assumption))))).mono ?_; rintro _ wl ⟨rfl, hl9⟩; rw [HA.out]))
              go_wp2_with (first
                | (go_at_call 58; refine (wstr_any w.heap.size w.heap.size _ ⟨#[47, 42, 42, 47]⟩ _ (GR.out _ (by repeat (first | exact Below.refl _ _ | (with_reducible refine Below.drew ?_) | (with_reducible refine below_drewN ?_ _) | (refine bto ?_ (by assumption))))).1.bd (by have := LK.out; show _ + 4 ≤ _; omega) ((GR.out _ (by repeat (first | exact Below.refl _ _ | (with_reducible refine Below.drew ?_) | (with_reducible refine below_drewN ?_ _) | (refine bto ?_ (by assumption))))).1.size HB.out)).mono ?_; rintro e w3 ⟨rfl, P3⟩; rw [SE.out] at P3; replace H2 := hide (P3.oth _ _ (GR.out _ (by repeat (first | exact Below.refl _ _ | (with_reducible refine Below.drew ?_) | (with_reducible refine below_drewN ?_ _) | (refine bto ?_ (by assumption))))).2 (by simpa using NT.out) (by intro c fz hh; cases hh)); replace P2 := hide ((GR.out _ (by repeat (first | exact Below.refl _ _ | (with_reducible refine Below.drew ?_) | (with_reducible refine below_drewN ?_ _) | (refine bto ?_ (by assumption))))).1.trans P3); clear P3; obtain ⟨q9, q0, q1, q2, q3, q4, q5⟩ := tok_box H2.out)
                | (go_at_call 184; refine (WT.out w.heap.size w.heap.size _ _ P2.out.bd (by have := LK.out; rw [List.length_append]; show _ + 4 ≤ _; omega) (P2.out.size HB.out) (TT.out.on P2.out.bel) (fun W hb => KK.out W (P2.out.bel.trans hb))).mono ?_; rintro e w4 ⟨rfl, P4⟩; replace P2 := hide (P2.out.trans P4); clear P4))
              go_roundw
              case rel => exact FIN.out _ _ ST.out P2.out
              case measure => simp [intOf]; omega
            | false =>
              have HA := hide ha
              have ST := hide (SCL.out ha)
              clear ha SAP SCL
              go_region_held3 (fun w' => w'.cell? ⟨b, o + j * 6, none⟩ = some (.int .i64 p.k) ∧ w'.cell? ⟨b, o + j * 6 + 1, none⟩ = some (.string p.s) ∧ w'.cell? ⟨b, o + j * 6 + 2, none⟩ = some (.int .i64 p.n) ∧ w'.cell? ⟨b, o + j * 6 + 3, none⟩ = some (.int .i64 p.d) ∧ w'.cell? ⟨b, o + j * 6 + 4, none⟩ = some (.bool p.i) ∧ w'.cell? ⟨b, o + j * 6 + 5, none⟩ = some (.bool p.h) ∧ w'.cell? ⟨wr.heap.size, 0, none⟩ = some (.int .i64 t.k) ∧ w'.cell? ⟨wr.heap.size, 1, none⟩ = some (.string t.s) ∧ w'.cell? ⟨wr.heap.size, 2, none⟩ = some (.int .i64 t.n) ∧ w'.cell? ⟨wr.heap.size, 3, none⟩ = some (.int .i64 t.d) ∧ w'.cell? ⟨wr.heap.size, 4, none⟩ = some (.bool t.i) ∧ w'.cell? ⟨wr.heap.size, 5, none⟩ = some (.bool t.h))
                (exact keep12t (by repeat (first | exact Below.refl _ _ | (with_reducible refine Below.drew ?_) | (with_reducible refine below_drewN ?_ _) | (refine bto ?_ (by assumption)))) H2.out SP1.out hb1)
                ((go_at_call 183; refine (CA.out _ (by repeat (first | exact Below.refl _ _ | (with_reducible refine Below.drew ?_) | (with_reducible refine below_drewN ?_ _) | (refine bto ?_ (by assumption))))).mono ?_; rintro _ wl ⟨rfl, hl9⟩; rw [HA.out]))
              go_wp2_with (go_at_call 184; refine (WT.out w.heap.size w.heap.size _ _ (GR.out _ (by repeat (first | exact Below.refl _ _ | (with_reducible refine Below.drew ?_) | (with_reducible refine below_drewN ?_ _) | (refine bto ?_ (by assumption))))).1.bd (by have := LK.out; omega) ((GR.out _ (by repeat (first | exact Below.refl _ _ | (with_reducible refine Below.drew ?_) | (with_reducible refine below_drewN ?_ _) | (refine bto ?_ (by assumption))))).1.size HB.out) (TT.out.on (GR.out _ (by repeat (first | exact Below.refl _ _ | (with_reducible refine Below.drew ?_) | (with_reducible refine below_drewN ?_ _) | (refine bto ?_ (by assumption))))).1.bel) (fun W hb => KK.out W ((GR.out _ (by repeat (first | exact Below.refl _ _ | (with_reducible refine Below.drew ?_) | (with_reducible refine below_drewN ?_ _) | (refine bto ?_ (by assumption))))).1.bel.trans hb))).mono ?_; rintro e w4 ⟨rfl, P4⟩; replace P2 := hide ((GR.out _ (by repeat (first | exact Below.refl _ _ | (with_reducible refine Below.drew ?_) | (with_reducible refine below_drewN ?_ _) | (refine bto ?_ (by assumption))))).1.trans P4); clear P4)
              go_roundw
              case rel => exact FIN.out _ _ ST.out P2.out
              case measure => simp [intOf]; omega
      · have hk' : ¬ (k : Int) < n := by omega
        have hkn : k = ts.length := by rw [← HN.out]; omega
        have AL := hide (show ∀ t ∈ ts, t.may = true from fun t ht => by
          obtain ⟨j, hj, rfl⟩ := List.mem_iff_getElem.1 ht
          exact R.out.2 j _ (by omega) (List.getElem?_eq_getElem hj))
        have P1 := hide R.out.1
        rw [hkn] at P1
        clear hkn
        go_wp2_with (go_at_call 37; refine (bstr_any w.heap.size w.heap.size _ _ HBY.out P1.out.bd (P1.out.size HB.out)).mono ?_; rintro e w1 ⟨s, rfl, hs, B1⟩; replace hs := hide hs; replace B1 := hide (show Below w.heap.size w w1 from A0.out.trans (P1.out.bel.trans B1)))
        go_ret2
        exact ⟨B1.out, .inl ⟨AL.out, s, rfl, hs.out⟩⟩
end Go.Proofs.YtmkbjcoagfnegaaGreatDoor
set_option linter.unusedVariables false
set_option linter.unusedSimpArgs false
namespace Go.Proofs.YtmkbjcoagfnegaaGreatDoor
open Go.RowKit

set_option maxRecDepth 100000 in
set_option maxHeartbeats 4000000 in
theorem encR_any (ls : List Int) (v : Value) (w : World) (hv : Nums .i32 w v ls) (hl9 : ls.length ≤ 35184372088832) :
    Calls Tryz.prog 110 #[v] w fun e w' => ∃ u, e = .returned u ∧ Nums .u8 w' u (enc ls) ∧ Below w.heap.size w w' := by
  obtain ⟨i0, hi, hz0, hz1, hz2⟩ := info_parts info8
  rcases hv with ⟨a, c, rfl, rfl⟩ | ⟨b, o, n, c, rfl, hn, h0, hbw, hl, hn9, hc9, hc⟩
  · go_enter Tryz.func110, Tryz.ntmps110
    go_wp2
    refine wp_loop_rounds 1 ?_
    rw [rounds_succ]
    go_wp2
    go_ret
    exact ⟨_, rfl, .inl ⟨_, _, rfl, rfl⟩, Below.refl _ _⟩
  · have HN : Hid (n = ls.length) := hn
    have HC := hide hc
    have hnb : n ≤ 35184372088832 := by omega
    clear hc hn hl9
    go_enter Tryz.func110, Tryz.ntmps110
    go_wp2
    go_loopw [3, 8] (fun b i wr => RelEnc w n ls b i wr) (fun _ i _ => n - (intOf i).toNat)
    case atStart => exact .mk 0 (by omega) rfl (Own.nil _ _ _)
    case round =>
      obtain ⟨k, hk, rfl, HO⟩ := hrel
      replace HO := hide HO
      have hle := enc_take_len ls k
      by_cases hlt : k < n
      · have cx : wr.cell? ⟨b, o + k, none⟩ = some (.int .i32 (gt ls k)) := (HO.out.2.cell (p := ⟨b, o + k, none⟩) hbw).trans (HC.out k hlt)
        have R : Hid (enc (ls.take (k + 1)) = enc (ls.take k) ++ enc1 (chr (gt ls k))) := by rw [take_gt (by rw [← HN.out]; exact hlt)]; exact enc_snoc _ _
        generalize gt ls k = x at cx R
        by_cases hx : isC x = true
        · obtain ⟨x0, x1, x2⟩ := (isC_iff x).1 hx
          rw [chr_yes hx] at R
          have HX := hide hx
          clear hx x2
          rcases (show x ≤ 127 ∨ (127 < x ∧ x ≤ 2047) ∨ (2047 < x ∧ x ≤ 65535) ∨ 65535 < x by omega) with g | ⟨g, g'⟩ | ⟨g, g'⟩ | g
          · rw [enc1_1 g] at R
            go_wp2_with (first
              | (go_at_call 71; refine (isR_any x _).mono ?_; rintro e w' ⟨rfl, rfl⟩; rw [HX.out])
              | (at_builtin; refine wpList_append_own _ rfl _ _ 30 rfl w.heap.size 5 i0 (.int .u8 0) 1 1 Tryz.underlying30 hi hz0 hz1 hz2 rfl (by decide) _ _ _ rfl (HO.out.1.alloc _) ⟨_, 0, none⟩ 1 1 [.int .u8 (x)] rfl rfl (newsL _ _ _) (ints_oneCell .u8 [x]) (by unfold maxLen; omega) (by omega) (by have := HO.out.2.size; simp; omega) ?_; intro v' w1 hown' hgrow _; replace HO := hide (HO.out.grow (ys := [x]) hown' hgrow); clear hown' hgrow))
            go_roundw
            case rel => exact .mk (k + 1) (by omega) (by go_num) (by rw [R.out]; exact HO.out)
            case measure => simp [intOf]; omega
          · rw [enc1_2 g g'] at R
            have d0 : 0 ≤ x / 64 := by omega
            have d1 : x / 64 < 32 := by omega
            have e1 := i32_or192 (x / 64) d0 (by omega)
            have q1 := i32_and63 x (by omega) (by omega)
            have q2 := i32_or128 (x % 64) (by omega) (by omega)
            have q3 : 0 ≤ x % 64 := by omega
            have q4 : x % 64 < 64 := by omega
            go_wp2_with (first
              | (go_at_call 71; refine (isR_any x _).mono ?_; rintro e w' ⟨rfl, rfl⟩; rw [HX.out])
              | (at_builtin; refine wpList_append_own _ rfl _ _ 30 rfl w.heap.size 5 i0 (.int .u8 0) 1 1 Tryz.underlying30 hi hz0 hz1 hz2 rfl (by decide) _ _ _ rfl (HO.out.1.alloc _) ⟨_, 0, none⟩ 2 2 [.int .u8 (192 + x / 64), .int .u8 (128 + x % 64)] rfl rfl (newsL _ _ _) (ints_oneCell .u8 [192 + x / 64, 128 + x % 64]) (by unfold maxLen; omega) (by omega) (by have := HO.out.2.size; simp; omega) ?_; intro v' w1 hown' hgrow _; replace HO := hide (HO.out.grow (ys := [192 + x / 64, 128 + x % 64]) hown' hgrow); clear hown' hgrow))
            go_roundw
            case rel => exact .mk (k + 1) (by omega) (by go_num) (by rw [R.out]; exact HO.out)
            case measure => simp [intOf]; omega
          · rw [enc1_3 g g'] at R
            have d0 : 0 ≤ x / 4096 := by omega
            have d1 : x / 4096 < 16 := by omega
            have e1 := i32_or224 (x / 4096) d0 (by omega)
            have p1 := i32_and63 (x / 64) (by omega) (by omega)
            have p2 := i32_or128 (x / 64 % 64) (by omega) (by omega)
            have p3 : 0 ≤ x / 64 % 64 := by omega
            have p4 : x / 64 % 64 < 64 := by omega
            have q1 := i32_and63 x (by omega) (by omega)
            have q2 := i32_or128 (x % 64) (by omega) (by omega)
            have q3 : 0 ≤ x % 64 := by omega
            have q4 : x % 64 < 64 := by omega
            go_wp2_with (first
              | (go_at_call 71; refine (isR_any x _).mono ?_; rintro e w' ⟨rfl, rfl⟩; rw [HX.out])
              | (at_builtin; refine wpList_append_own _ rfl _ _ 30 rfl w.heap.size 5 i0 (.int .u8 0) 1 1 Tryz.underlying30 hi hz0 hz1 hz2 rfl (by decide) _ _ _ rfl (HO.out.1.alloc _) ⟨_, 0, none⟩ 3 3 [.int .u8 (224 + x / 4096), .int .u8 (128 + x / 64 % 64), .int .u8 (128 + x % 64)] rfl rfl (newsL _ _ _) (ints_oneCell .u8 [224 + x / 4096, 128 + x / 64 % 64, 128 + x % 64]) (by unfold maxLen; omega) (by omega) (by have := HO.out.2.size; simp; omega) ?_; intro v' w1 hown' hgrow _; replace HO := hide (HO.out.grow (ys := [224 + x / 4096, 128 + x / 64 % 64, 128 + x % 64]) hown' hgrow); clear hown' hgrow))
            go_roundw
            case rel => exact .mk (k + 1) (by omega) (by go_num) (by rw [R.out]; exact HO.out)
            case measure => simp [intOf]; omega
          · rw [enc1_4 g] at R
            have d0 : 0 ≤ x / 262144 := by omega
            have d1 : x / 262144 < 8 := by omega
            have e1 := i32_or240 (x / 262144) d0 (by omega)
            have p1 := i32_and63 (x / 64) (by omega) (by omega)
            have p2 := i32_or128 (x / 64 % 64) (by omega) (by omega)
            have p3 : 0 ≤ x / 64 % 64 := by omega
            have p4 : x / 64 % 64 < 64 := by omega
            have r1 := i32_and63 (x / 4096) (by omega) (by omega)
            have r2 := i32_or128 (x / 4096 % 64) (by omega) (by omega)
            have r3 : 0 ≤ x / 4096 % 64 := by omega
            have r4 : x / 4096 % 64 < 64 := by omega
            have q1 := i32_and63 x (by omega) (by omega)
            have q2 := i32_or128 (x % 64) (by omega) (by omega)
            have q3 : 0 ≤ x % 64 := by omega
            have q4 : x % 64 < 64 := by omega
            go_wp2_with (first
              | (go_at_call 71; refine (isR_any x _).mono ?_; rintro e w' ⟨rfl, rfl⟩; rw [HX.out])
              | (at_builtin; refine wpList_append_own _ rfl _ _ 30 rfl w.heap.size 5 i0 (.int .u8 0) 1 1 Tryz.underlying30 hi hz0 hz1 hz2 rfl (by decide) _ _ _ rfl (HO.out.1.alloc _) ⟨_, 0, none⟩ 4 4 [.int .u8 (240 + x / 262144), .int .u8 (128 + x / 4096 % 64), .int .u8 (128 + x / 64 % 64), .int .u8 (128 + x % 64)] rfl rfl (newsL _ _ _) (ints_oneCell .u8 [240 + x / 262144, 128 + x / 4096 % 64, 128 + x / 64 % 64, 128 + x % 64]) (by unfold maxLen; omega) (by omega) (by have := HO.out.2.size; simp; omega) ?_; intro v' w1 hown' hgrow _; replace HO := hide (HO.out.grow (ys := [240 + x / 262144, 128 + x / 4096 % 64, 128 + x / 64 % 64, 128 + x % 64]) hown' hgrow); clear hown' hgrow))
            go_roundw
            case rel => exact .mk (k + 1) (by omega) (by go_num) (by rw [R.out]; exact HO.out)
            case measure => simp [intOf]; omega
        · have hx' : isC x = false := by simpa using hx
          have e65 : enc1 65533 = [239, 191, 189] := by decide
          rw [chr_no hx', e65] at R
          have HX := hide hx'
          clear hx hx' e65
          have f1 : bits .or .i32 224 15 = 239 := by decide
          have f2 : bits .and .i32 1023 63 = 63 := by decide
          have f3 : bits .and .i32 65533 63 = 61 := by decide
          have f4 : bits .or .i32 128 63 = 191 := by decide
          have f5 : bits .or .i32 128 61 = 189 := by decide
          go_wp2_with (first
            | (go_at_call 71; refine (isR_any x _).mono ?_; rintro e w' ⟨rfl, rfl⟩; rw [HX.out])
            | (at_builtin; refine wpList_append_own _ rfl _ _ 30 rfl w.heap.size 5 i0 (.int .u8 0) 1 1 Tryz.underlying30 hi hz0 hz1 hz2 rfl (by decide) _ _ _ rfl (HO.out.1.alloc _) ⟨_, 0, none⟩ 3 3 [.int .u8 (239), .int .u8 (191), .int .u8 (189)] rfl rfl (newsL _ _ _) (ints_oneCell .u8 [239, 191, 189]) (by unfold maxLen; omega) (by omega) (by have := HO.out.2.size; simp; omega) ?_; intro v' w1 hown' hgrow _; replace HO := hide (HO.out.grow (ys := [239, 191, 189]) hown' hgrow); clear hown' hgrow))
          go_roundw
          case rel => exact .mk (k + 1) (by omega) (by go_num) (by rw [R.out]; exact HO.out)
          case measure => simp [intOf]; omega
      · have hkn : k = n := by omega
        subst hkn
        have R : Hid (ls.take k = ls) := List.take_of_length_le (by rw [← HN.out]; omega)
        rw [R.out] at HO hle
        have N := hide (HO.out.nums (by omega))
        go_wp2
        go_ret
        exact ⟨_, rfl, N.out, HO.out.2⟩
end Go.Proofs.YtmkbjcoagfnegaaGreatDoor
set_option linter.unusedVariables false
set_option linter.unusedSimpArgs false
namespace Go.Proofs.YtmkbjcoagfnegaaGreatDoor
open Go.RowKit Go.Shelf

theorem fst4_cases (c : Int) : (c < 65 ∧ isFst c = false) ∨ (65 ≤ c ∧ c ≤ 90 ∧ isFst c = true) ∨ (90 < c ∧ c < 95 ∧ isFst c = false) ∨ (c = 95 ∧ isFst c = true) ∨ (c = 96 ∧ isFst c = false) ∨ (97 ≤ c ∧ c ≤ 122 ∧ isFst c = true) ∨ (122 < c ∧ c < 128 ∧ isFst c = false) ∨ (128 ≤ c ∧ isFst c = true) := by
  have : isFst c = true ↔ (97 ≤ c ∧ c ≤ 122) ∨ (65 ≤ c ∧ c ≤ 90) ∨ c = 95 ∨ 128 ≤ c := by simp [isFst]; omega
  by_cases h : isFst c = true
  · have := this.1 h; simp only [h, and_true]; simp; omega
  · have h' : isFst c = false := by simpa using h
    have : ¬ ((97 ≤ c ∧ c ≤ 122) ∨ (65 ≤ c ∧ c ≤ 90) ∨ c = 95 ∨ 128 ≤ c) := fun k => h (this.2 k)
    simp only [h', and_true]; simp; omega
theorem isDig4_any (c : Int) (w : World) : Calls Tryz.prog 105 #[.int .i32 c] w fun e w' => e = .returned (.bool (isDig c)) ∧ w' = w := by
  rcases (show c < 48 ∨ (48 ≤ c ∧ c ≤ 57) ∨ 57 < c by omega) with h | ⟨h, g⟩ | h
  all_goals
    go_enter Tryz.func105, Tryz.ntmps105
    go_wp2
    go_ret
    exact ⟨ret_bool (by simp [isDig]; omega), rfl⟩
set_option maxHeartbeats 1000000 in
theorem isFst4_any (c : Int) (w : World) : Calls Tryz.prog 104 #[.int .i32 c] w fun e w' => e = .returned (.bool (isFst c)) ∧ w' = w := by
  rcases fst4_cases c with ⟨h, e⟩ | ⟨h, g, e⟩ | ⟨h, g, e⟩ | ⟨rfl, e⟩ | ⟨rfl, e⟩ | ⟨h, g, e⟩ | ⟨h, g, e⟩ | ⟨h, e⟩
  all_goals
    have E := hide e
    clear e
    go_enter Tryz.func104, Tryz.ntmps104
    go_wp2
    go_ret
    exact ⟨ret_bool (by rw [E.out]; first | done | rfl | (simp; omega)), rfl⟩
theorem isLet4_any (c : Int) (w : World) : Calls Tryz.prog 75 #[.int .i32 c] w fun e w' => e = .returned (.bool (isLet c)) ∧ w' = w := by
  cases hf : isFst c
  · cases hd : isDig c
    · by_cases h : c = 45
      · subst h
        have F := hide hf
        have D := hide hd
        clear hf hd
        go_enter Tryz.func75, Tryz.ntmps75
        go_wp2_with (first
          | (go_at_call 104; refine (isFst4_any _ _).mono ?_; rintro e w' ⟨rfl, rfl⟩; rw [F.out])
          | (go_at_call 105; refine (isDig4_any _ _).mono ?_; rintro e w' ⟨rfl, rfl⟩; rw [D.out]))
        go_ret
        exact ⟨rfl, rfl⟩
      · have e1 : (c == 45) = false := by simpa using h
        have F := hide hf
        have D := hide hd
        clear hf hd
        go_enter Tryz.func75, Tryz.ntmps75
        go_wp2_with (first
          | (go_at_call 104; refine (isFst4_any _ _).mono ?_; rintro e w' ⟨rfl, rfl⟩; rw [F.out])
          | (go_at_call 105; refine (isDig4_any _ _).mono ?_; rintro e w' ⟨rfl, rfl⟩; rw [D.out]))
        go_ret
        exact ⟨ret_bool (by unfold isLet; rw [F.out, D.out, e1]; rfl), rfl⟩
    · have F := hide hf
      have D := hide hd
      clear hf hd
      go_enter Tryz.func75, Tryz.ntmps75
      go_wp2_with (first
        | (go_at_call 104; refine (isFst4_any _ _).mono ?_; rintro e w' ⟨rfl, rfl⟩; rw [F.out])
        | (go_at_call 105; refine (isDig4_any _ _).mono ?_; rintro e w' ⟨rfl, rfl⟩; rw [D.out]))
      go_ret
      exact ⟨ret_bool (by unfold isLet; rw [F.out, D.out]; rfl), rfl⟩
  · have F := hide hf
    clear hf
    go_enter Tryz.func75, Tryz.ntmps75
    go_wp2_with (go_at_call 104; refine (isFst4_any _ _).mono ?_; rintro e w' ⟨rfl, rfl⟩; rw [F.out])
    go_ret
    exact ⟨ret_bool (by unfold isLet; rw [F.out]; rfl), rfl⟩
theorem nums_back {w : World} {v : Value} {bs : List Int} (h : Nums .u8 w v bs) (h0 : 0 < bs.length) (hb : By bs) : ∃ s, bl s = bs ∧ (convert 30 9 v).run Tryz.prog w = .ok (.string s) w := by
  rcases h with ⟨_, _, _, rfl⟩ | ⟨b, o, n, c, rfl, hn, _, _, _, _, _, hc⟩
  · simp at h0
  have e : ∀ j, j < bs.length → (((bs.map fun x => UInt8.ofNat x.toNat).getD j 0).toNat : Int) = gt bs j := fun j hj => by
    have := hb (bs[j]) (List.getElem_mem hj)
    rw [gt_eq hj]
    simp [List.getD_eq_getElem?_getD, List.getElem?_map, List.getElem?_eq_getElem hj]
    omega
  refine ⟨⟨(bs.map fun x => UInt8.ofNat x.toNat).toArray⟩, ?_, ?_⟩
  · unfold bl
    rw [List.toList_toArray, List.map_map]
    conv => rhs; rw [← List.map_id bs]
    refine List.map_congr_left fun x hx => ?_
    have := hb x hx
    simp
    omega
  · have k' := run_convert_bytes_back (P := Tryz.prog) w 30 9 5 ⟨b, o, none⟩ c (bs.map fun x => UInt8.ofNat x.toNat) Tryz.underlying30 Tryz.underlying5 Tryz.underlying9 (fun j hj => by
      have hj' : j < bs.length := by simpa using hj
      have e2 := e j hj'
      rw [List.getD_eq_getElem?_getD, List.getElem?_eq_getElem hj] at e2
      rw [Lib.add_plain, hc j (by omega), ← e2]
      rfl)
    rw [List.length_map, ← hn] at k'
    exact k'
theorem enc_sole {c : Int} (h : isC c = true) : enc [c] = enc1 c := by
  unfold enc
  simp [chr, h]
theorem enc1_by {c : Int} (h : isC c = true) : By (enc1 c) := by
  rw [isC_iff] at h
  unfold enc1
  split
  · intro x hx; simp at hx; omega
  split
  · intro x hx; simp at hx; omega
  split
  · intro x hx; simp at hx; omega
  · intro x hx; simp at hx; omega
theorem enc1_pos (c : Int) : 0 < (enc1 c).length := by
  unfold enc1
  split
  · simp
  split
  · simp
  split <;> simp
set_option maxHeartbeats 1000000 in
theorem text4_one (c : Int) (v : Value) (w : World) (hc : isC c = true) (hv : Nums .i32 w v [c]) :
    Calls Tryz.prog 82 #[v] w fun e w' => ∃ s, e = .returned (.string s) ∧ bl s = enc1 c ∧ Below w.heap.size w w' := by
  have C := hide (encR_any [c] v w hv (by simp))
  have HC := hide hc
  clear hv
  go_enter Tryz.func82, Tryz.ntmps82
  go_wp2_with fail
  go_at_call 110
  refine C.out.mono ?_
  rintro e w1 ⟨u, rfl, N, B⟩
  rw [enc_sole HC.out] at N
  obtain ⟨s, hs, hcv⟩ := nums_back N (enc1_pos c) (enc1_by HC.out)
  replace hs := hide hs
  replace B := hide B
  clear N C
  go_wp2
  go_ret
  exact ⟨s, rfl, hs.out, B.out⟩
set_option maxHeartbeats 1000000 in
theorem esc4_any (c : Int) (w : World) (c0 : 0 ≤ c) (hc : c < 65536) (hT : Tabs w) :
    Calls Tryz.prog 154 #[.int .i32 c] w fun e w' => ∃ s, e = .returned (.string s) ∧ bl s = esc c ∧ Below w.heap.size w w' := by
  have C := hide (fmt16 c w c0 hc hT)
  have HL := hide (show ∀ s : ByteArray, bl s = hxL c.toNat → s.size ≤ 4 from fun s hs => by rw [← bl_len, hs]; exact (hxL_len (by omega)).2)
  clear hT
  go_enter Tryz.func154, Tryz.ntmps154
  go_wp2_with (go_at_call 172; refine C.out.mono ?_; rintro e w1 ⟨s, rfl, hs, B⟩; have hz := HL.out s hs; replace hs := hide hs; replace B := hide B)
  go_ret
  exact ⟨_, rfl, by rw [bl_app, bl_app, hs.out]; simp [esc]; rfl, B.out⟩
end Go.Proofs.YtmkbjcoagfnegaaGreatDoor

