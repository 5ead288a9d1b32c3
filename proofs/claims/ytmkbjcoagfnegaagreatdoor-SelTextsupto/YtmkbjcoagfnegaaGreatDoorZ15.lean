/-
  The law of identifiers.
  Names and texts, written: by the program.
  Tokens of a name or a text, written.
  Selectors: plain, and in memory; which may be.
-/
import Derived.Test.YtmkbjcoagfnegaaGreatDoorZ14
import Derived.Test.YtmkbjcoagfnegaaGreatDoorZ11
import Derived.Test.YtmkbjcoagfnegaaGreatDoorZ12
set_option linter.unusedVariables false
set_option linter.unusedSimpArgs false
namespace Go.Proofs.YtmkbjcoagfnegaaGreatDoor
open Go.RowKit Go.Shelf

end Go.Proofs.YtmkbjcoagfnegaaGreatDoor
set_option linter.unusedVariables false
set_option linter.unusedSimpArgs false
namespace Go.Proofs.YtmkbjcoagfnegaaGreatDoor
open Go.RowKit Go.Shelf

/-! ### A text in quotes -/
def qtT (c : Int) : List Int := if c = 34 ∨ c = 92 then 92 :: enc1 c else if isHid c = true then esc c else enc1 c
def qtR (bs : List Int) (p : Nat) : List Int := (raw (bs.drop p)).flatMap qtT
theorem qtR_step {bs : List Int} {p k : Nat} {c : Int} (h : raw (bs.drop p) = c :: raw (bs.drop (p + k))) : qtR bs p = qtT c ++ qtR bs (p + k) := by
  unfold qtR; rw [h, List.flatMap_cons]
theorem qtR_end {bs : List Int} {p : Nat} (h : bs.length ≤ p) : qtR bs p = [] := by
  unfold qtR; rw [List.drop_of_length_le h, raw_nil]; rfl
theorem qtT_len (c : Int) : (qtT c).length ≤ 6 := by
  have := enc1_len c
  unfold qtT
  split
  · simp; omega
  split
  · rename_i h; exact esc_len (hid_bd h).1 (hid_bd h).2
  · omega
set_option maxRecDepth 100000 in
set_option maxHeartbeats 2000000 in
theorem wStr_any (B b : Nat) (xs : List Int) (s : ByteArray) (w : World) (hw : whole (bl s) = true) (h : Bd B b xs w) (hl : xs.length + 6 * s.size + 2 ≤ 70368744177664) (hB : B ≤ w.heap.size) (hT : TB B w) :
    Calls Tryz.prog 201 #[.pointer (some ⟨b, 0, none⟩), .string s] w fun e w' => e = .returned (.tuple #[]) ∧ PB B b (xs ++ (34 :: (qtR (bl s) 0 ++ [34]))) w w' := by
  have C1 := hide (wbyte_any B b xs 34 w h (by omega) hB)
  have HT := hide hT
  have HW := hide hw
  clear h hT hw
  go_enter Tryz.func201, Tryz.ntmps201
  go_wp2_with (go_at_call 199; refine C1.out.mono ?_; rintro e w0 ⟨rfl, P0⟩; replace P0 := hide P0; clear C1)
  have hB0 : B ≤ w0.heap.size := P0.out.size hB
  have ST := hide (PB.range P0.out.bd hB0 s)
  have HBK := hide (Nat.ne_of_lt P0.out.bd.lt : b ≠ w0.heap.size)
  go_wp2
  go_loopw [] (fun wr => RelW B b (xs ++ [34]) s w0 (qtR (bl s)) wr) (fun wr => s.size - wr.iterPos w0.heap.size)
  case atStart =>
    exact RelW.mk 0 [] (Nat.zero_le _) ⟨by rw [List.append_nil]; exact ST.out.1, ST.out.2, rfl, HW.out, Nat.zero_le _⟩
  case round =>
    clear ST
    obtain ⟨p, done, hp, H⟩ := id hrel
    clear hrel
    by_cases hlt : p < s.size
    · obtain ⟨wi, c, k, r⟩ := rnd_of H.out.1 hB0 H.out.2.1 H.out.2.2.2.1 hlt
      have hnx := r.nx
      have IP := hide (show wr.iterPos w0.heap.size = p by simp only [World.iterPos, H.out.2.1])
      have LN := hide (show (xs ++ [34] ++ done).length ≤ 70368744177664 by have := H.out.2.2.2.2; simp; omega)
      have SZ := r.pb.size hB0
      have TT := hide (HT.out.on (P0.out.bel.trans r.pb.bel))
      have STP := hide (qtR_step r.rw)
      have K1 := r.k1
      have KS := r.ks
      replace r := hide r
      have ON := hide (fun w1 (P : PB B b ((xs ++ [34] ++ done) ++ qtT c) wi w1) => r.out.on (R := qtR (bl s)) HBK.out P H.out.2.2.1 STP.out H.out.2.2.2.2 (qtT_len c))
      clear STP H
      by_cases h1 : c = 34 ∨ c = 92
      · have E := hide (show qtT c = 92 :: enc1 c by unfold qtT; rw [if_pos h1])
        have CL := hide (wSl_any B b (xs ++ [34] ++ done) c wi r.out.isc r.out.pb.bd (by have := LN.out; omega) SZ)
        rw [E.out] at ON
        clear LN TT r
        rcases h1 with rfl | rfl
        all_goals
          go_wp2_with (go_at_call 228; refine CL.out.mono ?_; rintro e w1 ⟨rfl, P1⟩; replace P1 := hide P1)
          go_roundw
          case rel => exact (ON.out _ P1.out).1
          case measure => rw [(ON.out _ P1.out).2, IP.out]; omega
      · have e1 : (c == 34) = false := by simp; exact fun h => h1 (.inl h)
        have e2 : (c == 92) = false := by simp; exact fun h => h1 (.inr h)
        cases hh : isHid c with
        | true =>
          have E := hide (show qtT c = esc c by unfold qtT; rw [if_neg h1, if_pos hh])
          have CL := hide (wEsc_any B b (xs ++ [34] ++ done) c wi (hid_bd hh).1 (hid_bd hh).2 r.out.pb.bd (by have := LN.out; omega) SZ TT.out)
          rw [E.out] at ON
          replace hh := hide hh
          clear LN TT r h1
          go_wp2_with (first
            | (go_at_call 229; refine (isHidden_any c _).mono ?_; rintro e w1 ⟨rfl, rfl⟩; rw [hh.out])
            | (go_at_call 225; refine CL.out.mono ?_; rintro e w1 ⟨rfl, P1⟩; replace P1 := hide P1))
          go_roundw
          case rel => exact (ON.out _ P1.out).1
          case measure => rw [(ON.out _ P1.out).2, IP.out]; omega
        | false =>
          have E := hide (show qtT c = enc1 c by unfold qtT; rw [if_neg h1, hh]; rfl)
          have CL := hide (wrune_any B b (xs ++ [34] ++ done) c wi r.out.isc r.out.pb.bd (by have := LN.out; omega) SZ)
          rw [E.out] at ON
          replace hh := hide hh
          clear LN TT r h1
          go_wp2_with (first
            | (go_at_call 229; refine (isHidden_any c _).mono ?_; rintro e w1 ⟨rfl, rfl⟩; rw [hh.out])
            | (go_at_call 230; refine CL.out.mono ?_; rintro e w1 ⟨rfl, P1⟩; replace P1 := hide P1))
          go_roundw
          case rel => exact (ON.out _ P1.out).1
          case measure => rw [(ON.out _ P1.out).2, IP.out]; omega
    · have hnx : ∀ ty, (Instr.next (.pointer (some ⟨w0.heap.size, 0, none⟩)) true ty).run Tryz.prog wr = _ := fun ty => Lib.run_next_end_at wr w0.heap.size s p ty H.out.2.1 hlt
      have e : qtR (bl s) 0 = done := by rw [H.out.2.2.1, qtR_end (by rw [bl_len]; omega), List.append_nil]
      have CL := hide (wbyte_any B b (xs ++ [34] ++ done) 34 wr H.out.1.bd (by have := H.out.2.2.2.2; simp; omega) (H.out.1.size hB0))
      have PF := hide (fun w1 (P : PB B b (xs ++ [34] ++ done ++ [34]) wr w1) => show PB B b (xs ++ (34 :: (qtR (bl s) 0 ++ [34]))) w w1 by
        have := (P0.out.trans H.out.1).trans P
        rw [e]
        simpa using this)
      clear e
      go_wp2_with (go_at_call 199; refine CL.out.mono ?_; rintro e w1 ⟨rfl, P1⟩; replace P1 := hide P1)
      go_end0
      exact ⟨rfl, PF.out _ P1.out⟩
end Go.Proofs.YtmkbjcoagfnegaaGreatDoor
set_option linter.unusedVariables false
set_option linter.unusedSimpArgs false
namespace Go.Proofs.YtmkbjcoagfnegaaGreatDoor
open Go.RowKit Go.Shelf

def knT (k : Int) (s : ByteArray) : TS := ⟨k, s, 0, 0, false, false⟩
set_option maxRecDepth 100000 in
set_option maxHeartbeats 2000000 in
theorem writes_text (s : ByteArray) (hs : s.size ≤ 1099511627776) (hw : whole (bl s) = true) : Writes (fun t => 34 :: (qtR (bl t.s) 0 ++ [34])) (knT 5 s) := by
  intro B b xs W hb hl hB hT hK
  have PW := hide (fun (W1 : World) (hb1 : Below W.heap.size W W1) => (PB.start hb).grow hB hb1)
  have C := hide (fun (W1 : World) (hb1 : Below W.heap.size W W1) => wStr_any B b xs s W1 hw (PW.out W1 hb1).bd (by omega) ((PW.out W1 hb1).size hB) (hT.on (PW.out W1 hb1).bel))
  clear hb hT hK hw
  unfold TS.v knT tokV
  go_enter Tryz.func184, Tryz.ntmps184
  go_wp2_with (go_at_call 201; refine (C.out _ (by first | exact Below.refl _ _ | exact bplus (Below.refl _ _) _)).mono ?_; rintro e w1 ⟨rfl, P1⟩; replace P1 := hide ((PW.out _ (by first | exact Below.refl _ _ | exact bplus (Below.refl _ _) _)).trans P1))
  go_end0
  exact ⟨rfl, P1.out⟩
end Go.Proofs.YtmkbjcoagfnegaaGreatDoor
set_option linter.unusedVariables false
set_option linter.unusedSimpArgs false
namespace Go.Proofs.YtmkbjcoagfnegaaGreatDoor
open Go.RowKit

/-- A simple selector; a complex one is its compounds, each with its combinator. -/
inductive Sl where
  | mk (k op a b : Int) (nm vl : ByteArray) (fo : Bool) (ls : List (List (Int × List Sl)))
abbrev Cp := Int × List Sl
abbrev Cx := List Cp
def Sl.k : Sl → Int | .mk k _ _ _ _ _ _ _ => k
def Sl.op : Sl → Int | .mk _ o _ _ _ _ _ _ => o
def Sl.a : Sl → Int | .mk _ _ a _ _ _ _ _ => a
def Sl.b : Sl → Int | .mk _ _ _ b _ _ _ _ => b
def Sl.nm : Sl → ByteArray | .mk _ _ _ _ n _ _ _ => n
def Sl.vl : Sl → ByteArray | .mk _ _ _ _ _ v _ _ => v
def Sl.fo : Sl → Bool | .mk _ _ _ _ _ _ f _ => f
def Sl.ls : Sl → List Cx | .mk _ _ _ _ _ _ _ l => l
/-- Does it hold of each, by its place? -/
def allI {α : Type} (f : Nat → α → Bool) (l : List α) : Bool := (List.range l.length).all fun j => match l[j]? with | none => true | some x => f j x
theorem allI_iff {α : Type} {f : Nat → α → Bool} {l : List α} : allI f l = true ↔ ∀ j x, l[j]? = some x → f j x = true := by
  unfold allI
  rw [List.all_eq_true]
  constructor
  · intro h j x hj
    have := h j (List.mem_range.2 (List.getElem?_eq_some_iff.1 hj).1)
    rw [hj] at this
    exact this
  · intro h j hj
    rw [List.mem_range] at hj
    rw [List.getElem?_eq_getElem hj]
    exact h j _ (List.getElem?_eq_getElem hj)
theorem allI_no {α : Type} {f : Nat → α → Bool} {l : List α} {j : Nat} {x : α} (h : l[j]? = some x) (g : f j x = false) : allI f l = false := by
  cases e : allI f l with
  | false => rfl
  | true => rw [allI_iff.1 e j x h] at g; cases g
theorem allI_snoc {α : Type} {f : Nat → α → Bool} {l : List α} {k : Nat} {x : α} (h : ∀ j y, j < k → l[j]? = some y → f j y = true) (hk : l[k]? = some x) (g : f k x = true) : ∀ j y, j < k + 1 → l[j]? = some y → f j y = true := by
  intro j y hj hy
  by_cases e : j = k
  · subst e; rw [hk] at hy; cases hy; exact g
  · exact h j y (by omega) hy
theorem allI_end {α : Type} {f : Nat → α → Bool} {l : List α} {k : Nat} (h : ∀ j y, j < k → l[j]? = some y → f j y = true) (hk : l.length ≤ k) : allI f l = true :=
  allI_iff.2 fun j x hj => h j x (by have := (List.getElem?_eq_some_iff.1 hj).1; omega) hj
def nmS9 (s : ByteArray) : Bool := !(bl s).isEmpty && chB (bl s)
def stS9 (x : Int) : Bool := decide (-1073741824 ≤ x) && decide (x ≤ 1073741824)
def opS9 (op : Int) (vl : ByteArray) (fo : Bool) : Bool := (decide (0 ≤ op) && decide (op ≤ 6)) && (chB (bl vl) && !((op == 0) && (!(bl vl).isEmpty || fo)))
def noF9 (op : Int) (vl : ByteArray) (fo : Bool) : Bool := (op == 0) && ((bl vl).isEmpty && !fo)
/-- May a simple selector be? It may stand in so many more lists; what of the list in it. -/
def slM (left : Nat) (r : List Cx → Bool) (s : Sl) : Bool :=
  if s.k = 1 ∨ (9 ≤ s.k ∧ s.k ≤ 13) then (bl s.nm).isEmpty && (noF9 s.op s.vl s.fo && (s.ls.isEmpty && ((s.a == 0) && (s.b == 0))))
  else if 2 ≤ s.k ∧ s.k ≤ 4 then nmS9 s.nm && (noF9 s.op s.vl s.fo && (s.ls.isEmpty && ((s.a == 0) && (s.b == 0))))
  else if s.k = 5 then decide (1 < left) && (nmS9 s.nm && (opS9 s.op s.vl s.fo && (s.ls.isEmpty && ((s.a == 0) && (s.b == 0)))))
  else if 6 ≤ s.k ∧ s.k ≤ 8 then (bl s.nm).isEmpty && (noF9 s.op s.vl s.fo && (r s.ls && ((s.a == 0) && (s.b == 0))))
  else if s.k = 14 ∨ s.k = 15 then decide (1 < left) && ((bl s.nm).isEmpty && (noF9 s.op s.vl s.fo && (s.ls.isEmpty && (stS9 s.a && stS9 s.b))))
  else false
def cpF (left : Nat) (r : List Cx → Bool) (j : Nat) (s : Sl) : Bool := ((j == 0) || !((s.k == 1) || (s.k == 2))) && slM left r s
def cpM (left : Nat) (r : List Cx → Bool) (ss : List Sl) : Bool := !ss.isEmpty && allI (cpF left r) ss
def coB (i : Nat) (c : Int) : Bool := if i = 0 then c == 0 else decide (1 ≤ c) && decide (c ≤ 4)
def cxF (left : Nat) (r : List Cx → Bool) (i : Nat) (p : Cp) : Bool := coB i p.1 && cpM left r p.2
def cxM (left : Nat) (r : List Cx → Bool) (c : Cx) : Bool := !c.isEmpty && allI (cxF left r) c
/-- May a list be that may stand in so many lists, itself counted? -/
def lsM : Nat → List Cx → Bool
  | 0, _ => false
  | n + 1, l => !l.isEmpty && allI (fun _ c => cxM (n + 1) (lsM n) c) l
/-! ### In memory -/
def RowOf {α : Type} (w : World) (sz : Nat) (R : Nat → Nat → α → Prop) (v : Value) (l : List α) : Prop :=
  (∃ a c, v = .slice a 0 c ∧ l = []) ∨
  ∃ b o c, v = .slice (some ⟨b, o, none⟩) l.length c ∧ 0 < l.length ∧ b < w.heap.size ∧ l.length ≤ c ∧ l.length ≤ 1000000000 ∧ c ≤ 9223372036854775807 ∧ ∀ i x, l[i]? = some x → R b (o + i * sz) x
theorem RowOf.shape {α : Type} {w : World} {sz : Nat} {R : Nat → Nat → α → Prop} {v : Value} {l : List α} (h : RowOf w sz R v l) : ∃ a c, v = .slice a l.length c ∧ l.length ≤ 1000000000 := by
  rcases h with ⟨a, c, rfl, rfl⟩ | ⟨b, o, c, rfl, h0, hb, hc, hn, hm, hr⟩
  · exact ⟨a, c, rfl, by simp⟩
  · exact ⟨_, _, rfl, hn⟩
theorem RowOf.at {α : Type} {w : World} {sz : Nat} {R : Nat → Nat → α → Prop} {v : Value} {l : List α} (h : RowOf w sz R v l) {i : Nat} {x : α} (hi : l[i]? = some x) : ∃ b o c, v = .slice (some ⟨b, o, none⟩) l.length c ∧ b < w.heap.size ∧ l.length ≤ c ∧ c ≤ 9223372036854775807 ∧ R b (o + i * sz) x := by
  rcases h with ⟨a, c, rfl, rfl⟩ | ⟨b, o, c, rfl, h0, hb, hc, hn, hm, hr⟩
  · cases hi
  · exact ⟨b, o, c, rfl, hb, hc, hm, hr i x hi⟩
theorem RowOf.mono {α : Type} {w w' : World} {sz : Nat} {R S : Nat → Nat → α → Prop} {v : Value} {l : List α} (h : RowOf w sz R v l) (hs : w.heap.size ≤ w'.heap.size) (hr : ∀ b o x, b < w.heap.size → x ∈ l → R b o x → S b o x) : RowOf w' sz S v l := by
  rcases h with h | ⟨b, o, c, rfl, h0, hb, hc, hn, hm, h1⟩
  · exact .inl h
  · exact .inr ⟨b, o, c, rfl, h0, Nat.lt_of_lt_of_le hb hs, hc, hn, hm, fun i x hi => hr b _ x hb (List.mem_of_getElem? hi) (h1 i x hi)⟩
/-- The cells of a simple selector. -/
structure Eig (w : World) (b o : Nat) (s : Sl) (u : Value) : Prop where
  c0 : w.cell? ⟨b, o, none⟩ = some (.int .i64 s.k)
  c1 : w.cell? ⟨b, o + 1, none⟩ = some (.string s.nm)
  c2 : w.cell? ⟨b, o + 2, none⟩ = some (.int .i64 s.op)
  c3 : w.cell? ⟨b, o + 3, none⟩ = some (.string s.vl)
  c4 : w.cell? ⟨b, o + 4, none⟩ = some (.bool s.fo)
  c5 : w.cell? ⟨b, o + 5, none⟩ = some u
  c6 : w.cell? ⟨b, o + 6, none⟩ = some (.int .i64 s.a)
  c7 : w.cell? ⟨b, o + 7, none⟩ = some (.int .i64 s.b)
theorem Eig.low {w w' : World} {b o : Nat} {s : Sl} {u : Value} (h : Eig w b o s u) (hb : Below w.heap.size w w') (hl : b < w.heap.size) : Eig w' b o s u := by
  have C : ∀ j, w'.cell? ⟨b, j, none⟩ = w.cell? ⟨b, j, none⟩ := fun j => hb.cell (p := ⟨b, j, none⟩) hl
  exact ⟨(C _).trans h.c0, (C _).trans h.c1, (C _).trans h.c2, (C _).trans h.c3, (C _).trans h.c4, (C _).trans h.c5, (C _).trans h.c6, (C _).trans h.c7⟩
structure SlOk (s : Sl) : Prop where
  k1 : -9223372036854775808 ≤ s.k
  k2 : s.k ≤ 9223372036854775807
  o1 : -9223372036854775808 ≤ s.op
  o2 : s.op ≤ 9223372036854775807
  a1 : -9223372036854775808 ≤ s.a
  a2 : s.a ≤ 9223372036854775807
  b1 : -9223372036854775808 ≤ s.b
  b2 : s.b ≤ 9223372036854775807
  hn : s.nm.size ≤ 1048576
  hv : s.vl.size ≤ 1048576
def SlR (w : World) (X : Value → List Cx → Prop) (b o : Nat) (s : Sl) : Prop := ∃ u, Eig w b o s u ∧ X u s.ls ∧ SlOk s
def CpR (w : World) (X : Value → List Cx → Prop) (b o : Nat) (p : Cp) : Prop := ∃ u, w.cell? ⟨b, o, none⟩ = some (.int .i64 p.1) ∧ w.cell? ⟨b, o + 1, none⟩ = some u ∧ RowOf w 8 (SlR w X) u p.2 ∧ -9223372036854775808 ≤ p.1 ∧ p.1 ≤ 9223372036854775807
def CxR (w : World) (X : Value → List Cx → Prop) (b o : Nat) (c : Cx) : Prop := ∃ u, w.cell? ⟨b, o, none⟩ = some u ∧ RowOf w 2 (CpR w X) u c
/-- A slice of selectors, at most so deep. -/
def CM (w : World) : Nat → Value → List Cx → Prop
  | 0 => fun v l => l = [] ∧ ∃ a c, v = .slice a 0 c
  | n + 1 => RowOf w 1 (CxR w (CM w n))
theorem CM.shape {w : World} {n : Nat} {v : Value} {l : List Cx} (h : CM w n v l) : ∃ a c, v = .slice a l.length c ∧ l.length ≤ 1000000000 := by
  cases n with
  | zero => obtain ⟨rfl, a, c, rfl⟩ := h; exact ⟨a, c, rfl, by simp⟩
  | succ n => exact RowOf.shape h
theorem SlR.low {w w' : World} {X Y : Value → List Cx → Prop} (hw : Below w.heap.size w w') (hX : ∀ v l, X v l → Y v l) {b o : Nat} {s : Sl} (hb : b < w.heap.size) (h : SlR w X b o s) : SlR w' Y b o s := by
  obtain ⟨u, h1, h2, h3⟩ := h
  exact ⟨u, h1.low hw hb, hX _ _ h2, h3⟩
theorem CpR.low {w w' : World} {X Y : Value → List Cx → Prop} (hw : Below w.heap.size w w') (hX : ∀ v l, X v l → Y v l) {b o : Nat} {p : Cp} (hb : b < w.heap.size) (h : CpR w X b o p) : CpR w' Y b o p := by
  obtain ⟨u, h1, h2, h3, h4⟩ := h
  exact ⟨u, (hw.cell (p := ⟨b, o, none⟩) hb).trans h1, (hw.cell (p := ⟨b, o + 1, none⟩) hb).trans h2, h3.mono hw.size (fun b o x hb _ hx => hx.low hw hX hb), h4⟩
theorem CxR.low {w w' : World} {X Y : Value → List Cx → Prop} (hw : Below w.heap.size w w') (hX : ∀ v l, X v l → Y v l) {b o : Nat} {c : Cx} (hb : b < w.heap.size) (h : CxR w X b o c) : CxR w' Y b o c := by
  obtain ⟨u, h1, h2⟩ := h
  exact ⟨u, (hw.cell (p := ⟨b, o, none⟩) hb).trans h1, h2.mono hw.size (fun b o x hb _ hx => hx.low hw hX hb)⟩
theorem CM.low {w w' : World} (hw : Below w.heap.size w w') {n : Nat} : ∀ {v : Value} {l : List Cx}, CM w n v l → CM w' n v l := by
  induction n with
  | zero => intro v l h; exact h
  | succ n ih => intro v l h; exact RowOf.mono h hw.size (fun b o x hb _ hx => hx.low hw (fun v l => ih) hb)
/-- The compounds of a selector, the simple selectors of a compound. -/
def PsM (w : World) (n : Nat) : Value → Cx → Prop := RowOf w 2 (CpR w (CM w n))
def SsM (w : World) (n : Nat) : Value → List Sl → Prop := RowOf w 8 (SlR w (CM w n))
theorem PsM.low {w w' : World} (hw : Below w.heap.size w w') {n : Nat} {v : Value} {c : Cx} (h : PsM w n v c) : PsM w' n v c := RowOf.mono h hw.size (fun b o x hb _ hx => hx.low hw (fun v l => CM.low hw) hb)
theorem SsM.low {w w' : World} (hw : Below w.heap.size w w') {n : Nat} {v : Value} {c : List Sl} (h : SsM w n v c) : SsM w' n v c := RowOf.mono h hw.size (fun b o x hb _ hx => hx.low hw (fun v l => CM.low hw) hb)
end Go.Proofs.YtmkbjcoagfnegaaGreatDoor

