/-
  Characters of a name, written: by the program.
-/
import Derived.Test.YticboondiojofaaGreatDoorSpwB
set_option linter.unusedVariables false
set_option linter.unusedSimpArgs false
namespace Go.Proofs.YticboondiojofaaGreatDoor
open Go.RowKit Go.Shelf

theorem bd_below {B b : Nat} {xs : List Int} {w w' : World} (h : Bd B b xs w) (hb : Below w.heap.size w w') : Bd B b xs w' := by
  have hg : w.grownBy w' none := ⟨hb.os, hb.tape, hb.output, hb.size, fun k hk _ => hb.block k hk⟩
  have key : ∀ p, Lib.BuilderAtF 50 5 B b p (cI8 xs) w → Lib.BuilderAtF 50 5 B b p (cI8 xs) w' := fun p ⟨h1, v, h2, h3, h4⟩ =>
    ⟨h1, v, (hb.block b (Array.getElem?_eq_some_iff.1 h2).1).trans h2, h3.kept hg (by cases hv : v.ownBlock; exact .inl rfl; exact .inr (by simp)), h4⟩
  exact h.elim (fun x => .inl (key _ x)) (fun x => .inr (key _ x))
theorem oth_below {e : TypeId} {b : Option Nat} {w w' : World} (hb : Below w.heap.size w w') : Lib.OthersKept e b w w' := fun k o hk _ _ => (hb.block k (Array.getElem?_eq_some_iff.1 hk).1).trans hk
theorem PB.start {B b : Nat} {xs : List Int} {w : World} (h : Bd B b xs w) : PB B b xs w w := ⟨h, Below.refl _ _, Lib.OthersKept.refl _ _ _⟩
theorem PB.grow {B b : Nat} {xs : List Int} {w w1 w2 : World} (h : PB B b xs w w1) (hB : B ≤ w.heap.size) (hb : Below w1.heap.size w1 w2) : PB B b xs w w2 :=
  ⟨bd_below h.bd hb, h.bel.trans (hb.mono (h.size hB)), h.oth.trans (oth_below hb)⟩
/-- The tables stand, whatever is written. -/
def TB (B : Nat) (w : World) : Prop := ∀ W, Below B w W → Tabs W
theorem TB.on {B : Nat} {w w1 : World} (h : TB B w) (hb : Below B w w1) : TB B w1 := fun W hW => h W (hb.trans hW)
theorem TB.here {B : Nat} {w : World} (h : TB B w) : Tabs w := h w (Below.refl _ _)
/-! ### Names -/
def esc (c : Int) : List Int := 92 :: (hxL c.toNat ++ [32])
theorem isLet_cases (c : Int) : c < 45 ∨ c = 45 ∨ (45 < c ∧ c < 48) ∨ (48 ≤ c ∧ c ≤ 57) ∨ (57 < c ∧ c < 65) ∨ (65 ≤ c ∧ c ≤ 90) ∨ (90 < c ∧ c < 95) ∨ c = 95 ∨ c = 96 ∨ (97 ≤ c ∧ c ≤ 122) ∨ (122 < c ∧ c < 128) ∨ 128 ≤ c := by omega
set_option maxHeartbeats 2000000 in
theorem isNameS_any (c : Int) (w : World) : Calls Tryz.prog 115 #[.int .i32 c] w fun e w' => e = .returned (.bool (isLet c)) ∧ w' = w := by
  rcases isLet_cases c with h | rfl | ⟨h, g⟩ | ⟨h, g⟩ | ⟨h, g⟩ | ⟨h, g⟩ | ⟨h, g⟩ | rfl | rfl | ⟨h, g⟩ | ⟨h, g⟩ | h
  · have n1 : (c == 95) = false := by simp; omega
    have n2 : (c == 45) = false := by simp; omega
    have DG := hide (show isDig c = false by simp [isDig]; omega)
    go_enter Tryz.func115, Tryz.ntmps115
    go_wp2_with (go_at_call 76; refine (isDigitS_any _ _).mono ?_; rintro e w1 ⟨rfl, rfl⟩; rw [DG.out])
    go_ret
    exact ⟨ret_bool (by rw [Bool.eq_iff_iff]; simp [isLet, isFst, isDig]; try omega), rfl⟩
  · go_enter Tryz.func115, Tryz.ntmps115
    go_wp2_with (go_at_call 76; refine (isDigitS_any _ _).mono ?_; rintro e w1 ⟨rfl, rfl⟩; rw [show isDig 45 = false from rfl])
    go_ret
    exact ⟨rfl, rfl⟩
  · have n1 : (c == 95) = false := by simp; omega
    have n2 : (c == 45) = false := by simp; omega
    have DG := hide (show isDig c = false by simp [isDig]; omega)
    go_enter Tryz.func115, Tryz.ntmps115
    go_wp2_with (go_at_call 76; refine (isDigitS_any _ _).mono ?_; rintro e w1 ⟨rfl, rfl⟩; rw [DG.out])
    go_ret
    exact ⟨ret_bool (by rw [Bool.eq_iff_iff]; simp [isLet, isFst, isDig]; try omega), rfl⟩
  · have n1 : (c == 95) = false := by simp; omega
    have n2 : (c == 45) = false := by simp; omega
    have DG := hide (show isDig c = true by simp [isDig]; omega)
    go_enter Tryz.func115, Tryz.ntmps115
    go_wp2_with (go_at_call 76; refine (isDigitS_any _ _).mono ?_; rintro e w1 ⟨rfl, rfl⟩; rw [DG.out])
    go_ret
    exact ⟨ret_bool (by rw [Bool.eq_iff_iff]; simp [isLet, isFst, isDig]; try omega), rfl⟩
  · have n1 : (c == 95) = false := by simp; omega
    have n2 : (c == 45) = false := by simp; omega
    have DG := hide (show isDig c = false by simp [isDig]; omega)
    go_enter Tryz.func115, Tryz.ntmps115
    go_wp2_with (go_at_call 76; refine (isDigitS_any _ _).mono ?_; rintro e w1 ⟨rfl, rfl⟩; rw [DG.out])
    go_ret
    exact ⟨ret_bool (by rw [Bool.eq_iff_iff]; simp [isLet, isFst, isDig]; try omega), rfl⟩
  · have n1 : (c == 95) = false := by simp; omega
    have n2 : (c == 45) = false := by simp; omega
    have DG := hide (show isDig c = false by simp [isDig]; omega)
    go_enter Tryz.func115, Tryz.ntmps115
    go_wp2_with (go_at_call 76; refine (isDigitS_any _ _).mono ?_; rintro e w1 ⟨rfl, rfl⟩; rw [DG.out])
    go_ret
    exact ⟨ret_bool (by rw [Bool.eq_iff_iff]; simp [isLet, isFst, isDig]; try omega), rfl⟩
  · have n1 : (c == 95) = false := by simp; omega
    have n2 : (c == 45) = false := by simp; omega
    have DG := hide (show isDig c = false by simp [isDig]; omega)
    go_enter Tryz.func115, Tryz.ntmps115
    go_wp2_with (go_at_call 76; refine (isDigitS_any _ _).mono ?_; rintro e w1 ⟨rfl, rfl⟩; rw [DG.out])
    go_ret
    exact ⟨ret_bool (by rw [Bool.eq_iff_iff]; simp [isLet, isFst, isDig]; try omega), rfl⟩
  · go_enter Tryz.func115, Tryz.ntmps115
    go_wp2_with (go_at_call 76; refine (isDigitS_any _ _).mono ?_; rintro e w1 ⟨rfl, rfl⟩; rw [show isDig 95 = false from rfl])
    go_ret
    exact ⟨rfl, rfl⟩
  · go_enter Tryz.func115, Tryz.ntmps115
    go_wp2_with (go_at_call 76; refine (isDigitS_any _ _).mono ?_; rintro e w1 ⟨rfl, rfl⟩; rw [show isDig 96 = false from rfl])
    go_ret
    exact ⟨rfl, rfl⟩
  · have n1 : (c == 95) = false := by simp; omega
    have n2 : (c == 45) = false := by simp; omega
    have DG := hide (show isDig c = false by simp [isDig]; omega)
    go_enter Tryz.func115, Tryz.ntmps115
    go_wp2_with (go_at_call 76; refine (isDigitS_any _ _).mono ?_; rintro e w1 ⟨rfl, rfl⟩; rw [DG.out])
    go_ret
    exact ⟨ret_bool (by rw [Bool.eq_iff_iff]; simp [isLet, isFst, isDig]; try omega), rfl⟩
  · have n1 : (c == 95) = false := by simp; omega
    have n2 : (c == 45) = false := by simp; omega
    have DG := hide (show isDig c = false by simp [isDig]; omega)
    go_enter Tryz.func115, Tryz.ntmps115
    go_wp2_with (go_at_call 76; refine (isDigitS_any _ _).mono ?_; rintro e w1 ⟨rfl, rfl⟩; rw [DG.out])
    go_ret
    exact ⟨ret_bool (by rw [Bool.eq_iff_iff]; simp [isLet, isFst, isDig]; try omega), rfl⟩
  · have n1 : (c == 95) = false := by simp; omega
    have n2 : (c == 45) = false := by simp; omega
    have DG := hide (show isDig c = false by simp [isDig]; omega)
    go_enter Tryz.func115, Tryz.ntmps115
    go_wp2_with (go_at_call 76; refine (isDigitS_any _ _).mono ?_; rintro e w1 ⟨rfl, rfl⟩; rw [DG.out])
    go_ret
    exact ⟨ret_bool (by rw [Bool.eq_iff_iff]; simp [isLet, isFst, isDig]; try omega), rfl⟩
set_option maxHeartbeats 1000000 in
theorem wEsc_any (B b : Nat) (xs : List Int) (c : Int) (w : World) (c0 : 0 ≤ c) (hc : c < 65536) (h : Bd B b xs w) (hl : xs.length ≤ 70368744177664) (hB : B ≤ w.heap.size) (hT : TB B w) :
    Calls Tryz.prog 77 #[.pointer (some ⟨b, 0, none⟩), .int .i32 c] w fun e w' => e = .returned (.tuple #[]) ∧ PB B b (xs ++ esc c) w w' := by
  have C1 := hide (wbyte_any B b xs 92 w h (by omega) hB)
  have HT := hide hT
  have LN := hide (show ∀ s : ByteArray, bl s = hxL c.toNat → s.size ≤ 65536 from fun s hs => by
    rw [← bl_len, hs]
    have key : ∀ n, (hxL n).length ≤ n + 1 := by
      intro n
      induction n using Nat.strongRecOn with
      | _ n ih =>
        by_cases h : n < 16
        · rw [hxL_one h]; simp
        · rw [hxL_big h, List.length_append]
          have := ih (n / 16) (by omega)
          simp; omega
    have := key c.toNat
    omega)
  have P0 := hide (PB.start h)
  clear h hT
  go_enter Tryz.func77, Tryz.ntmps77
  go_wp2_with (first
    | (go_at_call_of 51 (Value.int IntKind.u8 92); refine C1.out.mono ?_; rintro e w1 ⟨rfl, P1⟩; replace P1 := hide P1)
    | (go_at_call 70; refine (fmt16 c _ c0 hc (HT.out.on P1.out.bel).here).mono ?_; rintro e w2 ⟨s, rfl, hs, b2⟩; have hz := LN.out s hs; replace hs := hide hs; replace P1 := hide (P1.out.grow hB b2); clear b2)
    | (go_at_call 27; refine (wstr_any B b _ s _ P1.out.bd (by simp; omega) (P1.out.size hB)).mono ?_; rintro e w3 ⟨rfl, P3⟩; rw [hs.out] at P3; replace P1 := hide (P1.out.trans P3); clear P3)
    | (go_at_call 51; refine (wbyte_any B b _ 32 _ P1.out.bd (by rw [← hs.out]; simp [bl_len]; omega) (P1.out.size hB)).mono ?_; rintro e w4 ⟨rfl, P4⟩; replace P1 := hide (P1.out.trans P4)))
  go_end0
  refine ⟨rfl, ?_⟩
  have := P1.out
  simp only [List.append_assoc, List.singleton_append, List.cons_append, List.nil_append] at this
  exact this
set_option maxHeartbeats 1000000 in
theorem wSl_any (B b : Nat) (xs : List Int) (c : Int) (w : World) (hc : isC c = true) (h : Bd B b xs w) (hl : xs.length ≤ 70368744177664) (hB : B ≤ w.heap.size) :
    Calls Tryz.prog 80 #[.pointer (some ⟨b, 0, none⟩), .int .i32 c] w fun e w' => e = .returned (.tuple #[]) ∧ PB B b (xs ++ (92 :: enc1 c)) w w' := by
  have C1 := hide (wbyte_any B b xs 92 w h (by omega) hB)
  go_enter Tryz.func80, Tryz.ntmps80
  go_wp2_with (first
    | (go_at_call 51; refine C1.out.mono ?_; rintro e w1 ⟨rfl, P1⟩; replace P1 := hide P1)
    | (go_at_call 82; refine (wrune_any B b _ c _ hc P1.out.bd (by simp; omega) (P1.out.size hB)).mono ?_; rintro e w3 ⟨rfl, P3⟩; replace P1 := hide (P1.out.trans P3); clear P3))
  go_end0
  refine ⟨rfl, ?_⟩
  have := P1.out
  simp only [List.append_assoc, List.singleton_append, List.cons_append, List.nil_append] at this
  exact this
/-- A letter of a name, written. -/
def wLt (c : Int) : List Int := if isHid c = true then esc c else if isLet c = true then enc1 c else 92 :: enc1 c
theorem hid_bd {c : Int} (h : isHid c = true) : 0 ≤ c ∧ c < 65536 := by simp [isHid] at h; omega
set_option maxHeartbeats 1000000 in
theorem wLt_any (B b : Nat) (xs : List Int) (c : Int) (w : World) (hc : isC c = true) (h : Bd B b xs w) (hl : xs.length ≤ 70368744177664) (hB : B ≤ w.heap.size) (hT : TB B w) :
    Calls Tryz.prog 78 #[.pointer (some ⟨b, 0, none⟩), .int .i32 c] w fun e w' => e = .returned (.tuple #[]) ∧ PB B b (xs ++ wLt c) w w' := by
  cases hh : isHid c with
  | true =>
    obtain ⟨g1, g2⟩ := hid_bd hh
    have C := hide (wEsc_any B b xs c w g1 g2 h hl hB hT)
    have E := hide (show wLt c = esc c by unfold wLt; rw [if_pos hh])
    have HH := hide hh
    clear hh h hT
    go_enter Tryz.func78, Tryz.ntmps78
    go_wp2_with (first
      | (go_at_call 81; refine (isHidden_any _ _).mono ?_; rintro e w1 ⟨rfl, rfl⟩; rw [HH.out])
      | (go_at_call 77; refine C.out.mono ?_; rintro e w1 ⟨rfl, P1⟩; replace P1 := hide P1))
    go_end0
    refine ⟨rfl, ?_⟩
    rw [E.out]; exact P1.out
  | false =>
    cases hn : isLet c with
    | true =>
      have C := hide (wrune_any B b xs c w hc h (by omega) hB)
      have E := hide (show wLt c = enc1 c by unfold wLt; rw [if_neg (by rw [hh]; decide), if_pos hn])
      have HH := hide hh
      have HN := hide hn
      clear hh hn h hT
      go_enter Tryz.func78, Tryz.ntmps78
      go_wp2_with (first
        | (go_at_call 81; refine (isHidden_any _ _).mono ?_; rintro e w1 ⟨rfl, rfl⟩; rw [HH.out])
        | (go_at_call 115; refine (isNameS_any _ _).mono ?_; rintro e w1 ⟨rfl, rfl⟩; rw [HN.out])
        | (go_at_call 82; refine C.out.mono ?_; rintro e w1 ⟨rfl, P1⟩; replace P1 := hide P1))
      go_end0
      refine ⟨rfl, ?_⟩
      rw [E.out]; exact P1.out
    | false =>
      have C := hide (wSl_any B b xs c w hc h hl hB)
      have E := hide (show wLt c = 92 :: enc1 c by unfold wLt; rw [if_neg (by rw [hh]; decide), if_neg (by rw [hn]; decide)])
      have HH := hide hh
      have HN := hide hn
      clear hh hn h hT
      go_enter Tryz.func78, Tryz.ntmps78
      go_wp2_with (first
        | (go_at_call 81; refine (isHidden_any _ _).mono ?_; rintro e w1 ⟨rfl, rfl⟩; rw [HH.out])
        | (go_at_call 115; refine (isNameS_any _ _).mono ?_; rintro e w1 ⟨rfl, rfl⟩; rw [HN.out])
        | (go_at_call 80; refine C.out.mono ?_; rintro e w1 ⟨rfl, P1⟩; replace P1 := hide P1))
      go_end0
      refine ⟨rfl, ?_⟩
      rw [E.out]; exact P1.out
end Go.Proofs.YticboondiojofaaGreatDoor
