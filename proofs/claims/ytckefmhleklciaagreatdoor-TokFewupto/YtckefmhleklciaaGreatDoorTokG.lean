/-
  What is written; blanks, digits, a sign, remarks; an escape.
-/
import Derived.Test.YtckefmhleklciaaGreatDoorTokF
set_option linter.unusedVariables false
set_option linter.unusedSimpArgs false
namespace Go.Proofs.YtckefmhleklciaaGreatDoor
open Go.RowKit

theorem enc1_rng {x : Int} (h : isC x = true) : ∀ y ∈ enc1 x, 0 ≤ y ∧ y ≤ 255 := by
  rw [isC_iff] at h
  intro y hy
  unfold enc1 at hy
  split at hy
  · simp at hy; omega
  · split at hy
    · simp at hy; omega
    · split at hy
      · simp at hy; omega
      · simp at hy; omega
theorem enc_rng (l : List Int) : By (enc l) := by
  intro y hy
  unfold enc at hy
  obtain ⟨x, _, h⟩ := List.mem_flatMap.1 hy
  exact enc1_rng (isC_chr x) y h
def l8 (xs : List Int) : List UInt8 := xs.map fun x => UInt8.ofNat x.toNat
theorem l8_back {xs : List Int} (h : By xs) : (l8 xs).map (fun b => (b.toNat : Int)) = xs := by
  unfold l8
  rw [List.map_map]
  conv => rhs; rw [← List.map_id xs]
  refine List.map_congr_left fun x hx => ?_
  have := h x hx
  simp
  omega
theorem conv_any (w : World) (u : Value) (xs : List Int) (h : Nums .u8 w u xs) (hb : By xs) : ∃ t, bl t = xs ∧ (convert 28 9 u).run Tryz.prog w = .ok (.string t) w := by
  refine ⟨⟨(l8 xs).toArray⟩, ?_, ?_⟩
  · unfold bl; simpa using l8_back hb
  · rcases h with ⟨a, c, rfl, rfl⟩ | ⟨b, o, n, c, rfl, hn, h0, hbw, hc, hn9, hc9, hcell⟩
    · cases a with
      | none => exact run_convert_bytes_nil (P := Tryz.prog) w 28 5 Tryz.underlying28 Tryz.underlying5 0 c 9 Tryz.underlying9
      | some a => exact run_convert_bytes_back (P := Tryz.prog) w 28 9 5 a c [] Tryz.underlying28 Tryz.underlying5 Tryz.underlying9 (fun j hj => absurd hj (by simp))
    · have hl : n = (l8 xs).length := by unfold l8; rw [List.length_map]; exact hn
      have k := run_convert_bytes_back (P := Tryz.prog) w 28 9 5 ⟨b, o, none⟩ c (l8 xs) Tryz.underlying28 Tryz.underlying5 Tryz.underlying9 (fun j hj => by
        rw [Addr.add_lit, hcell j (by omega)]
        congr 2
        have e := l8_back hb
        have : gt xs j = ((l8 xs).map (fun b => (b.toNat : Int))).getD j 0 := by rw [e]; rfl
        rw [this]
        simp [List.getD_eq_getElem?_getD, List.getElem?_map, List.getElem?_eq_getElem hj])
      rw [← hl] at k
      exact k
theorem written_any (ls : List Int) (v : Value) (w : World) (hv : Nums .i32 w v ls) (hl : ls.length ≤ 35184372088832) :
    Calls Tryz.prog 52 #[v] w fun e w' => ∃ t, e = .returned (.string t) ∧ bl t = enc ls ∧ Below w.heap.size w w' := by
  have C := hide (encP_any ls v w hv hl)
  have R := hide (enc_rng ls)
  clear hv
  go_enter Tryz.func52, Tryz.ntmps52
  go_wp2_with (go_at_call 80; refine C.out.mono ?_; rintro e w1 ⟨u, rfl, N, B⟩; replace B := hide B; obtain ⟨t, ht, hcv⟩ := conv_any w1 u _ N R.out; replace ht := hide ht; clear N)
  go_ret
  exact ⟨_, rfl, ht.out, B.out⟩
/-- The state of a loop that takes as long as something comes. -/
def RelSk (f : List Int → List Int) (T : TypeId) (W w : World) (b : Nat) (v : Value) (l s : List Int) (g : Nat) (wr : World) : Prop :=
  ∃ t, At T W wr b v l t ∧ t.length ≤ g ∧ Hid (f s = f t) ∧ w.grownBy wr (some b)
theorem RelSk.mk {f : List Int → List Int} {T : TypeId} {W w : World} {b : Nat} {v : Value} {l s : List Int} {g : Nat} {wr : World} (t : List Int) (h1 : At T W wr b v l t) (h2 : t.length ≤ g) (h3 : f s = f t) (h4 : w.grownBy wr (some b)) : RelSk f T W w b v l s g wr := ⟨t, h1, h2, h3, h4⟩
theorem bls_go {s : List Int} (h : isBl (nx s 0) = true) : bls s = bls (s.drop 1) := by
  cases s with
  | nil => exact absurd h (by decide)
  | cons x r => show (x :: r).dropWhile isBl = _; rw [List.dropWhile_cons_of_pos (show isBl x = true from h)]; rfl
theorem bls_no {s : List Int} (h : isBl (nx s 0) = false) : bls s = s := by
  cases s with
  | nil => rfl
  | cons x r => show (x :: r).dropWhile isBl = _; rw [List.dropWhile_cons_of_neg (by simp [show isBl x = false from h])]
theorem dgs_go {s : List Int} (h : isDig (nx s 0) = true) : dgs s = dgs (s.drop 1) := by
  cases s with
  | nil => exact absurd h (by decide)
  | cons x r => show (x :: r).dropWhile isDig = _; rw [List.dropWhile_cons_of_pos (show isDig x = true from h)]; rfl
theorem skipBlanks_any (T : TypeId) (W w : World) (b : Nat) (v : Value) (l s : List Int) (h : At T W w b v l s) :
    Calls Tryz.prog 26 #[.pointer (some ⟨b, 0, none⟩)] w fun e w' => e = .returned (.tuple #[]) ∧ At T W w' b v l (bls s) ∧ w.grownBy w' (some b) := by
  have H := hide h
  clear h
  go_enter Tryz.func26, Tryz.ntmps26
  go_wp2
  go_loopg [] s.length (fun g wr => RelSk bls T W w b v l s g wr)
  case atStart => exact .mk s H.out (Nat.le_refl _) rfl (Mod.refl _ _)
  case round =>
    clear H
    obtain ⟨t, A1, hg, R, M⟩ := hrel
    replace A1 := hide A1
    replace M := hide M
    cases hb : isBl (nx t 0)
    · have HB := hide hb
      have E := hide (R.out.trans (bls_no hb))
      clear hb
      go_wp2_with (first
        | (go_at_call 15; refine (nextA T W _ b v l t A1.out).mono ?_; rintro e w1 ⟨rfl, B1⟩; replace A1 := hide (A1.out.below B1); replace M := hide (Mod.trans M.out (Mod.of b B1)); clear B1)
        | (go_at_call 25; refine (isBlP_any _ _).mono ?_; rintro e w2 ⟨rfl, rfl⟩; rw [HB.out]))
      go_end0
      exact ⟨rfl, by rw [E.out]; exact A1.out, M.out⟩
    · have HB := hide hb
      have L := hide (isBl_ne hb)
      have E := hide (R.out.trans (bls_go hb))
      clear hb
      go_wp2_with (first
        | (go_at_call 15; refine (nextA T W _ b v l t A1.out).mono ?_; rintro e w1 ⟨rfl, B1⟩; replace A1 := hide (A1.out.below B1); replace M := hide (Mod.trans M.out (Mod.of b B1)); clear B1)
        | (go_at_call 25; refine (isBlP_any _ _).mono ?_; rintro e w2 ⟨rfl, rfl⟩; rw [HB.out])
        | (go_at_call 24; refine (skipA T W _ b v l t 1 A1.out (by decide) (by decide)).mono ?_; rintro e w2 ⟨rfl, A2, M2⟩; replace A1 := hide A2; replace M := hide (Mod.trans M.out M2); clear A2 M2))
      go_roundg (gk - 1)
      case measure => have := L.out; omega
      case rel => exact .mk (t.drop 1) A1.out (by have := L.out; rw [List.length_drop]; omega) E.out M.out
end Go.Proofs.YtckefmhleklciaaGreatDoor
