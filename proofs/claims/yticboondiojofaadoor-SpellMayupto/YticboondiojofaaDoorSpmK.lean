/-
  Which tokens may be, which must stand apart: the law.
-/
import Derived.Test.YticboondiojofaaDoorSpmJ
import Derived.Deep.RegionHeld3
set_option linter.unusedVariables false
set_option linter.unusedSimpArgs false
namespace Go.Proofs.YticboondiojofaaDoor
open Go.RowKit

theorem keep12 {w0 W : World} {b c : Nat} {k : Int} {s : ByteArray} {n d : Int} {i h : Bool} {k' : Int} {s' : ByteArray} {n' d' : Int} {i' h' : Bool} (hb : Below w0.heap.size w0 W) (t : Tok6 w0 b k s n d i h) (u : Tok6 w0 c k' s' n' d' i' h') :
    W.cell? ⟨b, 0, none⟩ = some (.int .i64 k) ∧ W.cell? ⟨b, 1, none⟩ = some (.string s) ∧ W.cell? ⟨b, 2, none⟩ = some (.int .i64 n) ∧ W.cell? ⟨b, 3, none⟩ = some (.int .i64 d) ∧ W.cell? ⟨b, 4, none⟩ = some (.bool i) ∧ W.cell? ⟨b, 5, none⟩ = some (.bool h) ∧
    W.cell? ⟨c, 0, none⟩ = some (.int .i64 k') ∧ W.cell? ⟨c, 1, none⟩ = some (.string s') ∧ W.cell? ⟨c, 2, none⟩ = some (.int .i64 n') ∧ W.cell? ⟨c, 3, none⟩ = some (.int .i64 d') ∧ W.cell? ⟨c, 4, none⟩ = some (.bool i') ∧ W.cell? ⟨c, 5, none⟩ = some (.bool h') := by
  obtain ⟨_, a0, a1, a2, a3, a4, a5⟩ := t.below hb
  obtain ⟨_, c0, c1, c2, c3, c4, c5⟩ := u.below hb
  exact ⟨a0, a1, a2, a3, a4, a5, c0, c1, c2, c3, c4, c5⟩
theorem may_13 : mayT 13 (bl ⟨#[]⟩) 0 0 false false = true := by
  rw [may_rest (by omega)]
  rfl
theorem ap_13 : apB 13 13 = true := rfl
set_option maxRecDepth 100000 in
set_option maxHeartbeats 8000000 in
theorem law_may (k : Int) (s : ByteArray) (n d : Int) (i h : Bool) (k' : Int) (s' : ByteArray) (n' d' : Int) (i' h' : Bool) (w : World)
    (k1 : -9223372036854775808 ≤ k) (k2 : k ≤ 9223372036854775807) (hs : s.size ≤ 1099511627776) (n1 : -9223372036854775808 ≤ n) (n2 : n ≤ 9223372036854775807) (d1 : -9223372036854775808 ≤ d) (d2 : d ≤ 9223372036854775807)
    (k3 : -9223372036854775808 ≤ k') (k4 : k' ≤ 9223372036854775807) (hK : KT w) (hT : Tabs w) :
    Calls Tryd.prog 3 #[tokV k s n d i h, tokV k' s' n' d' i' h'] w fun e w' => e = .returned (.bool true) ∧ Below w.heap.size w w' := by
  have T0 := ((Tok6.box w k s n d i h 25).below (bplus (Below.refl _ _) (.cells #[.int .i64 k', .string s', .int .i64 n', .int .i64 d', .bool i', .bool h'] 25)))
  have T1 := (Tok6.box (w.alloc (.cells #[.int .i64 k, .string s, .int .i64 n, .int .i64 d, .bool i, .bool h] 25)) k' s' n' d' i' h' 25)
  have e1 : (w.alloc (.cells #[.int .i64 k, .string s, .int .i64 n, .int .i64 d, .bool i, .bool h] 25)).heap.size = w.heap.size + 1 := by simp
  rw [e1] at T1
  clear e1
  have B0 := bplus (bplus (Below.refl w.heap.size w) (.cells #[.int .i64 k, .string s, .int .i64 n, .int .i64 d, .bool i, .bool h] 25)) (.cells #[.int .i64 k', .string s', .int .i64 n', .int .i64 d', .bool i', .bool h'] 25)
  have KK := hide (fun (w0 W : World) (h0 : Below w.heap.size w w0) (h : Below w0.heap.size w0 W) => (hK.below h0).below h)
  have TT := hide (fun (w0 W : World) (h0 : Below w.heap.size w w0) (h : Below w0.heap.size w0 W) => (hT.below h0).below h)
  have E1 := hide may_13
  have E2 := hide ap_13
  unfold tokV
  go_enter Tryd.func3, Tryd.ntmps3
  go_wp2_with fail
  generalize (w.alloc (.cells #[.int .i64 k, .string s, .int .i64 n, .int .i64 d, .bool i, .bool h] 25)).alloc (.cells #[.int .i64 k', .string s', .int .i64 n', .int .i64 d', .bool i', .bool h'] 25) = w0 at *
  have HB0 := hide B0
  have HT0 := hide T0
  have HT1 := hide T1
  have C1 := hide (fun (W : World) (hb : Below w0.heap.size w0 W) => mayS_any k s n d i h W k1 k2 (by omega) n1 n2 d1 d2 (KK.out w0 W HB0.out hb) (TT.out w0 W HB0.out hb))
  have C2 := hide (fun (W : World) (hb : Below w0.heap.size w0 W) => mayR_any k s n d i h W hs n1 n2 d1 d2 (TT.out w0 W HB0.out hb))
  have C3 := hide (fun (W : World) (hb : Below w0.heap.size w0 W) => apartS_any k s n d i h k' s' n' d' i' h' W k1 k2 k3 k4 (KK.out w0 W HB0.out hb))
  have C4 := hide (fun (W : World) => apartR_any k s n d i h k' s' n' d' i' h' W)
  have C5 := hide (fun (W : World) (hb : Below w0.heap.size w0 W) => mayS_any 13 ⟨#[]⟩ 0 0 false false W (by omega) (by omega) (by decide) (by omega) (by omega) (by omega) (by omega) (KK.out w0 W HB0.out hb) (TT.out w0 W HB0.out hb))
  have C6 := hide (fun (W : World) (hb : Below w0.heap.size w0 W) => apartS_any 13 ⟨#[]⟩ 0 0 false false 13 ⟨#[]⟩ 0 0 false false W (by omega) (by omega) (by omega) (by omega) (KK.out w0 W HB0.out hb))
  clear B0 KK TT hK hT
  unfold tokV at C1 C2 C3 C4 C5 C6
  go_region_held3 (fun w' => w'.cell? ⟨w.heap.size, 0, none⟩ = some (.int .i64 k) ∧ w'.cell? ⟨w.heap.size, 1, none⟩ = some (.string s) ∧ w'.cell? ⟨w.heap.size, 2, none⟩ = some (.int .i64 n) ∧ w'.cell? ⟨w.heap.size, 3, none⟩ = some (.int .i64 d) ∧ w'.cell? ⟨w.heap.size, 4, none⟩ = some (.bool i) ∧ w'.cell? ⟨w.heap.size, 5, none⟩ = some (.bool h) ∧
    w'.cell? ⟨w.heap.size + 1, 0, none⟩ = some (.int .i64 k') ∧ w'.cell? ⟨w.heap.size + 1, 1, none⟩ = some (.string s') ∧ w'.cell? ⟨w.heap.size + 1, 2, none⟩ = some (.int .i64 n') ∧ w'.cell? ⟨w.heap.size + 1, 3, none⟩ = some (.int .i64 d') ∧ w'.cell? ⟨w.heap.size + 1, 4, none⟩ = some (.bool i') ∧ w'.cell? ⟨w.heap.size + 1, 5, none⟩ = some (.bool h'))
    ((refine keep12 ?_ HT0.out HT1.out; (repeat (first | exact Below.refl _ _ | (with_reducible refine Below.drew ?_) | (with_reducible refine below_drewN ?_ _) | (refine bto ?_ (by assumption)))); done))
    (first
      | (go_at_call_of 4 (Value.agg #[.int .i64 13, .string ⟨#[]⟩, .int .i64 0, .int .i64 0, .bool false, .bool false]); refine (C5.out _ (by repeat (first | exact Below.refl _ _ | (with_reducible refine Below.drew ?_) | (with_reducible refine below_drewN ?_ _) | (refine bto ?_ (by assumption))))).mono ?_; rintro _ wl ⟨rfl, hl⟩; rw [E1.out])
      | (go_at_call 4; refine (C1.out _ (by repeat (first | exact Below.refl _ _ | (with_reducible refine Below.drew ?_) | (with_reducible refine below_drewN ?_ _) | (refine bto ?_ (by assumption))))).mono ?_; rintro _ wl ⟨rfl, hl⟩)
      | (go_at_call 5; refine (C2.out _ (by repeat (first | exact Below.refl _ _ | (with_reducible refine Below.drew ?_) | (with_reducible refine below_drewN ?_ _) | (refine bto ?_ (by assumption))))).mono ?_; rintro _ wl ⟨rfl, hl⟩)
      | (go_at_call_of 6 (Value.agg #[.int .i64 13, .string ⟨#[]⟩, .int .i64 0, .int .i64 0, .bool false, .bool false]); refine (C6.out _ (by repeat (first | exact Below.refl _ _ | (with_reducible refine Below.drew ?_) | (with_reducible refine below_drewN ?_ _) | (refine bto ?_ (by assumption))))).mono ?_; rintro _ wl ⟨rfl, hl⟩; rw [E2.out])
      | (go_at_call 6; refine (C3.out _ (by repeat (first | exact Below.refl _ _ | (with_reducible refine Below.drew ?_) | (with_reducible refine below_drewN ?_ _) | (refine bto ?_ (by assumption))))).mono ?_; rintro _ wl ⟨rfl, hl⟩)
      | (go_at_call 7; refine (C4.out _).mono ?_; rintro _ wl ⟨rfl, hl⟩))
  all_goals
    go_wp2
    go_ret
    refine ⟨rfl, bto HB0.out ?_⟩
    repeat (first | exact Below.refl _ _ | (with_reducible refine Below.drew ?_) | (with_reducible refine below_drewN ?_ _) | (refine bto ?_ (by assumption)))
end Go.Proofs.YticboondiojofaaDoor
