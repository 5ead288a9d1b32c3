/-
  Which boxes may be, which texts are names: the law's walk.
-/
import Derived.Test.YtdmijejcifjaoaaDomC
import Derived.Deep.RegionHeld3
set_option linter.unusedVariables false
set_option linter.unusedSimpArgs false
namespace Go.Proofs.Ytdmijejcifjaoaa
open Go.RowKit

theorem keep6 {w w' : World} {b : Nat} {k : Int} {s : ByteArray} {n d m e : Int} (hb : Below w.heap.size w w') (t : Box6 w b k s n d m e) : w'.cell? ⟨b, 0, none⟩ = some (.int .i64 k) ∧ w'.cell? ⟨b, 1, none⟩ = some (.string s) ∧ w'.cell? ⟨b, 2, none⟩ = some (.int .i64 n) ∧ w'.cell? ⟨b, 3, none⟩ = some (.int .i64 d) ∧ w'.cell? ⟨b, 4, none⟩ = some (.int .i64 m) ∧ w'.cell? ⟨b, 5, none⟩ = some (.int .i64 e) := (t.below hb).2
theorem a1_name : nmD (bl ⟨#[97, 45, 49]⟩) = true := by decide
set_option maxRecDepth 100000 in
set_option maxHeartbeats 1500000 in
theorem law_may8 (t : Int) (s : ByteArray) (n d m e : Int) (u : ByteArray) (w : World) (t1 : -9223372036854775808 ≤ t) (t2 : t ≤ 9223372036854775807) (hs : s.size ≤ maxLen) (n1 : -9223372036854775808 ≤ n) (n2 : n ≤ 9223372036854775807) (d1 : -9223372036854775808 ≤ d) (d2 : d ≤ 9223372036854775807) (m1 : -9223372036854775808 ≤ m) (m2 : m ≤ 9223372036854775807) (e1 : -9223372036854775808 ≤ e) (e2 : e ≤ 9223372036854775807) (hu : u.size ≤ maxLen) :
    Calls Try.prog 3 #[boxV t s n d m e, .string u] w fun r w' => r = .returned (.bool true) ∧ Below w.heap.size w w' := by
  have T0 := Box6.box w t s n d m e 25
  have B0 := bplus (Below.refl w.heap.size w) (.cells #[.int .i64 t, .string s, .int .i64 n, .int .i64 d, .int .i64 m, .int .i64 e] 25)
  have C1 := hide (fun (W : World) => mayBox_any t s n d m e W t1 t2 hs n1 n2 d1 d2 m1 m2 e1 e2)
  have C2 := hide (fun (W : World) => boxR_any t s n d m e W t1 t2 hs n1 n2 d1 d2 m1 m2 e1 e2)
  have C3 := hide (fun (W : World) => mayName_any u W hu)
  have C4 := hide (fun (W : World) => nameR_any u W hu)
  have C5 := hide (fun (W : World) => mayName_any ⟨#[97, 45, 49]⟩ W (by decide))
  have E1 := hide a1_name
  unfold boxV at C1 C2 ⊢
  go_enter Try.func3, Try.ntmps3
  go_wp2_with fail
  generalize w.alloc (.cells #[.int .i64 t, .string s, .int .i64 n, .int .i64 d, .int .i64 m, .int .i64 e] 25) = w0 at *
  have HB0 := hide B0
  have HT0 := hide T0
  clear B0 T0
  go_region_held3 (fun w' => w'.cell? ⟨w.heap.size, 0, none⟩ = some (.int .i64 t) ∧ w'.cell? ⟨w.heap.size, 1, none⟩ = some (.string s) ∧ w'.cell? ⟨w.heap.size, 2, none⟩ = some (.int .i64 n) ∧ w'.cell? ⟨w.heap.size, 3, none⟩ = some (.int .i64 d) ∧ w'.cell? ⟨w.heap.size, 4, none⟩ = some (.int .i64 m) ∧ w'.cell? ⟨w.heap.size, 5, none⟩ = some (.int .i64 e))
    ((refine keep6 ?_ HT0.out; (repeat (first | exact Below.refl _ _ | (with_reducible refine Below.drew ?_) | (with_reducible refine below_drewN ?_ _) | (refine bto ?_ (by assumption)))); done))
    (first
      | (go_at_call 4; refine (C1.out _).mono ?_; rintro _ wl ⟨rfl, hl⟩)
      | (go_at_call 5; refine (C2.out _).mono ?_; rintro _ wl ⟨rfl, hl⟩)
      | (go_at_call_of 6 (Value.string ⟨#[97, 45, 49]⟩); refine (C5.out _).mono ?_; rintro _ wl ⟨rfl, rfl⟩; rw [E1.out])
      | (go_at_call 6; refine (C3.out _).mono ?_; rintro _ wl ⟨rfl, rfl⟩)
      | (go_at_call 7; refine (C4.out _).mono ?_; rintro _ wl ⟨rfl, hl⟩))
  all_goals
    go_wp2
    go_ret
    refine ⟨rfl, bto HB0.out ?_⟩
    repeat (first | exact Below.refl _ _ | (with_reducible refine Below.drew ?_) | (with_reducible refine below_drewN ?_ _) | (refine bto ?_ (by assumption)))
end Go.Proofs.Ytdmijejcifjaoaa
