/-
  Is anything over in a plain form; the sum of three; expressions that lie in a new block.
-/
import Derived.Test.YtlhmecagijdinaaDoorMNbA
import Derived.Test.YtlhmecagijdinaaDoorJ03
import Derived.Test.YtlhmecagijdinaaDoorJ05
set_option linter.unusedVariables false
set_option linter.unusedSimpArgs false
namespace Go.Proofs.YtlhmecagijdinaaDoor.nm
open Go.RowKit cc

/-- Is none of the fractions over? -/
def okU (us : List (Int × Int)) : Bool := us.all fun r => !(r.2 == 0)
theorem okU_noZ {us : List (Int × Int)} (h : okU us = true) : noZ us := fun r hr => by
  have := List.all_eq_true.1 h r hr
  simpa using this
set_option maxRecDepth 100000 in
set_option maxHeartbeats 8000000 in
theorem over_plain (us : List (Int × Int)) (a : Option Addr) (c : Nat) (w : World) (hus : Us us) : Calls Tryd.prog 9 #[foV us (.slice a 0 c)] w fun e w' => e = .returned (.bool (!okU us)) ∧ Below w.heap.size w w' := by
  have HUS := hide hus
  obtain ⟨n0, d0, n1, d1, n2, d2, n3, d3, n4, d4, n5, d5, n6, d6, rfl⟩ := us7 hus
  rw [foV_eq]
  clear hus
  have E := hide (show okU [(n0, d0), (n1, d1), (n2, d2), (n3, d3), (n4, d4), (n5, d5), (n6, d6)] = [(n0, d0), (n1, d1), (n2, d2), (n3, d3), (n4, d4), (n5, d5), (n6, d6)].all fun r => !(r.2 == 0) from rfl)
  obtain ⟨W1, hW1⟩ : ∃ W1, w.alloc (.cells #[.int .i64 n0, .int .i64 d0, .int .i64 n1, .int .i64 d1, .int .i64 n2, .int .i64 d2, .int .i64 n3, .int .i64 d3, .int .i64 n4, .int .i64 d4, .int .i64 n5, .int .i64 d5, .int .i64 n6, .int .i64 d6, .slice a 0 c] 30) = W1 := ⟨_, rfl⟩
  have B0 := hide (show Below w.heap.size w W1 by rw [← hW1]; exact bplus (Below.refl _ _) _)
  have P0 := hide (show W1.heap[w.heap.size]? = some (.cells #[.int .i64 n0, .int .i64 d0, .int .i64 n1, .int .i64 d1, .int .i64 n2, .int .i64 d2, .int .i64 n3, .int .i64 d3, .int .i64 n4, .int .i64 d4, .int .i64 n5, .int .i64 d5, .int .i64 n6, .int .i64 d6, .slice a 0 c] 30) by rw [← hW1]; exact heap_alloc_new w _)
  have hs1 : w.heap.size < W1.heap.size := by rw [← hW1]; simp
  have HW1 := hide hW1
  clear hW1
  obtain ⟨-, p14⟩ := bxk_15 P0.out
  replace p14 := hide p14
  generalize hU : [(n0, d0), (n1, d1), (n2, d2), (n3, d3), (n4, d4), (n5, d5), (n6, d6)] = US at *
  go_enter Tryd.func9, Tryd.ntmps9
  go_wp2
  rw [HW1.out]
  go_loopw [11] (fun i wr => RelAl W1 (fun r : Int × Int => !(r.2 == 0)) US i wr) (fun i _ => US.length - (intOf i).toNat)
  case atStart => exact .mk 0 rfl (by omega) (Below.refl _ _) rfl
  case round =>
    obtain ⟨k, rfl, hk, BE, R⟩ := hrel
    replace BE := hide BE
    have h7 : US.length = 7 := HUS.out.1
    by_cases hlt : k < 7
    · obtain ⟨rn, rd, hr, ⟨rn1, rn2⟩, ⟨rd1, rd2⟩⟩ := us_at HUS.out hlt
      have IX := ix7 (n0 := n0) (d0 := d0) (n1 := n1) (d1 := d1) (n2 := n2) (d2 := d2) (n3 := n3) (d3 := d3) (n4 := n4) (d4 := d4) (n5 := n5) (d5 := d5) (n6 := n6) (d6 := d6) hlt 27 (.inl rfl) (n := rn) (d := rd) (by rw [hU]; exact hr)
      have R2 := hide (all_step R.out hr)
      have hlt' : (k : Int) < 7 := by omega
      have BX := hide (bplus BE.out (.cells #[.int .i64 rn, .int .i64 rd] 23))
      clear hr R
      by_cases hz : rd = 0
      · subst hz
        have F := hide (show (!okU US) = true by rw [E.out, R2.out]; rfl)
        clear R2 E
        go_wp2
        go_ret
        exact ⟨ret_bool F.out.symm, bto B0.out BX.out⟩
      · have g : (rd == 0) = false := by simpa using hz
        have R3 := hide (show US.all (fun r : Int × Int => !(r.2 == 0)) = (US.drop (k + 1)).all (fun r : Int × Int => !(r.2 == 0)) by rw [R2.out, g]; rfl)
        clear R2
        go_wp2
        go_roundw
        case rel => exact .mk (k + 1) (by go_num) (by omega) BX.out R3.out
        case measure => simp [intOf]; omega
    · have hlt' : ¬ (k : Int) < 7 := by omega
      have F := hide (show (!okU US) = false by rw [E.out, all_end R.out (by omega)]; rfl)
      have f14 := (BE.out.cell (p := ⟨w.heap.size, 14, none⟩) hs1).trans p14.out
      clear E R
      go_wp2
      go_loopw [21] (fun i wr => RelAl W1 (fun _ : Nat => true) [] i wr) (fun _ _ => 0)
      case atStart => exact .mk 0 rfl (by decide) BE.out rfl
      case round =>
        clear f14 BE
        obtain ⟨k2, rfl, hk2, BE, -⟩ := hrel
        obtain rfl : k2 = 0 := by simpa using hk2
        replace BE := hide BE
        go_wp2
        go_ret
        exact ⟨ret_bool F.out.symm, bto B0.out BE.out⟩
/-! ### Expressions in a new block -/
def ex5 (x : Ex) (u : Value) : List Value := [.int .i64 x.k, .int .i64 x.n, .int .i64 x.d, .int .i64 x.u, u]
theorem em3 {w : World} {b : Nat} {T : TypeId} {x y z : Ex} {u v t : Value} (h : Bk w b T (ex5 x u ++ (ex5 y v ++ ex5 z t))) (hx : x.Ok) (hy : y.Ok) (hz : z.Ok) (hu : EM w u x.ks) (hv : EM w v y.ks) (ht : EM w t z.ks) : EM w (.slice (some ⟨b, 0, none⟩) 3 3) [x, y, z] := by
  have c := fun j => Bk.cell h j
  refine .row b 0 3 [x, y, z] (fun i => match i with | 0 => u | 1 => v | _ => t) (by simp) (Bk.lt h) (by simp) (by simp) (by decide) ?_ ?_ ?_ ?_
  · intro i q hi
    match i, hi with
    | 0, hi => cases hi; exact hx
    | 1, hi => cases hi; exact hy
    | 2, hi => cases hi; exact hz
  · intro i q hi
    match i, hi with
    | 0, hi => cases hi; exact ⟨c 0, c 1, c 2, c 3⟩
    | 1, hi => cases hi; exact ⟨c 5, c 6, c 7, c 8⟩
    | 2, hi => cases hi; exact ⟨c 10, c 11, c 12, c 13⟩
  · intro i q hi
    match i, hi with
    | 0, hi => cases hi; exact c 4
    | 1, hi => cases hi; exact c 9
    | 2, hi => cases hi; exact c 14
  · intro i q hi
    match i, hi with
    | 0, hi => cases hi; exact hu
    | 1, hi => cases hi; exact hv
    | 2, hi => cases hi; exact ht
theorem em2 {w : World} {b : Nat} {T : TypeId} {x y : Ex} {u v : Value} (h : Bk w b T (ex5 x u ++ ex5 y v)) (hx : x.Ok) (hy : y.Ok) (hu : EM w u x.ks) (hv : EM w v y.ks) : EM w (.slice (some ⟨b, 0, none⟩) 2 2) [x, y] := by
  have c := fun j => Bk.cell h j
  refine .row b 0 2 [x, y] (fun i => match i with | 0 => u | _ => v) (by simp) (Bk.lt h) (by simp) (by simp) (by decide) ?_ ?_ ?_ ?_
  · intro i q hi
    match i, hi with
    | 0, hi => cases hi; exact hx
    | 1, hi => cases hi; exact hy
  · intro i q hi
    match i, hi with
    | 0, hi => cases hi; exact ⟨c 0, c 1, c 2, c 3⟩
    | 1, hi => cases hi; exact ⟨c 5, c 6, c 7, c 8⟩
  · intro i q hi
    match i, hi with
    | 0, hi => cases hi; exact c 4
    | 1, hi => cases hi; exact c 9
  · intro i q hi
    match i, hi with
    | 0, hi => cases hi; exact hu
    | 1, hi => cases hi; exact hv
theorem sm_ok (l : List Ex) : (smX l).Ok := show i64 2 ∧ i64 0 ∧ i64 0 ∧ i64 0 from ⟨⟨by decide, by decide⟩, ⟨by decide, by decide⟩, ⟨by decide, by decide⟩, ⟨by decide, by decide⟩⟩
theorem smX_okx {l : List Ex} (h : ∀ y ∈ l, OkX y) : OkX (smX l) := .mk 2 0 0 0 l (sm_ok l) h
end Go.Proofs.YtlhmecagijdinaaDoor.nm
