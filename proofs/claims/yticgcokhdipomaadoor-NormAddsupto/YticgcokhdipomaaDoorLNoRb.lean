/-
  A form as a row reads it; the variable that is nothing.
-/
import Derived.Test.YticgcokhdipomaaDoorLNoR
set_option linter.unusedVariables false
set_option linter.unusedSimpArgs false
namespace Go.Proofs.YticgcokhdipomaaDoor.rowg
open Go.ChangeShapes Go.WideShapes Go.ChangeAt Go.RowKit Go.Joins
open Go.ChangeMaps (open_string shut_string)
open Go.Proofs.YticgcokhdipomaaDoor.nm
set_option maxRecDepth 100000 in
/-- A form that comes in. -/
theorem fo_open {H : Type} {enc : TypeId × Value → H} {W : World} {base : Nat} {held : Bool} {v : Value} {x : DataW H} {p : List MemPlace} (hv : Value.okWide Tryd.prog W .any base 29 v) (h : DataW.Trod enc Tryd.prog W 0 (fun _ => true) held 29 v x p) (hb : Rows.uptoBulk x ≤ 1048576) :
    ∃ (us : List (Int × Int)) (ps : List Pa) (u : Value), v = foV us u ∧ Us us ∧ PM W 65536 u ps := by
  obtain ⟨cs, rfl, hsz⟩ := okWide_struct Tryd.underlying29 hv
  obtain ⟨fuel, hf⟩ := h
  obtain ⟨us, ps, u, hus, hcs, hX⟩ := fo_cells (N := 1048576) (X := PM W 65536) (d := (x, p)) (m := fuel) (cs := cs.toList) (by simpa [Value.cells] using hf) hb (fun c fuel x hx hbx => pas_open (N := 1048576) hx (by omega) (by omega) (fun c fuel x hx hbx => by
    obtain ⟨l, hl⟩ := fos_open 1048576 c fuel x hx (by omega) (by omega)
    exact ⟨l, hl⟩))
  refine ⟨us, ps, u, ?_, hus, hX⟩
  unfold foV
  rw [← hcs]
set_option maxRecDepth 100000 in
theorem nth_third {W : World} {a1 a2 : String × DataW Unit} {r : List (String × DataW Unit)}
    (h : laidMet Tryd.prog (a1 :: a2 :: ("jalousie/norm.nothing", Rows.laid_jalousie_norm_nothing) :: r) W) : Nth W := by
  obtain ⟨ps, hL, _⟩ := h
  obtain ⟨_, _, _, _, _, q1, _, _, _, _, hL, _⟩ := hL
  obtain ⟨_, _, _, _, _, q2, _, _, _, _, hL, _⟩ := hL
  obtain ⟨g', t', cs, fuel, p, q, hg', ht', hvar, hd, _, _⟩ := hL
  have hg : Tryd.prog.globalNamed "jalousie/norm.nothing" = some 0 := by kernel_rfl
  have hty : (Tryd.prog.globals[0]?).map (·.type) = some 24 := by kernel_rfl
  obtain rfl := Option.some.inj (hg.symm.trans hg')
  obtain rfl := Option.some.inj (hty.symm.trans ht')
  have hd' : DataW.trod (fun _ => ()) Tryd.prog W 0 (fun _ => true) false fuel 24 cs.toList = some (Rows.laid_jalousie_norm_nothing, p) := hd
  obtain ⟨ys, m2, _, hy, hc, hl2, hq2⟩ := DataW.trod_struct Tryd.underlying24 hd'
  obtain ⟨n, e, hcs, -, -, -⟩ := rat_cells hd'
  match ys, hl2 with
  | [u0, u1], _ =>
    have r0' : DataW.trod (fun _ => ()) Tryd.prog W 0 (fun _ => true) false m2 2 ((cs.toList.drop 0).take (Tryd.prog.cellsOf 2)) = some u0 := hq2 0 _ rfl
    have r1' : DataW.trod (fun _ => ()) Tryd.prog W 0 (fun _ => true) false m2 2 ((cs.toList.drop 1).take (Tryd.prog.cellsOf 2)) = some u1 := hq2 1 _ rfl
    rw [cL, hcs] at r0' r1'
    obtain ⟨n', en, rfl, wn⟩ := DataW.trod_int Tryd.underlying2 r0'
    obtain ⟨e', ee, rfl, we⟩ := DataW.trod_int Tryd.underlying2 r1'
    simp at en ee
    subst en ee
    have hD : (Rows.laid_jalousie_norm_nothing : DataW Unit) = .agg [.lit (.int .i64 n), .lit (.int .i64 e)] := by simpa using congrArg Prod.fst hy
    simp [Rows.laid_jalousie_norm_nothing] at hD
    obtain ⟨rfl, rfl⟩ := hD
    have e0 := World.var?_cell hg hvar 0
    have e1 := World.var?_cell hg hvar 1
    have hca : cs = #[.int .i64 0, .int .i64 1] := by rw [← Array.toArray_toList (xs := cs), hcs]
    subst hca
    exact ⟨World.block_lt_of_cell? _ _ (show W.cell? ⟨0, 0, none⟩ = some (.int .i64 0) from e0), e0, e1⟩
end Go.Proofs.YticgcokhdipomaaDoor.rowg
