/-
  A leaf's copy: the program's own, ownLeaf.
-/
import Derived.Test.YtpcdhdllclenaaaDoorCdP
set_option linter.unusedVariables false
set_option linter.unusedSimpArgs false
namespace Go.Proofs.YtpcdhdllclenaaaDoor.cd
open Go.RowKit

theorem ownExpr_any (x : Ex) (u : Value) (w : World) (hx : x.Ok) (hu : EM w u x.ks) : Calls Tryd.prog 65 #[exV x u] w fun e w' => ∃ v, e = .returned (exV x v) ∧ EM (cutW w.heap.size w') v x.ks ∧ Below w.heap.size w w' := owE_all (szE x) x u w (Nat.le_refl _) hx hu
set_option maxRecDepth 100000 in
set_option maxHeartbeats 8000000 in
theorem ownLeaf_any (x : Lf) (z : Value) (w : World) (hx : x.e.Ok) (hz : EM w z x.e.ks) : Calls Tryd.prog 53 #[lfV x z] w fun e w' => ∃ v, e = .returned (lfV x v) ∧ EM (cutW w.heap.size w') v x.e.ks ∧ Below w.heap.size w w' := by
  obtain ⟨lk, lt, nm, op, ⟨ek, en, ed, eu, eks⟩, wd, vl, an⟩ := x
  obtain ⟨za, zc, rfl, hz9⟩ := hz.shape
  replace hz : EM w (.slice za eks.length zc) eks := hz
  have EVL := fun (v : Value) => show lfV ⟨lk, lt, nm, op, .mk ek en ed eu eks, wd, vl, an⟩ v = .agg [.int .i64 lk, .int .i64 lt, .string nm, .int .i64 op, .int .i64 ek, .int .i64 en, .int .i64 ed, .int .i64 eu, v, .string wd, .string vl, .bool an].toArray from rfl
  simp only [EVL, Ex.ks]
  clear EVL
  generalize hxm : eks.length = xm at *
  obtain ⟨W1, hW1⟩ : ∃ W1, (w.alloc (.cells #[.int .i64 lk, .int .i64 lt, .string nm, .int .i64 op, .int .i64 ek, .int .i64 en, .int .i64 ed, .int .i64 eu, Value.slice za xm zc, .string wd, .string vl, .bool an] 37)).alloc (.cells #[.int .i64 0, .int .i64 0, .string ⟨#[]⟩, .int .i64 0, .int .i64 0, .int .i64 0, .int .i64 0, .int .i64 0, .slice none 0 0, .string ⟨#[]⟩, .string ⟨#[]⟩, .bool false] 37) = W1 := ⟨_, rfl⟩
  have S1 : W1.heap.size = w.heap.size + 2 := by rw [← hW1]; simp
  have B0 := hide (show Below w.heap.size w W1 by rw [← hW1]; exact bplus (bplus (Below.refl _ _) _) _)
  have P0 := hide (show Bk W1 w.heap.size 37 ([.int .i64 lk, .int .i64 lt, .string nm, .int .i64 op] ++ ([.int .i64 ek, .int .i64 en, .int .i64 ed, .int .i64 eu, Value.slice za xm zc] ++ [.string wd, .string vl, .bool an])) by rw [← hW1]; exact (two_new w _ _).1)
  have P1 := hide (show Bk W1 (w.heap.size + 1) 37 [.int .i64 0, .int .i64 0, .string ⟨#[]⟩, .int .i64 0, .int .i64 0, .int .i64 0, .int .i64 0, .int .i64 0, .slice none 0 0, .string ⟨#[]⟩, .string ⟨#[]⟩, .bool false] by rw [← hW1]; exact (two_new w _ _).2)
  have HW1 := hide hW1
  have CI := hide (show Calls Tryd.prog 65 #[.agg #[.int .i64 ek, .int .i64 en, .int .i64 ed, .int .i64 eu, Value.slice za xm zc]] W1 fun e w' => ∃ v, e = .returned (.agg #[.int .i64 ek, .int .i64 en, .int .i64 ed, .int .i64 eu, v]) ∧ EM (cutW W1.heap.size w') v eks ∧ Below W1.heap.size W1 w' from ownExpr_any (.mk ek en ed eu eks) (.slice za xm zc) W1 hx (by exact hz.low B0.out))
  clear hW1 hz hx
  have SS := hide S1
  have y4 : W1.cell? ⟨w.heap.size, 4, none⟩ = some (.int .i64 ek) := by rw [Bk.cell P0.out]; rfl
  have y5 : W1.cell? ⟨w.heap.size, 5, none⟩ = some (.int .i64 en) := by rw [Bk.cell P0.out]; rfl
  have y6 : W1.cell? ⟨w.heap.size, 6, none⟩ = some (.int .i64 ed) := by rw [Bk.cell P0.out]; rfl
  have y7 : W1.cell? ⟨w.heap.size, 7, none⟩ = some (.int .i64 eu) := by rw [Bk.cell P0.out]; rfl
  have y8 : W1.cell? ⟨w.heap.size, 8, none⟩ = some (Value.slice za xm zc) := by rw [Bk.cell P0.out]; rfl
  have K0 := hide (fun (v : Value) (w5 : World) (h : Below W1.heap.size W1 w5) => show w5.there w.heap.size 4 5 ∧ Bk (w5.setCells w.heap.size 4 [.int .i64 ek, .int .i64 en, .int .i64 ed, .int .i64 eu, v]) w.heap.size 37 [.int .i64 lk, .int .i64 lt, .string nm, .int .i64 op, .int .i64 ek, .int .i64 en, .int .i64 ed, .int .i64 eu, v, .string wd, .string vl, .bool an] ∧ Bk (w5.setCells w.heap.size 4 [.int .i64 ek, .int .i64 en, .int .i64 ed, .int .i64 eu, v]) (w.heap.size + 1) 37 [.int .i64 0, .int .i64 0, .string ⟨#[]⟩, .int .i64 0, .int .i64 0, .int .i64 0, .int .i64 0, .int .i64 0, .slice none 0 0, .string ⟨#[]⟩, .string ⟨#[]⟩, .bool false] from by
    have q := Bk.up P0.out h
    exact ⟨mid_there q rfl rfl, mid_put q rfl rfl, (setCells_far (w.heap.size + 1) w.heap.size 0 (by omega) _ _ _).trans (Bk.up P1.out h)⟩)
  go_enter Tryd.func53, Tryd.ntmps53
  go_upto_region 1 with fail
  rw [HW1.out]
  clear HW1
  go_upto_region 2 with (first
    | (go_at_call 65; refine CI.out.mono ?_; rintro e w5 ⟨v, rfl, PV, B5⟩; replace PV := hide PV; replace B5 := hide B5)
    | (refine wpList_store_mid rfl 35 (.tmp 6) (.tmp 5) rfl w.heap.size 4 [.int .i64 ek, .int .i64 en, .int .i64 ed, .int .i64 eu, v].toArray rfl rfl (K0.out v w5 B5.out).1 (by kernel_rfl) (all_oneCell_toArray (by obtain ⟨a', c', hv, -⟩ := PV.out.shape; subst hv; intro y hy; simp only [List.mem_cons, List.not_mem_nil, or_false] at hy; rcases hy with rfl | rfl | rfl | rfl | rfl <;> rfl)) ?_))
  (try rw [show [Value.int .i64 ek, .int .i64 en, .int .i64 ed, .int .i64 eu, v].toArray.toList = [Value.int .i64 ek, .int .i64 en, .int .i64 ed, .int .i64 eu, v] from rfl])
  have J0 := hide (K0.out v w5 B5.out).2.1
  have J1 := hide (K0.out v w5 B5.out).2.2
  have B6 := hide (show Below w.heap.size w (w5.setCells w.heap.size 4 [.int .i64 ek, .int .i64 en, .int .i64 ed, .int .i64 eu, v]) from (bto B0.out B5.out).grown (setCells_grown _ _ _ _) (bto B0.out B5.out).size (fun k hk => by cases hk; exact Nat.le_refl _))
  have P6 := hide (show EM (cutW (w.heap.size + 2) (w5.setCells w.heap.size 4 [.int .i64 ek, .int .i64 en, .int .i64 ed, .int .i64 eu, v])) v eks from em_sees (cut_keep (by rw [SS.out]; exact Nat.le_refl _) (by rw [setCells_sizeC]; omega) (fun b hb hl => setCells_far b w.heap.size 0 (by have := SS.out; omega) _ _ _)) PV.out)
  obtain ⟨va, vc, rfl, hv9⟩ := PV.out.shape
  clear K0 y4 y5 y6 y7 y8 P0 P1 B0 B5 PV CI SS S1
  generalize w5.setCells w.heap.size 4 [.int .i64 ek, .int .i64 en, .int .i64 ed, .int .i64 eu, .slice va eks.length vc] = W2 at *
  rw [hxm] at J0 P6 ⊢
  obtain ⟨P, hP⟩ : ∃ P, [.int .i64 lk, .int .i64 lt, .string nm, .int .i64 op, .int .i64 ek, .int .i64 en, .int .i64 ed, .int .i64 eu, Value.slice va xm vc, .string wd, .string vl, .bool an] = P := ⟨_, rfl⟩
  have LP : P.length = 12 := by rw [← hP]; rfl
  have OU : ∀ v ∈ P, v.oneCell' = true := by rw [← hP]; intro v hv; simp only [List.mem_cons, List.not_mem_nil, or_false] at hv; rcases hv with rfl | rfl | rfl | rfl | rfl | rfl | rfl | rfl | rfl | rfl | rfl | rfl <;> rfl
  have FB := hide (show Below w.heap.size w (W2.setCells (w.heap.size + 1) 0 P) from B6.out.grown (setCells_grown _ _ _ _) B6.out.size (fun k hk => by cases hk; simp))
  have FP := hide (show EM (cutW w.heap.size (W2.setCells (w.heap.size + 1) 0 P)) (.slice va xm vc) eks from em_sees (cut_keep (by omega) (by rw [setCells_sizeC]; omega) (fun b hb hl => setCells_far b (w.heap.size + 1) 0 (by omega) _ _ _)) P6.out)
  rw [hP] at J0
  have T4 := hide (show W2.there (w.heap.size + 1) 0 P.toArray.size from there_blk (show W2.heap[w.heap.size + 1]? = some (.cells #[.int .i64 0, .int .i64 0, .string ⟨#[]⟩, .int .i64 0, .int .i64 0, .int .i64 0, .int .i64 0, .int .i64 0, .slice none 0 0, .string ⟨#[]⟩, .string ⟨#[]⟩, .bool false] 37) from J1.out) (by rw [List.size_toArray, List.size_toArray, LP]; rfl))
  refine wp_region_list ?_
  refine wpList_load_mid rfl 37 (.tmp 1) rfl w.heap.size 0 rfl P _ (range_blk J0.out) Tryd.underlying37 rfl (by rw [LP]; kernel_rfl) ?_
  refine wpList_store_mid rfl 37 (.tmp 2) (.tmp 7) rfl (w.heap.size + 1) 0 P.toArray rfl rfl T4.out (by rw [List.size_toArray, LP]; kernel_rfl) (all_oneCell_toArray OU) ?_
  go_wp2_with fail
  refine ret_cell (b := w.heap.size + 1) (cs := P) Tryd.results53 rfl (World.rangeAt_setCells_same _ _ _ _ T4.out) Tryd.underlying37 rfl (by rw [LP]; kernel_rfl) rfl ?_
  exact ⟨_, by rw [← hP], FP.out, FB.out⟩
end Go.Proofs.YtpcdhdllclenaaaDoor.cd
