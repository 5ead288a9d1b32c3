/-
  May a leaf be: by the reference, kinds 23.
-/
import Derived.Test.YtpcdhdllclenaaaDoorCeC
import Derived.Test.YtpcdhdllclenaaaDoorCaC
import Derived.Test.YtpcdhdllclenaaaDoorCdF
import Derived.Lib.Strings
set_option linter.unusedVariables false
set_option linter.unusedSimpArgs false
namespace Go.Proofs.YtpcdhdllclenaaaDoor.cd
open Go.RowKit

set_option maxRecDepth 100000 in
set_option maxHeartbeats 8000000 in
theorem mayR_2 (lt : Int) (nm : ByteArray) (op ek en ed eu : Int) (eks : List Ex) (wd vl : ByteArray) (an : Bool) (za : Option Addr) (zm zc : Nat) (w : World) (he : (Ex.mk ek en ed eu eks).Ok) (hz : EM w (.slice za zm zc) eks) : Calls Tryd.prog 51 #[lfV ⟨2, lt, nm, op, .mk ek en ed eu eks, wd, vl, an⟩ (.slice za zm zc)] w fun e w' => e = .returned (.bool (lfM ⟨2, lt, nm, op, .mk ek en ed eu eks, wd, vl, an⟩)) ∧ Below w.heap.size w w' := by
  have M := hide (mayL_2 lt nm op ek en ed eu eks wd vl an)
  obtain ⟨w1, hw1⟩ : ∃ w1, w.alloc (.cells #[.int .i64 2, .int .i64 lt, .string nm, .int .i64 op, .int .i64 ek, .int .i64 en, .int .i64 ed, .int .i64 eu, .slice za zm zc, .string wd, .string vl, .bool an] 37) = w1 := ⟨_, rfl⟩
  have S1 : w1.heap.size = w.heap.size + 1 := by rw [← hw1]; simp
  have B1 : Below w.heap.size w w1 := by rw [← hw1]; exact bplus (Below.refl _ _) _
  have P0 : w1.heap[w.heap.size]? = some (.cells #[.int .i64 2, .int .i64 lt, .string nm, .int .i64 op, .int .i64 ek, .int .i64 en, .int .i64 ed, .int .i64 eu, .slice za zm zc, .string wd, .string vl, .bool an] 37) := by rw [← hw1]; exact heap_alloc_new w _
  obtain ⟨W1, hW1⟩ : ∃ W1, w1.alloc (.cells #[.int .i64 2, .int .i64 0, .string ⟨#[]⟩, .int .i64 0, .int .i64 0, .int .i64 0, .int .i64 0, .int .i64 0, .slice none 0 0, .string ⟨#[]⟩, .string ⟨#[]⟩, .bool false] 37) = W1 := ⟨_, rfl⟩
  have HB1 : Below w1.heap.size w1 W1 := by rw [← hW1]; exact bplus (Below.refl _ _) _
  have P1 : Bk W1 (w.heap.size + 1) 37 [.int .i64 2, .int .i64 0, .string ⟨#[]⟩, .int .i64 0, .int .i64 0, .int .i64 0, .int .i64 0, .int .i64 0, .slice none 0 0, .string ⟨#[]⟩, .string ⟨#[]⟩, .bool false] := by rw [← hW1, ← S1]; exact heap_alloc_new w1 _
  have HW1 := hide (show (w.alloc (.cells #[.int .i64 2, .int .i64 lt, .string nm, .int .i64 op, .int .i64 ek, .int .i64 en, .int .i64 ed, .int .i64 eu, .slice za zm zc, .string wd, .string vl, .bool an] 37)).alloc (.cells #[.int .i64 2, .int .i64 0, .string ⟨#[]⟩, .int .i64 0, .int .i64 0, .int .i64 0, .int .i64 0, .int .i64 0, .slice none 0 0, .string ⟨#[]⟩, .string ⟨#[]⟩, .bool false] 37) = W1 by rw [hw1]; exact hW1)
  have KH := hide (fun (W : World) (h : Below w1.heap.size w1 W) => keep12 h P0)
  have SW1 : W1.heap.size = w.heap.size + 2 := by rw [← hW1]; simp; omega
  have CS := hide (fun (W : World) (h : Below w1.heap.size w1 W) => sameL_any ⟨2, lt, nm, op, .mk ek en ed eu eks, wd, vl, an⟩ ⟨2, 0, nm, 0, (.mk 0 0 0 0 []), ⟨#[]⟩, ⟨#[]⟩, false⟩ (.slice za zm zc) (.slice none 0 0) W (hz.low (bto B1 h)) (EM.nil none 0))
  have CM1 := hide (fun (W : World) (h : Below w1.heap.size w1 W) => calcMayR_any (.mk ek en ed eu eks) (.slice za zm zc) W he (hz.low (bto B1 h)))
  simp only [lfV, exV, Ex.k, Ex.n, Ex.d, Ex.u] at CS CM1 ⊢
  obtain ⟨p0, p1, p2, p3, p4, p5, p6, p7, p8, p9, pa, pb⟩ := keep12 HB1 P0
  obtain ⟨q0, q1, q2, q3, q4, q5, q6, q7, q8, q9, qa, qb⟩ := keep12 (Below.refl W1.heap.size W1) (show W1.heap[w.heap.size + 1]? = _ from P1)
  have fz := Bk.fz P1
  have HBW := hide B1
  clear hz he hw1 hW1 P0 P1 B1
  generalize hB : eqL ⟨2, lt, nm, op, .mk ek en ed eu eks, wd, vl, an⟩ ⟨2, 0, nm, 0, (.mk 0 0 0 0 []), ⟨#[]⟩, ⟨#[]⟩, false⟩ = EB at *
  clear hB
  cases EB
  · have F := hide (show lfM ⟨2, lt, nm, op, .mk ek en ed eu eks, wd, vl, an⟩ = false by rw [M.out]; simp)
    go_enter Tryd.func51, Tryd.ntmps51
    go_upto_region 2 with fail
    rw [HW1.out]
    clear HW1
    go_wp2_with (first
      | (go_at_call 63; refine (CM1.out _ (by repeat (first | (with_reducible refine Below.setCell ?_ (by first | (simp; omega) | omega) _) | (with_reducible refine Below.drew ?_) | (with_reducible refine below_drewN ?_ _) | (with_reducible refine bplus ?_ _) | (with_reducible exact Below.refl _ _) | (with_reducible assumption) | (with_reducible refine bto ?_ (by with_reducible assumption))))).mono ?_; rintro _ wm ⟨rfl, hm⟩; have zz := (fun (i : Nat) => hm.cell (p := ⟨w.heap.size + 1, i, none⟩) (by simp; omega)); obtain ⟨u0, u1, u2, u3, u4, u5, u6, u7, u8, u9, ua, ub⟩ := KH.out wm (by repeat (first | (with_reducible refine Below.setCell ?_ (by first | (simp; omega) | omega) _) | (with_reducible refine Below.drew ?_) | (with_reducible refine below_drewN ?_ _) | (with_reducible refine bplus ?_ _) | (with_reducible exact Below.refl _ _) | (with_reducible assumption) | (with_reducible refine bto ?_ (by with_reducible assumption)))))
      | (go_at_call 23; refine (CS.out _ (by repeat (first | (with_reducible refine Below.setCell ?_ (by first | (simp; omega) | omega) _) | (with_reducible refine Below.drew ?_) | (with_reducible refine below_drewN ?_ _) | (with_reducible refine bplus ?_ _) | (with_reducible exact Below.refl _ _) | (with_reducible assumption) | (with_reducible refine bto ?_ (by with_reducible assumption))))).mono ?_; rintro _ wl ⟨rfl, hl⟩; obtain ⟨v0, v1, v2, v3, v4, v5, v6, v7, v8, v9, va, vb⟩ := KH.out wl (by repeat (first | (with_reducible refine Below.setCell ?_ (by first | (simp; omega) | omega) _) | (with_reducible refine Below.drew ?_) | (with_reducible refine below_drewN ?_ _) | (with_reducible refine bplus ?_ _) | (with_reducible exact Below.refl _ _) | (with_reducible assumption) | (with_reducible refine bto ?_ (by with_reducible assumption))))))
    go_ret
    refine ⟨ret_bool F.out.symm, bto HBW.out ?_⟩
    repeat (first | (with_reducible refine Below.setCell ?_ (by first | (simp; omega) | omega) _) | (with_reducible refine Below.drew ?_) | (with_reducible refine below_drewN ?_ _) | (with_reducible refine bplus ?_ _) | (with_reducible exact Below.refl _ _) | (with_reducible assumption) | (with_reducible refine bto ?_ (by with_reducible assumption)))
  · have F := hide (show lfM ⟨2, lt, nm, op, .mk ek en ed eu eks, wd, vl, an⟩ = (!no nm) by rw [M.out]; simp)
    go_enter Tryd.func51, Tryd.ntmps51
    go_upto_region 2 with fail
    rw [HW1.out]
    clear HW1
    go_wp2_with (first
      | (go_at_call 63; refine (CM1.out _ (by repeat (first | (with_reducible refine Below.setCell ?_ (by first | (simp; omega) | omega) _) | (with_reducible refine Below.drew ?_) | (with_reducible refine below_drewN ?_ _) | (with_reducible refine bplus ?_ _) | (with_reducible exact Below.refl _ _) | (with_reducible assumption) | (with_reducible refine bto ?_ (by with_reducible assumption))))).mono ?_; rintro _ wm ⟨rfl, hm⟩; have zz := (fun (i : Nat) => hm.cell (p := ⟨w.heap.size + 1, i, none⟩) (by simp; omega)); obtain ⟨u0, u1, u2, u3, u4, u5, u6, u7, u8, u9, ua, ub⟩ := KH.out wm (by repeat (first | (with_reducible refine Below.setCell ?_ (by first | (simp; omega) | omega) _) | (with_reducible refine Below.drew ?_) | (with_reducible refine below_drewN ?_ _) | (with_reducible refine bplus ?_ _) | (with_reducible exact Below.refl _ _) | (with_reducible assumption) | (with_reducible refine bto ?_ (by with_reducible assumption)))))
      | (go_at_call 23; refine (CS.out _ (by repeat (first | (with_reducible refine Below.setCell ?_ (by first | (simp; omega) | omega) _) | (with_reducible refine Below.drew ?_) | (with_reducible refine below_drewN ?_ _) | (with_reducible refine bplus ?_ _) | (with_reducible exact Below.refl _ _) | (with_reducible assumption) | (with_reducible refine bto ?_ (by with_reducible assumption))))).mono ?_; rintro _ wl ⟨rfl, hl⟩; obtain ⟨v0, v1, v2, v3, v4, v5, v6, v7, v8, v9, va, vb⟩ := KH.out wl (by repeat (first | (with_reducible refine Below.setCell ?_ (by first | (simp; omega) | omega) _) | (with_reducible refine Below.drew ?_) | (with_reducible refine below_drewN ?_ _) | (with_reducible refine bplus ?_ _) | (with_reducible exact Below.refl _ _) | (with_reducible assumption) | (with_reducible refine bto ?_ (by with_reducible assumption))))))
    go_ret
    refine ⟨ret_bool F.out.symm, bto HBW.out ?_⟩
    repeat (first | (with_reducible refine Below.setCell ?_ (by first | (simp; omega) | omega) _) | (with_reducible refine Below.drew ?_) | (with_reducible refine below_drewN ?_ _) | (with_reducible refine bplus ?_ _) | (with_reducible exact Below.refl _ _) | (with_reducible assumption) | (with_reducible refine bto ?_ (by with_reducible assumption)))
set_option maxRecDepth 100000 in
set_option maxHeartbeats 8000000 in
theorem mayR_3 (lt : Int) (nm : ByteArray) (op ek en ed eu : Int) (eks : List Ex) (wd vl : ByteArray) (an : Bool) (za : Option Addr) (zm zc : Nat) (w : World) (he : (Ex.mk ek en ed eu eks).Ok) (hz : EM w (.slice za zm zc) eks) : Calls Tryd.prog 51 #[lfV ⟨3, lt, nm, op, .mk ek en ed eu eks, wd, vl, an⟩ (.slice za zm zc)] w fun e w' => e = .returned (.bool (lfM ⟨3, lt, nm, op, .mk ek en ed eu eks, wd, vl, an⟩)) ∧ Below w.heap.size w w' := by
  have M := hide (mayL_3 lt nm op ek en ed eu eks wd vl an)
  obtain ⟨w1, hw1⟩ : ∃ w1, w.alloc (.cells #[.int .i64 3, .int .i64 lt, .string nm, .int .i64 op, .int .i64 ek, .int .i64 en, .int .i64 ed, .int .i64 eu, .slice za zm zc, .string wd, .string vl, .bool an] 37) = w1 := ⟨_, rfl⟩
  have S1 : w1.heap.size = w.heap.size + 1 := by rw [← hw1]; simp
  have B1 : Below w.heap.size w w1 := by rw [← hw1]; exact bplus (Below.refl _ _) _
  have P0 : w1.heap[w.heap.size]? = some (.cells #[.int .i64 3, .int .i64 lt, .string nm, .int .i64 op, .int .i64 ek, .int .i64 en, .int .i64 ed, .int .i64 eu, .slice za zm zc, .string wd, .string vl, .bool an] 37) := by rw [← hw1]; exact heap_alloc_new w _
  obtain ⟨W1, hW1⟩ : ∃ W1, w1.alloc (.cells #[.int .i64 3, .int .i64 0, .string ⟨#[]⟩, .int .i64 0, .int .i64 0, .int .i64 0, .int .i64 0, .int .i64 0, .slice none 0 0, .string ⟨#[]⟩, .string ⟨#[]⟩, .bool false] 37) = W1 := ⟨_, rfl⟩
  have HB1 : Below w1.heap.size w1 W1 := by rw [← hW1]; exact bplus (Below.refl _ _) _
  have P1 : Bk W1 (w.heap.size + 1) 37 [.int .i64 3, .int .i64 0, .string ⟨#[]⟩, .int .i64 0, .int .i64 0, .int .i64 0, .int .i64 0, .int .i64 0, .slice none 0 0, .string ⟨#[]⟩, .string ⟨#[]⟩, .bool false] := by rw [← hW1, ← S1]; exact heap_alloc_new w1 _
  have HW1 := hide (show (w.alloc (.cells #[.int .i64 3, .int .i64 lt, .string nm, .int .i64 op, .int .i64 ek, .int .i64 en, .int .i64 ed, .int .i64 eu, .slice za zm zc, .string wd, .string vl, .bool an] 37)).alloc (.cells #[.int .i64 3, .int .i64 0, .string ⟨#[]⟩, .int .i64 0, .int .i64 0, .int .i64 0, .int .i64 0, .int .i64 0, .slice none 0 0, .string ⟨#[]⟩, .string ⟨#[]⟩, .bool false] 37) = W1 by rw [hw1]; exact hW1)
  have KH := hide (fun (W : World) (h : Below w1.heap.size w1 W) => keep12 h P0)
  have SW1 : W1.heap.size = w.heap.size + 2 := by rw [← hW1]; simp; omega
  have CS := hide (fun (W : World) (h : Below w1.heap.size w1 W) => sameL_any ⟨3, lt, nm, op, .mk ek en ed eu eks, wd, vl, an⟩ ⟨3, 0, nm, 0, (.mk 0 0 0 0 []), ⟨#[]⟩, ⟨#[]⟩, false⟩ (.slice za zm zc) (.slice none 0 0) W (hz.low (bto B1 h)) (EM.nil none 0))
  have CM1 := hide (fun (W : World) (h : Below w1.heap.size w1 W) => calcMayR_any (.mk ek en ed eu eks) (.slice za zm zc) W he (hz.low (bto B1 h)))
  simp only [lfV, exV, Ex.k, Ex.n, Ex.d, Ex.u] at CS CM1 ⊢
  obtain ⟨p0, p1, p2, p3, p4, p5, p6, p7, p8, p9, pa, pb⟩ := keep12 HB1 P0
  obtain ⟨q0, q1, q2, q3, q4, q5, q6, q7, q8, q9, qa, qb⟩ := keep12 (Below.refl W1.heap.size W1) (show W1.heap[w.heap.size + 1]? = _ from P1)
  have fz := Bk.fz P1
  have HBW := hide B1
  clear hz he hw1 hW1 P0 P1 B1
  generalize hB : eqL ⟨3, lt, nm, op, .mk ek en ed eu eks, wd, vl, an⟩ ⟨3, 0, nm, 0, (.mk 0 0 0 0 []), ⟨#[]⟩, ⟨#[]⟩, false⟩ = EB at *
  clear hB
  cases EB
  · have F := hide (show lfM ⟨3, lt, nm, op, .mk ek en ed eu eks, wd, vl, an⟩ = false by rw [M.out]; simp)
    go_enter Tryd.func51, Tryd.ntmps51
    go_upto_region 2 with fail
    rw [HW1.out]
    clear HW1
    go_wp2_with (first
      | (go_at_call 63; refine (CM1.out _ (by repeat (first | (with_reducible refine Below.setCell ?_ (by first | (simp; omega) | omega) _) | (with_reducible refine Below.drew ?_) | (with_reducible refine below_drewN ?_ _) | (with_reducible refine bplus ?_ _) | (with_reducible exact Below.refl _ _) | (with_reducible assumption) | (with_reducible refine bto ?_ (by with_reducible assumption))))).mono ?_; rintro _ wm ⟨rfl, hm⟩; have zz := (fun (i : Nat) => hm.cell (p := ⟨w.heap.size + 1, i, none⟩) (by simp; omega)); obtain ⟨u0, u1, u2, u3, u4, u5, u6, u7, u8, u9, ua, ub⟩ := KH.out wm (by repeat (first | (with_reducible refine Below.setCell ?_ (by first | (simp; omega) | omega) _) | (with_reducible refine Below.drew ?_) | (with_reducible refine below_drewN ?_ _) | (with_reducible refine bplus ?_ _) | (with_reducible exact Below.refl _ _) | (with_reducible assumption) | (with_reducible refine bto ?_ (by with_reducible assumption)))))
      | (go_at_call 23; refine (CS.out _ (by repeat (first | (with_reducible refine Below.setCell ?_ (by first | (simp; omega) | omega) _) | (with_reducible refine Below.drew ?_) | (with_reducible refine below_drewN ?_ _) | (with_reducible refine bplus ?_ _) | (with_reducible exact Below.refl _ _) | (with_reducible assumption) | (with_reducible refine bto ?_ (by with_reducible assumption))))).mono ?_; rintro _ wl ⟨rfl, hl⟩; obtain ⟨v0, v1, v2, v3, v4, v5, v6, v7, v8, v9, va, vb⟩ := KH.out wl (by repeat (first | (with_reducible refine Below.setCell ?_ (by first | (simp; omega) | omega) _) | (with_reducible refine Below.drew ?_) | (with_reducible refine below_drewN ?_ _) | (with_reducible refine bplus ?_ _) | (with_reducible exact Below.refl _ _) | (with_reducible assumption) | (with_reducible refine bto ?_ (by with_reducible assumption))))))
    go_ret
    refine ⟨ret_bool F.out.symm, bto HBW.out ?_⟩
    repeat (first | (with_reducible refine Below.setCell ?_ (by first | (simp; omega) | omega) _) | (with_reducible refine Below.drew ?_) | (with_reducible refine below_drewN ?_ _) | (with_reducible refine bplus ?_ _) | (with_reducible exact Below.refl _ _) | (with_reducible assumption) | (with_reducible refine bto ?_ (by with_reducible assumption)))
  · have F := hide (show lfM ⟨3, lt, nm, op, .mk ek en ed eu eks, wd, vl, an⟩ = (!no nm) by rw [M.out]; simp)
    go_enter Tryd.func51, Tryd.ntmps51
    go_upto_region 2 with fail
    rw [HW1.out]
    clear HW1
    go_wp2_with (first
      | (go_at_call 63; refine (CM1.out _ (by repeat (first | (with_reducible refine Below.setCell ?_ (by first | (simp; omega) | omega) _) | (with_reducible refine Below.drew ?_) | (with_reducible refine below_drewN ?_ _) | (with_reducible refine bplus ?_ _) | (with_reducible exact Below.refl _ _) | (with_reducible assumption) | (with_reducible refine bto ?_ (by with_reducible assumption))))).mono ?_; rintro _ wm ⟨rfl, hm⟩; have zz := (fun (i : Nat) => hm.cell (p := ⟨w.heap.size + 1, i, none⟩) (by simp; omega)); obtain ⟨u0, u1, u2, u3, u4, u5, u6, u7, u8, u9, ua, ub⟩ := KH.out wm (by repeat (first | (with_reducible refine Below.setCell ?_ (by first | (simp; omega) | omega) _) | (with_reducible refine Below.drew ?_) | (with_reducible refine below_drewN ?_ _) | (with_reducible refine bplus ?_ _) | (with_reducible exact Below.refl _ _) | (with_reducible assumption) | (with_reducible refine bto ?_ (by with_reducible assumption)))))
      | (go_at_call 23; refine (CS.out _ (by repeat (first | (with_reducible refine Below.setCell ?_ (by first | (simp; omega) | omega) _) | (with_reducible refine Below.drew ?_) | (with_reducible refine below_drewN ?_ _) | (with_reducible refine bplus ?_ _) | (with_reducible exact Below.refl _ _) | (with_reducible assumption) | (with_reducible refine bto ?_ (by with_reducible assumption))))).mono ?_; rintro _ wl ⟨rfl, hl⟩; obtain ⟨v0, v1, v2, v3, v4, v5, v6, v7, v8, v9, va, vb⟩ := KH.out wl (by repeat (first | (with_reducible refine Below.setCell ?_ (by first | (simp; omega) | omega) _) | (with_reducible refine Below.drew ?_) | (with_reducible refine below_drewN ?_ _) | (with_reducible refine bplus ?_ _) | (with_reducible exact Below.refl _ _) | (with_reducible assumption) | (with_reducible refine bto ?_ (by with_reducible assumption))))))
    go_ret
    refine ⟨ret_bool F.out.symm, bto HBW.out ?_⟩
    repeat (first | (with_reducible refine Below.setCell ?_ (by first | (simp; omega) | omega) _) | (with_reducible refine Below.drew ?_) | (with_reducible refine below_drewN ?_ _) | (with_reducible refine bplus ?_ _) | (with_reducible exact Below.refl _ _) | (with_reducible assumption) | (with_reducible refine bto ?_ (by with_reducible assumption)))
end Go.Proofs.YtpcdhdllclenaaaDoor.cd
