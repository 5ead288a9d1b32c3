/-
  A number of a stylesheet taken apart, by the program: the walk.
  Plain: a decimal's digits, counted; exponents that are very great.
  A number of a stylesheet, by the program.
  A number of a stylesheet, by the program: the whole.
-/
import Derived.Test.YtcclhdiphcfdfaaGreatDoorKe
import Derived.Lib.ParseIntB
import Derived.Lib.SmallJoins
import Derived.Deep.RegionHeld3
set_option linter.unusedVariables false
set_option linter.unusedSimpArgs false
namespace Go.Proofs.YtcclhdiphcfdfaaGreatDoor
open Go.RowKit

theorem emp_of {s : ByteArray} {l : List Int} (h : bl s = l) (hl : l = []) : s.toList.isEmpty = true := emp_t (bl_size0.1 (h.trans hl))
theorem full_of {s : ByteArray} {l : List Int} (h : bl s = l) (hl : l ≠ []) : s.toList.isEmpty = false := emp_f (Nat.pos_of_ne_zero fun g => hl (h.symm.trans (bl_size0.2 g)))
theorem pos_of {s : ByteArray} {l : List Int} (h : bl s = l) (hl : l ≠ []) : 0 < s.size := Nat.pos_of_ne_zero fun g => hl (h.symm.trans (bl_size0.2 g))
theorem size_of {s : ByteArray} {l : List Int} (h : bl s = l) {n : Nat} (hl : l.length ≤ n) : s.size ≤ n := by rw [← bl_len, h]; exact hl
theorem dot_ne {l : List Int} (h : nx l 0 = 46) : l ≠ [] := by rintro rfl; simp [nx] at h
set_option maxRecDepth 100000 in
set_option maxHeartbeats 600000 in
theorem ta_A1 (s : ByteArray) (w : World) (hs : s.size ≤ 1099511627776) (hdot : nx (p1 (bl s)) 0 = 46) (hB : pB (bl s) = []) :
    Calls Tryz.prog 163 #[.string s] w fun e w' => PostTA s w e w' := by
  obtain ⟨l0, l1, l2, l3, l4⟩ := p_len (bl s)
  have C1 := hide fun W => cutSign_any s W (by omega)
  have L0 := hide (show (p0 (bl s)).length ≤ 140737488355328 by rw [bl_len] at l0; omega)
  have L1 := hide (show (p1 (bl s)).length ≤ 140737488355328 by rw [bl_len] at l1; omega)
  have L3 := hide l3
  have DOT := hide (show (nx (p1 (bl s)) 0 == 46) = true by simpa using hdot)
  have G := hide hB
  have X := hide (show dec (bl s) = none by rw [dec_dot hdot, if_pos hB])
  have ND := hide (dot_ne hdot)
  have LE := L1
  have G2 := ND
  clear hdot hB
  clear l0 l1 l2 l3 l4
  go_enter Tryz.func163, Tryz.ntmps163
  go_wp2_with (first
    | (go_at_call 188; refine (C1.out _).mono ?_; rintro e w1 ⟨b, rfl, hb, q1, rfl⟩; replace hb := hide hb; have hbs := hide (size_of hb.out L0.out))
    | (go_at_call_of 189 (Value.string b); refine (cutDigits_any b _ hbs.out).mono ?_; rintro e w2 ⟨d, r, rfl, hd, hr, q2, rfl⟩; rw [hb.out] at hd hr; replace hd := hide (show bl d = pA (bl s) from hd); replace hr := hide (show bl r = p1 (bl s) from hr); have hrs := hide (size_of hr.out L1.out); have hr1 : 1 ≤ r.size := pos_of hr.out ND.out)
    | (go_at_call 179; refine (sh_strings_HasPrefix _ _ _).mono ?_; rintro e w3 ⟨rfl, rfl⟩; rw [hasPre, hr.out, DOT.out])
    | (go_at_call 189; refine (cutDigits_any (r.extract 1 r.size) _ (by rw [ext_size]; have := hrs.out; omega)).mono ?_; rintro e w4 ⟨d2, r2, rfl, hd2, hr2, q3, rfl⟩; rw [bl_drop, hr.out] at hd2 hr2; replace hd2 := hide (show bl d2 = pB (bl s) from hd2); replace hr2 := hide (show bl r2 = p2 (bl s) from hr2); have n2 := emp_of hd2.out G.out)
    | (go_at_call 190; refine (readEx_any r _ (size_of hr.out LE.out) (pos_of hr.out G2.out)).mono ?_; rintro e w5 ⟨x, ok, rfl, hx, q4, rfl⟩; rw [hr.out] at hx; replace hx := hide hx))
  refine bodyPost_ret (v := .tuple #[numV false ⟨#[]⟩ ⟨#[]⟩ 0 false, .bool false]) (by simp [results, numV, Tryz.results163, go_sem]) rfl ?_
  exact .mk _ _ _ _ _ _ rfl (.inl ⟨rfl, X.out⟩) (by repeat (first | (with_reducible exact Below.refl _ _) | (with_reducible refine Below.setCell ?_ (by simp) _) | (with_reducible refine below_drewN ?_ _) | (with_reducible refine bplus ?_ _)))
set_option maxRecDepth 100000 in
set_option maxHeartbeats 600000 in
theorem ta_A2a_end (s : ByteArray) (w : World) (hs : s.size ≤ 1099511627776) (hdot : nx (p1 (bl s)) 0 = 46) (hB : pB (bl s) ≠ []) (hA : pA (bl s) = []) (hE : p2 (bl s) = []) :
    Calls Tryz.prog 163 #[.string s] w fun e w' => PostTA s w e w' := by
  obtain ⟨l0, l1, l2, l3, l4⟩ := p_len (bl s)
  have C1 := hide fun W => cutSign_any s W (by omega)
  have L0 := hide (show (p0 (bl s)).length ≤ 140737488355328 by rw [bl_len] at l0; omega)
  have L1 := hide (show (p1 (bl s)).length ≤ 140737488355328 by rw [bl_len] at l1; omega)
  have L3 := hide l3
  have DOT := hide (show (nx (p1 (bl s)) 0 == 46) = true by simpa using hdot)
  have GB := hide hB
  have GA := hide hA
  have GE := hide hE
  have X := hide (show dec (bl s) = some (valOf (sgn (bl s)).1 (pA (bl s) ++ pB (bl s)) (-((pB (bl s)).length : Nat)), false) by rw [dec_dot hdot, if_neg hB, hE]; exact decE_end (fun h => hB (List.append_eq_nil_iff.1 h).2))
  have ND := hide (dot_ne hdot)
  have LE := L1
  have G2 := ND
  clear hdot hB hA hE
  clear l0 l1 l2 l3 l4
  go_enter Tryz.func163, Tryz.ntmps163
  go_wp2_with (first
    | (go_at_call 188; refine (C1.out _).mono ?_; rintro e w1 ⟨b, rfl, hb, q1, rfl⟩; replace hb := hide hb; have hbs := hide (size_of hb.out L0.out))
    | (go_at_call_of 189 (Value.string b); refine (cutDigits_any b _ hbs.out).mono ?_; rintro e w2 ⟨d, r, rfl, hd, hr, q2, rfl⟩; rw [hb.out] at hd hr; replace hd := hide (show bl d = pA (bl s) from hd); replace hr := hide (show bl r = p1 (bl s) from hr); have hrs := hide (size_of hr.out L1.out); have hr1 : 1 ≤ r.size := pos_of hr.out ND.out; have n1 := emp_of hd.out GA.out)
    | (go_at_call 179; refine (sh_strings_HasPrefix _ _ _).mono ?_; rintro e w3 ⟨rfl, rfl⟩; rw [hasPre, hr.out, DOT.out])
    | (go_at_call 189; refine (cutDigits_any (r.extract 1 r.size) _ (by rw [ext_size]; have := hrs.out; omega)).mono ?_; rintro e w4 ⟨d2, r2, rfl, hd2, hr2, q3, rfl⟩; rw [bl_drop, hr.out] at hd2 hr2; replace hd2 := hide (show bl d2 = pB (bl s) from hd2); replace hr2 := hide (show bl r2 = p2 (bl s) from hr2); have n2 := full_of hd2.out GB.out; have n3 := emp_of hr2.out GE.out)
    | (go_at_call 190; refine (readEx_any r _ (size_of hr.out LE.out) (pos_of hr.out G2.out)).mono ?_; rintro e w5 ⟨x, ok, rfl, hx, q4, rfl⟩; rw [hr.out] at hx; replace hx := hide hx))
  refine bodyPost_ret (v := .tuple #[numV (sgn (bl s)).1 d d2 0 false, .bool true]) (by simp [results, numV, Tryz.results163, go_sem]) rfl ?_
  exact .mk _ _ _ _ _ _ rfl (ta_end (by rw [hd.out, hd2.out]; exact X.out) (by rw [hd.out, hd2.out, List.length_append]; exact L3.out) (by rw [hd.out, hd2.out]; exact digs_ab _)) (by repeat (first | (with_reducible exact Below.refl _ _) | (with_reducible refine Below.setCell ?_ (by simp) _) | (with_reducible refine below_drewN ?_ _) | (with_reducible refine bplus ?_ _)))
set_option maxRecDepth 100000 in
set_option maxHeartbeats 600000 in
theorem ta_A2a_exp (s : ByteArray) (w : World) (hs : s.size ≤ 1099511627776) (hdot : nx (p1 (bl s)) 0 = 46) (hB : pB (bl s) ≠ []) (hA : pA (bl s) = []) (hE : p2 (bl s) ≠ []) :
    Calls Tryz.prog 163 #[.string s] w fun e w' => PostTA s w e w' := by
  obtain ⟨l0, l1, l2, l3, l4⟩ := p_len (bl s)
  have C1 := hide fun W => cutSign_any s W (by omega)
  have L0 := hide (show (p0 (bl s)).length ≤ 140737488355328 by rw [bl_len] at l0; omega)
  have L1 := hide (show (p1 (bl s)).length ≤ 140737488355328 by rw [bl_len] at l1; omega)
  have L3 := hide l3
  have DOT := hide (show (nx (p1 (bl s)) 0 == 46) = true by simpa using hdot)
  have GB := hide hB
  have GA := hide hA
  have X := hide (show dec (bl s) = (expo (p2 (bl s))).map fun E => (valOf (sgn (bl s)).1 (pA (bl s) ++ pB (bl s)) (E - (pB (bl s)).length), false) by rw [dec_dot hdot, if_neg hB]; exact decE_exp (fun h => hB (List.append_eq_nil_iff.1 h).2) hE)
  have ND := hide (dot_ne hdot)
  have LE := hide (show (p2 (bl s)).length ≤ 1099511627776 by rw [bl_len] at l4; omega)
  have G2 := hide hE
  clear hdot hB hA hE
  clear l0 l1 l2 l3 l4
  go_enter Tryz.func163, Tryz.ntmps163
  go_wp2_with (first
    | (go_at_call 188; refine (C1.out _).mono ?_; rintro e w1 ⟨b, rfl, hb, q1, rfl⟩; replace hb := hide hb; have hbs := hide (size_of hb.out L0.out))
    | (go_at_call_of 189 (Value.string b); refine (cutDigits_any b _ hbs.out).mono ?_; rintro e w2 ⟨d, r, rfl, hd, hr, q2, rfl⟩; rw [hb.out] at hd hr; replace hd := hide (show bl d = pA (bl s) from hd); replace hr := hide (show bl r = p1 (bl s) from hr); have hrs := hide (size_of hr.out L1.out); have hr1 : 1 ≤ r.size := pos_of hr.out ND.out; have n1 := emp_of hd.out GA.out)
    | (go_at_call 179; refine (sh_strings_HasPrefix _ _ _).mono ?_; rintro e w3 ⟨rfl, rfl⟩; rw [hasPre, hr.out, DOT.out])
    | (go_at_call 189; refine (cutDigits_any (r.extract 1 r.size) _ (by rw [ext_size]; have := hrs.out; omega)).mono ?_; rintro e w4 ⟨d2, r2, rfl, hd2, hr2, q3, rfl⟩; rw [bl_drop, hr.out] at hd2 hr2; replace hd2 := hide (show bl d2 = pB (bl s) from hd2); replace hr2 := hide (show bl r2 = p2 (bl s) from hr2); have n2 := full_of hd2.out GB.out; have n3 := full_of hr2.out G2.out))
  refine (readEx_any r2 _ (size_of hr2.out LE.out) (pos_of hr2.out G2.out)).mono ?_
  rintro e w5 ⟨x, ok, rfl, hx, q4, hw5⟩
  rw [hr2.out] at hx
  replace hx := hide hx
  have B5 := hide (show Below w.heap.size w w5 by rw [hw5]; repeat (first | (with_reducible exact Below.refl _ _) | (with_reducible refine Below.setCell ?_ (by simp) _) | (with_reducible refine below_drewN ?_ _) | (with_reducible refine bplus ?_ _)))
  have c0 : w5.cell? ⟨w.heap.size + 1, 0, none⟩ = some (.bool (sgn (bl s)).1) := by rw [hw5]; simp [go_sem]
  have c1 : w5.cell? ⟨w.heap.size + 1, 1, none⟩ = some (.string d) := by rw [hw5]; simp [go_sem]
  have c2 : w5.cell? ⟨w.heap.size + 1, 2, none⟩ = some (.string d2) := by rw [hw5]; simp [go_sem]
  have c3 : w5.cell? ⟨w.heap.size + 1, 3, none⟩ = some (.int .i64 0) := by rw [hw5]; simp [go_sem]
  have c4 : w5.cell? ⟨w.heap.size + 1, 4, none⟩ = some (.bool false) := by rw [hw5]; simp [go_sem]; refine World.cell?_setCell_same _ _ _ (u := .bool false) ?_; simp [go_sem]
  have z5 : w.heap.size + 1 < w5.heap.size := World.block_lt_of_cell? _ _ c0
  have z4 : w.heap.size < w5.heap.size := by omega
  have m0 : w5.cell? ⟨w.heap.size, 0, none⟩ = some (.bool false) := by rw [hw5]; simp [go_sem]
  have f0 : w5.frozen? ⟨w.heap.size, 0, none⟩ = false := by rw [hw5]; simp [go_sem]
  have m1 : w5.cell? ⟨w.heap.size, 1, none⟩ = some (.string ⟨#[]⟩) := by rw [hw5]; simp [go_sem]
  have f1 : w5.frozen? ⟨w.heap.size, 1, none⟩ = false := by rw [hw5]; simp [go_sem]
  have m2 : w5.cell? ⟨w.heap.size, 2, none⟩ = some (.string ⟨#[]⟩) := by rw [hw5]; simp [go_sem]
  have f2 : w5.frozen? ⟨w.heap.size, 2, none⟩ = false := by rw [hw5]; simp [go_sem]
  have m3 : w5.cell? ⟨w.heap.size, 3, none⟩ = some (.int .i64 0) := by rw [hw5]; simp [go_sem]
  have f3 : w5.frozen? ⟨w.heap.size, 3, none⟩ = false := by rw [hw5]; simp [go_sem]
  have m4 : w5.cell? ⟨w.heap.size, 4, none⟩ = some (.bool false) := by rw [hw5]; simp [go_sem]
  have f4 : w5.frozen? ⟨w.heap.size, 4, none⟩ = false := by rw [hw5]; simp [go_sem]
  have g3 : w5.frozen? ⟨w.heap.size + 1, 3, none⟩ = false := by rw [hw5]; simp [go_sem]
  clear hw5
  go_wp2
  refine bodyPost_ret (v := .tuple #[numV (sgn (bl s)).1 d d2 x false, .bool ok]) (by simp [results, numV, Tryz.results163, go_sem, m0, m1, m2, m3, m4]) rfl ?_
  exact .mk _ _ _ _ _ _ rfl (ta_exp hx.out (by rw [hd.out, hd2.out]; exact X.out) (by rw [hd.out, hd2.out, List.length_append]; exact L3.out) (by rw [hd.out, hd2.out]; exact digs_ab _)) (by repeat (first | (with_reducible exact B5.out) | (with_reducible refine Below.setCell ?_ (by simp) _)))
set_option maxRecDepth 100000 in
set_option maxHeartbeats 600000 in
theorem ta_A2b_end (s : ByteArray) (w : World) (hs : s.size ≤ 1099511627776) (hdot : nx (p1 (bl s)) 0 = 46) (hB : pB (bl s) ≠ []) (hA : pA (bl s) ≠ []) (hE : p2 (bl s) = []) :
    Calls Tryz.prog 163 #[.string s] w fun e w' => PostTA s w e w' := by
  obtain ⟨l0, l1, l2, l3, l4⟩ := p_len (bl s)
  have C1 := hide fun W => cutSign_any s W (by omega)
  have L0 := hide (show (p0 (bl s)).length ≤ 140737488355328 by rw [bl_len] at l0; omega)
  have L1 := hide (show (p1 (bl s)).length ≤ 140737488355328 by rw [bl_len] at l1; omega)
  have L3 := hide l3
  have DOT := hide (show (nx (p1 (bl s)) 0 == 46) = true by simpa using hdot)
  have GB := hide hB
  have GA := hide hA
  have GE := hide hE
  have X := hide (show dec (bl s) = some (valOf (sgn (bl s)).1 (pA (bl s) ++ pB (bl s)) (-((pB (bl s)).length : Nat)), false) by rw [dec_dot hdot, if_neg hB, hE]; exact decE_end (fun h => hB (List.append_eq_nil_iff.1 h).2))
  have ND := hide (dot_ne hdot)
  have LE := L1
  have G2 := ND
  clear hdot hB hA hE
  clear l0 l1 l2 l3 l4
  go_enter Tryz.func163, Tryz.ntmps163
  go_wp2_with (first
    | (go_at_call 188; refine (C1.out _).mono ?_; rintro e w1 ⟨b, rfl, hb, q1, rfl⟩; replace hb := hide hb; have hbs := hide (size_of hb.out L0.out))
    | (go_at_call_of 189 (Value.string b); refine (cutDigits_any b _ hbs.out).mono ?_; rintro e w2 ⟨d, r, rfl, hd, hr, q2, rfl⟩; rw [hb.out] at hd hr; replace hd := hide (show bl d = pA (bl s) from hd); replace hr := hide (show bl r = p1 (bl s) from hr); have hrs := hide (size_of hr.out L1.out); have hr1 : 1 ≤ r.size := pos_of hr.out ND.out; have n1 := full_of hd.out GA.out)
    | (go_at_call 179; refine (sh_strings_HasPrefix _ _ _).mono ?_; rintro e w3 ⟨rfl, rfl⟩; rw [hasPre, hr.out, DOT.out])
    | (go_at_call 189; refine (cutDigits_any (r.extract 1 r.size) _ (by rw [ext_size]; have := hrs.out; omega)).mono ?_; rintro e w4 ⟨d2, r2, rfl, hd2, hr2, q3, rfl⟩; rw [bl_drop, hr.out] at hd2 hr2; replace hd2 := hide (show bl d2 = pB (bl s) from hd2); replace hr2 := hide (show bl r2 = p2 (bl s) from hr2); have n2 := full_of hd2.out GB.out; have n3 := emp_of hr2.out GE.out)
    | (go_at_call 190; refine (readEx_any r _ (size_of hr.out LE.out) (pos_of hr.out G2.out)).mono ?_; rintro e w5 ⟨x, ok, rfl, hx, q4, rfl⟩; rw [hr.out] at hx; replace hx := hide hx))
  refine bodyPost_ret (v := .tuple #[numV (sgn (bl s)).1 d d2 0 false, .bool true]) (by simp [results, numV, Tryz.results163, go_sem]) rfl ?_
  exact .mk _ _ _ _ _ _ rfl (ta_end (by rw [hd.out, hd2.out]; exact X.out) (by rw [hd.out, hd2.out, List.length_append]; exact L3.out) (by rw [hd.out, hd2.out]; exact digs_ab _)) (by repeat (first | (with_reducible exact Below.refl _ _) | (with_reducible refine Below.setCell ?_ (by simp) _) | (with_reducible refine below_drewN ?_ _) | (with_reducible refine bplus ?_ _)))
set_option maxRecDepth 100000 in
set_option maxHeartbeats 600000 in
theorem ta_A2b_exp (s : ByteArray) (w : World) (hs : s.size ≤ 1099511627776) (hdot : nx (p1 (bl s)) 0 = 46) (hB : pB (bl s) ≠ []) (hA : pA (bl s) ≠ []) (hE : p2 (bl s) ≠ []) :
    Calls Tryz.prog 163 #[.string s] w fun e w' => PostTA s w e w' := by
  obtain ⟨l0, l1, l2, l3, l4⟩ := p_len (bl s)
  have C1 := hide fun W => cutSign_any s W (by omega)
  have L0 := hide (show (p0 (bl s)).length ≤ 140737488355328 by rw [bl_len] at l0; omega)
  have L1 := hide (show (p1 (bl s)).length ≤ 140737488355328 by rw [bl_len] at l1; omega)
  have L3 := hide l3
  have DOT := hide (show (nx (p1 (bl s)) 0 == 46) = true by simpa using hdot)
  have GB := hide hB
  have GA := hide hA
  have X := hide (show dec (bl s) = (expo (p2 (bl s))).map fun E => (valOf (sgn (bl s)).1 (pA (bl s) ++ pB (bl s)) (E - (pB (bl s)).length), false) by rw [dec_dot hdot, if_neg hB]; exact decE_exp (fun h => hB (List.append_eq_nil_iff.1 h).2) hE)
  have ND := hide (dot_ne hdot)
  have LE := hide (show (p2 (bl s)).length ≤ 1099511627776 by rw [bl_len] at l4; omega)
  have G2 := hide hE
  clear hdot hB hA hE
  clear l0 l1 l2 l3 l4
  go_enter Tryz.func163, Tryz.ntmps163
  go_wp2_with (first
    | (go_at_call 188; refine (C1.out _).mono ?_; rintro e w1 ⟨b, rfl, hb, q1, rfl⟩; replace hb := hide hb; have hbs := hide (size_of hb.out L0.out))
    | (go_at_call_of 189 (Value.string b); refine (cutDigits_any b _ hbs.out).mono ?_; rintro e w2 ⟨d, r, rfl, hd, hr, q2, rfl⟩; rw [hb.out] at hd hr; replace hd := hide (show bl d = pA (bl s) from hd); replace hr := hide (show bl r = p1 (bl s) from hr); have hrs := hide (size_of hr.out L1.out); have hr1 : 1 ≤ r.size := pos_of hr.out ND.out; have n1 := full_of hd.out GA.out)
    | (go_at_call 179; refine (sh_strings_HasPrefix _ _ _).mono ?_; rintro e w3 ⟨rfl, rfl⟩; rw [hasPre, hr.out, DOT.out])
    | (go_at_call 189; refine (cutDigits_any (r.extract 1 r.size) _ (by rw [ext_size]; have := hrs.out; omega)).mono ?_; rintro e w4 ⟨d2, r2, rfl, hd2, hr2, q3, rfl⟩; rw [bl_drop, hr.out] at hd2 hr2; replace hd2 := hide (show bl d2 = pB (bl s) from hd2); replace hr2 := hide (show bl r2 = p2 (bl s) from hr2); have n2 := full_of hd2.out GB.out; have n3 := full_of hr2.out G2.out))
  refine (readEx_any r2 _ (size_of hr2.out LE.out) (pos_of hr2.out G2.out)).mono ?_
  rintro e w5 ⟨x, ok, rfl, hx, q4, hw5⟩
  rw [hr2.out] at hx
  replace hx := hide hx
  have B5 := hide (show Below w.heap.size w w5 by rw [hw5]; repeat (first | (with_reducible exact Below.refl _ _) | (with_reducible refine Below.setCell ?_ (by simp) _) | (with_reducible refine below_drewN ?_ _) | (with_reducible refine bplus ?_ _)))
  have c0 : w5.cell? ⟨w.heap.size + 1, 0, none⟩ = some (.bool (sgn (bl s)).1) := by rw [hw5]; simp [go_sem]
  have c1 : w5.cell? ⟨w.heap.size + 1, 1, none⟩ = some (.string d) := by rw [hw5]; simp [go_sem]
  have c2 : w5.cell? ⟨w.heap.size + 1, 2, none⟩ = some (.string d2) := by rw [hw5]; simp [go_sem]
  have c3 : w5.cell? ⟨w.heap.size + 1, 3, none⟩ = some (.int .i64 0) := by rw [hw5]; simp [go_sem]
  have c4 : w5.cell? ⟨w.heap.size + 1, 4, none⟩ = some (.bool false) := by rw [hw5]; simp [go_sem]; refine World.cell?_setCell_same _ _ _ (u := .bool false) ?_; simp [go_sem]
  have z5 : w.heap.size + 1 < w5.heap.size := World.block_lt_of_cell? _ _ c0
  have z4 : w.heap.size < w5.heap.size := by omega
  have m0 : w5.cell? ⟨w.heap.size, 0, none⟩ = some (.bool false) := by rw [hw5]; simp [go_sem]
  have f0 : w5.frozen? ⟨w.heap.size, 0, none⟩ = false := by rw [hw5]; simp [go_sem]
  have m1 : w5.cell? ⟨w.heap.size, 1, none⟩ = some (.string ⟨#[]⟩) := by rw [hw5]; simp [go_sem]
  have f1 : w5.frozen? ⟨w.heap.size, 1, none⟩ = false := by rw [hw5]; simp [go_sem]
  have m2 : w5.cell? ⟨w.heap.size, 2, none⟩ = some (.string ⟨#[]⟩) := by rw [hw5]; simp [go_sem]
  have f2 : w5.frozen? ⟨w.heap.size, 2, none⟩ = false := by rw [hw5]; simp [go_sem]
  have m3 : w5.cell? ⟨w.heap.size, 3, none⟩ = some (.int .i64 0) := by rw [hw5]; simp [go_sem]
  have f3 : w5.frozen? ⟨w.heap.size, 3, none⟩ = false := by rw [hw5]; simp [go_sem]
  have m4 : w5.cell? ⟨w.heap.size, 4, none⟩ = some (.bool false) := by rw [hw5]; simp [go_sem]
  have f4 : w5.frozen? ⟨w.heap.size, 4, none⟩ = false := by rw [hw5]; simp [go_sem]
  have g3 : w5.frozen? ⟨w.heap.size + 1, 3, none⟩ = false := by rw [hw5]; simp [go_sem]
  clear hw5
  go_wp2
  refine bodyPost_ret (v := .tuple #[numV (sgn (bl s)).1 d d2 x false, .bool ok]) (by simp [results, numV, Tryz.results163, go_sem, m0, m1, m2, m3, m4]) rfl ?_
  exact .mk _ _ _ _ _ _ rfl (ta_exp hx.out (by rw [hd.out, hd2.out]; exact X.out) (by rw [hd.out, hd2.out, List.length_append]; exact L3.out) (by rw [hd.out, hd2.out]; exact digs_ab _)) (by repeat (first | (with_reducible exact B5.out) | (with_reducible refine Below.setCell ?_ (by simp) _)))
set_option maxRecDepth 100000 in
set_option maxHeartbeats 600000 in
theorem ta_B1 (s : ByteArray) (w : World) (hs : s.size ≤ 1099511627776) (hdot : nx (p1 (bl s)) 0 ≠ 46) (hA : pA (bl s) = []) :
    Calls Tryz.prog 163 #[.string s] w fun e w' => PostTA s w e w' := by
  obtain ⟨l0, l1, l2, l3, l4⟩ := p_len (bl s)
  have C1 := hide fun W => cutSign_any s W (by omega)
  have L0 := hide (show (p0 (bl s)).length ≤ 140737488355328 by rw [bl_len] at l0; omega)
  have L1 := hide (show (p1 (bl s)).length ≤ 140737488355328 by rw [bl_len] at l1; omega)
  have L3 := hide l3
  have DOT := hide (show (nx (p1 (bl s)) 0 == 46) = false by simpa using hdot)
  have GA := hide hA
  have X := hide (show dec (bl s) = none by rw [dec_nodot hdot, hA]; exact decE_none)
  have G2 := L1
  have LE := L1
  clear hdot hA
  clear l0 l1 l2 l3 l4
  go_enter Tryz.func163, Tryz.ntmps163
  go_wp2_with (first
    | (go_at_call 188; refine (C1.out _).mono ?_; rintro e w1 ⟨b, rfl, hb, q1, rfl⟩; replace hb := hide hb; have hbs := hide (size_of hb.out L0.out))
    | (go_at_call_of 189 (Value.string b); refine (cutDigits_any b _ hbs.out).mono ?_; rintro e w2 ⟨d, r, rfl, hd, hr, q2, rfl⟩; rw [hb.out] at hd hr; replace hd := hide (show bl d = pA (bl s) from hd); replace hr := hide (show bl r = p1 (bl s) from hr); have hrs := hide (size_of hr.out L1.out); have n1 := emp_of hd.out GA.out)
    | (go_at_call 179; refine (sh_strings_HasPrefix _ _ _).mono ?_; rintro e w3 ⟨rfl, rfl⟩; rw [hasPre, hr.out, DOT.out])
    | (go_at_call 189; refine (cutDigits_any (r.extract 1 r.size) _ (by rw [ext_size]; have := hrs.out; omega)).mono ?_; rintro e w4 ⟨d2, r2, rfl, hd2, hr2, q3, rfl⟩; rw [bl_drop, hr.out] at hd2 hr2; replace hd2 := hide (show bl d2 = pB (bl s) from hd2); replace hr2 := hide (show bl r2 = p2 (bl s) from hr2); skip)
    | (go_at_call 190; refine (readEx_any r _ (size_of hr.out LE.out) (pos_of hr.out G2.out)).mono ?_; rintro e w5 ⟨x, ok, rfl, hx, q4, rfl⟩; rw [hr.out] at hx; replace hx := hide hx))
  refine bodyPost_ret (v := .tuple #[numV false ⟨#[]⟩ ⟨#[]⟩ 0 false, .bool false]) (by simp [results, numV, Tryz.results163, go_sem]) rfl ?_
  exact .mk _ _ _ _ _ _ rfl (.inl ⟨rfl, X.out⟩) (by repeat (first | (with_reducible exact Below.refl _ _) | (with_reducible refine Below.setCell ?_ (by simp) _) | (with_reducible refine below_drewN ?_ _) | (with_reducible refine bplus ?_ _)))
set_option maxRecDepth 100000 in
set_option maxHeartbeats 600000 in
theorem ta_B2_end (s : ByteArray) (w : World) (hs : s.size ≤ 1099511627776) (hdot : nx (p1 (bl s)) 0 ≠ 46) (hA : pA (bl s) ≠ []) (hE : p1 (bl s) = []) :
    Calls Tryz.prog 163 #[.string s] w fun e w' => PostTA s w e w' := by
  obtain ⟨l0, l1, l2, l3, l4⟩ := p_len (bl s)
  have C1 := hide fun W => cutSign_any s W (by omega)
  have L0 := hide (show (p0 (bl s)).length ≤ 140737488355328 by rw [bl_len] at l0; omega)
  have L1 := hide (show (p1 (bl s)).length ≤ 140737488355328 by rw [bl_len] at l1; omega)
  have L3 := hide l3
  have DOT := hide (show (nx (p1 (bl s)) 0 == 46) = false by simpa using hdot)
  have GA := hide hA
  have GE := hide hE
  have X := hide (show dec (bl s) = some (valOf (sgn (bl s)).1 (pA (bl s)) (-((0 : Nat) : Int)), true) by rw [dec_nodot hdot, hE]; exact decE_end hA)
  have LA := hide (show (pA (bl s)).length ≤ (bl s).length by omega)
  have G2 := L1
  have LE := L1
  clear hdot hA hE
  clear l0 l1 l2 l3 l4
  go_enter Tryz.func163, Tryz.ntmps163
  go_wp2_with (first
    | (go_at_call 188; refine (C1.out _).mono ?_; rintro e w1 ⟨b, rfl, hb, q1, rfl⟩; replace hb := hide hb; have hbs := hide (size_of hb.out L0.out))
    | (go_at_call_of 189 (Value.string b); refine (cutDigits_any b _ hbs.out).mono ?_; rintro e w2 ⟨d, r, rfl, hd, hr, q2, rfl⟩; rw [hb.out] at hd hr; replace hd := hide (show bl d = pA (bl s) from hd); replace hr := hide (show bl r = p1 (bl s) from hr); have hrs := hide (size_of hr.out L1.out); have n1 := full_of hd.out GA.out; have n3 := emp_of hr.out GE.out)
    | (go_at_call 179; refine (sh_strings_HasPrefix _ _ _).mono ?_; rintro e w3 ⟨rfl, rfl⟩; rw [hasPre, hr.out, DOT.out])
    | (go_at_call 189; refine (cutDigits_any (r.extract 1 r.size) _ (by rw [ext_size]; have := hrs.out; omega)).mono ?_; rintro e w4 ⟨d2, r2, rfl, hd2, hr2, q3, rfl⟩; rw [bl_drop, hr.out] at hd2 hr2; replace hd2 := hide (show bl d2 = pB (bl s) from hd2); replace hr2 := hide (show bl r2 = p2 (bl s) from hr2); skip)
    | (go_at_call 190; refine (readEx_any r _ (size_of hr.out LE.out) (pos_of hr.out G2.out)).mono ?_; rintro e w5 ⟨x, ok, rfl, hx, q4, rfl⟩; rw [hr.out] at hx; replace hx := hide hx))
  refine bodyPost_ret (v := .tuple #[numV (sgn (bl s)).1 d ⟨#[]⟩ 0 true, .bool true]) (by simp [results, numV, Tryz.results163, go_sem]) rfl ?_
  exact .mk _ _ _ _ _ _ rfl (ta_end (by rw [hd.out, show bl (⟨#[]⟩ : ByteArray) = [] from rfl, List.append_nil]; exact X.out) (by rw [hd.out, show bl (⟨#[]⟩ : ByteArray) = [] from rfl, List.append_nil]; exact LA.out) (by rw [hd.out, show bl (⟨#[]⟩ : ByteArray) = [] from rfl, List.append_nil]; exact tkd_digs _)) (by repeat (first | (with_reducible exact Below.refl _ _) | (with_reducible refine Below.setCell ?_ (by simp) _) | (with_reducible refine below_drewN ?_ _) | (with_reducible refine bplus ?_ _)))
set_option maxRecDepth 100000 in
set_option maxHeartbeats 600000 in
theorem ta_B2_exp (s : ByteArray) (w : World) (hs : s.size ≤ 1099511627776) (hdot : nx (p1 (bl s)) 0 ≠ 46) (hA : pA (bl s) ≠ []) (hE : p1 (bl s) ≠ []) :
    Calls Tryz.prog 163 #[.string s] w fun e w' => PostTA s w e w' := by
  obtain ⟨l0, l1, l2, l3, l4⟩ := p_len (bl s)
  have C1 := hide fun W => cutSign_any s W (by omega)
  have L0 := hide (show (p0 (bl s)).length ≤ 140737488355328 by rw [bl_len] at l0; omega)
  have L1 := hide (show (p1 (bl s)).length ≤ 140737488355328 by rw [bl_len] at l1; omega)
  have L3 := hide l3
  have DOT := hide (show (nx (p1 (bl s)) 0 == 46) = false by simpa using hdot)
  have GA := hide hA
  have X := hide (show dec (bl s) = (expo (p1 (bl s))).map fun E => (valOf (sgn (bl s)).1 (pA (bl s)) (E - (0 : Nat)), false) by rw [dec_nodot hdot]; exact decE_exp hA hE)
  have LA := hide (show (pA (bl s)).length ≤ (bl s).length by omega)
  have LE := hide (show (p1 (bl s)).length ≤ 1099511627776 by rw [bl_len] at l1; omega)
  have G2 := hide hE
  clear hdot hA hE
  clear l0 l1 l2 l3 l4
  go_enter Tryz.func163, Tryz.ntmps163
  go_wp2_with (first
    | (go_at_call 188; refine (C1.out _).mono ?_; rintro e w1 ⟨b, rfl, hb, q1, rfl⟩; replace hb := hide hb; have hbs := hide (size_of hb.out L0.out))
    | (go_at_call_of 189 (Value.string b); refine (cutDigits_any b _ hbs.out).mono ?_; rintro e w2 ⟨d, r, rfl, hd, hr, q2, rfl⟩; rw [hb.out] at hd hr; replace hd := hide (show bl d = pA (bl s) from hd); replace hr := hide (show bl r = p1 (bl s) from hr); have hrs := hide (size_of hr.out L1.out); have n1 := full_of hd.out GA.out; have n3 := full_of hr.out G2.out)
    | (go_at_call 179; refine (sh_strings_HasPrefix _ _ _).mono ?_; rintro e w3 ⟨rfl, rfl⟩; rw [hasPre, hr.out, DOT.out])
    | (go_at_call 189; refine (cutDigits_any (r.extract 1 r.size) _ (by rw [ext_size]; have := hrs.out; omega)).mono ?_; rintro e w4 ⟨d2, r2, rfl, hd2, hr2, q3, rfl⟩; rw [bl_drop, hr.out] at hd2 hr2; replace hd2 := hide (show bl d2 = pB (bl s) from hd2); replace hr2 := hide (show bl r2 = p2 (bl s) from hr2); skip)
    | (go_at_call 190; refine (readEx_any r _ (size_of hr.out LE.out) (pos_of hr.out G2.out)).mono ?_; rintro e w5 ⟨x, ok, rfl, hx, q4, rfl⟩; rw [hr.out] at hx; replace hx := hide hx))
  refine bodyPost_ret (v := .tuple #[numV (sgn (bl s)).1 d ⟨#[]⟩ x false, .bool ok]) (by simp [results, numV, Tryz.results163, go_sem]) rfl ?_
  exact .mk _ _ _ _ _ _ rfl (ta_exp hx.out (by rw [hd.out, show bl (⟨#[]⟩ : ByteArray) = [] from rfl, List.append_nil]; exact X.out) (by rw [hd.out, show bl (⟨#[]⟩ : ByteArray) = [] from rfl, List.append_nil]; exact LA.out) (by rw [hd.out, show bl (⟨#[]⟩ : ByteArray) = [] from rfl, List.append_nil]; exact tkd_digs _)) (by repeat (first | (with_reducible exact Below.refl _ _) | (with_reducible refine Below.setCell ?_ (by simp) _) | (with_reducible refine below_drewN ?_ _) | (with_reducible refine bplus ?_ _)))
theorem takeApart_any (s : ByteArray) (w : World) (hs : s.size ≤ 1099511627776) :
    Calls Tryz.prog 163 #[.string s] w fun e w' => PostTA s w e w' := by
  by_cases hdot : nx (p1 (bl s)) 0 = 46
  · by_cases hB : pB (bl s) = []
    · exact ta_A1 s w hs hdot hB
    · by_cases hA : pA (bl s) = []
      · by_cases hE : p2 (bl s) = []
        · exact ta_A2a_end s w hs hdot hB hA hE
        · exact ta_A2a_exp s w hs hdot hB hA hE
      · by_cases hE : p2 (bl s) = []
        · exact ta_A2b_end s w hs hdot hB hA hE
        · exact ta_A2b_exp s w hs hdot hB hA hE
  · by_cases hA : pA (bl s) = []
    · exact ta_B1 s w hs hdot hA
    · by_cases hE : p1 (bl s) = []
      · exact ta_B2_end s w hs hdot hA hE
      · exact ta_B2_exp s w hs hdot hA hE
end Go.Proofs.YtcclhdiphcfdfaaGreatDoor
set_option linter.unusedVariables false
set_option linter.unusedSimpArgs false
namespace Go.Proofs.YtcclhdiphcfdfaaGreatDoor
open Go.RowKit

def natF (a : Nat) (l : List Int) : Nat := l.foldl (fun n c => n * 10 + (c - 48).toNat) a
theorem natOf_F (l : List Int) : natOf l = natF 0 l := rfl
theorem natF_ge (l : List Int) : ∀ a, a ≤ natF a l := by
  induction l with
  | nil => intro a; exact Nat.le_refl _
  | cons c l ih =>
    intro a
    have := ih (a * 10 + (c - 48).toNat)
    show a ≤ natF (a * 10 + (c - 48).toNat) l
    omega
def bi (l : List UInt8) : List Int := l.map fun b => (b.toNat : Int)
theorem parse_ok (l : List UInt8) : ∀ a : Nat, Digs (bi l) → l.length ≤ 18 → a < 10 ^ (18 - l.length) → Lib.parseUintM (2 ^ 64 - 1) a l = .ok (natF a (bi l)) := by
  induction l with
  | nil => intro a _ _ _; rfl
  | cons c l ih =>
    intro a hd hl ha
    have hc : isDig (c.toNat : Int) = true := hd _ (by simp [bi])
    simp [isDig] at hc
    have hc' : 48 ≤ c.toNat ∧ c.toNat ≤ 57 := by omega
    simp only [List.length_cons] at hl ha
    have e1 : 10 ^ (18 - l.length) = 10 ^ (18 - (l.length + 1)) * 10 := by rw [← Nat.pow_succ]; congr 1; omega
    have e2 : 10 ^ (18 - (l.length + 1)) ≤ 10 ^ 17 := Nat.pow_le_pow_right (by omega) (by omega)
    have e3 : (10 : Nat) ^ 17 = 100000000000000000 := by decide
    have e4 : (2 : Nat) ^ 64 - 1 = 18446744073709551615 := by decide
    simp only [Lib.parseUintM]
    rw [if_pos hc', if_neg (by omega), if_neg (by omega)]
    rw [ih (a * 10 + (c.toNat - 48)) (fun x hx => hd x (by simp [bi] at hx ⊢; right; exact hx)) (by omega) (by omega)]
    show _ = Lib.NumEnd.ok (natF (a * 10 + ((c.toNat : Int) - 48).toNat) (bi l))
    rw [show ((c.toNat : Int) - 48).toNat = c.toNat - 48 by omega]
theorem parse_str (s : ByteArray) (h1 : bl s ≠ []) (h2 : (bl s).length ≤ 18) (h3 : Digs (bl s)) : Lib.parseUintB 64 s.data.toList = .ok (natOf (bl s)) := by
  unfold Lib.parseUintB
  have hn : s.data.toList ≠ [] := fun e => h1 (by unfold bl; rw [e]; rfl)
  have hl : s.data.toList.length ≤ 18 := by simpa [bl] using h2
  rw [if_neg hn]
  exact parse_ok s.data.toList 0 h3 hl (Nat.pow_pos (by omega))
theorem natF_lt (l : List Int) : ∀ a : Nat, Digs l → natF a l < (a + 1) * 10 ^ l.length := by
  induction l with
  | nil => intro a _; show a < (a + 1) * 1; omega
  | cons c l ih =>
    intro a hd
    have hc : isDig c = true := hd _ (by simp)
    simp [isDig] at hc
    have := ih (a * 10 + (c - 48).toNat) (fun x hx => hd x (by simp [hx]))
    show natF (a * 10 + (c - 48).toNat) l < _
    have e : (a + 1) * 10 ^ (c :: l).length = ((a + 1) * 10) * 10 ^ l.length := by rw [List.length_cons, Nat.pow_succ, Nat.mul_comm (10 ^ l.length), Nat.mul_assoc]
    rw [e]
    have h2 : (a * 10 + (c - 48).toNat + 1) * 10 ^ l.length ≤ ((a + 1) * 10) * 10 ^ l.length := Nat.mul_le_mul_right _ (by omega)
    omega
theorem natOf_lt {l : List Int} (h : Digs l) (hl : l.length ≤ 18) : natOf l < 1000000000000000000 := by
  have h1 := natF_lt l 0 h
  have h2 : 10 ^ l.length ≤ 10 ^ 18 := Nat.pow_le_pow_right (by omega) hl
  have e : (10 : Nat) ^ 18 = 1000000000000000000 := by decide
  rw [natOf_F]
  omega
theorem cutR_pre (l : List Int) : ∃ t, l = cutR l ++ t := by
  obtain ⟨t, ht⟩ := List.dropWhile_suffix (fun x : Int => x == 48) (l := l.reverse)
  refine ⟨t.reverse, ?_⟩
  unfold cutR
  rw [← List.reverse_append, ht, List.reverse_reverse]
theorem cut0_head {l : List Int} {c : Int} {r : List Int} (h : cut0 l = c :: r) : c ≠ 48 := by
  intro e
  have := List.head?_dropWhile_not (fun x : Int => x == 48) l
  rw [show l.dropWhile (fun x => x == 48) = c :: r from h] at this
  simp [e] at this
theorem cut0_suf (l : List Int) : ∃ t, l = t ++ cut0 l := by
  obtain ⟨t, ht⟩ := List.dropWhile_suffix (fun x : Int => x == 48) (l := l)
  exact ⟨t, ht.symm⟩
theorem Digs.cut {l : List Int} (h : Digs l) : Digs (cut0 l) ∧ Digs (cutR (cut0 l)) := by
  have h1 : Digs (cut0 l) := by
    obtain ⟨t, ht⟩ := cut0_suf l
    intro x hx; exact h x (by rw [ht]; simp [hx])
  refine ⟨h1, ?_⟩
  obtain ⟨t, ht⟩ := cutR_pre (cut0 l)
  intro x hx; exact h1 x (by rw [ht]; simp [hx])
theorem cut_len (l : List Int) : (cutR (cut0 l)).length ≤ (cut0 l).length ∧ (cut0 l).length ≤ l.length := by
  obtain ⟨t, ht⟩ := cutR_pre (cut0 l)
  obtain ⟨u, hu⟩ := cut0_suf l
  have h1 := congrArg List.length ht
  have h2 := congrArg List.length hu
  rw [List.length_append] at h1 h2
  omega
theorem cnt_pos {l : List Int} (h : Digs l) (hn : cutR (cut0 l) ≠ []) : 1 ≤ natOf (cutR (cut0 l)) := by
  obtain ⟨t, ht⟩ := cutR_pre (cut0 l)
  have hd := h.cut.2
  cases hc : cutR (cut0 l) with
  | nil => exact absurd hc hn
  | cons c r =>
    rw [hc] at ht hd
    have h48 := cut0_head ht
    have hc : isDig c = true := hd c (by simp)
    simp [isDig] at hc
    rw [natOf_F]
    have := natF_ge r (0 * 10 + (c - 48).toNat)
    show 1 ≤ natF (0 * 10 + (c - 48).toNat) r
    omega
/-! ### Very great exponents -/
theorem fracUp_over {n q : Nat} (hn : 1 ≤ n) (hq : 64 ≤ q) : fracUp n q = (0, 0) := by
  unfold fracUp
  have h1 : 10 ^ 64 ≤ 10 ^ q := Nat.pow_le_pow_right (by omega) hq
  have h2 : 1 * 10 ^ q ≤ n * 10 ^ q := Nat.mul_le_mul_right _ hn
  have h3 : (9223372036854775807 : Nat) < 10 ^ 64 := by decide
  rw [if_neg (by omega)]
theorem strip_pow (p : Nat) (hp : 2 ≤ p) (q : Nat) : ∀ n, 1 ≤ n → p ^ (q - (strip p n q).2) ≤ n := by
  induction q with
  | zero => intro n h; simpa [strip] using h
  | succ q ih =>
    intro n h
    simp only [strip]
    split
    · rename_i g
      have hpn : p ≤ n := Nat.le_of_dvd (by omega) (Nat.dvd_of_mod_eq_zero g)
      have h1 := ih (n / p) (Nat.div_pos hpn (by omega))
      have h2 := (strip_le p q (n / p)).2
      rw [show q + 1 - (strip p (n / p) q).2 = (q - (strip p (n / p) q).2) + 1 by omega, Nat.pow_succ]
      have h3 : n / p * p ≤ n := Nat.div_mul_le_self n p
      exact Nat.le_trans (Nat.mul_le_mul_right p h1) h3
    · simpa using h
theorem fracDn_over {n q : Nat} (hn : 1 ≤ n) (hn2 : n < 1000000000000000000) (hq : 200 ≤ q) : fracDn n q = (0, 0) := by
  unfold fracDn
  have h1 := strip_pow 2 (by omega) q n hn
  have h2 := (strip_le 2 q n).2
  have h3 : 100 ≤ (strip 2 n q).2 := by
    refine Nat.le_of_not_lt fun h => ?_
    have : 2 ^ 100 ≤ 2 ^ (q - (strip 2 n q).2) := Nat.pow_le_pow_right (by omega) (by omega)
    have : (1000000000000000000 : Nat) < 2 ^ 100 := by decide
    omega
  have h4 : 2 ^ 100 ≤ 2 ^ (strip 2 n q).2 := Nat.pow_le_pow_right (by omega) h3
  have h5 : (9223372036854775807 : Nat) < 2 ^ 100 := by decide
  have h6 : 2 ^ (strip 2 n q).2 * 1 ≤ 2 ^ (strip 2 n q).2 * 5 ^ (strip 5 (strip 2 n q).1 q).2 := Nat.mul_le_mul_left _ (Nat.pow_pos (by omega))
  rw [if_neg (by omega)]
theorem fr_near {n : Nat} {e E : Int} {a : Int} (hn : 1 ≤ n) (hn2 : n < 1000000000000000000) (h : Near e E) (ha : -1000000000000 ≤ a ∧ a ≤ 1000000000000) : fr n (e + a) = fr n (E + a) := by
  rcases h with rfl | ⟨h1, h2, h3⟩ | ⟨h1, h2, h3⟩
  · rfl
  · unfold fr
    rw [if_pos (by omega), if_pos (by omega), fracUp_over hn (by omega), fracUp_over hn (by omega)]
  · unfold fr
    rw [if_neg (by omega), if_neg (by omega), fracDn_over hn hn2 (by omega), fracDn_over hn hn2 (by omega)]
theorem val_near {neg : Bool} {ds : List Int} {e E : Int} {k : Nat} (hd : Digs ds) (hl : ds.length ≤ 1000000000) (hk : k ≤ 1000000000) (h : Near e E) : valOf neg ds (e - k) = valOf neg ds (E - k) := by
  have hc := cut_len ds
  unfold valOf
  by_cases h1 : cutR (cut0 ds) = []
  · rw [if_pos h1, if_pos h1]
  rw [if_neg h1, if_neg h1]
  by_cases h2 : 18 < (cutR (cut0 ds)).length
  · rw [if_pos h2, if_pos h2]
  rw [if_neg h2, if_neg h2]
  have := fr_near (n := natOf (cutR (cut0 ds))) (a := -(k : Int) + (((cut0 ds).length - (cutR (cut0 ds)).length : Nat) : Int)) (cnt_pos hd h1) (natOf_lt hd.cut.2 (by omega)) h (by omega)
  rw [show e - (k : Int) + (((cut0 ds).length - (cutR (cut0 ds)).length : Nat) : Int) = e + (-(k : Int) + (((cut0 ds).length - (cutR (cut0 ds)).length : Nat) : Int)) by omega, this]
  rw [show E - (k : Int) + (((cut0 ds).length - (cutR (cut0 ds)).length : Nat) : Int) = E + (-(k : Int) + (((cut0 ds).length - (cutR (cut0 ds)).length : Nat) : Int)) by omega]
theorem val_zero {b : Bool} {D : List Int} {k : Int} (h : cutR (cut0 D) = []) : valOf b D k = (0, 1) := by unfold valOf; rw [if_pos h]
theorem val_over {b : Bool} {D : List Int} {k : Int} (h : cutR (cut0 D) ≠ []) (g : 18 < (cutR (cut0 D)).length) : valOf b D k = (0, 0) := by unfold valOf; rw [if_neg h, if_pos g]
theorem val_fr {b : Bool} {D : List Int} {k : Int} (h : cutR (cut0 D) ≠ []) (g : (cutR (cut0 D)).length ≤ 18) : valOf b D k = sg b (fr (natOf (cutR (cut0 D))) (k + ((cut0 D).length - (cutR (cut0 D)).length : Nat))) := by
  unfold valOf; rw [if_neg h, if_neg (by omega)]
/-- The program's shift is the fraction. -/
theorem fr_sh {n : Nat} (p : Int) : fr n p = if shB n p then ((shN n p : Int), (shD n p : Int)) else (0, 0) := by
  unfold fr
  by_cases hp : 0 ≤ p
  · rw [if_pos hp]
    unfold fracUp shB shN shD
    rw [if_pos hp, if_pos hp, if_pos hp]
    by_cases h : n * 10 ^ p.toNat ≤ 9223372036854775807
    · rw [if_pos h, mulB_yes h, mulV_yes h]; rfl
    · rw [if_neg h, mulB_no h]; rfl
  · rw [if_neg hp]
    unfold fracDn shB shN shD
    rw [if_neg hp, if_neg hp, if_neg hp]
    generalize (-p).toNat = q
    by_cases h : 2 ^ (strip 2 n q).2 ≤ 9223372036854775807
    · rw [mulB_yes h, mulV_yes h]
      by_cases g : 2 ^ (strip 2 n q).2 * 5 ^ (strip 5 (strip 2 n q).1 q).2 ≤ 9223372036854775807
      · rw [if_pos g, mulB_yes g, mulV_yes g]; rfl
      · rw [if_neg g, mulB_no g]; rfl
    · rw [mulB_no h]
      have h6 : 2 ^ (strip 2 n q).2 * 1 ≤ 2 ^ (strip 2 n q).2 * 5 ^ (strip 5 (strip 2 n q).1 q).2 := Nat.mul_le_mul_left _ (Nat.pow_pos (by omega))
      rw [if_neg (by omega)]; rfl
theorem sh_le {n : Nat} {p : Int} (hn : n ≤ 9223372036854775807) : shN n p ≤ 9223372036854775807 ∧ shD n p ≤ 9223372036854775807 := by
  have hv : ∀ P, mulV P ≤ 9223372036854775807 := fun P => by unfold mulV; split <;> omega
  unfold shN shD
  constructor
  · split
    · exact hv _
    · split
      · have h1 := (strip_le 2 (-p).toNat n).1
        have h2 := (strip_le 5 (-p).toNat (strip 2 n (-p).toNat).1).1
        omega
      · omega
  · split
    · omega
    · split
      · exact hv _
      · omega
end Go.Proofs.YtcclhdiphcfdfaaGreatDoor
set_option linter.unusedVariables false
set_option linter.unusedSimpArgs false
namespace Go.Proofs.YtcclhdiphcfdfaaGreatDoor
open Go.RowKit

theorem trimL_bl (s : ByteArray) : bl ⟨(Lib.trimLeftB s.data.toList 48).toArray⟩ = cut0 (bl s) := by
  unfold bl Lib.trimLeftB cut0
  simp only
  generalize s.data.toList = l
  induction l with
  | nil => rfl
  | cons c l ih =>
    by_cases h : c = 48
    · subst h
      rw [List.dropWhile_cons_of_pos (by rfl), List.map_cons, List.dropWhile_cons_of_pos (by rfl)]
      exact ih
    · have h1 : ((c.toNat : Int) == 48) = false := by
        simp only [beq_eq_false_iff_ne]
        intro e
        exact h (UInt8.toNat_inj.1 (by show c.toNat = 48; omega))
      rw [List.dropWhile_cons_of_neg (by simpa using h), List.map_cons, List.dropWhile_cons_of_neg (by simp [h1])]
theorem dropW_map (l : List UInt8) : (l.dropWhile (· == 48)).map (fun b => (b.toNat : Int)) = (l.map fun b => (b.toNat : Int)).dropWhile (· == 48) := by
  induction l with
  | nil => rfl
  | cons c l ih =>
    by_cases h : c = 48
    · subst h
      rw [List.dropWhile_cons_of_pos (by rfl), List.map_cons, List.dropWhile_cons_of_pos (by rfl)]
      exact ih
    · have h1 : ((c.toNat : Int) == 48) = false := by
        simp only [beq_eq_false_iff_ne]
        intro e
        exact h (UInt8.toNat_inj.1 (by show c.toNat = 48; omega))
      rw [List.dropWhile_cons_of_neg (by simpa using h), List.map_cons, List.dropWhile_cons_of_neg (by simp [h1])]
theorem trimR_bl (s : ByteArray) : bl ⟨(Lib.trimRightB s.data.toList 48).toArray⟩ = cutR (bl s) := by
  unfold bl Lib.trimRightB cutR
  show ((s.data.toList.reverse.dropWhile (· == 48)).reverse.toArray.toList.map _) = _
  rw [List.map_reverse]
  rw [dropW_map, List.map_reverse]
/-- A value's post. -/
def PostV (b : Bool) (D : List Int) (k : Int) (w : World) (e : Ending) (w' : World) : Prop := e = .returned (ratV (valOf b D k).1 (valOf b D k).2) ∧ Below w.heap.size w w'
theorem trimL_any (s : ByteArray) (w : World) : Calls Tryz.prog 191 #[.string s, .string ⟨#[48]⟩] w fun e w' => ∃ t, e = .returned (.string t) ∧ bl t = cut0 (bl s) ∧ w' = w :=
  (sh_strings_TrimLeft_one s 48 (by decide) w).mono fun _ _ ⟨h1, h2⟩ => ⟨_, h1, trimL_bl s, h2⟩
theorem trimR_any (s : ByteArray) (w : World) (hs : s.size ≤ 9223372036854775807) : Calls Tryz.prog 106 #[.string s, .string ⟨#[48]⟩] w fun e w' => ∃ t, e = .returned (.string t) ∧ bl t = cutR (bl s) ∧ w' = w :=
  (sh_strings_TrimRight_one s 48 (by decide) w hs).mono fun _ _ ⟨h1, h2⟩ => ⟨_, h1, trimR_bl s, h2⟩
theorem parse_any (s : ByteArray) (w : World) (h1 : bl s ≠ []) (h2 : (bl s).length ≤ 18) (h3 : Digs (bl s)) :
    Calls Tryz.prog 192 #[.string s, .int .i64 10, .int .i64 64] w fun e w' => e = .returned (.tuple #[.int .u64 (natOf (bl s)), .nilIface]) ∧ Below w.heap.size w w' :=
  (sh_strconv_ParseUint_10_at64_ok s (by rw [bl_len] at h2; omega) (natOf (bl s)) (parse_str s h1 h2 h3) w).mono fun _ w' ⟨h1, h2⟩ => ⟨h1, by
    rcases h2 with rfl | rfl
    · exact Below.refl _ _
    · exact Joins.below_bytesWorld _ _ _ _ (Nat.le_refl _)⟩
theorem PostV.mk {b : Bool} {D : List Int} {k : Int} {w w' : World} {e : Ending} {n d : Int} (hv : valOf b D k = (n, d)) (h1 : e = .returned (ratV n d)) (h2 : Below w.heap.size w w') : PostV b D k w e w' := by
  unfold PostV; rw [hv]; exact ⟨h1, h2⟩
set_option maxRecDepth 100000 in
set_option maxHeartbeats 1000000 in
theorem value_0 (b h : Bool) (x y : ByteArray) (e : Int) (w : World) (hl : (bl x ++ bl y).length ≤ 1000000000) (he : -18014398509481984 ≤ e ∧ e ≤ 18014398509481984) (hd : Digs (bl x ++ bl y)) (h0 : cutR (cut0 (bl x ++ bl y)) = []) :
    Calls Tryz.prog 164 #[numV b x y e h] w fun e' w' => PostV b (bl x ++ bl y) (e - (bl y).length) w e' w' := by
  have XY := hide (bl_app x y)
  have xy9 : x.size + y.size ≤ 1000000000 := by rw [List.length_append, bl_len, bl_len] at hl; exact hl
  obtain ⟨k1, k2⟩ := cut_len (bl x ++ bl y)
  have K2 := hide (show (cut0 (bl x ++ bl y)).length ≤ 9223372036854775807 by omega)
  have V := hide (val_zero (b := b) (k := e - (bl y).length) h0)
  have G := hide h0
  clear h0 k1 k2 hd hl
  unfold numV
  go_enter Tryz.func164, Tryz.ntmps164
  go_wp2_with (first
    | (go_at_call 191; refine (trimL_any (x ++ y) _).mono ?_; rintro e1 w1 ⟨kp, rfl, hk, rfl⟩; rw [XY.out] at hk; replace hk := hide hk; skip)
    | (go_at_call 106; refine (trimR_any kp _ (size_of hk.out K2.out)).mono ?_; rintro e1 w2 ⟨ct, rfl, hc, rfl⟩; rw [hk.out] at hc; replace hc := hide hc; have n1 := emp_of hc.out G.out))
  refine bodyPost_ret (v := .agg #[.int .i64 0, .int .i64 1]) (by simp [results, Tryz.results164, go_sem]) rfl ?_
  exact .mk V.out rfl (bplus (bplus (Below.refl _ _) _) _)
set_option maxRecDepth 100000 in
set_option maxHeartbeats 1000000 in
theorem value_1 (b h : Bool) (x y : ByteArray) (e : Int) (w : World) (hl : (bl x ++ bl y).length ≤ 1000000000) (he : -18014398509481984 ≤ e ∧ e ≤ 18014398509481984) (hd : Digs (bl x ++ bl y)) (h0 : cutR (cut0 (bl x ++ bl y)) ≠ []) (h1 : 18 < (cutR (cut0 (bl x ++ bl y))).length) :
    Calls Tryz.prog 164 #[numV b x y e h] w fun e' w' => PostV b (bl x ++ bl y) (e - (bl y).length) w e' w' := by
  have XY := hide (bl_app x y)
  have xy9 : x.size + y.size ≤ 1000000000 := by rw [List.length_append, bl_len, bl_len] at hl; exact hl
  obtain ⟨k1, k2⟩ := cut_len (bl x ++ bl y)
  have K2 := hide (show (cut0 (bl x ++ bl y)).length ≤ 9223372036854775807 by omega)
  have V := hide (val_over (b := b) (k := e - (bl y).length) h0 h1)
  have G := hide h0
  have G1 := hide h1
  clear h0 h1 k1 k2 hd hl
  unfold numV
  go_enter Tryz.func164, Tryz.ntmps164
  go_wp2_with (first
    | (go_at_call 191; refine (trimL_any (x ++ y) _).mono ?_; rintro e1 w1 ⟨kp, rfl, hk, rfl⟩; rw [XY.out] at hk; replace hk := hide hk; skip)
    | (go_at_call 106; refine (trimR_any kp _ (size_of hk.out K2.out)).mono ?_; rintro e1 w2 ⟨ct, rfl, hc, rfl⟩; rw [hk.out] at hc; replace hc := hide hc; have n1 := full_of hc.out G.out; have n2 : (18 : Int) < (ct.size : Int) := (by have := G1.out; rw [← hc.out, bl_len] at this; omega)))
  refine bodyPost_ret (v := .agg #[.int .i64 0, .int .i64 0]) (by simp [results, Tryz.results164, go_sem]) rfl ?_
  exact .mk V.out rfl (bplus (bplus (Below.refl _ _) _) _)
set_option maxRecDepth 100000 in
set_option maxHeartbeats 1000000 in
theorem value_2 (b h : Bool) (x y : ByteArray) (e : Int) (w : World) (hl : (bl x ++ bl y).length ≤ 1000000000) (he : -18014398509481984 ≤ e ∧ e ≤ 18014398509481984) (hd : Digs (bl x ++ bl y)) (h0 : cutR (cut0 (bl x ++ bl y)) ≠ []) (h1 : (cutR (cut0 (bl x ++ bl y))).length ≤ 18) (hB : shB (natOf (cutR (cut0 (bl x ++ bl y)))) (e - (bl y).length + ((cut0 (bl x ++ bl y)).length - (cutR (cut0 (bl x ++ bl y))).length : Nat)) = false) :
    Calls Tryz.prog 164 #[numV b x y e h] w fun e' w' => PostV b (bl x ++ bl y) (e - (bl y).length) w e' w' := by
  have XY := hide (bl_app x y)
  have xy9 : x.size + y.size ≤ 1000000000 := by rw [List.length_append, bl_len, bl_len] at hl; exact hl
  obtain ⟨k1, k2⟩ := cut_len (bl x ++ bl y)
  have K2 := hide (show (cut0 (bl x ++ bl y)).length ≤ 9223372036854775807 by omega)
  have hn1 := cnt_pos hd h0
  have hn2 := natOf_lt hd.cut.2 h1
  have G := hide h0
  have G1 := hide h1
  have DG := hide hd.cut.2
  have YL := hide (bl_len y)
  have V := hide (val_fr (b := b) (k := e - (bl y).length) h0 h1)
  have hs := sh_le (p := e - (bl y).length + ((cut0 (bl x ++ bl y)).length - (cutR (cut0 (bl x ++ bl y))).length : Nat)) (show natOf (cutR (cut0 (bl x ++ bl y))) ≤ 9223372036854775807 by omega)
  have yl : (bl y).length ≤ 1000000000 := by rw [List.length_append] at hl; omega
  obtain ⟨p, hp⟩ : ∃ p, e - (bl y).length + ((cut0 (bl x ++ bl y)).length - (cutR (cut0 (bl x ++ bl y))).length : Nat) = p := ⟨_, rfl⟩
  obtain ⟨n, hn⟩ : ∃ n, natOf (cutR (cut0 (bl x ++ bl y))) = n := ⟨_, rfl⟩
  have hpb : -1152921504606846976 ≤ p ∧ p ≤ 1152921504606846976 := by omega
  rw [hp] at hs V hB
  rw [hn] at hs V hB hn1 hn2
  have PE := hide (show ∀ kp ct : ByteArray, bl kp = cut0 (bl x ++ bl y) → bl ct = cutR (cut0 (bl x ++ bl y)) → e - (y.size : Int) + kp.size - ct.size = p ∧ -1000 ≤ (kp.size : Int) ∧ (kp.size : Int) ≤ 1000000000 ∧ (ct.size : Int) ≤ 18 ∧ (y.size : Int) ≤ 1000000000 from fun kp ct q1 q2 => by
    rw [← bl_len kp, ← bl_len ct, ← bl_len y, q1, q2]; omega)
  have SH := hide fun W => shifted_any n p W hn1 (by omega) hpb.1 hpb.2
  have HN := hide hn
  have HB := hide hB
  have F := hide (fr_sh (n := n) p)
  clear h0 h1 k1 k2 hd hl hp hn hB hn1 hn2 hpb yl
  unfold numV
  go_enter Tryz.func164, Tryz.ntmps164
  go_wp2_with (first
    | (go_at_call 191; refine (trimL_any (x ++ y) _).mono ?_; rintro e1 w1 ⟨kp, rfl, hk, rfl⟩; rw [XY.out] at hk; replace hk := hide hk; skip)
    | (go_at_call 106; refine (trimR_any kp _ (size_of hk.out K2.out)).mono ?_; rintro e1 w2 ⟨ct, rfl, hc, rfl⟩; rw [hk.out] at hc; replace hc := hide hc; have n1 := full_of hc.out G.out; have n2 : ¬ (18 : Int) < (ct.size : Int) := (by have := G1.out; rw [← hc.out, bl_len] at this; omega); obtain ⟨q1, q2, q3, q4, q5⟩ := PE.out kp ct hk.out hc.out; have E1 := hide q1; clear q1))
  refine (parse_any ct _ (by rw [hc.out]; exact G.out) (by rw [hc.out]; exact G1.out) (by rw [hc.out]; exact DG.out)).mono ?_
  rintro e1 w5 ⟨he5, B5⟩
  rw [hc.out, HN.out] at he5
  subst he5
  have c0 : w5.cell? ⟨w.heap.size, 0, none⟩ = some (.bool b) := by (rw [B5.cell (p := ⟨w.heap.size, 0, none⟩) (by simp <;> omega)]; first | done | simp [go_sem])
  have c2 : w5.cell? ⟨w.heap.size, 2, none⟩ = some (.string y) := by (rw [B5.cell (p := ⟨w.heap.size, 2, none⟩) (by simp <;> omega)]; first | done | simp [go_sem])
  have c3 : w5.cell? ⟨w.heap.size, 3, none⟩ = some (.int .i64 e) := by (rw [B5.cell (p := ⟨w.heap.size, 3, none⟩) (by simp <;> omega)]; first | done | simp [go_sem])
  have m0 : w5.cell? ⟨w.heap.size + 1, 0, none⟩ = some (.int .i64 0) := by (rw [B5.cell (p := ⟨w.heap.size + 1, 0, none⟩) (by simp <;> omega)]; first | done | simp [go_sem])
  have f0 : w5.frozen? ⟨w.heap.size + 1, 0, none⟩ = false := by (rw [B5.frozen (p := ⟨w.heap.size + 1, 0, none⟩) (by simp <;> omega)]; first | done | simp [go_sem])
  have m1 : w5.cell? ⟨w.heap.size + 1, 1, none⟩ = some (.int .i64 0) := by (rw [B5.cell (p := ⟨w.heap.size + 1, 1, none⟩) (by simp <;> omega)]; first | done | simp [go_sem])
  have f1 : w5.frozen? ⟨w.heap.size + 1, 1, none⟩ = false := by (rw [B5.frozen (p := ⟨w.heap.size + 1, 1, none⟩) (by simp <;> omega)]; first | done | simp [go_sem])
  replace B5 := hide (show Below w.heap.size w w5 from bto (bplus (bplus (Below.refl _ _) _) _) B5)
  go_wp2_with (go_at_call 193; rw [E1.out]; refine (SH.out _).mono ?_; rintro e1 w6 ⟨rfl, rfl⟩; rw [HB.out])
  refine bodyPost_ret (v := .agg #[.int .i64 0, .int .i64 0]) (by simp [results, Tryz.results164, go_sem, m0, m1]) rfl ?_
  exact .mk (by rw [V.out, F.out, HB.out]; cases b <;> rfl) rfl (by repeat (first | (with_reducible exact B5.out) | (with_reducible refine Below.setCell ?_ (by simp) _)))
set_option maxRecDepth 100000 in
set_option maxHeartbeats 1000000 in
theorem value_3 (b h : Bool) (x y : ByteArray) (e : Int) (w : World) (hl : (bl x ++ bl y).length ≤ 1000000000) (he : -18014398509481984 ≤ e ∧ e ≤ 18014398509481984) (hd : Digs (bl x ++ bl y)) (h0 : cutR (cut0 (bl x ++ bl y)) ≠ []) (h1 : (cutR (cut0 (bl x ++ bl y))).length ≤ 18) (hB : shB (natOf (cutR (cut0 (bl x ++ bl y)))) (e - (bl y).length + ((cut0 (bl x ++ bl y)).length - (cutR (cut0 (bl x ++ bl y))).length : Nat)) = true) :
    Calls Tryz.prog 164 #[numV b x y e h] w fun e' w' => PostV b (bl x ++ bl y) (e - (bl y).length) w e' w' := by
  have XY := hide (bl_app x y)
  have xy9 : x.size + y.size ≤ 1000000000 := by rw [List.length_append, bl_len, bl_len] at hl; exact hl
  obtain ⟨k1, k2⟩ := cut_len (bl x ++ bl y)
  have K2 := hide (show (cut0 (bl x ++ bl y)).length ≤ 9223372036854775807 by omega)
  have hn1 := cnt_pos hd h0
  have hn2 := natOf_lt hd.cut.2 h1
  have G := hide h0
  have G1 := hide h1
  have DG := hide hd.cut.2
  have YL := hide (bl_len y)
  have V := hide (val_fr (b := b) (k := e - (bl y).length) h0 h1)
  have hs := sh_le (p := e - (bl y).length + ((cut0 (bl x ++ bl y)).length - (cutR (cut0 (bl x ++ bl y))).length : Nat)) (show natOf (cutR (cut0 (bl x ++ bl y))) ≤ 9223372036854775807 by omega)
  have yl : (bl y).length ≤ 1000000000 := by rw [List.length_append] at hl; omega
  obtain ⟨p, hp⟩ : ∃ p, e - (bl y).length + ((cut0 (bl x ++ bl y)).length - (cutR (cut0 (bl x ++ bl y))).length : Nat) = p := ⟨_, rfl⟩
  obtain ⟨n, hn⟩ : ∃ n, natOf (cutR (cut0 (bl x ++ bl y))) = n := ⟨_, rfl⟩
  have hpb : -1152921504606846976 ≤ p ∧ p ≤ 1152921504606846976 := by omega
  rw [hp] at hs V hB
  rw [hn] at hs V hB hn1 hn2
  have PE := hide (show ∀ kp ct : ByteArray, bl kp = cut0 (bl x ++ bl y) → bl ct = cutR (cut0 (bl x ++ bl y)) → e - (y.size : Int) + kp.size - ct.size = p ∧ -1000 ≤ (kp.size : Int) ∧ (kp.size : Int) ≤ 1000000000 ∧ (ct.size : Int) ≤ 18 ∧ (y.size : Int) ≤ 1000000000 from fun kp ct q1 q2 => by
    rw [← bl_len kp, ← bl_len ct, ← bl_len y, q1, q2]; omega)
  have SH := hide fun W => shifted_any n p W hn1 (by omega) hpb.1 hpb.2
  have HN := hide hn
  have HB := hide hB
  have F := hide (fr_sh (n := n) p)
  clear h0 h1 k1 k2 hd hl hp hn hB hn1 hn2 hpb yl
  cases b
  · unfold numV
    go_enter Tryz.func164, Tryz.ntmps164
    go_wp2_with (first
      | (go_at_call 191; refine (trimL_any (x ++ y) _).mono ?_; rintro e1 w1 ⟨kp, rfl, hk, rfl⟩; rw [XY.out] at hk; replace hk := hide hk; skip)
      | (go_at_call 106; refine (trimR_any kp _ (size_of hk.out K2.out)).mono ?_; rintro e1 w2 ⟨ct, rfl, hc, rfl⟩; rw [hk.out] at hc; replace hc := hide hc; have n1 := full_of hc.out G.out; have n2 : ¬ (18 : Int) < (ct.size : Int) := (by have := G1.out; rw [← hc.out, bl_len] at this; omega); obtain ⟨q1, q2, q3, q4, q5⟩ := PE.out kp ct hk.out hc.out; have E1 := hide q1; clear q1))
    refine (parse_any ct _ (by rw [hc.out]; exact G.out) (by rw [hc.out]; exact G1.out) (by rw [hc.out]; exact DG.out)).mono ?_
    rintro e1 w5 ⟨he5, B5⟩
    rw [hc.out, HN.out] at he5
    subst he5
    have c0 : w5.cell? ⟨w.heap.size, 0, none⟩ = some (.bool false) := by (rw [B5.cell (p := ⟨w.heap.size, 0, none⟩) (by simp <;> omega)]; first | done | simp [go_sem])
    have c2 : w5.cell? ⟨w.heap.size, 2, none⟩ = some (.string y) := by (rw [B5.cell (p := ⟨w.heap.size, 2, none⟩) (by simp <;> omega)]; first | done | simp [go_sem])
    have c3 : w5.cell? ⟨w.heap.size, 3, none⟩ = some (.int .i64 e) := by (rw [B5.cell (p := ⟨w.heap.size, 3, none⟩) (by simp <;> omega)]; first | done | simp [go_sem])
    have m0 : w5.cell? ⟨w.heap.size + 1, 0, none⟩ = some (.int .i64 0) := by (rw [B5.cell (p := ⟨w.heap.size + 1, 0, none⟩) (by simp <;> omega)]; first | done | simp [go_sem])
    have f0 : w5.frozen? ⟨w.heap.size + 1, 0, none⟩ = false := by (rw [B5.frozen (p := ⟨w.heap.size + 1, 0, none⟩) (by simp <;> omega)]; first | done | simp [go_sem])
    have m1 : w5.cell? ⟨w.heap.size + 1, 1, none⟩ = some (.int .i64 0) := by (rw [B5.cell (p := ⟨w.heap.size + 1, 1, none⟩) (by simp <;> omega)]; first | done | simp [go_sem])
    have f1 : w5.frozen? ⟨w.heap.size + 1, 1, none⟩ = false := by (rw [B5.frozen (p := ⟨w.heap.size + 1, 1, none⟩) (by simp <;> omega)]; first | done | simp [go_sem])
    have Z5 := hide (World.block_lt_of_cell? _ _ m0)
    replace B5 := hide (show Below w.heap.size w w5 from bto (bplus (bplus (Below.refl _ _) _) _) B5)
    go_wp2_with (first
      | (go_at_call 193; rw [E1.out]; refine (SH.out _).mono ?_; rintro e1 w6 ⟨rfl, rfl⟩; rw [HB.out])
      | (go_at_call 194; refine (made_any false _ _ _ hs.1 hs.2).mono ?_; rintro e1 w7 ⟨rfl, B7⟩; unfold ratV; replace m0 := (B7.cell (p := ⟨w.heap.size + 1, 0, none⟩) (World.block_lt_of_cell? _ _ m0)).trans m0; replace m1 := (B7.cell (p := ⟨w.heap.size + 1, 1, none⟩) (World.block_lt_of_cell? _ _ m1)).trans m1; replace f0 := (B7.frozen (p := ⟨w.heap.size + 1, 0, none⟩) Z5.out).trans f0; replace f1 := (B7.frozen (p := ⟨w.heap.size + 1, 1, none⟩) Z5.out).trans f1; replace B5 := hide (bto B5.out B7); clear B7))
    refine bodyPost_ret (v := .agg #[.int .i64 (((shN n p : Nat) : Int)), .int .i64 (shD n p)]) (by simp [results, Tryz.results164, go_sem, m0, m1]) rfl ?_
    exact .mk (by rw [V.out, F.out, HB.out]; rfl) rfl (by repeat (first | (with_reducible exact B5.out) | (with_reducible refine Below.setCell ?_ (by simp) _)))
  · unfold numV
    go_enter Tryz.func164, Tryz.ntmps164
    go_wp2_with (first
      | (go_at_call 191; refine (trimL_any (x ++ y) _).mono ?_; rintro e1 w1 ⟨kp, rfl, hk, rfl⟩; rw [XY.out] at hk; replace hk := hide hk; skip)
      | (go_at_call 106; refine (trimR_any kp _ (size_of hk.out K2.out)).mono ?_; rintro e1 w2 ⟨ct, rfl, hc, rfl⟩; rw [hk.out] at hc; replace hc := hide hc; have n1 := full_of hc.out G.out; have n2 : ¬ (18 : Int) < (ct.size : Int) := (by have := G1.out; rw [← hc.out, bl_len] at this; omega); obtain ⟨q1, q2, q3, q4, q5⟩ := PE.out kp ct hk.out hc.out; have E1 := hide q1; clear q1))
    refine (parse_any ct _ (by rw [hc.out]; exact G.out) (by rw [hc.out]; exact G1.out) (by rw [hc.out]; exact DG.out)).mono ?_
    rintro e1 w5 ⟨he5, B5⟩
    rw [hc.out, HN.out] at he5
    subst he5
    have c0 : w5.cell? ⟨w.heap.size, 0, none⟩ = some (.bool true) := by (rw [B5.cell (p := ⟨w.heap.size, 0, none⟩) (by simp <;> omega)]; first | done | simp [go_sem])
    have c2 : w5.cell? ⟨w.heap.size, 2, none⟩ = some (.string y) := by (rw [B5.cell (p := ⟨w.heap.size, 2, none⟩) (by simp <;> omega)]; first | done | simp [go_sem])
    have c3 : w5.cell? ⟨w.heap.size, 3, none⟩ = some (.int .i64 e) := by (rw [B5.cell (p := ⟨w.heap.size, 3, none⟩) (by simp <;> omega)]; first | done | simp [go_sem])
    have m0 : w5.cell? ⟨w.heap.size + 1, 0, none⟩ = some (.int .i64 0) := by (rw [B5.cell (p := ⟨w.heap.size + 1, 0, none⟩) (by simp <;> omega)]; first | done | simp [go_sem])
    have f0 : w5.frozen? ⟨w.heap.size + 1, 0, none⟩ = false := by (rw [B5.frozen (p := ⟨w.heap.size + 1, 0, none⟩) (by simp <;> omega)]; first | done | simp [go_sem])
    have m1 : w5.cell? ⟨w.heap.size + 1, 1, none⟩ = some (.int .i64 0) := by (rw [B5.cell (p := ⟨w.heap.size + 1, 1, none⟩) (by simp <;> omega)]; first | done | simp [go_sem])
    have f1 : w5.frozen? ⟨w.heap.size + 1, 1, none⟩ = false := by (rw [B5.frozen (p := ⟨w.heap.size + 1, 1, none⟩) (by simp <;> omega)]; first | done | simp [go_sem])
    have Z5 := hide (World.block_lt_of_cell? _ _ m0)
    replace B5 := hide (show Below w.heap.size w w5 from bto (bplus (bplus (Below.refl _ _) _) _) B5)
    go_wp2_with (first
      | (go_at_call 193; rw [E1.out]; refine (SH.out _).mono ?_; rintro e1 w6 ⟨rfl, rfl⟩; rw [HB.out])
      | (go_at_call 194; refine (made_any true _ _ _ hs.1 hs.2).mono ?_; rintro e1 w7 ⟨rfl, B7⟩; unfold ratV; replace m0 := (B7.cell (p := ⟨w.heap.size + 1, 0, none⟩) (World.block_lt_of_cell? _ _ m0)).trans m0; replace m1 := (B7.cell (p := ⟨w.heap.size + 1, 1, none⟩) (World.block_lt_of_cell? _ _ m1)).trans m1; replace f0 := (B7.frozen (p := ⟨w.heap.size + 1, 0, none⟩) Z5.out).trans f0; replace f1 := (B7.frozen (p := ⟨w.heap.size + 1, 1, none⟩) Z5.out).trans f1; replace B5 := hide (bto B5.out B7); clear B7))
    refine bodyPost_ret (v := .agg #[.int .i64 (-((shN n p : Nat) : Int)), .int .i64 (shD n p)]) (by simp [results, Tryz.results164, go_sem, m0, m1]) rfl ?_
    exact .mk (by rw [V.out, F.out, HB.out]; rfl) rfl (by repeat (first | (with_reducible exact B5.out) | (with_reducible refine Below.setCell ?_ (by simp) _)))
theorem value_any (b h : Bool) (x y : ByteArray) (e : Int) (w : World) (hl : (bl x ++ bl y).length ≤ 1000000000) (he : -18014398509481984 ≤ e ∧ e ≤ 18014398509481984) (hd : Digs (bl x ++ bl y)) :
    Calls Tryz.prog 164 #[numV b x y e h] w fun e' w' => PostV b (bl x ++ bl y) (e - (bl y).length) w e' w' := by
  by_cases h0 : cutR (cut0 (bl x ++ bl y)) = []
  · exact value_0 b h x y e w hl he hd h0
  by_cases h1 : 18 < (cutR (cut0 (bl x ++ bl y))).length
  · exact value_1 b h x y e w hl he hd h0 h1
  cases hB : shB (natOf (cutR (cut0 (bl x ++ bl y)))) (e - (bl y).length + ((cut0 (bl x ++ bl y)).length - (cutR (cut0 (bl x ++ bl y))).length : Nat))
  · exact value_2 b h x y e w hl he hd h0 (by omega) hB
  · exact value_3 b h x y e w hl he hd h0 (by omega) hB
end Go.Proofs.YtcclhdiphcfdfaaGreatDoor
set_option linter.unusedVariables false
set_option linter.unusedSimpArgs false
namespace Go.Proofs.YtcclhdiphcfdfaaGreatDoor
open Go.RowKit

/-- What is told of a text as a number. -/
def dN (S : List Int) : Int := ((dec S).getD ((0, 0), false)).1.1
def dD (S : List Int) : Int := ((dec S).getD ((0, 0), false)).1.2
def dW (S : List Int) : Bool := ((dec S).getD ((0, 0), false)).2
def dE (S : List Int) : Int := if (dec S).isSome then 0 else 3
def decV (S : List Int) : Value := .tuple #[ratV (dN S) (dD S), .bool (dW S), .int .i64 (dE S)]
theorem decV_none {S : List Int} (h : dec S = none) : decV S = .tuple #[ratV 0 0, .bool false, .int .i64 3] := by unfold decV dN dD dW dE; rw [h]; rfl
theorem decV_some {S : List Int} {r : Int × Int} {b : Bool} (h : dec S = some (r, b)) : decV S = .tuple #[ratV r.1 r.2, .bool b, .int .i64 0] := by unfold decV dN dD dW dE; rw [h]; rfl
set_option maxRecDepth 100000 in
set_option maxHeartbeats 1000000 in
theorem decP_any (s : ByteArray) (w : World) (hs : s.size ≤ 1000000000) :
    Calls Tryz.prog 122 #[.string s] w fun e w' => e = .returned (decV (bl s)) ∧ Below w.heap.size w w' := by
  go_enter Tryz.func122, Tryz.ntmps122
  go_wp2_with fail
  refine (takeApart_any s _ (by omega)).mono ?_
  rintro e w1 ⟨b, x, y, i, h, ok, rfl, hta, B1⟩
  have z1 : w.heap.size < w1.heap.size := by have := B1.size; simp at this; omega
  have m0 : w1.cell? ⟨w.heap.size, 0, none⟩ = some (.int .i64 0) := by rw [B1.cell (p := ⟨w.heap.size, 0, none⟩) (by simp)]; simp [go_sem]
  have m1 : w1.cell? ⟨w.heap.size, 1, none⟩ = some (.int .i64 0) := by rw [B1.cell (p := ⟨w.heap.size, 1, none⟩) (by simp)]; simp [go_sem]
  have f0 : w1.frozen? ⟨w.heap.size, 0, none⟩ = false := by rw [B1.frozen (p := ⟨w.heap.size, 0, none⟩) (by simp)]; simp [go_sem]
  have f1 : w1.frozen? ⟨w.heap.size, 1, none⟩ = false := by rw [B1.frozen (p := ⟨w.heap.size, 1, none⟩) (by simp)]; simp [go_sem]
  replace B1 := hide (show Below w.heap.size w w1 from bto (bplus (Below.refl _ _) _) B1)
  rcases hta with ⟨rfl, hn⟩ | ⟨rfl, E, hE, e1, e2, hl, hd, hv⟩
  · have V := hide (decV_none hn)
    clear hn
    unfold numV
    go_wp2
    refine bodyPost_ret (v := .tuple #[.agg #[.int .i64 0, .int .i64 0], .bool false, .int .i64 3]) (by simp [results, Tryz.results122, go_sem, m0, m1, z1, Nat.ne_of_lt z1, Nat.ne_of_gt z1]) rfl ?_
    exact ⟨by rw [V.out]; rfl, by repeat (first | (with_reducible exact B1.out) | (with_reducible refine Below.setCell ?_ (by simp) _) | (with_reducible refine bplus ?_ _))⟩
  · rw [bl_len] at hl
    have hl2 : (bl x ++ bl y).length ≤ 1000000000 := by omega
    have hyl : (bl y).length ≤ 1000000000 := by rw [List.length_append] at hl2; omega
    rw [← val_near hd hl2 hyl hE] at hv
    have V := hide (decV_some hv)
    have C := hide fun W => value_any b h x y i W hl2 ⟨e1, e2⟩ hd
    clear hv hl hl2 hyl hd hE e1 e2
    unfold numV
    go_wp2
    have HB := hide (show Below w1.heap.size w1 (w1.alloc (.cells #[.bool b, .string x, .string y, .int .i64 i, .bool h] 141)) from bplus (Below.refl _ _) _)
    have k4 : (w1.alloc (.cells #[.bool b, .string x, .string y, .int .i64 i, .bool h] 141)).cell? ⟨w1.heap.size, 4, none⟩ = some (.bool h) := by simp [go_sem]
    have Z := hide z1
    have K4 := hide k4
    clear k4
    go_region_with
      (go_at_call 164; refine (C.out _).mono ?_; rintro e2 w2 ⟨rfl, B2⟩; unfold ratV; have B3 := hide (show Below w1.heap.size w1 w2 from (by first | (with_reducible exact bto HB.out B2) | (with_reducible exact bto HB.out.drew B2) | (with_reducible exact bto HB.out.drew.drew B2))); replace m0 := (B3.out.cell (p := ⟨w.heap.size, 0, none⟩) Z.out).trans m0; replace m1 := (B3.out.cell (p := ⟨w.heap.size, 1, none⟩) Z.out).trans m1; replace f0 := (B3.out.frozen (p := ⟨w.heap.size, 0, none⟩) Z.out).trans f0; replace f1 := (B3.out.frozen (p := ⟨w.heap.size, 1, none⟩) Z.out).trans f1; have k4 := (B2.cell (p := ⟨w1.heap.size, 4, none⟩) (by simp)).trans K4.out; have z2 : w.heap.size < w2.heap.size := Nat.lt_of_lt_of_le Z.out B3.out.size; clear B2)
    all_goals go_wp2
    all_goals
      refine bodyPost_ret (v := .tuple #[.agg #[.int .i64 (valOf b (bl x ++ bl y) (i - (bl y).length)).1, .int .i64 (valOf b (bl x ++ bl y) (i - (bl y).length)).2], .bool h, .int .i64 0]) (by simp [results, Tryz.results122, go_sem, m0, m1]) rfl ?_
      exact ⟨by rw [V.out]; rfl, by repeat (first | (with_reducible exact bto B1.out B3.out) | (with_reducible refine Below.setCell ?_ (by simp) _) | (with_reducible refine bplus ?_ _) | (with_reducible refine Below.drew ?_) | (with_reducible refine below_drewN ?_ _))⟩
end Go.Proofs.YtcclhdiphcfdfaaGreatDoor
