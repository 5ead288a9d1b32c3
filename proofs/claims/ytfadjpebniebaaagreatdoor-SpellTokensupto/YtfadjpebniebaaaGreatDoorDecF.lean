/-
  A number of a stylesheet taken apart, by the program: the walk.
-/
import Derived.Test.YtfadjpebniebaaaGreatDoorDecE
set_option linter.unusedVariables false
set_option linter.unusedSimpArgs false
namespace Go.Proofs.YtfadjpebniebaaaGreatDoor
open Go.RowKit

theorem emp_of {s : ByteArray} {l : List Int} (h : bl s = l) (hl : l = []) : s.toList.isEmpty = true := emp_t (bl_size0.1 (h.trans hl))
theorem full_of {s : ByteArray} {l : List Int} (h : bl s = l) (hl : l ≠ []) : s.toList.isEmpty = false := emp_f (Nat.pos_of_ne_zero fun g => hl (h.symm.trans (bl_size0.2 g)))
theorem pos_of {s : ByteArray} {l : List Int} (h : bl s = l) (hl : l ≠ []) : 0 < s.size := Nat.pos_of_ne_zero fun g => hl (h.symm.trans (bl_size0.2 g))
theorem size_of {s : ByteArray} {l : List Int} (h : bl s = l) {n : Nat} (hl : l.length ≤ n) : s.size ≤ n := by rw [← bl_len, h]; exact hl
theorem dot_ne {l : List Int} (h : nx l 0 = 46) : l ≠ [] := by rintro rfl; simp [nx] at h
set_option maxRecDepth 100000 in
set_option maxHeartbeats 600000 in
theorem ta_A1 (s : ByteArray) (w : World) (hs : s.size ≤ 1099511627776) (hdot : nx (p1 (bl s)) 0 = 46) (hB : pB (bl s) = []) :
    Calls Tryz.prog 163 #[.string s] w fun e w' => PostTA s w e w' := by
  obtain ⟨l0, l1, l2, l3, l4⟩ := p_len (bl s)
  have C1 := hide fun W => cutSign_any s W (by omega)
  have L0 := hide (show (p0 (bl s)).length ≤ 140737488355328 by rw [bl_len] at l0; omega)
  have L1 := hide (show (p1 (bl s)).length ≤ 140737488355328 by rw [bl_len] at l1; omega)
  have L3 := hide l3
  have DOT := hide (show (nx (p1 (bl s)) 0 == 46) = true by simpa using hdot)
  have G := hide hB
  have X := hide (show dec (bl s) = none by rw [dec_dot hdot, if_pos hB])
  have ND := hide (dot_ne hdot)
  have LE := L1
  have G2 := ND
  clear hdot hB
  clear l0 l1 l2 l3 l4
  go_enter Tryz.func163, Tryz.ntmps163
  go_wp2_with (first
    | (go_at_call 188; refine (C1.out _).mono ?_; rintro e w1 ⟨b, rfl, hb, q1, rfl⟩; replace hb := hide hb; have hbs := hide (size_of hb.out L0.out))
    | (go_at_call_of 189 (Value.string b); refine (cutDigits_any b _ hbs.out).mono ?_; rintro e w2 ⟨d, r, rfl, hd, hr, q2, rfl⟩; rw [hb.out] at hd hr; replace hd := hide (show bl d = pA (bl s) from hd); replace hr := hide (show bl r = p1 (bl s) from hr); have hrs := hide (size_of hr.out L1.out); have hr1 : 1 ≤ r.size := pos_of hr.out ND.out)
    | (go_at_call 179; refine (sh_strings_HasPrefix _ _ _).mono ?_; rintro e w3 ⟨rfl, rfl⟩; rw [hasPre, hr.out, DOT.out])
    | (go_at_call 189; refine (cutDigits_any (r.extract 1 r.size) _ (by rw [ext_size]; have := hrs.out; omega)).mono ?_; rintro e w4 ⟨d2, r2, rfl, hd2, hr2, q3, rfl⟩; rw [bl_drop, hr.out] at hd2 hr2; replace hd2 := hide (show bl d2 = pB (bl s) from hd2); replace hr2 := hide (show bl r2 = p2 (bl s) from hr2); have n2 := emp_of hd2.out G.out)
    | (go_at_call 190; refine (readEx_any r _ (size_of hr.out LE.out) (pos_of hr.out G2.out)).mono ?_; rintro e w5 ⟨x, ok, rfl, hx, q4, rfl⟩; rw [hr.out] at hx; replace hx := hide hx))
  refine bodyPost_ret (v := .tuple #[numV false ⟨#[]⟩ ⟨#[]⟩ 0 false, .bool false]) (by simp [results, numV, Tryz.results163, go_sem]) rfl ?_
  exact .mk _ _ _ _ _ _ rfl (.inl ⟨rfl, X.out⟩) (by repeat (first | (with_reducible exact Below.refl _ _) | (with_reducible refine Below.setCell ?_ (by simp) _) | (with_reducible refine below_drewN ?_ _) | (with_reducible refine bplus ?_ _)))
set_option maxRecDepth 100000 in
set_option maxHeartbeats 600000 in
theorem ta_A2a_end (s : ByteArray) (w : World) (hs : s.size ≤ 1099511627776) (hdot : nx (p1 (bl s)) 0 = 46) (hB : pB (bl s) ≠ []) (hA : pA (bl s) = []) (hE : p2 (bl s) = []) :
    Calls Tryz.prog 163 #[.string s] w fun e w' => PostTA s w e w' := by
  obtain ⟨l0, l1, l2, l3, l4⟩ := p_len (bl s)
  have C1 := hide fun W => cutSign_any s W (by omega)
  have L0 := hide (show (p0 (bl s)).length ≤ 140737488355328 by rw [bl_len] at l0; omega)
  have L1 := hide (show (p1 (bl s)).length ≤ 140737488355328 by rw [bl_len] at l1; omega)
  have L3 := hide l3
  have DOT := hide (show (nx (p1 (bl s)) 0 == 46) = true by simpa using hdot)
  have GB := hide hB
  have GA := hide hA
  have GE := hide hE
  have X := hide (show dec (bl s) = some (valOf (sgn (bl s)).1 (pA (bl s) ++ pB (bl s)) (-((pB (bl s)).length : Nat)), false) by rw [dec_dot hdot, if_neg hB, hE]; exact decE_end (fun h => hB (List.append_eq_nil_iff.1 h).2))
  have ND := hide (dot_ne hdot)
  have LE := L1
  have G2 := ND
  clear hdot hB hA hE
  clear l0 l1 l2 l3 l4
  go_enter Tryz.func163, Tryz.ntmps163
  go_wp2_with (first
    | (go_at_call 188; refine (C1.out _).mono ?_; rintro e w1 ⟨b, rfl, hb, q1, rfl⟩; replace hb := hide hb; have hbs := hide (size_of hb.out L0.out))
    | (go_at_call_of 189 (Value.string b); refine (cutDigits_any b _ hbs.out).mono ?_; rintro e w2 ⟨d, r, rfl, hd, hr, q2, rfl⟩; rw [hb.out] at hd hr; replace hd := hide (show bl d = pA (bl s) from hd); replace hr := hide (show bl r = p1 (bl s) from hr); have hrs := hide (size_of hr.out L1.out); have hr1 : 1 ≤ r.size := pos_of hr.out ND.out; have n1 := emp_of hd.out GA.out)
    | (go_at_call 179; refine (sh_strings_HasPrefix _ _ _).mono ?_; rintro e w3 ⟨rfl, rfl⟩; rw [hasPre, hr.out, DOT.out])
    | (go_at_call 189; refine (cutDigits_any (r.extract 1 r.size) _ (by rw [ext_size]; have := hrs.out; omega)).mono ?_; rintro e w4 ⟨d2, r2, rfl, hd2, hr2, q3, rfl⟩; rw [bl_drop, hr.out] at hd2 hr2; replace hd2 := hide (show bl d2 = pB (bl s) from hd2); replace hr2 := hide (show bl r2 = p2 (bl s) from hr2); have n2 := full_of hd2.out GB.out; have n3 := emp_of hr2.out GE.out)
    | (go_at_call 190; refine (readEx_any r _ (size_of hr.out LE.out) (pos_of hr.out G2.out)).mono ?_; rintro e w5 ⟨x, ok, rfl, hx, q4, rfl⟩; rw [hr.out] at hx; replace hx := hide hx))
  refine bodyPost_ret (v := .tuple #[numV (sgn (bl s)).1 d d2 0 false, .bool true]) (by simp [results, numV, Tryz.results163, go_sem]) rfl ?_
  exact .mk _ _ _ _ _ _ rfl (ta_end (by rw [hd.out, hd2.out]; exact X.out) (by rw [hd.out, hd2.out, List.length_append]; exact L3.out) (by rw [hd.out, hd2.out]; exact digs_ab _)) (by repeat (first | (with_reducible exact Below.refl _ _) | (with_reducible refine Below.setCell ?_ (by simp) _) | (with_reducible refine below_drewN ?_ _) | (with_reducible refine bplus ?_ _)))
set_option maxRecDepth 100000 in
set_option maxHeartbeats 600000 in
theorem ta_A2a_exp (s : ByteArray) (w : World) (hs : s.size ≤ 1099511627776) (hdot : nx (p1 (bl s)) 0 = 46) (hB : pB (bl s) ≠ []) (hA : pA (bl s) = []) (hE : p2 (bl s) ≠ []) :
    Calls Tryz.prog 163 #[.string s] w fun e w' => PostTA s w e w' := by
  obtain ⟨l0, l1, l2, l3, l4⟩ := p_len (bl s)
  have C1 := hide fun W => cutSign_any s W (by omega)
  have L0 := hide (show (p0 (bl s)).length ≤ 140737488355328 by rw [bl_len] at l0; omega)
  have L1 := hide (show (p1 (bl s)).length ≤ 140737488355328 by rw [bl_len] at l1; omega)
  have L3 := hide l3
  have DOT := hide (show (nx (p1 (bl s)) 0 == 46) = true by simpa using hdot)
  have GB := hide hB
  have GA := hide hA
  have X := hide (show dec (bl s) = (expo (p2 (bl s))).map fun E => (valOf (sgn (bl s)).1 (pA (bl s) ++ pB (bl s)) (E - (pB (bl s)).length), false) by rw [dec_dot hdot, if_neg hB]; exact decE_exp (fun h => hB (List.append_eq_nil_iff.1 h).2) hE)
  have ND := hide (dot_ne hdot)
  have LE := hide (show (p2 (bl s)).length ≤ 1099511627776 by rw [bl_len] at l4; omega)
  have G2 := hide hE
  clear hdot hB hA hE
  clear l0 l1 l2 l3 l4
  go_enter Tryz.func163, Tryz.ntmps163
  go_wp2_with (first
    | (go_at_call 188; refine (C1.out _).mono ?_; rintro e w1 ⟨b, rfl, hb, q1, rfl⟩; replace hb := hide hb; have hbs := hide (size_of hb.out L0.out))
    | (go_at_call_of 189 (Value.string b); refine (cutDigits_any b _ hbs.out).mono ?_; rintro e w2 ⟨d, r, rfl, hd, hr, q2, rfl⟩; rw [hb.out] at hd hr; replace hd := hide (show bl d = pA (bl s) from hd); replace hr := hide (show bl r = p1 (bl s) from hr); have hrs := hide (size_of hr.out L1.out); have hr1 : 1 ≤ r.size := pos_of hr.out ND.out; have n1 := emp_of hd.out GA.out)
    | (go_at_call 179; refine (sh_strings_HasPrefix _ _ _).mono ?_; rintro e w3 ⟨rfl, rfl⟩; rw [hasPre, hr.out, DOT.out])
    | (go_at_call 189; refine (cutDigits_any (r.extract 1 r.size) _ (by rw [ext_size]; have := hrs.out; omega)).mono ?_; rintro e w4 ⟨d2, r2, rfl, hd2, hr2, q3, rfl⟩; rw [bl_drop, hr.out] at hd2 hr2; replace hd2 := hide (show bl d2 = pB (bl s) from hd2); replace hr2 := hide (show bl r2 = p2 (bl s) from hr2); have n2 := full_of hd2.out GB.out; have n3 := full_of hr2.out G2.out))
  refine (readEx_any r2 _ (size_of hr2.out LE.out) (pos_of hr2.out G2.out)).mono ?_
  rintro e w5 ⟨x, ok, rfl, hx, q4, hw5⟩
  rw [hr2.out] at hx
  replace hx := hide hx
  have B5 := hide (show Below w.heap.size w w5 by rw [hw5]; repeat (first | (with_reducible exact Below.refl _ _) | (with_reducible refine Below.setCell ?_ (by simp) _) | (with_reducible refine below_drewN ?_ _) | (with_reducible refine bplus ?_ _)))
  have c0 : w5.cell? ⟨w.heap.size + 1, 0, none⟩ = some (.bool (sgn (bl s)).1) := by rw [hw5]; simp [go_sem]
  have c1 : w5.cell? ⟨w.heap.size + 1, 1, none⟩ = some (.string d) := by rw [hw5]; simp [go_sem]
  have c2 : w5.cell? ⟨w.heap.size + 1, 2, none⟩ = some (.string d2) := by rw [hw5]; simp [go_sem]
  have c3 : w5.cell? ⟨w.heap.size + 1, 3, none⟩ = some (.int .i64 0) := by rw [hw5]; simp [go_sem]
  have c4 : w5.cell? ⟨w.heap.size + 1, 4, none⟩ = some (.bool false) := by rw [hw5]; simp [go_sem]; refine World.cell?_setCell_same _ _ _ (u := .bool false) ?_; simp [go_sem]
  have z5 : w.heap.size + 1 < w5.heap.size := World.block_lt_of_cell? _ _ c0
  have z4 : w.heap.size < w5.heap.size := by omega
  have m0 : w5.cell? ⟨w.heap.size, 0, none⟩ = some (.bool false) := by rw [hw5]; simp [go_sem]
  have f0 : w5.frozen? ⟨w.heap.size, 0, none⟩ = false := by rw [hw5]; simp [go_sem]
  have m1 : w5.cell? ⟨w.heap.size, 1, none⟩ = some (.string ⟨#[]⟩) := by rw [hw5]; simp [go_sem]
  have f1 : w5.frozen? ⟨w.heap.size, 1, none⟩ = false := by rw [hw5]; simp [go_sem]
  have m2 : w5.cell? ⟨w.heap.size, 2, none⟩ = some (.string ⟨#[]⟩) := by rw [hw5]; simp [go_sem]
  have f2 : w5.frozen? ⟨w.heap.size, 2, none⟩ = false := by rw [hw5]; simp [go_sem]
  have m3 : w5.cell? ⟨w.heap.size, 3, none⟩ = some (.int .i64 0) := by rw [hw5]; simp [go_sem]
  have f3 : w5.frozen? ⟨w.heap.size, 3, none⟩ = false := by rw [hw5]; simp [go_sem]
  have m4 : w5.cell? ⟨w.heap.size, 4, none⟩ = some (.bool false) := by rw [hw5]; simp [go_sem]
  have f4 : w5.frozen? ⟨w.heap.size, 4, none⟩ = false := by rw [hw5]; simp [go_sem]
  have g3 : w5.frozen? ⟨w.heap.size + 1, 3, none⟩ = false := by rw [hw5]; simp [go_sem]
  clear hw5
  go_wp2
  refine bodyPost_ret (v := .tuple #[numV (sgn (bl s)).1 d d2 x false, .bool ok]) (by simp [results, numV, Tryz.results163, go_sem, m0, m1, m2, m3, m4]) rfl ?_
  exact .mk _ _ _ _ _ _ rfl (ta_exp hx.out (by rw [hd.out, hd2.out]; exact X.out) (by rw [hd.out, hd2.out, List.length_append]; exact L3.out) (by rw [hd.out, hd2.out]; exact digs_ab _)) (by repeat (first | (with_reducible exact B5.out) | (with_reducible refine Below.setCell ?_ (by simp) _)))
set_option maxRecDepth 100000 in
set_option maxHeartbeats 600000 in
theorem ta_A2b_end (s : ByteArray) (w : World) (hs : s.size ≤ 1099511627776) (hdot : nx (p1 (bl s)) 0 = 46) (hB : pB (bl s) ≠ []) (hA : pA (bl s) ≠ []) (hE : p2 (bl s) = []) :
    Calls Tryz.prog 163 #[.string s] w fun e w' => PostTA s w e w' := by
  obtain ⟨l0, l1, l2, l3, l4⟩ := p_len (bl s)
  have C1 := hide fun W => cutSign_any s W (by omega)
  have L0 := hide (show (p0 (bl s)).length ≤ 140737488355328 by rw [bl_len] at l0; omega)
  have L1 := hide (show (p1 (bl s)).length ≤ 140737488355328 by rw [bl_len] at l1; omega)
  have L3 := hide l3
  have DOT := hide (show (nx (p1 (bl s)) 0 == 46) = true by simpa using hdot)
  have GB := hide hB
  have GA := hide hA
  have GE := hide hE
  have X := hide (show dec (bl s) = some (valOf (sgn (bl s)).1 (pA (bl s) ++ pB (bl s)) (-((pB (bl s)).length : Nat)), false) by rw [dec_dot hdot, if_neg hB, hE]; exact decE_end (fun h => hB (List.append_eq_nil_iff.1 h).2))
  have ND := hide (dot_ne hdot)
  have LE := L1
  have G2 := ND
  clear hdot hB hA hE
  clear l0 l1 l2 l3 l4
  go_enter Tryz.func163, Tryz.ntmps163
  go_wp2_with (first
    | (go_at_call 188; refine (C1.out _).mono ?_; rintro e w1 ⟨b, rfl, hb, q1, rfl⟩; replace hb := hide hb; have hbs := hide (size_of hb.out L0.out))
    | (go_at_call_of 189 (Value.string b); refine (cutDigits_any b _ hbs.out).mono ?_; rintro e w2 ⟨d, r, rfl, hd, hr, q2, rfl⟩; rw [hb.out] at hd hr; replace hd := hide (show bl d = pA (bl s) from hd); replace hr := hide (show bl r = p1 (bl s) from hr); have hrs := hide (size_of hr.out L1.out); have hr1 : 1 ≤ r.size := pos_of hr.out ND.out; have n1 := full_of hd.out GA.out)
    | (go_at_call 179; refine (sh_strings_HasPrefix _ _ _).mono ?_; rintro e w3 ⟨rfl, rfl⟩; rw [hasPre, hr.out, DOT.out])
    | (go_at_call 189; refine (cutDigits_any (r.extract 1 r.size) _ (by rw [ext_size]; have := hrs.out; omega)).mono ?_; rintro e w4 ⟨d2, r2, rfl, hd2, hr2, q3, rfl⟩; rw [bl_drop, hr.out] at hd2 hr2; replace hd2 := hide (show bl d2 = pB (bl s) from hd2); replace hr2 := hide (show bl r2 = p2 (bl s) from hr2); have n2 := full_of hd2.out GB.out; have n3 := emp_of hr2.out GE.out)
    | (go_at_call 190; refine (readEx_any r _ (size_of hr.out LE.out) (pos_of hr.out G2.out)).mono ?_; rintro e w5 ⟨x, ok, rfl, hx, q4, rfl⟩; rw [hr.out] at hx; replace hx := hide hx))
  refine bodyPost_ret (v := .tuple #[numV (sgn (bl s)).1 d d2 0 false, .bool true]) (by simp [results, numV, Tryz.results163, go_sem]) rfl ?_
  exact .mk _ _ _ _ _ _ rfl (ta_end (by rw [hd.out, hd2.out]; exact X.out) (by rw [hd.out, hd2.out, List.length_append]; exact L3.out) (by rw [hd.out, hd2.out]; exact digs_ab _)) (by repeat (first | (with_reducible exact Below.refl _ _) | (with_reducible refine Below.setCell ?_ (by simp) _) | (with_reducible refine below_drewN ?_ _) | (with_reducible refine bplus ?_ _)))
set_option maxRecDepth 100000 in
set_option maxHeartbeats 600000 in
theorem ta_A2b_exp (s : ByteArray) (w : World) (hs : s.size ≤ 1099511627776) (hdot : nx (p1 (bl s)) 0 = 46) (hB : pB (bl s) ≠ []) (hA : pA (bl s) ≠ []) (hE : p2 (bl s) ≠ []) :
    Calls Tryz.prog 163 #[.string s] w fun e w' => PostTA s w e w' := by
  obtain ⟨l0, l1, l2, l3, l4⟩ := p_len (bl s)
  have C1 := hide fun W => cutSign_any s W (by omega)
  have L0 := hide (show (p0 (bl s)).length ≤ 140737488355328 by rw [bl_len] at l0; omega)
  have L1 := hide (show (p1 (bl s)).length ≤ 140737488355328 by rw [bl_len] at l1; omega)
  have L3 := hide l3
  have DOT := hide (show (nx (p1 (bl s)) 0 == 46) = true by simpa using hdot)
  have GB := hide hB
  have GA := hide hA
  have X := hide (show dec (bl s) = (expo (p2 (bl s))).map fun E => (valOf (sgn (bl s)).1 (pA (bl s) ++ pB (bl s)) (E - (pB (bl s)).length), false) by rw [dec_dot hdot, if_neg hB]; exact decE_exp (fun h => hB (List.append_eq_nil_iff.1 h).2) hE)
  have ND := hide (dot_ne hdot)
  have LE := hide (show (p2 (bl s)).length ≤ 1099511627776 by rw [bl_len] at l4; omega)
  have G2 := hide hE
  clear hdot hB hA hE
  clear l0 l1 l2 l3 l4
  go_enter Tryz.func163, Tryz.ntmps163
  go_wp2_with (first
    | (go_at_call 188; refine (C1.out _).mono ?_; rintro e w1 ⟨b, rfl, hb, q1, rfl⟩; replace hb := hide hb; have hbs := hide (size_of hb.out L0.out))
    | (go_at_call_of 189 (Value.string b); refine (cutDigits_any b _ hbs.out).mono ?_; rintro e w2 ⟨d, r, rfl, hd, hr, q2, rfl⟩; rw [hb.out] at hd hr; replace hd := hide (show bl d = pA (bl s) from hd); replace hr := hide (show bl r = p1 (bl s) from hr); have hrs := hide (size_of hr.out L1.out); have hr1 : 1 ≤ r.size := pos_of hr.out ND.out; have n1 := full_of hd.out GA.out)
    | (go_at_call 179; refine (sh_strings_HasPrefix _ _ _).mono ?_; rintro e w3 ⟨rfl, rfl⟩; rw [hasPre, hr.out, DOT.out])
    | (go_at_call 189; refine (cutDigits_any (r.extract 1 r.size) _ (by rw [ext_size]; have := hrs.out; omega)).mono ?_; rintro e w4 ⟨d2, r2, rfl, hd2, hr2, q3, rfl⟩; rw [bl_drop, hr.out] at hd2 hr2; replace hd2 := hide (show bl d2 = pB (bl s) from hd2); replace hr2 := hide (show bl r2 = p2 (bl s) from hr2); have n2 := full_of hd2.out GB.out; have n3 := full_of hr2.out G2.out))
  refine (readEx_any r2 _ (size_of hr2.out LE.out) (pos_of hr2.out G2.out)).mono ?_
  rintro e w5 ⟨x, ok, rfl, hx, q4, hw5⟩
  rw [hr2.out] at hx
  replace hx := hide hx
  have B5 := hide (show Below w.heap.size w w5 by rw [hw5]; repeat (first | (with_reducible exact Below.refl _ _) | (with_reducible refine Below.setCell ?_ (by simp) _) | (with_reducible refine below_drewN ?_ _) | (with_reducible refine bplus ?_ _)))
  have c0 : w5.cell? ⟨w.heap.size + 1, 0, none⟩ = some (.bool (sgn (bl s)).1) := by rw [hw5]; simp [go_sem]
  have c1 : w5.cell? ⟨w.heap.size + 1, 1, none⟩ = some (.string d) := by rw [hw5]; simp [go_sem]
  have c2 : w5.cell? ⟨w.heap.size + 1, 2, none⟩ = some (.string d2) := by rw [hw5]; simp [go_sem]
  have c3 : w5.cell? ⟨w.heap.size + 1, 3, none⟩ = some (.int .i64 0) := by rw [hw5]; simp [go_sem]
  have c4 : w5.cell? ⟨w.heap.size + 1, 4, none⟩ = some (.bool false) := by rw [hw5]; simp [go_sem]; refine World.cell?_setCell_same _ _ _ (u := .bool false) ?_; simp [go_sem]
  have z5 : w.heap.size + 1 < w5.heap.size := World.block_lt_of_cell? _ _ c0
  have z4 : w.heap.size < w5.heap.size := by omega
  have m0 : w5.cell? ⟨w.heap.size, 0, none⟩ = some (.bool false) := by rw [hw5]; simp [go_sem]
  have f0 : w5.frozen? ⟨w.heap.size, 0, none⟩ = false := by rw [hw5]; simp [go_sem]
  have m1 : w5.cell? ⟨w.heap.size, 1, none⟩ = some (.string ⟨#[]⟩) := by rw [hw5]; simp [go_sem]
  have f1 : w5.frozen? ⟨w.heap.size, 1, none⟩ = false := by rw [hw5]; simp [go_sem]
  have m2 : w5.cell? ⟨w.heap.size, 2, none⟩ = some (.string ⟨#[]⟩) := by rw [hw5]; simp [go_sem]
  have f2 : w5.frozen? ⟨w.heap.size, 2, none⟩ = false := by rw [hw5]; simp [go_sem]
  have m3 : w5.cell? ⟨w.heap.size, 3, none⟩ = some (.int .i64 0) := by rw [hw5]; simp [go_sem]
  have f3 : w5.frozen? ⟨w.heap.size, 3, none⟩ = false := by rw [hw5]; simp [go_sem]
  have m4 : w5.cell? ⟨w.heap.size, 4, none⟩ = some (.bool false) := by rw [hw5]; simp [go_sem]
  have f4 : w5.frozen? ⟨w.heap.size, 4, none⟩ = false := by rw [hw5]; simp [go_sem]
  have g3 : w5.frozen? ⟨w.heap.size + 1, 3, none⟩ = false := by rw [hw5]; simp [go_sem]
  clear hw5
  go_wp2
  refine bodyPost_ret (v := .tuple #[numV (sgn (bl s)).1 d d2 x false, .bool ok]) (by simp [results, numV, Tryz.results163, go_sem, m0, m1, m2, m3, m4]) rfl ?_
  exact .mk _ _ _ _ _ _ rfl (ta_exp hx.out (by rw [hd.out, hd2.out]; exact X.out) (by rw [hd.out, hd2.out, List.length_append]; exact L3.out) (by rw [hd.out, hd2.out]; exact digs_ab _)) (by repeat (first | (with_reducible exact B5.out) | (with_reducible refine Below.setCell ?_ (by simp) _)))
set_option maxRecDepth 100000 in
set_option maxHeartbeats 600000 in
theorem ta_B1 (s : ByteArray) (w : World) (hs : s.size ≤ 1099511627776) (hdot : nx (p1 (bl s)) 0 ≠ 46) (hA : pA (bl s) = []) :
    Calls Tryz.prog 163 #[.string s] w fun e w' => PostTA s w e w' := by
  obtain ⟨l0, l1, l2, l3, l4⟩ := p_len (bl s)
  have C1 := hide fun W => cutSign_any s W (by omega)
  have L0 := hide (show (p0 (bl s)).length ≤ 140737488355328 by rw [bl_len] at l0; omega)
  have L1 := hide (show (p1 (bl s)).length ≤ 140737488355328 by rw [bl_len] at l1; omega)
  have L3 := hide l3
  have DOT := hide (show (nx (p1 (bl s)) 0 == 46) = false by simpa using hdot)
  have GA := hide hA
  have X := hide (show dec (bl s) = none by rw [dec_nodot hdot, hA]; exact decE_none)
  have G2 := L1
  have LE := L1
  clear hdot hA
  clear l0 l1 l2 l3 l4
  go_enter Tryz.func163, Tryz.ntmps163
  go_wp2_with (first
    | (go_at_call 188; refine (C1.out _).mono ?_; rintro e w1 ⟨b, rfl, hb, q1, rfl⟩; replace hb := hide hb; have hbs := hide (size_of hb.out L0.out))
    | (go_at_call_of 189 (Value.string b); refine (cutDigits_any b _ hbs.out).mono ?_; rintro e w2 ⟨d, r, rfl, hd, hr, q2, rfl⟩; rw [hb.out] at hd hr; replace hd := hide (show bl d = pA (bl s) from hd); replace hr := hide (show bl r = p1 (bl s) from hr); have hrs := hide (size_of hr.out L1.out); have n1 := emp_of hd.out GA.out)
    | (go_at_call 179; refine (sh_strings_HasPrefix _ _ _).mono ?_; rintro e w3 ⟨rfl, rfl⟩; rw [hasPre, hr.out, DOT.out])
    | (go_at_call 189; refine (cutDigits_any (r.extract 1 r.size) _ (by rw [ext_size]; have := hrs.out; omega)).mono ?_; rintro e w4 ⟨d2, r2, rfl, hd2, hr2, q3, rfl⟩; rw [bl_drop, hr.out] at hd2 hr2; replace hd2 := hide (show bl d2 = pB (bl s) from hd2); replace hr2 := hide (show bl r2 = p2 (bl s) from hr2); skip)
    | (go_at_call 190; refine (readEx_any r _ (size_of hr.out LE.out) (pos_of hr.out G2.out)).mono ?_; rintro e w5 ⟨x, ok, rfl, hx, q4, rfl⟩; rw [hr.out] at hx; replace hx := hide hx))
  refine bodyPost_ret (v := .tuple #[numV false ⟨#[]⟩ ⟨#[]⟩ 0 false, .bool false]) (by simp [results, numV, Tryz.results163, go_sem]) rfl ?_
  exact .mk _ _ _ _ _ _ rfl (.inl ⟨rfl, X.out⟩) (by repeat (first | (with_reducible exact Below.refl _ _) | (with_reducible refine Below.setCell ?_ (by simp) _) | (with_reducible refine below_drewN ?_ _) | (with_reducible refine bplus ?_ _)))
set_option maxRecDepth 100000 in
set_option maxHeartbeats 600000 in
theorem ta_B2_end (s : ByteArray) (w : World) (hs : s.size ≤ 1099511627776) (hdot : nx (p1 (bl s)) 0 ≠ 46) (hA : pA (bl s) ≠ []) (hE : p1 (bl s) = []) :
    Calls Tryz.prog 163 #[.string s] w fun e w' => PostTA s w e w' := by
  obtain ⟨l0, l1, l2, l3, l4⟩ := p_len (bl s)
  have C1 := hide fun W => cutSign_any s W (by omega)
  have L0 := hide (show (p0 (bl s)).length ≤ 140737488355328 by rw [bl_len] at l0; omega)
  have L1 := hide (show (p1 (bl s)).length ≤ 140737488355328 by rw [bl_len] at l1; omega)
  have L3 := hide l3
  have DOT := hide (show (nx (p1 (bl s)) 0 == 46) = false by simpa using hdot)
  have GA := hide hA
  have GE := hide hE
  have X := hide (show dec (bl s) = some (valOf (sgn (bl s)).1 (pA (bl s)) (-((0 : Nat) : Int)), true) by rw [dec_nodot hdot, hE]; exact decE_end hA)
  have LA := hide (show (pA (bl s)).length ≤ (bl s).length by omega)
  have G2 := L1
  have LE := L1
  clear hdot hA hE
  clear l0 l1 l2 l3 l4
  go_enter Tryz.func163, Tryz.ntmps163
  go_wp2_with (first
    | (go_at_call 188; refine (C1.out _).mono ?_; rintro e w1 ⟨b, rfl, hb, q1, rfl⟩; replace hb := hide hb; have hbs := hide (size_of hb.out L0.out))
    | (go_at_call_of 189 (Value.string b); refine (cutDigits_any b _ hbs.out).mono ?_; rintro e w2 ⟨d, r, rfl, hd, hr, q2, rfl⟩; rw [hb.out] at hd hr; replace hd := hide (show bl d = pA (bl s) from hd); replace hr := hide (show bl r = p1 (bl s) from hr); have hrs := hide (size_of hr.out L1.out); have n1 := full_of hd.out GA.out; have n3 := emp_of hr.out GE.out)
    | (go_at_call 179; refine (sh_strings_HasPrefix _ _ _).mono ?_; rintro e w3 ⟨rfl, rfl⟩; rw [hasPre, hr.out, DOT.out])
    | (go_at_call 189; refine (cutDigits_any (r.extract 1 r.size) _ (by rw [ext_size]; have := hrs.out; omega)).mono ?_; rintro e w4 ⟨d2, r2, rfl, hd2, hr2, q3, rfl⟩; rw [bl_drop, hr.out] at hd2 hr2; replace hd2 := hide (show bl d2 = pB (bl s) from hd2); replace hr2 := hide (show bl r2 = p2 (bl s) from hr2); skip)
    | (go_at_call 190; refine (readEx_any r _ (size_of hr.out LE.out) (pos_of hr.out G2.out)).mono ?_; rintro e w5 ⟨x, ok, rfl, hx, q4, rfl⟩; rw [hr.out] at hx; replace hx := hide hx))
  refine bodyPost_ret (v := .tuple #[numV (sgn (bl s)).1 d ⟨#[]⟩ 0 true, .bool true]) (by simp [results, numV, Tryz.results163, go_sem]) rfl ?_
  exact .mk _ _ _ _ _ _ rfl (ta_end (by rw [hd.out, show bl (⟨#[]⟩ : ByteArray) = [] from rfl, List.append_nil]; exact X.out) (by rw [hd.out, show bl (⟨#[]⟩ : ByteArray) = [] from rfl, List.append_nil]; exact LA.out) (by rw [hd.out, show bl (⟨#[]⟩ : ByteArray) = [] from rfl, List.append_nil]; exact tkd_digs _)) (by repeat (first | (with_reducible exact Below.refl _ _) | (with_reducible refine Below.setCell ?_ (by simp) _) | (with_reducible refine below_drewN ?_ _) | (with_reducible refine bplus ?_ _)))
set_option maxRecDepth 100000 in
set_option maxHeartbeats 600000 in
theorem ta_B2_exp (s : ByteArray) (w : World) (hs : s.size ≤ 1099511627776) (hdot : nx (p1 (bl s)) 0 ≠ 46) (hA : pA (bl s) ≠ []) (hE : p1 (bl s) ≠ []) :
    Calls Tryz.prog 163 #[.string s] w fun e w' => PostTA s w e w' := by
  obtain ⟨l0, l1, l2, l3, l4⟩ := p_len (bl s)
  have C1 := hide fun W => cutSign_any s W (by omega)
  have L0 := hide (show (p0 (bl s)).length ≤ 140737488355328 by rw [bl_len] at l0; omega)
  have L1 := hide (show (p1 (bl s)).length ≤ 140737488355328 by rw [bl_len] at l1; omega)
  have L3 := hide l3
  have DOT := hide (show (nx (p1 (bl s)) 0 == 46) = false by simpa using hdot)
  have GA := hide hA
  have X := hide (show dec (bl s) = (expo (p1 (bl s))).map fun E => (valOf (sgn (bl s)).1 (pA (bl s)) (E - (0 : Nat)), false) by rw [dec_nodot hdot]; exact decE_exp hA hE)
  have LA := hide (show (pA (bl s)).length ≤ (bl s).length by omega)
  have LE := hide (show (p1 (bl s)).length ≤ 1099511627776 by rw [bl_len] at l1; omega)
  have G2 := hide hE
  clear hdot hA hE
  clear l0 l1 l2 l3 l4
  go_enter Tryz.func163, Tryz.ntmps163
  go_wp2_with (first
    | (go_at_call 188; refine (C1.out _).mono ?_; rintro e w1 ⟨b, rfl, hb, q1, rfl⟩; replace hb := hide hb; have hbs := hide (size_of hb.out L0.out))
    | (go_at_call_of 189 (Value.string b); refine (cutDigits_any b _ hbs.out).mono ?_; rintro e w2 ⟨d, r, rfl, hd, hr, q2, rfl⟩; rw [hb.out] at hd hr; replace hd := hide (show bl d = pA (bl s) from hd); replace hr := hide (show bl r = p1 (bl s) from hr); have hrs := hide (size_of hr.out L1.out); have n1 := full_of hd.out GA.out; have n3 := full_of hr.out G2.out)
    | (go_at_call 179; refine (sh_strings_HasPrefix _ _ _).mono ?_; rintro e w3 ⟨rfl, rfl⟩; rw [hasPre, hr.out, DOT.out])
    | (go_at_call 189; refine (cutDigits_any (r.extract 1 r.size) _ (by rw [ext_size]; have := hrs.out; omega)).mono ?_; rintro e w4 ⟨d2, r2, rfl, hd2, hr2, q3, rfl⟩; rw [bl_drop, hr.out] at hd2 hr2; replace hd2 := hide (show bl d2 = pB (bl s) from hd2); replace hr2 := hide (show bl r2 = p2 (bl s) from hr2); skip)
    | (go_at_call 190; refine (readEx_any r _ (size_of hr.out LE.out) (pos_of hr.out G2.out)).mono ?_; rintro e w5 ⟨x, ok, rfl, hx, q4, rfl⟩; rw [hr.out] at hx; replace hx := hide hx))
  refine bodyPost_ret (v := .tuple #[numV (sgn (bl s)).1 d ⟨#[]⟩ x false, .bool ok]) (by simp [results, numV, Tryz.results163, go_sem]) rfl ?_
  exact .mk _ _ _ _ _ _ rfl (ta_exp hx.out (by rw [hd.out, show bl (⟨#[]⟩ : ByteArray) = [] from rfl, List.append_nil]; exact X.out) (by rw [hd.out, show bl (⟨#[]⟩ : ByteArray) = [] from rfl, List.append_nil]; exact LA.out) (by rw [hd.out, show bl (⟨#[]⟩ : ByteArray) = [] from rfl, List.append_nil]; exact tkd_digs _)) (by repeat (first | (with_reducible exact Below.refl _ _) | (with_reducible refine Below.setCell ?_ (by simp) _) | (with_reducible refine below_drewN ?_ _) | (with_reducible refine bplus ?_ _)))
theorem takeApart_any (s : ByteArray) (w : World) (hs : s.size ≤ 1099511627776) :
    Calls Tryz.prog 163 #[.string s] w fun e w' => PostTA s w e w' := by
  by_cases hdot : nx (p1 (bl s)) 0 = 46
  · by_cases hB : pB (bl s) = []
    · exact ta_A1 s w hs hdot hB
    · by_cases hA : pA (bl s) = []
      · by_cases hE : p2 (bl s) = []
        · exact ta_A2a_end s w hs hdot hB hA hE
        · exact ta_A2a_exp s w hs hdot hB hA hE
      · by_cases hE : p2 (bl s) = []
        · exact ta_A2b_end s w hs hdot hB hA hE
        · exact ta_A2b_exp s w hs hdot hB hA hE
  · by_cases hA : pA (bl s) = []
    · exact ta_B1 s w hs hdot hA
    · by_cases hE : p1 (bl s) = []
      · exact ta_B2_end s w hs hdot hA hE
      · exact ta_B2_exp s w hs hdot hA hE
end Go.Proofs.YtfadjpebniebaaaGreatDoor
