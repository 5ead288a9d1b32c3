/-
  Any token, written: by the reference.
  Any token, written: by the reference, whole.
-/
import Derived.Test.YtfadjpebniebaaaGreatDoorNf
set_option linter.unusedVariables false
set_option linter.unusedSimpArgs false
namespace Go.Proofs.YtfadjpebniebaaaGreatDoor
open Go.RowKit Go.Shelf

def PostR (t : TS) (w : World) (e : Ending) (w' : World) : Prop := ∃ u c, e = .returned (.tuple #[.string u, .int .i64 c]) ∧ Hid (Sp2 wtA [t] u c) ∧ Below w.heap.size w w'
theorem fin4 {t : TS} (hm : t.may = true) {u : ByteArray} (hu : bl u = wtA t) : Sp2 wtA [t] u 0 := .inl ⟨fun x hx => by rw [List.mem_singleton.1 hx]; exact hm, rfl, by rw [hu]; exact (spK_one wtA t).symm⟩
theorem wt_fixed {k : Int} {s : ByteArray} (hk : ¬ (k = 1 ∨ k = 2 ∨ k = 3 ∨ k = 4 ∨ k = 5 ∨ k = 7 ∨ k = 9 ∨ k = 10 ∨ k = 11 ∨ k = 12)) : wtA ⟨k, s, 0, 0, false, false⟩ = bl (fx k) := by
  unfold wtA
  simp only
  rw [if_neg (by omega), if_neg (by omega), if_neg (by omega), if_neg (by omega), if_neg (by omega), if_neg (by omega), if_neg (by omega), if_neg (by omega), if_neg (by omega), if_neg (by omega)]
set_option maxRecDepth 100000 in
set_option maxHeartbeats 1000000 in
theorem token4_no (t : TS) (w : World) (ho : t.Ok) (hm : t.may = false) (hT : Tabs w) :
    Calls Tryz.prog 9 #[t.v] w fun e w' => PostR t w e w' := by
  obtain ⟨k, s, n, d, i, h⟩ := t
  obtain ⟨k1, k2, hs, n1, n2, d1, d2⟩ := ho
  simp only at k1 k2 hs n1 n2 d1 d2
  have B0 := hide (bplus (Below.refl w.heap.size w) (.cells #[.int .i64 k, .string s, .int .i64 n, .int .i64 d, .bool i, .bool h] 25))
  have CM := hide (mayR_any k s n d i h (w.alloc (.cells #[.int .i64 k, .string s, .int .i64 n, .int .i64 d, .bool i, .bool h] 25)) hs n1 n2 d1 d2 (hT.below B0.out))
  have E := hide (show mayT k (bl s) n d i h = false from hm)
  have FIN := hide (show Sp2 wtA [⟨k, s, n, d, i, h⟩] ⟨#[]⟩ 1 from .inr ⟨⟨_, by simp, hm⟩, rfl, rfl⟩)
  clear hT hm
  unfold TS.v tokV
  unfold tokV at CM
  go_enter Tryz.func9, Tryz.ntmps9
  go_wp2_with (go_at_call 18; refine CM.out.mono ?_; rintro e w1 ⟨rfl, B1⟩; rw [E.out]; replace B1 := hide (show Below w.heap.size w w1 from bto B0.out B1))
  go_ret2
  exact ⟨_, _, rfl, FIN.out, B1.out⟩
set_option maxRecDepth 100000 in
set_option maxHeartbeats 1000000 in
theorem token4_1 (s : ByteArray) (w : World) (hs : s.size ≤ 1099511627776) (hT : Tabs w) (hm : (⟨1, s, 0, 0, false, false⟩ : TS).may = true) :
    Calls Tryz.prog 9 #[.agg #[.int .i64 1, .string s, .int .i64 0, .int .i64 0, .bool false, .bool false]] w fun e w' => PostR ⟨1, s, 0, 0, false, false⟩ w e w' := by
  have TX := hide (Tok6.box w 1 s 0 0 false false 25)
  have B0 := hide (bplus (Below.refl w.heap.size w) (.cells #[.int .i64 1, .string s, .int .i64 0, .int .i64 0, .bool false, .bool false] 25))
  have CM := hide (mayR_any 1 s 0 0 false false (w.alloc (.cells #[.int .i64 1, .string s, .int .i64 0, .int .i64 0, .bool false, .bool false] 25)) hs (by omega) (by omega) (by omega) (by omega) (hT.below B0.out))
  have W1 := hide (fun (W : World) (h : Below w.heap.size w W) => hT.below h)
  have E := hide (show mayT 1 (bl s) 0 0 false false = true from hm)
  have FIN := hide (fun (u : ByteArray) (hu : bl u = wtA ⟨1, s, 0, 0, false, false⟩) => fin4 hm hu)
  have HCH := hide (show chB (bl s) = true by have hm2 : mayT 1 (bl s) 0 0 false false = true := hm; rw [may_name (.inl rfl)] at hm2; simp only [Bool.and_eq_true] at hm2; exact hm2.2.1)
  have CI := hide (fun (W : World) (h : Below w.heap.size w W) => ident4_any s W hs HCH.out (W1.out W h))
  have LI := hide (show ∀ u : ByteArray, bl u = wId (bl s) → u.size ≤ 6 * s.size + 2 from fun u hu => by rw [← bl_len, hu]; exact wId_len s)
  clear hT hm
  unfold tokV at CM
  go_enter Tryz.func9, Tryz.ntmps9
  go_wp2_with (first
    | (go_at_call 18; refine CM.out.mono ?_; rintro e w1 ⟨rfl, B1⟩; rw [E.out]; have T1 := hide (TX.out.below B1); obtain ⟨z1, q0, q1, q2, q3, q4, q5⟩ := T1.out; replace B1 := hide (show Below w.heap.size w w1 from bto B0.out B1))
    | (go_at_call 20; refine (CI.out _ B1.out).mono ?_; rintro e w2 ⟨u, rfl, hu, B2⟩; have hz := LI.out u hu; replace hu := hide hu; replace B1 := hide (bto B1.out B2)))
  go_ret2
  exact ⟨_, 0, rfl, FIN.out _ (by rw [hu.out]; rfl), B1.out⟩
set_option maxRecDepth 100000 in
set_option maxHeartbeats 1000000 in
theorem token4_2 (s : ByteArray) (w : World) (hs : s.size ≤ 1099511627776) (hT : Tabs w) (hm : (⟨2, s, 0, 0, false, false⟩ : TS).may = true) :
    Calls Tryz.prog 9 #[.agg #[.int .i64 2, .string s, .int .i64 0, .int .i64 0, .bool false, .bool false]] w fun e w' => PostR ⟨2, s, 0, 0, false, false⟩ w e w' := by
  have TX := hide (Tok6.box w 2 s 0 0 false false 25)
  have B0 := hide (bplus (Below.refl w.heap.size w) (.cells #[.int .i64 2, .string s, .int .i64 0, .int .i64 0, .bool false, .bool false] 25))
  have CM := hide (mayR_any 2 s 0 0 false false (w.alloc (.cells #[.int .i64 2, .string s, .int .i64 0, .int .i64 0, .bool false, .bool false] 25)) hs (by omega) (by omega) (by omega) (by omega) (hT.below B0.out))
  have W1 := hide (fun (W : World) (h : Below w.heap.size w W) => hT.below h)
  have E := hide (show mayT 2 (bl s) 0 0 false false = true from hm)
  have FIN := hide (fun (u : ByteArray) (hu : bl u = wtA ⟨2, s, 0, 0, false, false⟩) => fin4 hm hu)
  have HCH := hide (show chB (bl s) = true by have hm2 : mayT 2 (bl s) 0 0 false false = true := hm; rw [may_name (.inr (.inl rfl))] at hm2; simp only [Bool.and_eq_true] at hm2; exact hm2.2.1)
  have CI := hide (fun (W : World) (h : Below w.heap.size w W) => ident4_any s W hs HCH.out (W1.out W h))
  have LI := hide (show ∀ u : ByteArray, bl u = wId (bl s) → u.size ≤ 6 * s.size + 2 from fun u hu => by rw [← bl_len, hu]; exact wId_len s)
  clear hT hm
  unfold tokV at CM
  go_enter Tryz.func9, Tryz.ntmps9
  go_wp2_with (first
    | (go_at_call 18; refine CM.out.mono ?_; rintro e w1 ⟨rfl, B1⟩; rw [E.out]; have T1 := hide (TX.out.below B1); obtain ⟨z1, q0, q1, q2, q3, q4, q5⟩ := T1.out; replace B1 := hide (show Below w.heap.size w w1 from bto B0.out B1))
    | (go_at_call 20; refine (CI.out _ B1.out).mono ?_; rintro e w2 ⟨u, rfl, hu, B2⟩; have hz := LI.out u hu; replace hu := hide hu; replace B1 := hide (bto B1.out B2)))
  go_ret2
  exact ⟨_, 0, rfl, FIN.out _ (by rw [bl_app, hu.out]; rfl), B1.out⟩
set_option maxRecDepth 100000 in
set_option maxHeartbeats 1000000 in
theorem token4_3 (s : ByteArray) (w : World) (hs : s.size ≤ 1099511627776) (hT : Tabs w) (hm : (⟨3, s, 0, 0, false, false⟩ : TS).may = true) :
    Calls Tryz.prog 9 #[.agg #[.int .i64 3, .string s, .int .i64 0, .int .i64 0, .bool false, .bool false]] w fun e w' => PostR ⟨3, s, 0, 0, false, false⟩ w e w' := by
  have TX := hide (Tok6.box w 3 s 0 0 false false 25)
  have B0 := hide (bplus (Below.refl w.heap.size w) (.cells #[.int .i64 3, .string s, .int .i64 0, .int .i64 0, .bool false, .bool false] 25))
  have CM := hide (mayR_any 3 s 0 0 false false (w.alloc (.cells #[.int .i64 3, .string s, .int .i64 0, .int .i64 0, .bool false, .bool false] 25)) hs (by omega) (by omega) (by omega) (by omega) (hT.below B0.out))
  have W1 := hide (fun (W : World) (h : Below w.heap.size w W) => hT.below h)
  have E := hide (show mayT 3 (bl s) 0 0 false false = true from hm)
  have FIN := hide (fun (u : ByteArray) (hu : bl u = wtA ⟨3, s, 0, 0, false, false⟩) => fin4 hm hu)
  have HCH := hide (show chB (bl s) = true by have hm2 : mayT 3 (bl s) 0 0 false false = true := hm; rw [may_name (.inr (.inr rfl))] at hm2; simp only [Bool.and_eq_true] at hm2; exact hm2.2.1)
  have CI := hide (fun (W : World) (h : Below w.heap.size w W) => ident4_any s W hs HCH.out (W1.out W h))
  have LI := hide (show ∀ u : ByteArray, bl u = wId (bl s) → u.size ≤ 6 * s.size + 2 from fun u hu => by rw [← bl_len, hu]; exact wId_len s)
  clear hT hm
  unfold tokV at CM
  go_enter Tryz.func9, Tryz.ntmps9
  go_wp2_with (first
    | (go_at_call 18; refine CM.out.mono ?_; rintro e w1 ⟨rfl, B1⟩; rw [E.out]; have T1 := hide (TX.out.below B1); obtain ⟨z1, q0, q1, q2, q3, q4, q5⟩ := T1.out; replace B1 := hide (show Below w.heap.size w w1 from bto B0.out B1))
    | (go_at_call 20; refine (CI.out _ B1.out).mono ?_; rintro e w2 ⟨u, rfl, hu, B2⟩; have hz := LI.out u hu; replace hu := hide hu; replace B1 := hide (bto B1.out B2)))
  go_ret2
  exact ⟨_, 0, rfl, FIN.out _ (by rw [bl_app, hu.out]; rfl), B1.out⟩
set_option maxRecDepth 100000 in
set_option maxHeartbeats 1000000 in
theorem token4_4t (s : ByteArray) (w : World) (hs : s.size ≤ 1099511627776) (hT : Tabs w) (hm : (⟨4, s, 0, 0, false, true⟩ : TS).may = true) :
    Calls Tryz.prog 9 #[.agg #[.int .i64 4, .string s, .int .i64 0, .int .i64 0, .bool false, .bool true]] w fun e w' => PostR ⟨4, s, 0, 0, false, true⟩ w e w' := by
  have TX := hide (Tok6.box w 4 s 0 0 false true 25)
  have B0 := hide (bplus (Below.refl w.heap.size w) (.cells #[.int .i64 4, .string s, .int .i64 0, .int .i64 0, .bool false, .bool true] 25))
  have CM := hide (mayR_any 4 s 0 0 false true (w.alloc (.cells #[.int .i64 4, .string s, .int .i64 0, .int .i64 0, .bool false, .bool true] 25)) hs (by omega) (by omega) (by omega) (by omega) (hT.below B0.out))
  have W1 := hide (fun (W : World) (h : Below w.heap.size w W) => hT.below h)
  have E := hide (show mayT 4 (bl s) 0 0 false true = true from hm)
  have FIN := hide (fun (u : ByteArray) (hu : bl u = wtA ⟨4, s, 0, 0, false, true⟩) => fin4 hm hu)
  have HCH := hide (show chB (bl s) = true by have hm2 : mayT 4 (bl s) 0 0 false true = true := hm; rw [may_hash] at hm2; simp only [Bool.and_eq_true] at hm2; exact hm2.2.1.1)
  have CI := hide (fun (W : World) (h : Below w.heap.size w W) => ident4_any s W hs HCH.out (W1.out W h))
  have LI := hide (show ∀ u : ByteArray, bl u = wId (bl s) → u.size ≤ 6 * s.size + 2 from fun u hu => by rw [← bl_len, hu]; exact wId_len s)
  clear hT hm
  unfold tokV at CM
  go_enter Tryz.func9, Tryz.ntmps9
  go_wp2_with (first
    | (go_at_call 18; refine CM.out.mono ?_; rintro e w1 ⟨rfl, B1⟩; rw [E.out]; have T1 := hide (TX.out.below B1); obtain ⟨z1, q0, q1, q2, q3, q4, q5⟩ := T1.out; replace B1 := hide (show Below w.heap.size w w1 from bto B0.out B1))
    | (go_at_call 20; refine (CI.out _ B1.out).mono ?_; rintro e w2 ⟨u, rfl, hu, B2⟩; have hz := LI.out u hu; replace hu := hide hu; replace B1 := hide (bto B1.out B2)))
  go_ret2
  exact ⟨_, 0, rfl, FIN.out _ (by rw [bl_app, hu.out]; rfl), B1.out⟩
set_option maxRecDepth 100000 in
set_option maxHeartbeats 1000000 in
theorem token4_4f (s : ByteArray) (w : World) (hs : s.size ≤ 1099511627776) (hT : Tabs w) (hm : (⟨4, s, 0, 0, false, false⟩ : TS).may = true) :
    Calls Tryz.prog 9 #[.agg #[.int .i64 4, .string s, .int .i64 0, .int .i64 0, .bool false, .bool false]] w fun e w' => PostR ⟨4, s, 0, 0, false, false⟩ w e w' := by
  have TX := hide (Tok6.box w 4 s 0 0 false false 25)
  have B0 := hide (bplus (Below.refl w.heap.size w) (.cells #[.int .i64 4, .string s, .int .i64 0, .int .i64 0, .bool false, .bool false] 25))
  have CM := hide (mayR_any 4 s 0 0 false false (w.alloc (.cells #[.int .i64 4, .string s, .int .i64 0, .int .i64 0, .bool false, .bool false] 25)) hs (by omega) (by omega) (by omega) (by omega) (hT.below B0.out))
  have W1 := hide (fun (W : World) (h : Below w.heap.size w W) => hT.below h)
  have E := hide (show mayT 4 (bl s) 0 0 false false = true from hm)
  have FIN := hide (fun (u : ByteArray) (hu : bl u = wtA ⟨4, s, 0, 0, false, false⟩) => fin4 hm hu)
  have HCH := hide (show chB (bl s) = true by have hm2 : mayT 4 (bl s) 0 0 false false = true := hm; rw [may_hash] at hm2; simp only [Bool.and_eq_true] at hm2; exact hm2.2.1.1)
  have CH := hide (fun (W : World) => charsR_any s W hs)
  have IC := hide (raw_isC4 _ (bl s) (Nat.le_refl _) (bl_by s) (ch_whole HCH.out))
  have LN := hide (show (raw (bl s)).length ≤ 1099511627776 by have := raw_le (bl s); rw [bl_len] at this; omega)
  have LI := hide (show ∀ u : ByteArray, bl u = wNm (raw (bl s)) → u.size ≤ 6 * 1099511627776 from fun u hu => by rw [← bl_len, hu]; have := wNm_len (raw (bl s)); have := LN.out; omega)
  clear hT hm
  unfold tokV at CM
  go_enter Tryz.func9, Tryz.ntmps9
  go_wp2_with (first
    | (go_at_call 18; refine CM.out.mono ?_; rintro e w1 ⟨rfl, B1⟩; rw [E.out]; have T1 := hide (TX.out.below B1); obtain ⟨z1, q0, q1, q2, q3, q4, q5⟩ := T1.out; replace B1 := hide (show Below w.heap.size w w1 from bto B0.out B1))
    | (go_at_call 21; refine (CH.out _).mono ?_; rintro e w2 ⟨a, n, c, rfl, hN, B2⟩; replace hN := hide (hN HCH.out); replace B1 := hide (bto B1.out B2))
    | (go_at_call 22; refine (letters4_any (raw (bl s)) _ _ hN.out IC.out LN.out (W1.out _ B1.out)).mono ?_; rintro e w3 ⟨u, rfl, hu, B3⟩; have hz := LI.out u hu; replace hu := hide hu; replace B1 := hide (bto B1.out B3)))
  go_ret2
  exact ⟨_, 0, rfl, FIN.out _ (by rw [bl_app, hu.out]; rfl), B1.out⟩
set_option maxRecDepth 100000 in
set_option maxHeartbeats 1000000 in
theorem token4_5 (s : ByteArray) (w : World) (hs : s.size ≤ 1099511627776) (hT : Tabs w) (hm : (⟨5, s, 0, 0, false, false⟩ : TS).may = true) :
    Calls Tryz.prog 9 #[.agg #[.int .i64 5, .string s, .int .i64 0, .int .i64 0, .bool false, .bool false]] w fun e w' => PostR ⟨5, s, 0, 0, false, false⟩ w e w' := by
  have TX := hide (Tok6.box w 5 s 0 0 false false 25)
  have B0 := hide (bplus (Below.refl w.heap.size w) (.cells #[.int .i64 5, .string s, .int .i64 0, .int .i64 0, .bool false, .bool false] 25))
  have CM := hide (mayR_any 5 s 0 0 false false (w.alloc (.cells #[.int .i64 5, .string s, .int .i64 0, .int .i64 0, .bool false, .bool false] 25)) hs (by omega) (by omega) (by omega) (by omega) (hT.below B0.out))
  have W1 := hide (fun (W : World) (h : Below w.heap.size w W) => hT.below h)
  have E := hide (show mayT 5 (bl s) 0 0 false false = true from hm)
  have FIN := hide (fun (u : ByteArray) (hu : bl u = wtA ⟨5, s, 0, 0, false, false⟩) => fin4 hm hu)
  have HCH := hide (show chB (bl s) = true by have hm2 : mayT 5 (bl s) 0 0 false false = true := hm; rw [may_text (.inl rfl)] at hm2; simp only [Bool.and_eq_true] at hm2; exact hm2.2)
  clear hT hm
  unfold tokV at CM
  go_enter Tryz.func9, Tryz.ntmps9
  go_wp2_with (first
    | (go_at_call 18; refine CM.out.mono ?_; rintro e w1 ⟨rfl, B1⟩; rw [E.out]; have T1 := hide (TX.out.below B1); obtain ⟨z1, q0, q1, q2, q3, q4, q5⟩ := T1.out; replace B1 := hide (show Below w.heap.size w w1 from bto B0.out B1))
    | (go_at_call 23; refine (quoted4_any s _ hs HCH.out (W1.out _ B1.out)).mono ?_; rintro e w2 ⟨u, rfl, hu, B2⟩; replace hu := hide hu; replace B1 := hide (bto B1.out B2)))
  go_ret2
  exact ⟨_, 0, rfl, FIN.out _ (by rw [hu.out]; rfl), B1.out⟩
set_option maxRecDepth 100000 in
set_option maxHeartbeats 1000000 in
theorem token4_7 (s : ByteArray) (w : World) (hs : s.size ≤ 1099511627776) (hT : Tabs w) (hm : (⟨7, s, 0, 0, false, false⟩ : TS).may = true) :
    Calls Tryz.prog 9 #[.agg #[.int .i64 7, .string s, .int .i64 0, .int .i64 0, .bool false, .bool false]] w fun e w' => PostR ⟨7, s, 0, 0, false, false⟩ w e w' := by
  have TX := hide (Tok6.box w 7 s 0 0 false false 25)
  have B0 := hide (bplus (Below.refl w.heap.size w) (.cells #[.int .i64 7, .string s, .int .i64 0, .int .i64 0, .bool false, .bool false] 25))
  have CM := hide (mayR_any 7 s 0 0 false false (w.alloc (.cells #[.int .i64 7, .string s, .int .i64 0, .int .i64 0, .bool false, .bool false] 25)) hs (by omega) (by omega) (by omega) (by omega) (hT.below B0.out))
  have W1 := hide (fun (W : World) (h : Below w.heap.size w W) => hT.below h)
  have E := hide (show mayT 7 (bl s) 0 0 false false = true from hm)
  have FIN := hide (fun (u : ByteArray) (hu : bl u = wtA ⟨7, s, 0, 0, false, false⟩) => fin4 hm hu)
  have HCH := hide (show chB (bl s) = true by have hm2 : mayT 7 (bl s) 0 0 false false = true := hm; rw [may_text (.inr rfl)] at hm2; simp only [Bool.and_eq_true] at hm2; exact hm2.2)
  clear hT hm
  unfold tokV at CM
  go_enter Tryz.func9, Tryz.ntmps9
  go_wp2_with (first
    | (go_at_call 18; refine CM.out.mono ?_; rintro e w1 ⟨rfl, B1⟩; rw [E.out]; have T1 := hide (TX.out.below B1); obtain ⟨z1, q0, q1, q2, q3, q4, q5⟩ := T1.out; replace B1 := hide (show Below w.heap.size w w1 from bto B0.out B1))
    | (go_at_call 24; refine (url4_any s _ hs HCH.out (W1.out _ B1.out)).mono ?_; rintro e w2 ⟨u, rfl, hu, B2⟩; replace hu := hide hu; replace B1 := hide (bto B1.out B2)))
  go_ret2
  exact ⟨_, 0, rfl, FIN.out _ (by rw [hu.out]; rfl), B1.out⟩
set_option maxRecDepth 100000 in
set_option maxHeartbeats 1000000 in
theorem token4_9 (s : ByteArray) (w : World) (hs : s.size ≤ 1099511627776) (hT : Tabs w) (hm : (⟨9, s, 0, 0, false, false⟩ : TS).may = true) :
    Calls Tryz.prog 9 #[.agg #[.int .i64 9, .string s, .int .i64 0, .int .i64 0, .bool false, .bool false]] w fun e w' => PostR ⟨9, s, 0, 0, false, false⟩ w e w' := by
  have TX := hide (Tok6.box w 9 s 0 0 false false 25)
  have B0 := hide (bplus (Below.refl w.heap.size w) (.cells #[.int .i64 9, .string s, .int .i64 0, .int .i64 0, .bool false, .bool false] 25))
  have CM := hide (mayR_any 9 s 0 0 false false (w.alloc (.cells #[.int .i64 9, .string s, .int .i64 0, .int .i64 0, .bool false, .bool false] 25)) hs (by omega) (by omega) (by omega) (by omega) (hT.below B0.out))
  have W1 := hide (fun (W : World) (h : Below w.heap.size w W) => hT.below h)
  have E := hide (show mayT 9 (bl s) 0 0 false false = true from hm)
  have FIN := hide (fun (u : ByteArray) (hu : bl u = wtA ⟨9, s, 0, 0, false, false⟩) => fin4 hm hu)
  clear hT hm
  unfold tokV at CM
  by_cases h : bl s = [92]
  · obtain rfl : s = ⟨#[92]⟩ := bl_inj h
    clear h
    go_enter Tryz.func9, Tryz.ntmps9
    go_wp2_with (first
      | (go_at_call 18; refine CM.out.mono ?_; rintro e w1 ⟨rfl, B1⟩; rw [E.out]; have T1 := hide (TX.out.below B1); obtain ⟨z1, q0, q1, q2, q3, q4, q5⟩ := T1.out; replace B1 := hide (show Below w.heap.size w w1 from bto B0.out B1)))
    go_ret2
    exact ⟨_, 0, rfl, FIN.out _ (by decide), B1.out⟩
  · have HNE := hide h
    have hne2 : (s.toList == [92]) = false := by
      rw [beq_eq_false_iff_ne]
      intro g
      rw [Lib.toList_data] at g
      exact h (by unfold bl; rw [g]; rfl)
    clear h
    go_enter Tryz.func9, Tryz.ntmps9
    go_wp2_with (first
      | (go_at_call 18; refine CM.out.mono ?_; rintro e w1 ⟨rfl, B1⟩; rw [E.out]; have T1 := hide (TX.out.below B1); obtain ⟨z1, q0, q1, q2, q3, q4, q5⟩ := T1.out; replace B1 := hide (show Below w.heap.size w w1 from bto B0.out B1)))
    go_ret2
    exact ⟨_, 0, rfl, FIN.out _ (by show _ = dlmT (bl s); unfold dlmT; rw [if_neg HNE.out]), B1.out⟩
set_option maxRecDepth 100000 in
set_option maxHeartbeats 1000000 in
theorem token4_10 (s : ByteArray) (n d : Int) (i : Bool) (n1 : -9223372036854775808 ≤ n) (n2 : n ≤ 9223372036854775807) (d1 : -9223372036854775808 ≤ d) (d2 : d ≤ 9223372036854775807) (w : World) (hs : s.size ≤ 1099511627776) (hT : Tabs w) (hm : (⟨10, s, n, d, i, false⟩ : TS).may = true) :
    Calls Tryz.prog 9 #[.agg #[.int .i64 10, .string s, .int .i64 n, .int .i64 d, .bool i, .bool false]] w fun e w' => PostR ⟨10, s, n, d, i, false⟩ w e w' := by
  have TX := hide (Tok6.box w 10 s n d i false 25)
  have B0 := hide (bplus (Below.refl w.heap.size w) (.cells #[.int .i64 10, .string s, .int .i64 n, .int .i64 d, .bool i, .bool false] 25))
  have CM := hide (mayR_any 10 s n d i false (w.alloc (.cells #[.int .i64 10, .string s, .int .i64 n, .int .i64 d, .bool i, .bool false] 25)) hs n1 n2 d1 d2 (hT.below B0.out))
  have W1 := hide (fun (W : World) (h : Below w.heap.size w W) => hT.below h)
  have E := hide (show mayT 10 (bl s) n d i false = true from hm)
  have FIN := hide (fun (u : ByteArray) (hu : bl u = wtA ⟨10, s, n, d, i, false⟩) => fin4 hm hu)
  obtain ⟨tt, hp⟩ : ∃ tt, plT n d i = some tt := by
    have hm2 : mayT 10 (bl s) n d i false = true := hm
    rw [may_num (.inl rfl)] at hm2; simp only [Bool.and_eq_true] at hm2
    exact som hm2.2
  have PT := hide (show ∀ u x, PlR n d i u x → bl u = tt from fun u x h => by unfold PlR at h; rw [hp] at h; exact h.2)
  have NW := hide (show numW ⟨10, s, n, d, i, false⟩ = tt by show (plT n d i).getD [] = tt; rw [hp]; rfl)
  have SL := hide (show ∀ u : ByteArray, bl u = tt → u.size ≤ 100 from fun u h => by rw [← bl_len, h]; exact plT_len n1 n2 d2 hp)
  clear hp
  clear hT hm
  unfold tokV at CM
  go_enter Tryz.func9, Tryz.ntmps9
  go_wp2_with (first
    | (go_at_call 18; refine CM.out.mono ?_; rintro e w1 ⟨rfl, B1⟩; rw [E.out]; have T1 := hide (TX.out.below B1); obtain ⟨z1, q0, q1, q2, q3, q4, q5⟩ := T1.out; replace B1 := hide (show Below w.heap.size w w1 from bto B0.out B1))
    | (go_at_call 19; refine (plainR_any n d i _ n1 n2 d1 d2 (W1.out _ B1.out)).mono ?_; rintro e w2 ⟨u, x, rfl, H, B2⟩; have hu := PT.out u x H; have hz := SL.out u hu; replace hu := hide hu; clear H q0 q1 q2 q3 q4 q5 z1; obtain ⟨z1, q0, q1, q2, q3, q4, q5⟩ := T1.out.below B2; replace B1 := hide (bto B1.out B2)))
  go_ret2
  exact ⟨_, 0, rfl, FIN.out _ (by rw [hu.out]; exact NW.out.symm), B1.out⟩
set_option maxRecDepth 100000 in
set_option maxHeartbeats 1000000 in
theorem token4_11 (s : ByteArray) (n d : Int) (i : Bool) (n1 : -9223372036854775808 ≤ n) (n2 : n ≤ 9223372036854775807) (d1 : -9223372036854775808 ≤ d) (d2 : d ≤ 9223372036854775807) (w : World) (hs : s.size ≤ 1099511627776) (hT : Tabs w) (hm : (⟨11, s, n, d, i, false⟩ : TS).may = true) :
    Calls Tryz.prog 9 #[.agg #[.int .i64 11, .string s, .int .i64 n, .int .i64 d, .bool i, .bool false]] w fun e w' => PostR ⟨11, s, n, d, i, false⟩ w e w' := by
  have TX := hide (Tok6.box w 11 s n d i false 25)
  have B0 := hide (bplus (Below.refl w.heap.size w) (.cells #[.int .i64 11, .string s, .int .i64 n, .int .i64 d, .bool i, .bool false] 25))
  have CM := hide (mayR_any 11 s n d i false (w.alloc (.cells #[.int .i64 11, .string s, .int .i64 n, .int .i64 d, .bool i, .bool false] 25)) hs n1 n2 d1 d2 (hT.below B0.out))
  have W1 := hide (fun (W : World) (h : Below w.heap.size w W) => hT.below h)
  have E := hide (show mayT 11 (bl s) n d i false = true from hm)
  have FIN := hide (fun (u : ByteArray) (hu : bl u = wtA ⟨11, s, n, d, i, false⟩) => fin4 hm hu)
  obtain ⟨tt, hp⟩ : ∃ tt, plT n d i = some tt := by
    have hm2 : mayT 11 (bl s) n d i false = true := hm
    rw [may_num (.inr rfl)] at hm2; simp only [Bool.and_eq_true] at hm2
    exact som hm2.2
  have PT := hide (show ∀ u x, PlR n d i u x → bl u = tt from fun u x h => by unfold PlR at h; rw [hp] at h; exact h.2)
  have NW := hide (show numW ⟨11, s, n, d, i, false⟩ = tt by show (plT n d i).getD [] = tt; rw [hp]; rfl)
  have SL := hide (show ∀ u : ByteArray, bl u = tt → u.size ≤ 100 from fun u h => by rw [← bl_len, h]; exact plT_len n1 n2 d2 hp)
  clear hp
  clear hT hm
  unfold tokV at CM
  go_enter Tryz.func9, Tryz.ntmps9
  go_wp2_with (first
    | (go_at_call 18; refine CM.out.mono ?_; rintro e w1 ⟨rfl, B1⟩; rw [E.out]; have T1 := hide (TX.out.below B1); obtain ⟨z1, q0, q1, q2, q3, q4, q5⟩ := T1.out; replace B1 := hide (show Below w.heap.size w w1 from bto B0.out B1))
    | (go_at_call 19; refine (plainR_any n d i _ n1 n2 d1 d2 (W1.out _ B1.out)).mono ?_; rintro e w2 ⟨u, x, rfl, H, B2⟩; have hu := PT.out u x H; have hz := SL.out u hu; replace hu := hide hu; clear H q0 q1 q2 q3 q4 q5 z1; obtain ⟨z1, q0, q1, q2, q3, q4, q5⟩ := T1.out.below B2; replace B1 := hide (bto B1.out B2)))
  go_ret2
  exact ⟨_, 0, rfl, FIN.out _ (by rw [bl_app, hu.out, ← NW.out]; rfl), B1.out⟩
set_option maxRecDepth 100000 in
set_option maxHeartbeats 1000000 in
theorem token4_12 (s : ByteArray) (n d : Int) (i : Bool) (n1 : -9223372036854775808 ≤ n) (n2 : n ≤ 9223372036854775807) (d1 : -9223372036854775808 ≤ d) (d2 : d ≤ 9223372036854775807) (w : World) (hs : s.size ≤ 1099511627776) (hT : Tabs w) (hm : (⟨12, s, n, d, i, false⟩ : TS).may = true) :
    Calls Tryz.prog 9 #[.agg #[.int .i64 12, .string s, .int .i64 n, .int .i64 d, .bool i, .bool false]] w fun e w' => PostR ⟨12, s, n, d, i, false⟩ w e w' := by
  have TX := hide (Tok6.box w 12 s n d i false 25)
  have B0 := hide (bplus (Below.refl w.heap.size w) (.cells #[.int .i64 12, .string s, .int .i64 n, .int .i64 d, .bool i, .bool false] 25))
  have CM := hide (mayR_any 12 s n d i false (w.alloc (.cells #[.int .i64 12, .string s, .int .i64 n, .int .i64 d, .bool i, .bool false] 25)) hs n1 n2 d1 d2 (hT.below B0.out))
  have W1 := hide (fun (W : World) (h : Below w.heap.size w W) => hT.below h)
  have E := hide (show mayT 12 (bl s) n d i false = true from hm)
  have FIN := hide (fun (u : ByteArray) (hu : bl u = wtA ⟨12, s, n, d, i, false⟩) => fin4 hm hu)
  obtain ⟨tt, hp⟩ : ∃ tt, plT n d i = some tt := by
    have hm2 : mayT 12 (bl s) n d i false = true := hm
    rw [may_dim] at hm2; simp only [Bool.and_eq_true] at hm2
    exact som hm2.2.2
  have PT := hide (show ∀ u x, PlR n d i u x → bl u = tt from fun u x h => by unfold PlR at h; rw [hp] at h; exact h.2)
  have NW := hide (show numW ⟨12, s, n, d, i, false⟩ = tt by show (plT n d i).getD [] = tt; rw [hp]; rfl)
  have SL := hide (show ∀ u : ByteArray, bl u = tt → u.size ≤ 100 from fun u h => by rw [← bl_len, h]; exact plT_len n1 n2 d2 hp)
  have HD := hide (show chB (bl s) = true ∧ 0 < s.size by
    have hm2 : mayT 12 (bl s) n d i false = true := hm
    rw [may_dim] at hm2; simp only [Bool.and_eq_true] at hm2
    exact ⟨hm2.1.1, bl_ne hm2.1.2⟩)
  have LU := hide (show ∀ v : ByteArray, bl v = unT (bl s) → v.size ≤ 6 * s.size + 300 from fun v hv => by
    have := wtA_len ⟨12, s, 0, 0, false, false⟩ ⟨by simp, by simp, hs, by simp, by simp, by simp, by simp⟩
    have e : wtA ⟨12, s, 0, 0, false, false⟩ = numW ⟨12, s, 0, 0, false, false⟩ ++ unT (bl s) := rfl
    rw [e, List.length_append, ← hv, bl_len] at this
    show v.size ≤ 6 * s.size + 300
    simp only at this
    omega)
  clear hp
  clear hT hm
  unfold tokV at CM
  go_enter Tryz.func9, Tryz.ntmps9
  go_wp2_with (first
    | (go_at_call 18; refine CM.out.mono ?_; rintro e w1 ⟨rfl, B1⟩; rw [E.out]; have T1 := hide (TX.out.below B1); obtain ⟨z1, q0, q1, q2, q3, q4, q5⟩ := T1.out; replace B1 := hide (show Below w.heap.size w w1 from bto B0.out B1))
    | (go_at_call 19; refine (plainR_any n d i _ n1 n2 d1 d2 (W1.out _ B1.out)).mono ?_; rintro e w2 ⟨u, x, rfl, H, B2⟩; have hu := PT.out u x H; have hz := SL.out u hu; replace hu := hide hu; clear H q0 q1 q2 q3 q4 q5 z1; obtain ⟨z1, q0, q1, q2, q3, q4, q5⟩ := T1.out.below B2; replace B1 := hide (bto B1.out B2))
    | (go_at_call 25; refine (unit4_any s _ HD.out.2 hs HD.out.1 (W1.out _ B1.out)).mono ?_; rintro e w3 ⟨v, rfl, hv, B3⟩; have hy := LU.out v hv; replace hv := hide hv; replace B1 := hide (bto B1.out B3)))
  go_ret2
  exact ⟨_, 0, rfl, FIN.out _ (by rw [bl_app, hu.out, hv.out, ← NW.out]; rfl), B1.out⟩
end Go.Proofs.YtfadjpebniebaaaGreatDoor
set_option linter.unusedVariables false
set_option linter.unusedSimpArgs false
namespace Go.Proofs.YtfadjpebniebaaaGreatDoor
open Go.RowKit Go.Shelf

theorem ix6 (W : World) : (Instr.index 47 (.agg #[.string ⟨#[]⟩, .string ⟨#[]⟩, .string ⟨#[]⟩, .string ⟨#[]⟩, .string ⟨#[]⟩, .string ⟨#[]⟩, .string ⟨#[34, 10]⟩, .string ⟨#[]⟩, .string ⟨#[117, 114, 108, 40, 40, 41]⟩, .string ⟨#[]⟩, .string ⟨#[]⟩, .string ⟨#[]⟩, .string ⟨#[]⟩, .string ⟨#[32]⟩, .string ⟨#[60, 33, 45, 45]⟩, .string ⟨#[45, 45, 62]⟩, .string ⟨#[58]⟩, .string ⟨#[59]⟩, .string ⟨#[44]⟩, .string ⟨#[91]⟩, .string ⟨#[93]⟩, .string ⟨#[40]⟩, .string ⟨#[41]⟩, .string ⟨#[123]⟩, .string ⟨#[125]⟩]) (.int .i64 6)).run Tryz.prog W = .ok (.string ⟨#[34, 10]⟩) W := by kernel_rfl
theorem ix8 (W : World) : (Instr.index 47 (.agg #[.string ⟨#[]⟩, .string ⟨#[]⟩, .string ⟨#[]⟩, .string ⟨#[]⟩, .string ⟨#[]⟩, .string ⟨#[]⟩, .string ⟨#[34, 10]⟩, .string ⟨#[]⟩, .string ⟨#[117, 114, 108, 40, 40, 41]⟩, .string ⟨#[]⟩, .string ⟨#[]⟩, .string ⟨#[]⟩, .string ⟨#[]⟩, .string ⟨#[32]⟩, .string ⟨#[60, 33, 45, 45]⟩, .string ⟨#[45, 45, 62]⟩, .string ⟨#[58]⟩, .string ⟨#[59]⟩, .string ⟨#[44]⟩, .string ⟨#[91]⟩, .string ⟨#[93]⟩, .string ⟨#[40]⟩, .string ⟨#[41]⟩, .string ⟨#[123]⟩, .string ⟨#[125]⟩]) (.int .i64 8)).run Tryz.prog W = .ok (.string ⟨#[117, 114, 108, 40, 40, 41]⟩) W := by kernel_rfl
theorem ix13 (W : World) : (Instr.index 47 (.agg #[.string ⟨#[]⟩, .string ⟨#[]⟩, .string ⟨#[]⟩, .string ⟨#[]⟩, .string ⟨#[]⟩, .string ⟨#[]⟩, .string ⟨#[34, 10]⟩, .string ⟨#[]⟩, .string ⟨#[117, 114, 108, 40, 40, 41]⟩, .string ⟨#[]⟩, .string ⟨#[]⟩, .string ⟨#[]⟩, .string ⟨#[]⟩, .string ⟨#[32]⟩, .string ⟨#[60, 33, 45, 45]⟩, .string ⟨#[45, 45, 62]⟩, .string ⟨#[58]⟩, .string ⟨#[59]⟩, .string ⟨#[44]⟩, .string ⟨#[91]⟩, .string ⟨#[93]⟩, .string ⟨#[40]⟩, .string ⟨#[41]⟩, .string ⟨#[123]⟩, .string ⟨#[125]⟩]) (.int .i64 13)).run Tryz.prog W = .ok (.string ⟨#[32]⟩) W := by kernel_rfl
theorem ix14 (W : World) : (Instr.index 47 (.agg #[.string ⟨#[]⟩, .string ⟨#[]⟩, .string ⟨#[]⟩, .string ⟨#[]⟩, .string ⟨#[]⟩, .string ⟨#[]⟩, .string ⟨#[34, 10]⟩, .string ⟨#[]⟩, .string ⟨#[117, 114, 108, 40, 40, 41]⟩, .string ⟨#[]⟩, .string ⟨#[]⟩, .string ⟨#[]⟩, .string ⟨#[]⟩, .string ⟨#[32]⟩, .string ⟨#[60, 33, 45, 45]⟩, .string ⟨#[45, 45, 62]⟩, .string ⟨#[58]⟩, .string ⟨#[59]⟩, .string ⟨#[44]⟩, .string ⟨#[91]⟩, .string ⟨#[93]⟩, .string ⟨#[40]⟩, .string ⟨#[41]⟩, .string ⟨#[123]⟩, .string ⟨#[125]⟩]) (.int .i64 14)).run Tryz.prog W = .ok (.string ⟨#[60, 33, 45, 45]⟩) W := by kernel_rfl
theorem ix15 (W : World) : (Instr.index 47 (.agg #[.string ⟨#[]⟩, .string ⟨#[]⟩, .string ⟨#[]⟩, .string ⟨#[]⟩, .string ⟨#[]⟩, .string ⟨#[]⟩, .string ⟨#[34, 10]⟩, .string ⟨#[]⟩, .string ⟨#[117, 114, 108, 40, 40, 41]⟩, .string ⟨#[]⟩, .string ⟨#[]⟩, .string ⟨#[]⟩, .string ⟨#[]⟩, .string ⟨#[32]⟩, .string ⟨#[60, 33, 45, 45]⟩, .string ⟨#[45, 45, 62]⟩, .string ⟨#[58]⟩, .string ⟨#[59]⟩, .string ⟨#[44]⟩, .string ⟨#[91]⟩, .string ⟨#[93]⟩, .string ⟨#[40]⟩, .string ⟨#[41]⟩, .string ⟨#[123]⟩, .string ⟨#[125]⟩]) (.int .i64 15)).run Tryz.prog W = .ok (.string ⟨#[45, 45, 62]⟩) W := by kernel_rfl
theorem ix16 (W : World) : (Instr.index 47 (.agg #[.string ⟨#[]⟩, .string ⟨#[]⟩, .string ⟨#[]⟩, .string ⟨#[]⟩, .string ⟨#[]⟩, .string ⟨#[]⟩, .string ⟨#[34, 10]⟩, .string ⟨#[]⟩, .string ⟨#[117, 114, 108, 40, 40, 41]⟩, .string ⟨#[]⟩, .string ⟨#[]⟩, .string ⟨#[]⟩, .string ⟨#[]⟩, .string ⟨#[32]⟩, .string ⟨#[60, 33, 45, 45]⟩, .string ⟨#[45, 45, 62]⟩, .string ⟨#[58]⟩, .string ⟨#[59]⟩, .string ⟨#[44]⟩, .string ⟨#[91]⟩, .string ⟨#[93]⟩, .string ⟨#[40]⟩, .string ⟨#[41]⟩, .string ⟨#[123]⟩, .string ⟨#[125]⟩]) (.int .i64 16)).run Tryz.prog W = .ok (.string ⟨#[58]⟩) W := by kernel_rfl
theorem ix17 (W : World) : (Instr.index 47 (.agg #[.string ⟨#[]⟩, .string ⟨#[]⟩, .string ⟨#[]⟩, .string ⟨#[]⟩, .string ⟨#[]⟩, .string ⟨#[]⟩, .string ⟨#[34, 10]⟩, .string ⟨#[]⟩, .string ⟨#[117, 114, 108, 40, 40, 41]⟩, .string ⟨#[]⟩, .string ⟨#[]⟩, .string ⟨#[]⟩, .string ⟨#[]⟩, .string ⟨#[32]⟩, .string ⟨#[60, 33, 45, 45]⟩, .string ⟨#[45, 45, 62]⟩, .string ⟨#[58]⟩, .string ⟨#[59]⟩, .string ⟨#[44]⟩, .string ⟨#[91]⟩, .string ⟨#[93]⟩, .string ⟨#[40]⟩, .string ⟨#[41]⟩, .string ⟨#[123]⟩, .string ⟨#[125]⟩]) (.int .i64 17)).run Tryz.prog W = .ok (.string ⟨#[59]⟩) W := by kernel_rfl
theorem ix18 (W : World) : (Instr.index 47 (.agg #[.string ⟨#[]⟩, .string ⟨#[]⟩, .string ⟨#[]⟩, .string ⟨#[]⟩, .string ⟨#[]⟩, .string ⟨#[]⟩, .string ⟨#[34, 10]⟩, .string ⟨#[]⟩, .string ⟨#[117, 114, 108, 40, 40, 41]⟩, .string ⟨#[]⟩, .string ⟨#[]⟩, .string ⟨#[]⟩, .string ⟨#[]⟩, .string ⟨#[32]⟩, .string ⟨#[60, 33, 45, 45]⟩, .string ⟨#[45, 45, 62]⟩, .string ⟨#[58]⟩, .string ⟨#[59]⟩, .string ⟨#[44]⟩, .string ⟨#[91]⟩, .string ⟨#[93]⟩, .string ⟨#[40]⟩, .string ⟨#[41]⟩, .string ⟨#[123]⟩, .string ⟨#[125]⟩]) (.int .i64 18)).run Tryz.prog W = .ok (.string ⟨#[44]⟩) W := by kernel_rfl
theorem ix19 (W : World) : (Instr.index 47 (.agg #[.string ⟨#[]⟩, .string ⟨#[]⟩, .string ⟨#[]⟩, .string ⟨#[]⟩, .string ⟨#[]⟩, .string ⟨#[]⟩, .string ⟨#[34, 10]⟩, .string ⟨#[]⟩, .string ⟨#[117, 114, 108, 40, 40, 41]⟩, .string ⟨#[]⟩, .string ⟨#[]⟩, .string ⟨#[]⟩, .string ⟨#[]⟩, .string ⟨#[32]⟩, .string ⟨#[60, 33, 45, 45]⟩, .string ⟨#[45, 45, 62]⟩, .string ⟨#[58]⟩, .string ⟨#[59]⟩, .string ⟨#[44]⟩, .string ⟨#[91]⟩, .string ⟨#[93]⟩, .string ⟨#[40]⟩, .string ⟨#[41]⟩, .string ⟨#[123]⟩, .string ⟨#[125]⟩]) (.int .i64 19)).run Tryz.prog W = .ok (.string ⟨#[91]⟩) W := by kernel_rfl
theorem ix20 (W : World) : (Instr.index 47 (.agg #[.string ⟨#[]⟩, .string ⟨#[]⟩, .string ⟨#[]⟩, .string ⟨#[]⟩, .string ⟨#[]⟩, .string ⟨#[]⟩, .string ⟨#[34, 10]⟩, .string ⟨#[]⟩, .string ⟨#[117, 114, 108, 40, 40, 41]⟩, .string ⟨#[]⟩, .string ⟨#[]⟩, .string ⟨#[]⟩, .string ⟨#[]⟩, .string ⟨#[32]⟩, .string ⟨#[60, 33, 45, 45]⟩, .string ⟨#[45, 45, 62]⟩, .string ⟨#[58]⟩, .string ⟨#[59]⟩, .string ⟨#[44]⟩, .string ⟨#[91]⟩, .string ⟨#[93]⟩, .string ⟨#[40]⟩, .string ⟨#[41]⟩, .string ⟨#[123]⟩, .string ⟨#[125]⟩]) (.int .i64 20)).run Tryz.prog W = .ok (.string ⟨#[93]⟩) W := by kernel_rfl
theorem ix21 (W : World) : (Instr.index 47 (.agg #[.string ⟨#[]⟩, .string ⟨#[]⟩, .string ⟨#[]⟩, .string ⟨#[]⟩, .string ⟨#[]⟩, .string ⟨#[]⟩, .string ⟨#[34, 10]⟩, .string ⟨#[]⟩, .string ⟨#[117, 114, 108, 40, 40, 41]⟩, .string ⟨#[]⟩, .string ⟨#[]⟩, .string ⟨#[]⟩, .string ⟨#[]⟩, .string ⟨#[32]⟩, .string ⟨#[60, 33, 45, 45]⟩, .string ⟨#[45, 45, 62]⟩, .string ⟨#[58]⟩, .string ⟨#[59]⟩, .string ⟨#[44]⟩, .string ⟨#[91]⟩, .string ⟨#[93]⟩, .string ⟨#[40]⟩, .string ⟨#[41]⟩, .string ⟨#[123]⟩, .string ⟨#[125]⟩]) (.int .i64 21)).run Tryz.prog W = .ok (.string ⟨#[40]⟩) W := by kernel_rfl
theorem ix22 (W : World) : (Instr.index 47 (.agg #[.string ⟨#[]⟩, .string ⟨#[]⟩, .string ⟨#[]⟩, .string ⟨#[]⟩, .string ⟨#[]⟩, .string ⟨#[]⟩, .string ⟨#[34, 10]⟩, .string ⟨#[]⟩, .string ⟨#[117, 114, 108, 40, 40, 41]⟩, .string ⟨#[]⟩, .string ⟨#[]⟩, .string ⟨#[]⟩, .string ⟨#[]⟩, .string ⟨#[32]⟩, .string ⟨#[60, 33, 45, 45]⟩, .string ⟨#[45, 45, 62]⟩, .string ⟨#[58]⟩, .string ⟨#[59]⟩, .string ⟨#[44]⟩, .string ⟨#[91]⟩, .string ⟨#[93]⟩, .string ⟨#[40]⟩, .string ⟨#[41]⟩, .string ⟨#[123]⟩, .string ⟨#[125]⟩]) (.int .i64 22)).run Tryz.prog W = .ok (.string ⟨#[41]⟩) W := by kernel_rfl
theorem ix23 (W : World) : (Instr.index 47 (.agg #[.string ⟨#[]⟩, .string ⟨#[]⟩, .string ⟨#[]⟩, .string ⟨#[]⟩, .string ⟨#[]⟩, .string ⟨#[]⟩, .string ⟨#[34, 10]⟩, .string ⟨#[]⟩, .string ⟨#[117, 114, 108, 40, 40, 41]⟩, .string ⟨#[]⟩, .string ⟨#[]⟩, .string ⟨#[]⟩, .string ⟨#[]⟩, .string ⟨#[32]⟩, .string ⟨#[60, 33, 45, 45]⟩, .string ⟨#[45, 45, 62]⟩, .string ⟨#[58]⟩, .string ⟨#[59]⟩, .string ⟨#[44]⟩, .string ⟨#[91]⟩, .string ⟨#[93]⟩, .string ⟨#[40]⟩, .string ⟨#[41]⟩, .string ⟨#[123]⟩, .string ⟨#[125]⟩]) (.int .i64 23)).run Tryz.prog W = .ok (.string ⟨#[123]⟩) W := by kernel_rfl
theorem ix24 (W : World) : (Instr.index 47 (.agg #[.string ⟨#[]⟩, .string ⟨#[]⟩, .string ⟨#[]⟩, .string ⟨#[]⟩, .string ⟨#[]⟩, .string ⟨#[]⟩, .string ⟨#[34, 10]⟩, .string ⟨#[]⟩, .string ⟨#[117, 114, 108, 40, 40, 41]⟩, .string ⟨#[]⟩, .string ⟨#[]⟩, .string ⟨#[]⟩, .string ⟨#[]⟩, .string ⟨#[32]⟩, .string ⟨#[60, 33, 45, 45]⟩, .string ⟨#[45, 45, 62]⟩, .string ⟨#[58]⟩, .string ⟨#[59]⟩, .string ⟨#[44]⟩, .string ⟨#[91]⟩, .string ⟨#[93]⟩, .string ⟨#[40]⟩, .string ⟨#[41]⟩, .string ⟨#[123]⟩, .string ⟨#[125]⟩]) (.int .i64 24)).run Tryz.prog W = .ok (.string ⟨#[125]⟩) W := by kernel_rfl
theorem fix_ways {k : Int} (hk : ¬ (k = 1 ∨ k = 2 ∨ k = 3 ∨ k = 4 ∨ k = 5 ∨ k = 7 ∨ k = 9 ∨ k = 10 ∨ k = 11 ∨ k = 12)) (h1 : 1 ≤ k) (h2 : k ≤ 24) : k = 6 ∨ k = 8 ∨ k = 13 ∨ k = 14 ∨ k = 15 ∨ k = 16 ∨ k = 17 ∨ k = 18 ∨ k = 19 ∨ k = 20 ∨ k = 21 ∨ k = 22 ∨ k = 23 ∨ k = 24 := by omega
set_option maxRecDepth 100000 in
set_option maxHeartbeats 4000000 in
theorem token4_fix (k : Int) (s : ByteArray) (w : World) (hs : s.size ≤ 1099511627776) (hT : Tabs w) (hk : ¬ (k = 1 ∨ k = 2 ∨ k = 3 ∨ k = 4 ∨ k = 5 ∨ k = 7 ∨ k = 9 ∨ k = 10 ∨ k = 11 ∨ k = 12)) (h1 : 1 ≤ k) (h2 : k ≤ 24) (hm : (⟨k, s, 0, 0, false, false⟩ : TS).may = true) :
    Calls Tryz.prog 9 #[.agg #[.int .i64 k, .string s, .int .i64 0, .int .i64 0, .bool false, .bool false]] w fun e w' => PostR ⟨k, s, 0, 0, false, false⟩ w e w' := by
  have TX := hide (Tok6.box w k s 0 0 false false 25)
  have B0 := hide (bplus (Below.refl w.heap.size w) (.cells #[.int .i64 k, .string s, .int .i64 0, .int .i64 0, .bool false, .bool false] 25))
  have CM := hide (mayR_any k s 0 0 false false (w.alloc (.cells #[.int .i64 k, .string s, .int .i64 0, .int .i64 0, .bool false, .bool false] 25)) hs (by omega) (by omega) (by omega) (by omega) (hT.below B0.out))
  have E := hide (show mayT k (bl s) 0 0 false false = true from hm)
  have FIN := hide (fun (u : ByteArray) (hu : bl u = bl (fx k)) => fin4 hm (hu.trans (wt_fixed hk).symm))
  have wy := fix_ways hk h1 h2
  clear hT hm hk h1 h2
  unfold tokV at CM
  have j6 := ix6
  have j8 := ix8
  have j13 := ix13
  have j14 := ix14
  have j15 := ix15
  have j16 := ix16
  have j17 := ix17
  have j18 := ix18
  have j19 := ix19
  have j20 := ix20
  have j21 := ix21
  have j22 := ix22
  have j23 := ix23
  have j24 := ix24
  rcases wy with rfl | rfl | rfl | rfl | rfl | rfl | rfl | rfl | rfl | rfl | rfl | rfl | rfl | rfl
  all_goals
    go_enter Tryz.func9, Tryz.ntmps9
    go_wp2_with (go_at_call 18; refine CM.out.mono ?_; rintro e w1 ⟨rfl, B1⟩; rw [E.out]; have T1 := hide (TX.out.below B1); obtain ⟨z1, q0, q1, q2, q3, q4, q5⟩ := T1.out; replace B1 := hide (show Below w.heap.size w w1 from bto B0.out B1))
    go_ret2
    exact ⟨_, 0, rfl, FIN.out _ rfl, B1.out⟩
/-- The reference's text of any token. -/
theorem token4_any (t : TS) (w : World) (ho : t.Ok) (hT : Tabs w) : Calls Tryz.prog 9 #[t.v] w fun e w' => PostR t w e w' := by
  cases hm : t.may with
  | false => exact token4_no t w ho hm hT
  | true =>
    obtain ⟨k, s, n, d, i, h⟩ := t
    obtain ⟨k1, k2, hs, n1, n2, d1, d2⟩ := ho
    have hm' : mayT k (bl s) n d i h = true := hm
    simp only at k1 k2 hs n1 n2 d1 d2
    unfold TS.v tokV
    by_cases e1 : k = 1 ∨ k = 2 ∨ k = 3
    · rw [may_name e1] at hm'
      simp only [Bool.and_eq_true] at hm'
      obtain ⟨⟨hz, hh⟩, hc, hn⟩ := hm'
      obtain ⟨rfl, rfl, rfl⟩ := zB_out hz
      obtain rfl : h = false := by simpa using hh
      rcases e1 with rfl | rfl | rfl
      · exact token4_1 s w hs hT hm
      · exact token4_2 s w hs hT hm
      · exact token4_3 s w hs hT hm
    by_cases e4 : k = 4
    · subst e4
      rw [may_hash] at hm'
      simp only [Bool.and_eq_true] at hm'
      obtain ⟨hz, ⟨hc, hn⟩, _⟩ := hm'
      obtain ⟨rfl, rfl, rfl⟩ := zB_out hz
      cases h with
      | true => exact token4_4t s w hs hT hm
      | false => exact token4_4f s w hs hT hm
    by_cases e5 : k = 5 ∨ k = 7
    · rw [may_text e5] at hm'
      simp only [Bool.and_eq_true] at hm'
      obtain ⟨⟨hz, hh⟩, hc⟩ := hm'
      obtain ⟨rfl, rfl, rfl⟩ := zB_out hz
      obtain rfl : h = false := by simpa using hh
      rcases e5 with rfl | rfl
      · exact token4_5 s w hs hT hm
      · exact token4_7 s w hs hT hm
    by_cases e9 : k = 9
    · subst e9
      rw [may_delim] at hm'
      simp only [Bool.and_eq_true] at hm'
      obtain ⟨⟨hz, hh⟩, _⟩ := hm'
      obtain ⟨rfl, rfl, rfl⟩ := zB_out hz
      obtain rfl : h = false := by simpa using hh
      exact token4_9 s w hs hT hm
    by_cases e10 : k = 10 ∨ k = 11
    · rw [may_num e10] at hm'
      simp only [Bool.and_eq_true] at hm'
      obtain ⟨⟨_, hh⟩, hp⟩ := hm'
      obtain rfl : h = false := by simpa using hh
      rcases e10 with rfl | rfl
      · exact token4_10 s n d i n1 n2 d1 d2 w hs hT hm
      · exact token4_11 s n d i n1 n2 d1 d2 w hs hT hm
    by_cases e12 : k = 12
    · subst e12
      rw [may_dim] at hm'
      simp only [Bool.and_eq_true] at hm'
      obtain ⟨_, hh, _⟩ := hm'
      obtain rfl : h = false := by simpa using hh
      exact token4_12 s n d i n1 n2 d1 d2 w hs hT hm
    · have hk : ¬ (k = 1 ∨ k = 2 ∨ k = 3 ∨ k = 4 ∨ k = 5 ∨ k = 7 ∨ k = 9 ∨ k = 10 ∨ k = 11 ∨ k = 12) := by omega
      rw [may_rest hk] at hm'
      simp only [Bool.and_eq_true, decide_eq_true_eq] at hm'
      obtain ⟨⟨r1, r2⟩, _, hz, hh⟩ := hm'
      obtain ⟨rfl, rfl, rfl⟩ := zB_out hz
      obtain rfl : h = false := by simpa using hh
      exact token4_fix k s w hs hT hk r1 r2 hm
/-! ### The law of one token -/
set_option maxRecDepth 100000 in
set_option maxHeartbeats 1000000 in
theorem law_token (t : TS) (w : World) (ho : t.Ok) (hK : KT w) (hT : Tabs w) :
    Calls Tryz.prog 3 #[t.v] w fun e w' => e = .returned (.bool true) ∧ Below w.heap.size w w' := by
  have B0 := hide (bplus (Below.refl w.heap.size w) (boxT t))
  have TX := hide (tok_box (heap_alloc_new w (boxT t)))
  have C1 := hide (tokenA_any t (w.alloc (boxT t)) ho (hK.below B0.out) (hT.below B0.out))
  have C2 := hide (fun (W : World) (h : Below w.heap.size w W) => token4_any t W ho (hT.below h))
  have C3 := hide (fun (W : World) (h : Below w.heap.size w W) => awake4_any W (hK.below h) (hT.below h))
  clear hK hT
  unfold TS.v tokV at *
  unfold boxT at *
  go_enter Tryz.func3, Tryz.ntmps3
  go_wp2_with (first
    | (go_at_call 8; refine C1.out.mono ?_; intro e w1 hP; obtain ⟨B1, u, c, rfl, H⟩ := hP.uni; clear hP; obtain ⟨z1, q0, q1, q2, q3, q4, q5⟩ := TX.out.below B1; replace B1 := hide (show Below w.heap.size w w1 from bto B0.out B1))
    | (go_at_call 9; refine (C2.out _ B1.out).mono ?_; rintro e w2 ⟨x, f, rfl, H2, B2⟩; obtain ⟨rfl, rfl⟩ := sp2_eq H.out H2.out; replace B1 := hide (show Below w.heap.size w w2 from bto B1.out B2); clear B2)
    | (go_at_call 10; refine (C3.out _ B1.out).mono ?_; rintro e w3 ⟨rfl, B3⟩; replace B1 := hide (bto B1.out B3)))
  go_ret
  exact ⟨rfl, B1.out⟩
end Go.Proofs.YtfadjpebniebaaaGreatDoor
