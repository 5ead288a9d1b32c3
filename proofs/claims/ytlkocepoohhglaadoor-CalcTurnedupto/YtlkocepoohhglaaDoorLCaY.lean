/-
  The law of turned expressions.
-/
import Derived.Test.YtlkocepoohhglaaDoorLCaW
set_option linter.unusedVariables false
set_option linter.unusedSimpArgs false
namespace Go.Proofs.YtlkocepoohhglaaDoor.cc
open Go.RowKit

theorem ok_num {rn rd : Int} (hn : i64 rn) (hd : i64 rd) : (Ex.mk 1 rn rd 0 []).Ok := ⟨(show i64 1 from ⟨by decide, by decide⟩), hn, hd, (show i64 0 from ⟨by decide, by decide⟩)⟩
set_option maxRecDepth 100000 in
set_option maxHeartbeats 8000000 in
theorem law_calcTurned (x : Ex) (u : Value) (rn rd : Int) (w : World) (hx : x.Ok) (hu : EM w u x.ks) (hn : i64 rn) (hd : i64 rd) (hI : Kinds w) (hU : Uni w) :
    Calls Tryd.prog 5 #[exV x u, .agg #[.int .i64 rn, .int .i64 rd]] w fun e w' => e = .returned (.bool true) ∧ Below w.heap.size w w' := by
  obtain ⟨a, c, rfl, hl9⟩ := hu.shape
  have n1 := (show (w.alloc (.cells #[.int .i64 x.k, .int .i64 x.n, .int .i64 x.d, .int .i64 x.u, .slice a x.ks.length c] 26)).heap.size = w.heap.size + 1 by simp)
  have PQ := hide (more_blk (heap_alloc_new w (.cells #[.int .i64 x.k, .int .i64 x.n, .int .i64 x.d, .int .i64 x.u, .slice a x.ks.length c] 26)) (.cells #[.int .i64 rn, .int .i64 rd] 23))
  have PR := hide (heap_alloc_new (w.alloc (.cells #[.int .i64 x.k, .int .i64 x.n, .int .i64 x.d, .int .i64 x.u, .slice a x.ks.length c] 26)) (.cells #[.int .i64 rn, .int .i64 rd] 23))
  rw [n1] at PR
  have HB := hide (bplus (bplus (Below.refl w.heap.size w) (.cells #[.int .i64 x.k, .int .i64 x.n, .int .i64 x.d, .int .i64 x.u, .slice a x.ks.length c] 26)) (.cells #[.int .i64 rn, .int .i64 rd] 23))
  have C1 := hide (fun (W : World) (B : Below w.heap.size w W) => kindP_any x (.slice a x.ks.length c) W hx (hu.low B))
  have CT := hide (fun (W : World) (B : Below w.heap.size w W) => turned_all w.heap.size (szE x) x 0 (.slice a x.ks.length c) W (Nat.le_refl _) (by omega) hx B.size ((emp_of hu).move fun b hP hb => ⟨B.block b hb, hP⟩))
  have C2 := hide (fun (W : World) (v : Value) (h : EM W v (tuE x 0).ks) => kindP_any (tuE x 0) v W (tuE_ok hx 0) h)
  rw [(kdT_tu x).1, (kdT_tu x).2] at C2
  have CN := hide (fun (W : World) (B : Below w.heap.size w W) => numbered_all w.heap.size rn rd hn hd (szE x) x 0 (.slice a x.ks.length c) W (Nat.le_refl _) (by omega) hx B.size ((emp_of hu).move fun b hP hb => ⟨B.block b hb, hP⟩))
  have C3 := hide (fun (W : World) (v : Value) (h : EM W v (nuE rn rd x 0).ks) => kindP_any (nuE rn rd x 0) v W (nuE_ok hx hn hd 0) h)
  have C4 := hide (fun (W : World) => show Calls Tryd.prog 7 #[.agg #[.int .i64 1, .int .i64 rn, .int .i64 rd, .int .i64 0, .slice none 0 0]] W _ from calcMay_any (.mk 1 rn rd 0 []) (.slice none 0 0) W (ok_num hn hd) (.nil _ _))
  rw [exM_num] at C4
  have C5 := hide (fun (W : World) (B : Below w.heap.size w W) => awake11_any W (hI.below B) (hU.below B))
  have KX := hide (show kdX x = (if exM x 340 = true then (if kdE x = 0 then 4 else 0) else 1) from rfl)
  have KN := hide (fun (h1 : mayB rn rd = true) (h2 : exM x 340 = true) => kdT_nu rn rd h1 x h2)
  unfold exV at C1 C2 C3 CT CN ⊢
  generalize tuE x 0 = tx at *
  generalize nuE rn rd x 0 = nx at *
  clear hu hU hI hx hn hd n1
  cases hm : exM x 340
  · replace KX := hide (show (kdX x : Int) = 1 by rw [KX.out, hm]; rfl)
    rw [KX.out] at C1 C2
    generalize kdT x = kt at *
    generalize x.k = xk at *
    generalize x.n = xn at *
    generalize x.d = xd at *
    generalize x.u = xu at *
    generalize x.ks.length = xl at *
    clear KN KX hm C3 CN C4
    go_enter Tryd.func5, Tryd.ntmps5
    go_wp2_with (first
      | (go_at_call 12; refine (C1.out _ HB.out).mono ?_; rintro e w1 ⟨rfl, B1⟩; replace PQ := hide (far_blk PQ.out B1); replace HB := hide (bto HB.out B1); obtain ⟨q0, q1, q2, q3, q4⟩ := bxk_5c PQ.out; clear B1 C1)
      | (go_at_call 14; refine (CT.out _ HB.out).mono ?_; rintro e w2 ⟨u', rfl, EU, B1⟩; have VU := hide EU.em; replace HB := hide (bto HB.out B1); clear B1 EU CT)
      | (go_at_call 12; refine (C2.out _ _ VU.out).mono ?_; rintro e w3 ⟨rfl, B1⟩; replace HB := hide (bto HB.out B1); clear B1 C2)
      | (go_at_call 11; refine (C5.out _ HB.out).mono ?_; rintro e w4 ⟨rfl, B1⟩; replace HB := hide (bto HB.out B1); clear B1 C5))
    go_ret
    exact ⟨rfl, HB.out⟩
  · have kx1 : ¬ (kdX x : Int) = 1 := by rw [KX.out, hm]; simp only [if_true]; split <;> omega
    have kx2 : ((kdX x : Int) == 1) = false := by simpa using kx1
    cases hr : mayB rn rd
    · rw [hr] at C4
      generalize kdT x = kt at *
      generalize kdX x = kx at *
      generalize kdT nx = nt at *
      generalize kdX nx = nk at *
      generalize x.k = xk at *
      generalize x.n = xn at *
      generalize x.d = xd at *
      generalize x.u = xu at *
      generalize x.ks.length = xl at *
      clear KN KX hm hr
      go_enter Tryd.func5, Tryd.ntmps5
      go_wp2_with (first
        | (go_at_call 12; refine (C1.out _ HB.out).mono ?_; rintro e w1 ⟨rfl, B1⟩; replace PQ := hide (far_blk PQ.out B1); replace PR := hide (far_blk PR.out B1); replace HB := hide (bto HB.out B1); obtain ⟨q0, q1, q2, q3, q4⟩ := bxk_5c PQ.out; clear B1 C1)
        | (go_at_call 14; refine (CT.out _ HB.out).mono ?_; rintro e w2 ⟨u', rfl, EU, B1⟩; have VU := hide EU.em; replace PQ := hide (far_blk PQ.out B1); replace PR := hide (far_blk PR.out B1); replace HB := hide (bto HB.out B1); clear B1 EU CT)
        | (go_at_call 12; refine (C2.out _ _ VU.out).mono ?_; rintro e w3 ⟨rfl, B1⟩; replace PQ := hide (far_blk PQ.out B1); replace PR := hide (far_blk PR.out B1); replace HB := hide (bto HB.out B1); obtain ⟨q5, q6, q7, q8, q9⟩ := bxk_5c PQ.out; obtain ⟨s0, s1⟩ := bxk_2c PR.out; clear B1 C2)
        | (go_at_call 15; refine (CN.out _ HB.out).mono ?_; rintro e w4 ⟨v', rfl, EU, B1⟩; have VN := hide EU.em; replace PR := hide (far_blk PR.out B1); replace HB := hide (bto HB.out B1); clear B1 EU CN)
        | (go_at_call 12; refine (C3.out _ _ VN.out).mono ?_; rintro e w5 ⟨rfl, B1⟩; replace PR := hide (far_blk PR.out B1); replace HB := hide (bto HB.out B1); obtain ⟨s2, s3⟩ := bxk_2c PR.out; clear B1 C3)
        | (go_at_call 7; refine (C4.out _).mono ?_; rintro e w6 ⟨rfl, B1⟩; replace HB := hide (bto HB.out B1); clear B1 C4)
        | (go_at_call 11; refine (C5.out _ HB.out).mono ?_; rintro e w7 ⟨rfl, B1⟩; replace HB := hide (bto HB.out B1); clear B1 C5))
      go_ret
      exact ⟨rfl, HB.out⟩
    · rw [hr] at C4
      rw [(KN.out hr hm).1, (KN.out hr hm).2] at C3
      generalize kdT x = kt at *
      generalize kdX x = kx at *
      generalize x.k = xk at *
      generalize x.n = xn at *
      generalize x.d = xd at *
      generalize x.u = xu at *
      generalize x.ks.length = xl at *
      clear KN KX hm hr
      go_enter Tryd.func5, Tryd.ntmps5
      go_wp2_with (first
        | (go_at_call 12; refine (C1.out _ HB.out).mono ?_; rintro e w1 ⟨rfl, B1⟩; replace PQ := hide (far_blk PQ.out B1); replace PR := hide (far_blk PR.out B1); replace HB := hide (bto HB.out B1); obtain ⟨q0, q1, q2, q3, q4⟩ := bxk_5c PQ.out; clear B1 C1)
        | (go_at_call 14; refine (CT.out _ HB.out).mono ?_; rintro e w2 ⟨u', rfl, EU, B1⟩; have VU := hide EU.em; replace PQ := hide (far_blk PQ.out B1); replace PR := hide (far_blk PR.out B1); replace HB := hide (bto HB.out B1); clear B1 EU CT)
        | (go_at_call 12; refine (C2.out _ _ VU.out).mono ?_; rintro e w3 ⟨rfl, B1⟩; replace PQ := hide (far_blk PQ.out B1); replace PR := hide (far_blk PR.out B1); replace HB := hide (bto HB.out B1); obtain ⟨q5, q6, q7, q8, q9⟩ := bxk_5c PQ.out; obtain ⟨s0, s1⟩ := bxk_2c PR.out; clear B1 C2)
        | (go_at_call 15; refine (CN.out _ HB.out).mono ?_; rintro e w4 ⟨v', rfl, EU, B1⟩; have VN := hide EU.em; replace PR := hide (far_blk PR.out B1); replace HB := hide (bto HB.out B1); clear B1 EU CN)
        | (go_at_call 12; refine (C3.out _ _ VN.out).mono ?_; rintro e w5 ⟨rfl, B1⟩; replace PR := hide (far_blk PR.out B1); replace HB := hide (bto HB.out B1); obtain ⟨s2, s3⟩ := bxk_2c PR.out; clear B1 C3)
        | (go_at_call 7; refine (C4.out _).mono ?_; rintro e w6 ⟨rfl, B1⟩; replace HB := hide (bto HB.out B1); clear B1 C4)
        | (go_at_call 11; refine (C5.out _ HB.out).mono ?_; rintro e w7 ⟨rfl, B1⟩; replace HB := hide (bto HB.out B1); clear B1 C5))
      go_ret
      exact ⟨rfl, HB.out⟩
end Go.Proofs.YtlkocepoohhglaaDoor.cc
