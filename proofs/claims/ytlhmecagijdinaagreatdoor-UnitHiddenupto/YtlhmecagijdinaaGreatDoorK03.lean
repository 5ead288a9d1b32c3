/-
  An expression as it is written: by the program.
  Expressions as they are written: by the program and by the reference.
  Px and Length, and a length that every program must know: by the program.
-/
import Derived.Test.YtlhmecagijdinaaGreatDoorK01
import Derived.Test.YtlhmecagijdinaaGreatDoorK11
import Derived.Test.YtlhmecagijdinaaGreatDoorK02
import Derived.Test.YtlhmecagijdinaaGreatDoorJ05
import Derived.Test.YtlhmecagijdinaaGreatDoorK04
set_option linter.unusedVariables false
set_option linter.unusedSimpArgs false
namespace Go.Proofs.YtlhmecagijdinaaGreatDoor.nm
open Go.RowKit cc

def DiC (sz : Int → Int × Int) (sl : List (Int × Int)) (N : Nat) : Prop := ∀ (x : Ex) (j : Nat) (u : Value) (w : World), szE x ≤ N → OkX x → exM x j = true → EM w u x.ks → Calls Tryz.prog 149 #[.agg (usL sl).toArray, exV x u] w fun e w' => e = .returned (ratV (rkE sz x)) ∧ Below w.heap.size w w'
def RelDi (w : World) (rs : List (Int × Int)) (n : Nat) (e5 : List Value) (sl : List (Int × Int)) (i : Value) (wr : World) : Prop := ∃ k : Nat, i = .int .i64 k ∧ k ≤ n ∧ Hid (Rw2 wr (w.heap.size + 3) n k rs ∧ Bk wr (w.heap.size + 2) 23 [.int .i64 0, .int .i64 0] ∧ Bk wr (w.heap.size + 1) 26 e5 ∧ Bk wr w.heap.size 69 (usL sl) ∧ Below w.heap.size w wr)
theorem RelDi.mk {w : World} {rs : List (Int × Int)} {n : Nat} {e5 : List Value} {sl : List (Int × Int)} {i : Value} {wr : World} (k : Nat) (h1 : i = .int .i64 k) (h2 : k ≤ n) (h3 : Rw2 wr (w.heap.size + 3) n k rs) (h4 : Bk wr (w.heap.size + 2) 23 [.int .i64 0, .int .i64 0]) (h5 : Bk wr (w.heap.size + 1) 26 e5) (h6 : Bk wr w.heap.size 69 (usL sl)) (h7 : Below w.heap.size w wr) : RelDi w rs n e5 sl i wr := ⟨k, h1, h2, h3, h4, h5, h6, h7⟩
end Go.Proofs.YtlhmecagijdinaaGreatDoor.nm
set_option linter.unusedVariables false
set_option linter.unusedSimpArgs false
namespace Go.Proofs.YtlhmecagijdinaaGreatDoor.nm
open Go.RowKit cc be

/-- What Direct tells. -/
def diT (cs : List (Int × Int)) (x : Ex) : Int × Int := if kdX x = 0 then rkE (szC cs) x else (0, 0)
def diV (cs : List (Int × Int)) (x : Ex) : Value := .tuple #[ratV (diT cs x), .int .i64 (kdX x)]
theorem di_cases (cs : List (Int × Int)) (x : Ex) : (kdX x = 0 ∧ diT cs x = rkE (szC cs) x ∧ exM x 340 = true) ∨ ((kdX x = 1 ∨ kdX x = 4) ∧ diT cs x = (0, 0)) := by
  unfold diT
  rcases kd_cases x with ⟨h1, h2, _⟩ | ⟨h1, _⟩ | ⟨h1, _⟩ <;> rw [h1]
  · exact .inl ⟨rfl, rfl, h2⟩
  · exact .inr ⟨.inl rfl, rfl⟩
  · exact .inr ⟨.inr rfl, rfl⟩
def kdD (csA : List Value) (SV : Value) (xk xn xd xu : Int) (a : Option Addr) (xl c : Nat) (r : Int × Int) : Nat → Kd
  | 0 => .val (.agg csA.toArray)
  | 1 => .val SV
  | 2 => .val (.agg [.int .i64 xk, .int .i64 xn, .int .i64 xd, .int .i64 xu, .slice a xl c].toArray)
  | 3 => .val (.agg #[.int .i64 r.1, .int .i64 r.2])
  | _ => .val undef
end Go.Proofs.YtlhmecagijdinaaGreatDoor.nm
set_option linter.unusedVariables false
set_option linter.unusedSimpArgs false
namespace Go.Proofs.YtlhmecagijdinaaGreatDoor.nm
open Go.RowKit cc be

/-- What Px tells. -/
def upx (n : Nat) (cs : List (Int × Int)) (us : List (Int × Int)) (ps : List Pa) : Int × Int := if maF 340 (.mk us ps) = true then pxN (szC cs) (n + 1) (.mk us ps) else (0, 0)
theorem fo_lenI {us : List (Int × Int)} (h : Us us) (u : Value) : (Tryz.prog.info? 30).map (·.size) = some (usL us ++ [u]).length := by rw [fo_len h u]; kernel_rfl
def kdQ3 (csA : List Value) (SV : Value) (csF : List Value) (X : Int × Int) : Nat → Kd
  | 0 => .val (.agg csA.toArray)
  | 1 => .val SV
  | 2 => .val (.agg csF.toArray)
  | 3 => .val (.agg #[.int .i64 X.1, .int .i64 X.2])
  | _ => .val undef
set_option maxRecDepth 100000 in
set_option maxHeartbeats 8000000 in
theorem pxU_any (n : Nat) (us : List (Int × Int)) (ps : List Pa) (u : Value) (cs : List (Int × Int)) (w : World) (hN : NthU w) (hus : Us us) (hv : PM w n u ps) (hcs : cs.length = 6) (h64 : ∀ r ∈ cs, R64 r) : Calls Tryz.prog 21 #[foV us u, cxV cs] w fun e w' => e = .returned (ratV (upx n cs us ps)) ∧ Below w.heap.size w w' := by
  have C := hide (fun (W : World) (h : Below w.heap.size w W) => fmay_any n us ps u W hus (hv.low h))
  have CS := hide (fun (W : World) => sizesOf_any cs W hcs h64)
  have CD := hide (fun (W : World) (h : Below w.heap.size w W) => px_all (szC cs) (szL cs) (sza_cs h64) n us ps u W (hN.low h) hus (hv.low h))
  rw [show (.agg (usL (szL cs)).toArray : Value) = szV cs from rfl] at CD
  have E := hide (show upx n cs us ps = if maF 340 (.mk us ps) = true then pxN (szC cs) (n + 1) (.mk us ps) else (0, 0) from rfl)
  have FL := hide (fo_lenI hus u)
  have F15 := hide (fo_len hus u)
  have CL := hide (show (Tryz.prog.info? 45).map (·.size) = some (usL cs).length by rw [usL_len, hcs]; kernel_rfl)
  have C12 := hide (show (usL cs).length = 12 by rw [usL_len, hcs])
  rw [show foV us u = .agg (usL us ++ [u]).toArray from rfl] at C CD ⊢
  unfold cxV at *
  generalize szV cs = SV at *
  generalize usL us ++ [u] = csF at *
  generalize usL cs = csA at *
  obtain ⟨X, hX⟩ : ∃ X, upx n cs us ps = X := ⟨_, rfl⟩
  rw [hX] at E ⊢
  obtain ⟨r, hr⟩ : ∃ r, maF 340 (.mk us ps) = r := ⟨_, rfl⟩
  rw [hr] at C E
  generalize pxN (szC cs) (n + 1) (.mk us ps) = Y at *
  clear hX hr hus hv hcs h64 hN
  obtain ⟨fa, hfa⟩ : ∃ q : Array Value, csF.toArray = q := ⟨_, rfl⟩
  obtain ⟨ca, hca⟩ : ∃ q : Array Value, csA.toArray = q := ⟨_, rfl⟩
  have fa15 : fa.size = 15 := by rw [← hfa, List.size_toArray, F15.out]
  have ca12 : ca.size = 12 := by rw [← hca, List.size_toArray, C12.out]
  obtain ⟨W1, hW1⟩ : ∃ W1, ((w.alloc (.cells fa 30)).alloc (.cells ca 45)).alloc (.cells #[.int .i64 0, .int .i64 0] 23) = W1 := ⟨_, rfl⟩
  have B0 := hide (show Below w.heap.size w W1 by rw [← hW1]; exact bplus (bplus (bplus (Below.refl _ _) _) _) _)
  have KF := hide (fun (W : World) (h : Below W1.heap.size W1 W) => show Bk W w.heap.size 30 csF from Bk.up (show Bk W1 w.heap.size 30 csF by rw [← hW1, ← hfa]; exact (three_blk w _ _ _).1) h)
  have KC := hide (fun (W : World) (h : Below W1.heap.size W1 W) => show Bk W (w.heap.size + 1) 45 csA from Bk.up (show Bk W1 (w.heap.size + 1) 45 csA by rw [← hW1, ← hca]; exact (three_blk w _ _ _).2.1) h)
  have KR := hide (fun (W : World) (h : Below W1.heap.size W1 W) => show Bk W (w.heap.size + 2) 23 [.int .i64 0, .int .i64 0] from Bk.up (show Bk W1 (w.heap.size + 2) 23 _ by rw [← hW1]; exact (three_blk w _ _ _).2.2) h)
  have HFA := hide hfa
  rw [hfa, hca]
  have RF1 := hide (show W1.rangeAt w.heap.size 0 csF from range_blk (KF.out W1 (Below.refl _ _)))
  have HW1 := hide hW1
  clear hW1 hfa hca
  cases r
  · obtain rfl : X = (0, 0) := by rw [E.out]; rfl
    rw [HFA.out] at C
    clear CD CS E
    go_enter Tryz.func21, Tryz.ntmps21
    go_upto_region 1 with fail
    rw [HW1.out]
    clear HW1
    go_wp2_with (first
      | (refine wpList_load_mid rfl 30 (.tmp 2) rfl w.heap.size 0 rfl csF _ RF1.out Tryz.underlying30 rfl FL.out ?_; rw [HFA.out])
      | (go_at_call 36; refine (C.out _ B0.out).mono ?_; rintro e w1 ⟨rfl, B1⟩; have QR := KR.out _ B1; have t0 := Bk.cell QR 0; have t1 := Bk.cell QR 1; simp at t0 t1; have v0 := Bk.fz QR 0; have v1 := Bk.fz QR 1; clear QR; have BX := hide B1; clear B1))
    exact bodyPost_ret (v := .agg #[.int .i64 0, .int .i64 0]) (by simp [results, Tryz.results21, go_sem, *]) rfl ⟨rfl, ((bto B0.out BX.out).setCell (by first | (simp; done) | (simp; omega)) _).setCell (by first | (simp; done) | (simp; omega)) _⟩
  · obtain rfl : X = Y := by rw [E.out]; rfl
    rw [HFA.out] at C
    clear E
    unfold ratV at *
    go_enter Tryz.func21, Tryz.ntmps21
    go_upto_region 1 with fail
    rw [HW1.out]
    clear HW1
    go_upto_region 3 with (first
      | (refine wpList_load_mid rfl 30 (.tmp 2) rfl w.heap.size 0 rfl csF _ RF1.out Tryz.underlying30 rfl FL.out ?_; rw [HFA.out])
      | (go_at_call 36; refine (C.out _ B0.out).mono ?_; rintro e w1 ⟨rfl, B1⟩; replace B1 := hide B1))
    have RC := hide (fun (W : World) (h : Below w1.heap.size w1 W) => show W.rangeAt (w.heap.size + 1) 0 csA from range_blk (KC.out W (bto B1.out h)))
    have RF := hide (fun (W : World) (h : Below w1.heap.size w1 W) => show W.rangeAt w.heap.size 0 csF from range_blk (KF.out W (bto B1.out h)))
    replace CS := hide (fun (W : World) (h : Below w1.heap.size w1 W) => CS.out W)
    replace CD := hide (fun (W : World) (h : Below w1.heap.size w1 W) => CD.out W (bto B0.out (bto B1.out h)))
    refine wp_region_tl1 (by kernel_rfl) (kdQ3 csA SV csF X) 4 rfl (Stat.of (by kernel_rfl)) (acy_of (by kernel_rfl)) (by kernel_rfl) ?_ ?_
    · as_aux_lemma =>
        intro Q' i o hi ho blk listed a wx I hd
        rcases (show i = 0 ∨ i = 1 ∨ i = 2 ∨ i = 3 by omega) with rfl | rfl | rfl | rfl
        · obtain rfl := Option.some.inj ho
          exact wpOp_valW rfl (wn rfl) (run_ldF rfl (show a.tmps.getD 3 undef = _ from (I.oth_at (by kernel_rfl)).trans rfl) (RC.out wx I.up) Tryz.underlying45 rfl CL.out) (show _ ∧ _ from ⟨rfl, be.Up.refl _⟩)
        · obtain rfl := Option.some.inj ho
          have v0 := (I.val_at (i := 0) (by decide) (hd ⟨0, .data⟩ (by simp) rfl) (.inl rfl) rfl)
          refine wpOp_callW rfl (wn rfl) (run_cl1 rfl rfl (fun v => enters_of Tryz.func42 (by kernel_rfl) rfl #[v] wx)) ?_
          refine (show Calls Tryz.prog 42 #[a.tmps.getD _ undef] wx _ from ?_)
          rw [v0]
          exact (CS.out wx I.up).mono (by rintro e w' ⟨rfl, hu⟩; exact ⟨_, rfl, (show _ ∧ _ from ⟨rfl, hu⟩)⟩)
        · obtain rfl := Option.some.inj ho
          exact wpOp_valW rfl (wn rfl) (run_ldF rfl (show a.tmps.getD 2 undef = _ from (I.oth_at (by kernel_rfl)).trans rfl) (RF.out wx I.up) Tryz.underlying30 rfl FL.out) (show _ ∧ _ from ⟨rfl, be.Up.refl _⟩)
        · obtain rfl := Option.some.inj ho
          have v0 := (I.val_at (i := 1) (by decide) (hd ⟨1, .data⟩ (by simp) rfl) (.inl rfl) rfl)
          have v1 := (I.val_at (i := 2) (by decide) (hd ⟨2, .data⟩ (by simp) rfl) (.inl rfl) rfl)
          refine wpOp_callW rfl (wn rfl) (run_cl2 rfl rfl (fun v u => enters_of Tryz.func43 (by kernel_rfl) rfl #[v, u] wx)) ?_
          refine (show Calls Tryz.prog 43 #[a.tmps.getD _ undef, a.tmps.getD _ undef] wx _ from ?_)
          rw [v0, v1]
          exact (CD.out wx I.up).mono (by rintro e w' ⟨rfl, hu⟩; exact ⟨_, rfl, (show _ ∧ _ from ⟨rfl, hu⟩)⟩)
    · intro blk listed a' wx I hall
      have fr := I.frameL [(9, (.agg csA.toArray)), (10, SV), (11, (.agg csF.toArray)), (12, (.agg #[.int .i64 X.1, .int .i64 X.2]))] (by
        intro p hp
        simp only [List.mem_cons, List.not_mem_nil, or_false] at hp
        rcases hp with rfl | rfl | rfl | rfl
        · exact ⟨by simp, I.val_at (i := 0) (by decide) (hall _ (by decide)) (.inl rfl) rfl⟩
        · exact ⟨by simp, I.val_at (i := 1) (by decide) (hall _ (by decide)) (.inl rfl) rfl⟩
        · exact ⟨by simp, I.val_at (i := 2) (by decide) (hall _ (by decide)) (.inl rfl) rfl⟩
        · exact ⟨by simp, I.val_at (i := 3) (by decide) (hall _ (by decide)) (.inl rfl) rfl⟩) (by kernel_rfl)
      have BY := hide (show Below W1.heap.size W1 wx from bto B1.out I.up)
      clear I hall
      subst fr
      dsimp only [setsL, List.set_cons_zero, List.set_cons_succ]
      have QR := KR.out wx BY.out
      refine wpOp_stM (b := w.heap.size + 2) (off := 0) (cells := #[.int .i64 X.1, .int .i64 X.2]) rfl rfl rfl rfl rfl (there_blk QR rfl) (by kernel_rfl) (by simp [Value.oneCell']) ?_
      have BW := hide (show Below w.heap.size w (wx.setCells (w.heap.size + 2) 0 [.int .i64 X.1, .int .i64 X.2]) from (bto B0.out BY.out).grown (setCells_grown _ _ _ _) (bto B0.out BY.out).size (fun k hk => by cases hk; omega))
      have RA := World.rangeAt_setCells_same wx (w.heap.size + 2) 0 [.int .i64 X.1, .int .i64 X.2] (there_blk QR rfl)
      go_wp2_with fail
      refine ret_cell (b := w.heap.size + 2) (cs := [.int .i64 X.1, .int .i64 X.2]) Tryz.results21 rfl RA Tryz.underlying23 rfl (by kernel_rfl) rfl ?_
      exact ⟨rfl, BW.out⟩
/-- What Form tells: a form in some memory, no error. -/
def FmC (x : Ex) (u : Value) (n : Nat) (us : List (Int × Int)) (ps : List Pa) (w : World) : Prop := ∀ W, Below w.heap.size w W → Calls Tryz.prog 8 #[exV x u] W fun e w' => ∃ fu, e = .returned (.tuple #[foV us fu, .int .i64 0]) ∧ PM w' n fu ps ∧ Below W.heap.size W w'
set_option maxRecDepth 100000 in
set_option maxHeartbeats 8000000 in
theorem lengthU_of (x : Ex) (u : Value) (cs : List (Int × Int)) (n : Nat) (us : List (Int × Int)) (ps : List Pa) (w : World) (hN : NthU w) (hus : Us us) (hu : EM w u x.ks) (hcs : cs.length = 6) (h64 : ∀ r ∈ cs, R64 r) (HF : FmC x u n us ps w) : Calls Tryz.prog 17 #[exV x u, cxV cs] w fun e w' => e = .returned (.tuple #[ratV (upx n cs us ps), .int .i64 0]) ∧ Below w.heap.size w w' := by
  replace HF := hide (show ∀ W, Below w.heap.size w W → Calls Tryz.prog 8 #[exV x u] W fun e w' => ∃ fu, e = .returned (.tuple #[foV us fu, .int .i64 0]) ∧ PM w' n fu ps ∧ Below W.heap.size W w' from HF)
  have CP := hide (fun (fu : Value) (W : World) (h : Below w.heap.size w W) (hp : PM W n fu ps) => pxU_any n us ps fu cs W (hN.low h) hus hp hcs h64)
  have FL := hide (fun (fu : Value) => fo_lenI hus fu)
  have F15 := hide (fun (fu : Value) => fo_len hus fu)
  have OA := hide (fun (fu : Value) (h : fu.oneCell' = true) => us_one (us := us) h)
  have CL := hide (show (Tryz.prog.info? 45).map (·.size) = some (usL cs).length by rw [usL_len, hcs]; kernel_rfl)
  have C12 := hide (show (usL cs).length = 12 by rw [usL_len, hcs])
  simp only [show ∀ fu, foV us fu = .agg (usL us ++ [fu]).toArray from fun _ => rfl] at HF CP
  obtain ⟨a, c, rfl, hl9⟩ := hu.shape
  unfold exV cxV at *
  generalize usL cs = csA at *
  generalize upx n cs us ps = X at *
  generalize x.k = xk at *
  generalize x.n = xn at *
  generalize x.d = xd at *
  generalize x.u = xu at *
  generalize x.ks.length = xl at *
  clear hN hus hu hcs h64
  obtain ⟨ca, hca⟩ : ∃ q : Array Value, csA.toArray = q := ⟨_, rfl⟩
  have ca12 : ca.size = 12 := by rw [← hca, List.size_toArray, C12.out]
  have HCA := hide hca
  obtain ⟨W1, hW1⟩ : ∃ W1, ((w.alloc (.cells #[.int .i64 xk, .int .i64 xn, .int .i64 xd, .int .i64 xu, .slice a xl c] 26)).alloc (.cells ca 45)).alloc (.cells #[.int .i64 0, .int .i64 0] 23) = W1 := ⟨_, rfl⟩
  have B0 := hide (show Below w.heap.size w W1 by rw [← hW1]; exact bplus (bplus (bplus (Below.refl _ _) _) _) _)
  have KE := hide (show Bk W1 w.heap.size 26 [.int .i64 xk, .int .i64 xn, .int .i64 xd, .int .i64 xu, .slice a xl c] by rw [← hW1]; exact (three_blk w _ _ _).1)
  have KC := hide (fun (W : World) (h : Below W1.heap.size W1 W) => show Bk W (w.heap.size + 1) 45 csA from Bk.up (show Bk W1 (w.heap.size + 1) 45 csA by rw [← hW1, ← hca]; exact (three_blk w _ _ _).2.1) h)
  have KR := hide (fun (W : World) (h : Below W1.heap.size W1 W) => show Bk W (w.heap.size + 2) 23 [.int .i64 0, .int .i64 0] from Bk.up (show Bk W1 (w.heap.size + 2) 23 _ by rw [← hW1]; exact (three_blk w _ _ _).2.2) h)
  rw [hca] at CP ⊢
  have HW1 := hide hW1
  clear hW1 hca
  obtain ⟨a0, a1, a2, a3, a4⟩ := bxk_5m KE.out
  unfold ratV at *
  go_enter Tryz.func17, Tryz.ntmps17
  go_upto_region 1 with fail
  rw [HW1.out]
  clear HW1
  go_upto_region 4 with (first
    | (go_at_call 8; refine (HF.out _ B0.out).mono ?_; rintro e wz ⟨fu, rfl, PF, BZ⟩; replace OA := hide (OA.out fu (pm_one PF)); replace PF := hide PF; replace BZ := hide BZ; replace FL := hide (FL.out fu); replace F15 := hide (F15.out fu); replace CP := hide (CP.out fu); obtain ⟨A, hA⟩ : ∃ A : List Value, usL us ++ [fu] = A := ⟨_, rfl⟩; rw [hA] at OA FL F15 CP ⊢; clear hA; have sA : A.toArray.size = 15 := (by rw [List.size_toArray]; exact F15.out); have T4 := hide (show (wz.alloc (.cells #[.int .i64 0, .int .i64 0, .int .i64 0, .int .i64 0, .int .i64 0, .int .i64 0, .int .i64 0, .int .i64 0, .int .i64 0, .int .i64 0, .int .i64 0, .int .i64 0, .int .i64 0, .int .i64 0, .slice none 0 0] 30)).there wz.heap.size 0 A.toArray.size from there_blk (heap_alloc_new wz _) (by rw [sA]; rfl)))
    | (refine wpList_store_mid rfl 30 (.tmp 6) (.tmp 11) rfl wz.heap.size 0 A.toArray rfl rfl T4.out (by rw [List.size_toArray]; exact FL.out) (all_oneCell_toArray OA.out) ?_))
  (try rw [show A.toArray.toList = A from rfl])
  obtain ⟨W4, hW4⟩ : ∃ W4, (wz.alloc (.cells #[.int .i64 0, .int .i64 0, .int .i64 0, .int .i64 0, .int .i64 0, .int .i64 0, .int .i64 0, .int .i64 0, .int .i64 0, .int .i64 0, .int .i64 0, .int .i64 0, .int .i64 0, .int .i64 0, .slice none 0 0] 30)).setCells wz.heap.size 0 A = W4 := ⟨_, rfl⟩
  have B4 := hide (show Below wz.heap.size wz W4 by rw [← hW4]; exact (bplus (Below.refl _ _) _).grown (setCells_grown _ _ _ _) (by simp) (fun k hk => by cases hk; exact Nat.le_refl _))
  have R4 := hide (show W4.rangeAt wz.heap.size 0 A by
    have q := Bk.puts A 0 _ _ (Bk.new wz 30 [.int .i64 0, .int .i64 0, .int .i64 0, .int .i64 0, .int .i64 0, .int .i64 0, .int .i64 0, .int .i64 0, .int .i64 0, .int .i64 0, .int .i64 0, .int .i64 0, .int .i64 0, .int .i64 0, .slice none 0 0]) (by rw [F15.out]; simp)
    rw [List.take_zero, List.nil_append, Nat.zero_add, List.drop_of_length_le (by rw [F15.out]; simp), List.append_nil] at q
    rw [← hW4]
    exact range_blk q)
  rw [hW4]
  clear hW4 T4
  have BY := hide (bto BZ.out B4.out)
  have RC := hide (show W4.rangeAt (w.heap.size + 1) 0 csA from range_blk (KC.out W4 BY.out))
  have CP2 := hide (CP.out W4 (bto B0.out BY.out) (PM.low B4.out PF.out))
  have BX := hide (Below.refl W4.heap.size W4)
  clear CP HF
  go_wp2_with (first
    | (refine wpList_load_mid rfl 30 (.tmp 6) rfl wz.heap.size 0 rfl A _ R4.out Tryz.underlying30 rfl FL.out ?_)
    | (refine wpList_load_mid rfl 45 (.tmp 3) rfl (w.heap.size + 1) 0 rfl csA _ RC.out Tryz.underlying45 rfl CL.out ?_; rw [HCA.out])
    | (go_at_call 21; refine CP2.out.mono ?_; rintro e w5 ⟨rfl, B5⟩; replace BX := hide (bto BY.out B5); have QR := KR.out _ BX.out; have t0 := Bk.cell QR 0; have t1 := Bk.cell QR 1; simp at t0 t1; have z0 := Bk.fz QR 0; have z1 := Bk.fz QR 1; clear QR))
  exact bodyPost_ret (v := .tuple #[.agg #[.int .i64 X.1, .int .i64 X.2], .int .i64 0]) (by simp [results, Tryz.results17, go_sem, *]) rfl ⟨rfl, ((bto B0.out BX.out).setCell (by first | (simp; done) | (simp; omega)) _).setCell (by first | (simp; done) | (simp; omega)) _⟩
set_option maxRecDepth 100000 in
set_option maxHeartbeats 8000000 in
/-- A number with a unit, as a form. -/
theorem formF_num (n d u : Int) (v : Value) (w : World) (hN : Nth w) (hn : i64 n) (hd : i64 d) (hu : i64 u) (hv : EM w v []) (h1 : kdT (.mk 1 n d u []) = 2) (h2 : kdX (.mk 1 n d u []) = 0) :
    Calls Tryz.prog 8 #[.agg #[.int .i64 1, .int .i64 n, .int .i64 d, .int .i64 u, v]] w fun e w' => e = .returned (.tuple #[foV (oneU u (n, d)) nilS, .int .i64 0]) ∧ Below w.heap.size w w' := by
  have i0 : i64 1 := ⟨by decide, by decide⟩
  have C1 := hide (fun (W : World) (h : Below w.heap.size w W) => kindIs_len (.mk 1 n d u []) v W ⟨i0, hn, hd, hu⟩ (hv.low h) h1 h2)
  have AU := hide (one_us u n d hn hd)
  obtain ⟨a, c, rfl, hl9⟩ := hv.shape
  have C2 := hide (fun (W : World) (h : Below w.heap.size w W) => form_num n d u a ([] : List Ex).length c W (hN.low h) hn hd hu)
  obtain ⟨SU, hSU⟩ : ∃ x, oneU u (n, d) = x := ⟨_, rfl⟩
  rw [hSU] at C2 AU ⊢
  unfold foV at C2 ⊢
  unfold exV at C1
  simp only [Ex.k, Ex.n, Ex.d, Ex.u] at C1
  obtain ⟨W1, hW1⟩ : ∃ W1, (w.alloc (.cells #[.int .i64 1, .int .i64 n, .int .i64 d, .int .i64 u, .slice a ([] : List Ex).length c] 26)).alloc (.cells #[.int .i64 0, .int .i64 0, .int .i64 0, .int .i64 0, .int .i64 0, .int .i64 0, .int .i64 0, .int .i64 0, .int .i64 0, .int .i64 0, .int .i64 0, .int .i64 0, .int .i64 0, .int .i64 0, .slice none 0 0] 30) = W1 := ⟨_, rfl⟩
  have B0 := hide (show Below w.heap.size w W1 by rw [← hW1]; exact bplus (bplus (Below.refl _ _) _) _)
  have P0 := hide (show Bk W1 w.heap.size 26 [.int .i64 1, .int .i64 n, .int .i64 d, .int .i64 u, .slice a ([] : List Ex).length c] by rw [← hW1]; exact (two_new w _ _).1)
  have P1 := hide (show BF W1 (w.heap.size + 1) z00 nilS by rw [← hW1]; exact (two_new w _ _).2)
  have HW1 := hide hW1
  generalize ([] : List Ex).length = xl at *
  obtain ⟨a0, a1, a2, a3, a4⟩ := bxk_5m P0.out
  have L7 : SU.length = 7 := AU.out.1
  have l3 : (usL SU ++ [nilS]).length = 15 := by rw [List.length_append, usL_len, L7]; rfl
  have H9 : (Tryz.prog.info? 30).map (·.size) = some (usL SU ++ [nilS]).toArray.size := by rw [List.size_toArray, l3]; kernel_rfl
  replace H9 := hide H9
  have TH := hide (fun (W : World) (h : Below W1.heap.size W1 W) => show W.there (w.heap.size + 1) 0 (usL SU ++ [nilS]).toArray.size from there_blk (show W.heap[w.heap.size + 1]? = some (.cells (usL z00 ++ [nilS]).toArray 30) from Bk.up P1.out h) (by simp only [List.size_toArray, l3]; rfl))
  have KE := hide (fun (W : World) (h : Below W1.heap.size W1 W) => bxk_5m (Bk.up P0.out h))
  clear hW1 hN hSU hv h1 h2 P0 P1 AU hn hd hu i0
  go_enter Tryz.func8, Tryz.ntmps8
  go_upto_region 1 with fail
  rw [HW1.out]
  clear HW1
  go_wp2_with (first
    | (go_at_call 25; refine (C1.out _ B0.out).mono ?_; rintro e w1 ⟨rfl, B1⟩; obtain ⟨e0, e1, e2, e3, e4⟩ := KE.out w1 B1; replace B1 := hide B1)
    | (go_at_call 26; refine (C2.out _ (bto B0.out B1.out)).mono ?_; rintro e w5 ⟨rfl, B5⟩; replace B5 := hide (bto B1.out B5))
    | (refine wpList_store_mid rfl 30 (.tmp 2) (.tmp 12) rfl (w.heap.size + 1) 0 (usL SU ++ [nilS]).toArray rfl rfl (TH.out _ B5.out) H9.out (all_oneCell_toArray (us_one rfl)) ?_))
  refine ret_cell2 (b := w.heap.size + 1) (cs := usL SU ++ [nilS]) Tryz.results8 rfl rfl (World.rangeAt_setCells_same _ _ _ _ (TH.out _ B5.out)) Tryz.underlying30 rfl (by rw [l3]; kernel_rfl) rfl ?_
  exact ⟨rfl, (bto B0.out B5.out).grown (setCells_grown _ _ _ _) (bto B0.out B5.out).size (fun k hk => by cases hk; simp)⟩
theorem run_eqE {ρ : Operand → Value} {w : World} {o : Oper} {x y : Operand} {n : Int} (ho : o.op = .binOp .eql 31 x y 31) (hx : ρ x = .int .i64 n) (hy : ρ y = .int .i64 n) : (execOp ρ o).run Tryz.prog w = .ok (.value (.bool true)) w := by
  unfold execOp
  rw [ho]
  simp [go_sem, hx, hy]
theorem wholeU_any (n : Int) (w : World) : Calls Tryz.prog 41 #[.int .i64 n] w fun e w' => e = .returned (.agg #[.int .i64 n, .int .i64 1]) ∧ Below w.heap.size w w' := by
  go_enter Tryz.func41, Tryz.ntmps41
  go_wp2
  exact bodyPost_ret (v := .agg #[.int .i64 n, .int .i64 1]) (by simp [results, Tryz.results41, go_sem]) rfl ⟨rfl, bplus (Below.refl _ _) _⟩
def awC : List (Int × Int) := [(16, 1), (0, 0), (0, 0), (0, 0), (0, 0), (0, 0)]
theorem awC_64 : ∀ r ∈ awC, R64 r := by
  intro r hr
  simp [awC] at hr
  rcases hr with rfl | rfl <;> exact ⟨⟨by decide, by decide⟩, ⟨by decide, by decide⟩⟩
theorem awP : upx 0 awC (oneU 2 (2, 1)) [] = (32, 1) := by decide +kernel
theorem awK : kdT (.mk 1 2 1 2 []) = 2 := by decide +kernel
theorem awX0 : kdX (.mk 1 2 1 2 []) = 0 := by decide +kernel
def kdAw  : Nat → Kd
  | 0 => .val (.agg #[.int .i64 32, .int .i64 1])
  | 1 => .val (.agg #[.int .i64 32, .int .i64 1])
  | 2 => .val (.bool true)
  | 3 => .val (.bool true)
  | 4 => .val (.int .i64 0)
  | 5 => .val (.bool true)
  | 6 => .val (.bool true)
  | 7 => .val (.bool true)
  | _ => .val undef
set_option maxRecDepth 100000 in
set_option maxHeartbeats 8000000 in
theorem awakeU_any (w : World) (hN : Nth w) (hM : NthU w) : Calls Tryz.prog 19 #[] w fun e w' => e = .returned (.bool true) ∧ Below w.heap.size w w' := by
  have i1 : i64 1 := ⟨by decide, by decide⟩
  have i2 : i64 2 := ⟨by decide, by decide⟩
  have HE := fun (W : World) => (show EM W (.slice none 0 0) ([] : List Ex) from .nil _ _)
  have CN := hide (fun (n : Int) (W : World) => wholeU_any n W)
  have CF := hide (fun (W : World) (h : Below w.heap.size w W) => lengthU_of (.mk 1 2 1 2 []) (.slice none 0 0) awC 0 (oneU 2 (2, 1)) [] W (hM.low h) (one_us 2 2 1 i2 i1) (HE W) rfl awC_64 (fun W' h' => (formF_num 2 1 2 (.slice none 0 0) W' (hN.low (bto h h')) i2 i1 i2 (HE W') awK awX0).mono (by rintro e w1 ⟨rfl, B1⟩; exact ⟨_, rfl, .inl ⟨_, _, rfl, rfl⟩, B1⟩)))
  rw [awP, show exV (.mk 1 2 1 2 []) (.slice none 0 0) = .agg #[.int .i64 1, .int .i64 2, .int .i64 1, .int .i64 2, .slice none 0 0] from rfl, show cxV awC = .agg #[.int .i64 16, .int .i64 1, .int .i64 0, .int .i64 0, .int .i64 0, .int .i64 0, .int .i64 0, .int .i64 0, .int .i64 0, .int .i64 0, .int .i64 0, .int .i64 0] from rfl, show ratV (32, 1) = .agg #[.int .i64 32, .int .i64 1] from rfl] at CF
  have BB := hide (Below.refl w.heap.size w)
  clear hN hM HE i1 i2
  go_enter Tryz.func19, Tryz.ntmps19
  go_upto_region 2 with (first
    | (go_at_call 41; refine (CN.out _ _).mono ?_; rintro e w1 ⟨rfl, B1⟩; replace BB := hide (bto BB.out B1); clear B1)
    | (go_at_call 17; refine (CF.out _ BB.out).mono ?_; rintro e w5 ⟨rfl, B5⟩; replace BB := hide (bto BB.out B5); clear B5))
  have BQ := hide (bplus BB.out (.cells #[.int .i64 32, .int .i64 1] 23))
  have NB := hide (Bk.new w5 23 [.int .i64 32, .int .i64 1])
  replace NB := hide (show Bk (w5.alloc (.cells #[.int .i64 32, .int .i64 1] 23)) w5.heap.size 23 [.int .i64 32, .int .i64 1] from NB.out)
  clear BB CF
  generalize w5.alloc (.cells #[.int .i64 32, .int .i64 1] 23) = wq at *
  generalize w5.heap.size = bq at *
  have RR := hide (fun (W : World) (h : Below wq.heap.size wq W) => bxk_2g (show W.heap[bq]? = some (.cells #[.int .i64 32, .int .i64 1] 23) from Bk.up NB.out h))
  have CW := hide (fun (W : World) (h : Below wq.heap.size wq W) => CN.out 32 W)
  refine wp_region_kdQ (by kernel_rfl) kdAw (Stat.of (by kernel_rfl)) (acy_of (by kernel_rfl)) ?_ ?_
  · as_aux_lemma =>
      intro Q' i o ho blk listed a wx I hd
      have hi : i < 8 := (Array.getElem?_eq_some_iff.1 ho).1
      rcases (show i = 0 ∨ i = 1 ∨ i = 2 ∨ i = 3 ∨ i = 4 ∨ i = 5 ∨ i = 6 ∨ i = 7 by omega) with rfl | rfl | rfl | rfl | rfl | rfl | rfl | rfl
      · obtain rfl := Option.some.inj ho
        exact wpOp_valW rfl (wn rfl) (run_ldA rfl (show a.tmps.getD 1 undef = _ from (I.oth_at (by kernel_rfl)).trans rfl) (RR.out wx I.up).1 (RR.out wx I.up).2) (show _ ∧ _ from ⟨rfl, be.Up.refl _⟩)
      · obtain rfl := Option.some.inj ho
        refine wpOp_callW rfl (wn rfl) (run_cl1 rfl rfl (fun v => enters_of Tryz.func41 (by kernel_rfl) rfl #[v] wx)) ?_
        refine (show Calls Tryz.prog 41 #[.int .i64 32] wx _ from ?_)
        exact (CW.out wx I.up).mono (by rintro e w' ⟨rfl, hu⟩; exact ⟨_, rfl, (show _ ∧ _ from ⟨rfl, hu⟩)⟩)
      · obtain rfl := Option.some.inj ho
        exact wpOp_valW rfl (wn rfl) (run_eqz (p := (32, 1)) (q := (32, 1)) rfl (I.val_at (i := 0) (by decide) (hd ⟨0, .data⟩ (by simp) rfl) (.inl rfl) rfl) (I.val_at (i := 1) (by decide) (hd ⟨1, .data⟩ (by simp) rfl) (.inl rfl) rfl) rfl) (show _ ∧ _ from ⟨rfl, be.Up.refl _⟩)
      · obtain rfl := Option.some.inj ho
        exact wpOp_valW rfl (wn rfl) (run_mv rfl (I.val_at (i := 2) (by decide) (hd ⟨2, .data⟩ (by simp) rfl) (.inl rfl) rfl)) (show _ ∧ _ from ⟨rfl, be.Up.refl _⟩)
      · obtain rfl := Option.some.inj ho
        exact wpOp_valW rfl (wgT (c := true) rfl rfl (I.val_at (i := 3) (by decide) (hd ⟨3, .guard⟩ (by simp) rfl) (.inl rfl) rfl) rfl) (run_mv rfl (show a.tmps.getD 2 undef = _ from (I.oth_at (by kernel_rfl)).trans rfl)) (show _ ∧ _ from ⟨rfl, be.Up.refl _⟩)
      · obtain rfl := Option.some.inj ho
        exact wpOp_valW rfl (wgT (c := true) rfl rfl (I.val_at (i := 3) (by decide) (hd ⟨3, .guard⟩ (by simp) rfl) (.inl rfl) rfl) rfl) (run_eqE rfl (I.val_at (i := 4) (by decide) (hd ⟨4, .data⟩ (by simp) rfl) (.inl rfl) rfl) rfl) (show _ ∧ _ from ⟨rfl, be.Up.refl _⟩)
      · obtain rfl := Option.some.inj ho
        exact wpOp_valW rfl (wn rfl) (run_pickT rfl (I.val_at (i := 3) (by decide) (hd ⟨3, .data⟩ (by simp) rfl) (.inl rfl) rfl) (I.val_at (i := 5) (by decide) (hd ⟨5, .data⟩ (by simp) rfl) (.inl rfl) rfl)) (show _ ∧ _ from ⟨rfl, be.Up.refl _⟩)
      · obtain rfl := Option.some.inj ho
        exact wpOp_valW rfl (wn rfl) (run_as rfl (I.val_at (i := 6) (by decide) (hd ⟨6, .data⟩ (by simp) rfl) (.inl rfl) rfl)) (show _ ∧ _ from ⟨rfl, be.Up.refl _⟩)
  · intro blk listed a' wx I hall
    have fr := I.frameL [(11, (.agg #[.int .i64 32, .int .i64 1])), (12, (.agg #[.int .i64 32, .int .i64 1])), (13, (.bool true)), (14, (.bool true)), (15, (.int .i64 0)), (16, (.bool true)), (17, (.bool true)), (0, (.bool true))] (by
      intro p hp
      simp only [List.mem_cons, List.not_mem_nil, or_false] at hp
      rcases hp with rfl | rfl | rfl | rfl | rfl | rfl | rfl | rfl
      · exact ⟨by simp, I.val_at (i := 0) (by decide) (hall _ (by decide)) (.inl rfl) rfl⟩
      · exact ⟨by simp, I.val_at (i := 1) (by decide) (hall _ (by decide)) (.inl rfl) rfl⟩
      · exact ⟨by simp, I.val_at (i := 2) (by decide) (hall _ (by decide)) (.inl rfl) rfl⟩
      · exact ⟨by simp, I.val_at (i := 3) (by decide) (hall _ (by decide)) (.inl rfl) rfl⟩
      · exact ⟨by simp, I.val_at (i := 4) (by decide) (hall _ (by decide)) (.inl rfl) rfl⟩
      · exact ⟨by simp, I.val_at (i := 5) (by decide) (hall _ (by decide)) (.inl rfl) rfl⟩
      · exact ⟨by simp, I.val_at (i := 6) (by decide) (hall _ (by decide)) (.inl rfl) rfl⟩
      · exact ⟨by simp, I.val_at (i := 7) (by decide) (hall _ (by decide)) (.inl rfl) rfl⟩) (by kernel_rfl)
    have BY := hide (show Below w.heap.size w wx from bto BQ.out I.up)
    clear I hall
    subst fr
    dsimp only [setsL, List.set_cons_zero, List.set_cons_succ]
    go_wp2_with fail
    go_ret
    exact ⟨rfl, BY.out⟩
end Go.Proofs.YtlhmecagijdinaaGreatDoor.nm
