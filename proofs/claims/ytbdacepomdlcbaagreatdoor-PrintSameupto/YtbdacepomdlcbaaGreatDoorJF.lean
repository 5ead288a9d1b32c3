/-
  A rule and a group, written by the program.
  A rule, written by the program; all rules.
  Rules' texts: all of them, by the program.
-/
import Derived.Test.YtbdacepomdlcbaaGreatDoorJE
import Derived.Deep.RegionWith
set_option linter.unusedVariables false
set_option linter.unusedSimpArgs false
namespace Go.Proofs.YtbdacepomdlcbaaGreatDoor
open Go.RowKit Go.Shelf

theorem PostW.cong {ok ok' : Prop} {B b : Nat} {xs ys ys' : List Int} {n : Int} {w : World} {r : Ending} {w' : World} (h : PostW ok B b xs ys n w r w') (h1 : ok ↔ ok') (h2 : ys = ys') : PostW ok' B b xs ys' n w r w' := by
  subst h2
  rcases h with ⟨h, g⟩ | ⟨h, g⟩
  · exact .inl ⟨h1.1 h, g⟩
  · exact .inr ⟨fun k => h (h1.2 k), g⟩
theorem bxr_at {w : World} {k : Nat} {x : Int} {s : ByteArray} {up ud ur : Value} {T : TypeId} (h : w.heap[k]? = some (.cells #[.int .i64 x, .string s, up, ud, ur] T)) : w.cell? ⟨k, 0, none⟩ = some (.int .i64 x) ∧ w.cell? ⟨k, 1, none⟩ = some (.string s) ∧ w.cell? ⟨k, 2, none⟩ = some up ∧ w.cell? ⟨k, 3, none⟩ = some ud ∧ w.cell? ⟨k, 4, none⟩ = some ur := ⟨by rw [row_blk h]; rfl, by rw [row_blk h]; rfl, by rw [row_blk h]; rfl, by rw [row_blk h]; rfl, by rw [row_blk h]; rfl⟩
theorem grp_bl (s : ByteArray) : bl ((⟨#[64]⟩ ++ s) ++ ⟨#[32]⟩) = 64 :: (bl s ++ [32]) := by rw [bl_app, bl_app]; rfl
set_option maxRecDepth 100000 in
set_option maxHeartbeats 1500000 in
theorem groupP_any (N m : Nat) (hR : RuC N m) (w0 : World) (b : Nat) (xs : List Int) (n : Nat) (r : RT) (up ud ur : Value) (W : World) (hN : zsL r.rs ≤ N) (hn : n < 64) (hW : Below w0.heap.size w0 W) (hw : Wr w0.heap.size b xs n W)
    (hx : xs.length + ((bl r.s).length + 2 + ((vlT r.p).length + 1 + (rusT r.rs).length + 1)) ≤ 35184372088000) (hp : VM w0 up r.p) (hd : DM w0 ud r.ds) (hr : RM w0 ur r.rs) (hB : RBd m r) (hK : KT w0) (hT : Tabs w0) :
    Calls Tryz.prog 59 #[.pointer (some ⟨b, 0, none⟩), .agg #[.int .i64 r.k, .string r.s, up, ud, ur]] W fun e w' => PostW (vlB r.p ∧ okRs r.rs (n + 1)) w0.heap.size b xs ((64 :: (bl r.s ++ [32])) ++ (((vlT r.p ++ [123]) ++ rusT r.rs) ++ [125])) n W e w' := by
  obtain ⟨pa, pc, hps, _⟩ := hp.shape
  obtain ⟨da, dc, hds, _⟩ := hd.shape
  obtain ⟨ra, rc, hrs, hr9⟩ := hr.shape
  have CB := hide (fun (V : World) (ys : List Int) (h : Below w0.heap.size w0 V) (hw : Wr w0.heap.size b ys ((n : Int) + 1) V) (hy : ys.length + ((vlT r.p).length + 1 + (rusT r.rs).length + 1) ≤ 35184372088000) =>
    blockR_any w0 b ys (rusT r.rs) ((n : Int) + 1) (okRs r.rs (n + 1)) r.p m up ra r.rs.length rc V h hw hy hp hB.pb hK hT
      (fun V' zs h' hw' hz => by have := eachR_any N m hR w0 b zs (n + 1) r.rs ur V' hN (by omega) h' (by exact_mod_cast hw') hz hr hB.rb hK hT; rw [hrs] at this; exact_mod_cast this))
  have BW := hide hW
  have XL := hide hx
  have SZ := hide (show w0.heap.size ≤ W.heap.size from hW.size)
  have NE0 : W.heap.size ≠ b := by have := hw.lt; omega
  have NE1 : b ≠ W.heap.size := by omega
  have s9 := hB.s_le
  subst hps hds hrs
  obtain ⟨k, s, p, ds, rs⟩ := r
  simp only [RT.k, RT.s, RT.p, RT.ds, RT.rs] at *
  have P := hide ((PW.refl hw).low SZ.out (bplus (Below.refl _ _) (.cells #[.int .i64 k, .string s, .slice pa p.length pc, .slice da ds.length dc, .slice ra rs.length rc] 58)))
  have BX := hide (show (W.alloc (.cells #[.int .i64 k, .string s, .slice pa p.length pc, .slice da ds.length dc, .slice ra rs.length rc] 58)).heap[W.heap.size]? = some (.cells #[.int .i64 k, .string s, .slice pa p.length pc, .slice da ds.length dc, .slice ra rs.length rc] 58) from heap_alloc_new W _)
  have NE := hide NE0
  have ZS := hide (show ((⟨#[64]⟩ ++ s) ++ ⟨#[32]⟩ : ByteArray).size = s.size + 2 by rw [← bl_len, grp_bl]; simp [bl_len])
  have L1 := hide (show xs.length + ((⟨#[64]⟩ ++ s) ++ ⟨#[32]⟩ : ByteArray).size ≤ 140737488355328 by rw [ZS.out]; have := XL.out; rw [bl_len] at this; omega)
  clear hp hd hr hB hK hT hW hw hx hR
  go_enter Tryz.func59, Tryz.ntmps59
  go_wp2_with fail
  have hz1 : 1 + s.size ≤ 9223372036854775807 := by omega
  have hz2 : 1 + s.size + 1 ≤ 9223372036854775807 := by omega
  have KP := hide (fun (V : World) (h : Below (W.alloc (.cells #[.int .i64 k, .string s, .slice pa p.length pc, .slice da ds.length dc, .slice ra rs.length rc] 58)).heap.size (W.alloc (.cells #[.int .i64 k, .string s, .slice pa p.length pc, .slice da ds.length dc, .slice ra rs.length rc] 58)) V) => show V.cell? ⟨W.heap.size, 1, none⟩ = some (.string s) from (h.cell (p := ⟨W.heap.size, 1, none⟩) (Array.getElem?_eq_some_iff.1 BX.out).1).trans (bxr_at BX.out).2.1)
  have KQ := KP.out _ (Below.drew (Below.refl _ _))
  go_region_with
    (first | (go_at_call 39; refine (wrStr_any w0.heap.size b xs n _ _ ((P.out.low (P.out.size SZ.out) (by repeat (first | exact Below.refl _ _ | (with_reducible refine Below.drew ?_) | (with_reducible refine below_drewN ?_ _) | (refine bto ?_ (by assumption))))).wr) L1.out (Nat.le_trans SZ.out (by simp))).mono ?_; rintro e w1 ⟨rfl, Q⟩; replace P := hide ((P.out.low (P.out.size SZ.out) (by repeat (first | exact Below.refl _ _ | (with_reducible refine Below.drew ?_) | (with_reducible refine below_drewN ?_ _) | (refine bto ?_ (by assumption))))).trans Q); replace BX := hide (Q.step BX.out (by decide) NE.out); have SK := (bxr_at BX.out).2.1; clear Q))
  all_goals
    clear KP
    obtain ⟨q0, q1, q2, q3, q4⟩ := bxr_at BX.out
    obtain ⟨a0, a1, a2, a3⟩ := P.out.wr.around
    have MV := hide (P.out.wr.move ((n : Int) + 1))
    have P2 := hide (P.out.trans MV.out)
    have L2 := hide (show (xs ++ bl ((⟨#[64]⟩ ++ s) ++ ⟨#[32]⟩)).length + ((vlT p).length + 1 + (rusT rs).length + 1) ≤ 35184372088000 by rw [List.length_append, grp_bl]; simp only [List.length_cons, List.length_append, List.length_nil]; have := XL.out; omega)
    by_cases hok : vlB p ∧ okRs rs (n + 1)
    · have HO := hide hok
      clear hok
      go_wp2_with (go_at_call 88; refine (CB.out _ _ (BW.out.trans P2.out.bel) P2.out.wr L2.out).mono ?_; intro r w3 hP; obtain ⟨rfl, Q⟩ := hP.yes HO.out; clear hP; replace P2 := hide (P2.out.trans Q); clear Q a0 a1 a2 a3; obtain ⟨a0, a1, a2, a3⟩ := P2.out.wr.around)
      go_ret
      refine .inl ⟨HO.out, rfl, ?_⟩
      have E := P2.out.trans (P2.out.wr.move n)
      rw [grp_bl] at E
      simpa using E
    · have HO := hide hok
      clear hok
      go_wp2_with (go_at_call 88; refine (CB.out _ _ (BW.out.trans P2.out.bel) P2.out.wr L2.out).mono ?_; intro r w3 hP; obtain ⟨rfl, zs, Q⟩ := hP.no HO.out; clear hP; replace P2 := hide (P2.out.trans Q); clear Q a0 a1 a2 a3; obtain ⟨a0, a1, a2, a3⟩ := P2.out.wr.around)
      go_ret
      exact .inr ⟨HO.out, rfl, _, P2.out.trans (P2.out.wr.move n)⟩
end Go.Proofs.YtbdacepomdlcbaaGreatDoor
set_option linter.unusedVariables false
set_option linter.unusedSimpArgs false
namespace Go.Proofs.YtbdacepomdlcbaaGreatDoor
open Go.RowKit Go.Shelf

theorem len_nil {α : Type} {l : List α} (h : l.length = 0) : l = [] := List.eq_nil_of_length_eq_zero h
set_option maxRecDepth 100000 in
set_option maxHeartbeats 1500000 in
theorem ruleP_step (N m : Nat) (hR : RuC N m) : RuC (N + 1) m := by
  intro w0 b xs n r up ud ur W hN hn hW hw hx hp hd hr hB hK hT
  obtain ⟨pa, pc, hps, _⟩ := hp.shape
  obtain ⟨da, dc, hds, hd9⟩ := hd.shape
  obtain ⟨ra, rc, hrs, hr9⟩ := hr.shape
  have s9 := hB.s_le
  have s8 : r.s.size ≤ maxLen := by unfold maxLen; omega
  have OK := hide (okR_eq r n)
  obtain ⟨ar0, ar1, ar2, ar3⟩ := hw.around
  have NE1 : b ≠ W.heap.size := by omega
  have NE2 : W.heap.size ≠ b := by omega
  have B0 := hide (bplus (Below.refl W.heap.size W) (.cells #[.int .i64 r.k, .string r.s, up, ud, ur] 58))
  have BX := hide (show (W.alloc (.cells #[.int .i64 r.k, .string r.s, up, ud, ur] 58)).heap[W.heap.size]? = some (.cells #[.int .i64 r.k, .string r.s, up, ud, ur] 58) from heap_alloc_new W _)
  have HW := hide hw
  have BW := hide hW
  have SZ := hide (show w0.heap.size ≤ W.heap.size from hW.size)
  have C1 := hide (fun (V : World) => isStyle_any r.k r.s up ud ra r.rs.length rc V s8 hr9)
  have C2 := hide (fun (V : World) => isGroup_any r.k r.s up da r.ds.length dc ur V s8 hd9)
  rw [← hrs] at C1
  rw [← hds] at C2
  by_cases hn64 : n < 64
  case neg =>
    have hn' : (64 : Int) ≤ (n : Int) := by omega
    have F := hide (show ¬ okR r n by rw [OK.out]; intro h; exact hn64 h.1)
    subst hps hds hrs
    clear hp hd hr hB hK hT hW hw hx C1 C2 hR OK
    go_enter Tryz.func28, Tryz.ntmps28
    go_wp2
    go_ret
    exact .inr ⟨F.out, rfl, _, (PW.refl HW.out).low SZ.out B0.out⟩
  have hn' : (n : Int) < 64 := by omega
  by_cases hS : r.k = 1 ∧ r.s.size = 0 ∧ r.rs.length = 0
  · have E1 := hide (show (decide (r.k = 1) && (decide (r.s.size = 0) && decide (r.rs.length = 0))) = true by simp [hS.1, hS.2.1, hS.2.2])
    have T1 := hide (ruT_style hS.1)
    have CB := hide (fun (V : World) (h : Below W.heap.size W V) => (blockD_any w0 b xs (dsT r.ds) n (∀ d ∈ r.ds, dcB d.s d.l) r.p m up da r.ds.length dc V (bto hW h) (hw.low h) (by rw [T1.out] at hx; simp only [List.length_append, List.length_singleton] at hx; omega) hp hB.pb hK hT
      (fun V' zs h' hw' hz => by have := eachD_any w0 b zs n r.ds m ud V' h' hw' hz hd hB.db hK hT; rw [hds] at this; exact this)))
    have CG := hide (fun (e : Ending) (V V' : World) (h : PostW (vlB r.p ∧ ∀ d ∈ r.ds, dcB d.s d.l) w0.heap.size b xs (((vlT r.p ++ [123]) ++ dsT r.ds) ++ [125]) n V e V') => show PostW (okR r n) w0.heap.size b xs (ruT r) n V e V' from
      h.cong (by rw [OK.out]; constructor
                 · intro g; exact ⟨hn64, g.1, .inl ⟨hS.1, hS.2.1, len_nil hS.2.2, g.2⟩⟩
                 · rintro ⟨_, g1, g2 | g2⟩
                   · exact ⟨g1, g2.2.2.2⟩
                   · exact absurd (g2.1.symm.trans hS.1) (by decide)) T1.out.symm)
    subst hps hds hrs
    clear hp hd hr hB hK hT hW hw hx C2 hR OK hS hN
    obtain ⟨q0, q1, q2, q3, q4⟩ := bxr_at BX.out
    by_cases hok : vlB r.p ∧ ∀ d ∈ r.ds, dcB d.s d.l
    · have HO := hide hok
      clear hok
      go_enter Tryz.func28, Tryz.ntmps28
      go_wp2_with (first
        | (go_at_call 56; refine (C1.out _).mono ?_; rintro e w1 ⟨rfl, B1⟩; rw [E1.out]; replace BX := hide ((B1.block _ (Array.getElem?_eq_some_iff.1 BX.out).1).trans BX.out); replace B0 := hide (bto B0.out B1); clear B1 q0 q1 q2 q3 q4; obtain ⟨q0, q1, q2, q3, q4⟩ := bxr_at BX.out)
        | (go_at_call 57; refine (CB.out _ B0.out).mono ?_; intro e w2 hP; obtain ⟨rfl, Q⟩ := hP.yes HO.out; clear hP; replace Q := hide Q))
      go_ret
      exact CG.out _ _ _ (.inl ⟨HO.out, rfl, ((PW.refl HW.out).low SZ.out B0.out).trans Q.out⟩)
    · have HO := hide hok
      clear hok
      go_enter Tryz.func28, Tryz.ntmps28
      go_wp2_with (first
        | (go_at_call 56; refine (C1.out _).mono ?_; rintro e w1 ⟨rfl, B1⟩; rw [E1.out]; replace BX := hide ((B1.block _ (Array.getElem?_eq_some_iff.1 BX.out).1).trans BX.out); replace B0 := hide (bto B0.out B1); clear B1 q0 q1 q2 q3 q4; obtain ⟨q0, q1, q2, q3, q4⟩ := bxr_at BX.out)
        | (go_at_call 57; refine (CB.out _ B0.out).mono ?_; intro e w2 hP; obtain ⟨rfl, ys, Q⟩ := hP.no HO.out; clear hP; replace Q := hide Q))
      go_ret
      exact CG.out _ _ _ (.inr ⟨HO.out, rfl, _, ((PW.refl HW.out).low SZ.out B0.out).trans Q.out⟩)
  have E1 := hide (show (decide (r.k = 1) && (decide (r.s.size = 0) && decide (r.rs.length = 0))) = false by rw [Bool.eq_false_iff]; intro h; simp only [Bool.and_eq_true, decide_eq_true_eq] at h; exact hS h)
  by_cases hG : r.k = 2 ∧ gnB r.s = true ∧ r.ds.length = 0
  · have E2 := hide (show (decide (r.k = 2) && (gnB r.s && decide (r.ds.length = 0))) = true by simp [hG.1, hG.2.1, hG.2.2])
    have T1 := hide (ruT_group (r := r) (by rw [hG.1]; decide))
    have TX := hide (show (64 :: (bl r.s ++ [32])) ++ (((vlT r.p ++ [123]) ++ rusT r.rs) ++ [125]) = ruT r by rw [T1.out]; simp)
    have CB := hide (fun (V : World) (h : Below W.heap.size W V) => groupP_any N m hR w0 b xs n r up ud ur V (by omega) hn64 (bto hW h) (hw.low h) (by rw [T1.out] at hx; simp only [List.length_append, List.length_singleton, List.length_cons, List.length_nil] at hx; omega) hp hd hr hB hK hT)
    have CG := hide (fun (e : Ending) (V V' : World) (h : PostW (vlB r.p ∧ okRs r.rs (n + 1)) w0.heap.size b xs ((64 :: (bl r.s ++ [32])) ++ (((vlT r.p ++ [123]) ++ rusT r.rs) ++ [125])) n V e V') => show PostW (okR r n) w0.heap.size b xs (ruT r) n V e V' from
      h.cong (by rw [OK.out]; constructor
                 · intro g; exact ⟨hn64, g.1, .inr ⟨hG.1, hG.2.1, len_nil hG.2.2, g.2⟩⟩
                 · rintro ⟨_, g1, g2 | g2⟩
                   · exact absurd (g2.1.symm.trans hG.1) (by decide)
                   · exact ⟨g1, g2.2.2.2⟩) TX.out)
    subst hps hds hrs
    clear hp hd hr hB hK hT hW hw hx hR OK hS hN hG
    obtain ⟨q0, q1, q2, q3, q4⟩ := bxr_at BX.out
    by_cases hok : vlB r.p ∧ okRs r.rs (n + 1)
    · have HO := hide hok
      clear hok
      go_enter Tryz.func28, Tryz.ntmps28
      go_wp2_with (first
        | (go_at_call 56; refine (C1.out _).mono ?_; rintro e w1 ⟨rfl, B1⟩; rw [E1.out]; replace BX := hide ((B1.block _ (Array.getElem?_eq_some_iff.1 BX.out).1).trans BX.out); replace B0 := hide (bto B0.out B1); clear B1 q0 q1 q2 q3 q4; obtain ⟨q0, q1, q2, q3, q4⟩ := bxr_at BX.out)
        | (go_at_call 58; refine (C2.out _).mono ?_; rintro e w1 ⟨rfl, B1⟩; rw [E2.out]; replace BX := hide ((B1.block _ (Array.getElem?_eq_some_iff.1 BX.out).1).trans BX.out); replace B0 := hide (bto B0.out B1); clear B1 q0 q1 q2 q3 q4; obtain ⟨q0, q1, q2, q3, q4⟩ := bxr_at BX.out)
        | (go_at_call 59; refine (CB.out _ B0.out).mono ?_; intro e w2 hP; obtain ⟨rfl, Q⟩ := hP.yes HO.out; clear hP; replace Q := hide Q))
      go_ret
      exact CG.out _ _ _ (.inl ⟨HO.out, rfl, ((PW.refl HW.out).low SZ.out B0.out).trans Q.out⟩)
    · have HO := hide hok
      clear hok
      go_enter Tryz.func28, Tryz.ntmps28
      go_wp2_with (first
        | (go_at_call 56; refine (C1.out _).mono ?_; rintro e w1 ⟨rfl, B1⟩; rw [E1.out]; replace BX := hide ((B1.block _ (Array.getElem?_eq_some_iff.1 BX.out).1).trans BX.out); replace B0 := hide (bto B0.out B1); clear B1 q0 q1 q2 q3 q4; obtain ⟨q0, q1, q2, q3, q4⟩ := bxr_at BX.out)
        | (go_at_call 58; refine (C2.out _).mono ?_; rintro e w1 ⟨rfl, B1⟩; rw [E2.out]; replace BX := hide ((B1.block _ (Array.getElem?_eq_some_iff.1 BX.out).1).trans BX.out); replace B0 := hide (bto B0.out B1); clear B1 q0 q1 q2 q3 q4; obtain ⟨q0, q1, q2, q3, q4⟩ := bxr_at BX.out)
        | (go_at_call 59; refine (CB.out _ B0.out).mono ?_; intro e w2 hP; obtain ⟨rfl, ys, Q⟩ := hP.no HO.out; clear hP; replace Q := hide Q))
      go_ret
      exact CG.out _ _ _ (.inr ⟨HO.out, rfl, _, ((PW.refl HW.out).low SZ.out B0.out).trans Q.out⟩)
  have E2 := hide (show (decide (r.k = 2) && (gnB r.s && decide (r.ds.length = 0))) = false by rw [Bool.eq_false_iff]; intro h; simp only [Bool.and_eq_true, decide_eq_true_eq] at h; exact hG h)
  have F := hide (show ¬ okR r n by
    rw [OK.out]
    rintro ⟨_, _, g | g⟩
    · exact hS ⟨g.1, g.2.1, by rw [g.2.2.1]; rfl⟩
    · exact hG ⟨g.1, g.2.1, by rw [g.2.2.1]; rfl⟩)
  subst hps hds hrs
  clear hp hd hr hB hK hT hW hw hx hR OK hS hN hG
  obtain ⟨q0, q1, q2, q3, q4⟩ := bxr_at BX.out
  go_enter Tryz.func28, Tryz.ntmps28
  go_wp2_with (first
    | (go_at_call 56; refine (C1.out _).mono ?_; rintro e w1 ⟨rfl, B1⟩; rw [E1.out]; replace BX := hide ((B1.block _ (Array.getElem?_eq_some_iff.1 BX.out).1).trans BX.out); replace B0 := hide (bto B0.out B1); clear B1 q0 q1 q2 q3 q4; obtain ⟨q0, q1, q2, q3, q4⟩ := bxr_at BX.out)
    | (go_at_call 58; refine (C2.out _).mono ?_; rintro e w1 ⟨rfl, B1⟩; rw [E2.out]; replace BX := hide ((B1.block _ (Array.getElem?_eq_some_iff.1 BX.out).1).trans BX.out); replace B0 := hide (bto B0.out B1); clear B1 q0 q1 q2 q3 q4; obtain ⟨q0, q1, q2, q3, q4⟩ := bxr_at BX.out))
  go_ret
  exact .inr ⟨F.out, rfl, _, (PW.refl HW.out).low SZ.out B0.out⟩
theorem ruleP_all (N m : Nat) : RuC N m := by
  induction N with
  | zero => intro w0 b xs n r up ud ur W hN; omega
  | succ N ih => exact ruleP_step N m ih
end Go.Proofs.YtbdacepomdlcbaaGreatDoor
set_option linter.unusedVariables false
set_option linter.unusedSimpArgs false
namespace Go.Proofs.YtbdacepomdlcbaaGreatDoor
open Go.RowKit Go.Shelf

theorem eachNoneR_any (a : Option Addr) (c : Nat) (f : Value) (w : World) (hf : ∃ i x, f = .func (.func i) x #[]) : Calls Tryz.prog 27 #[.slice a 0 c, f] w fun r w' => r = .returned (.int .i64 0) ∧ w' = w := by
  obtain ⟨i, x, rfl⟩ := hf
  go_enter Tryz.func27, Tryz.ntmps27
  go_wp2
  refine wp_loop_rounds 1 ?_
  rw [rounds_succ]
  go_wp2
  go_ret
  exact ⟨rfl, rfl⟩
/-- What is told of rules. -/
def SpR (l : List RT) (n : Nat) (u : ByteArray) (c : Int) : Prop := (okRs l n ∧ c = 0 ∧ bl u = rusT l) ∨ (¬ okRs l n ∧ c = 1 ∧ u = ⟨#[]⟩)
def PostRr (l : List RT) (n : Nat) (w : World) (e : Ending) (w' : World) : Prop := ∃ u c, e = .returned (.tuple #[.string u, .int .i64 c]) ∧ SpR l n u c ∧ Below w.heap.size w w'
theorem spr_eq {l : List RT} {n : Nat} {s u : ByteArray} {c d : Int} (h : SpR l n s c) (k : SpR l n u d) : u = s ∧ d = c := by
  rcases h with ⟨h1, h2, h3⟩ | ⟨h1, h2, h3⟩ <;> rcases k with ⟨k1, k2, k3⟩ | ⟨k1, k2, k3⟩
  · exact ⟨bl_inj (k3.trans h3.symm), k2.trans h2.symm⟩
  · exact absurd h1 k1
  · exact absurd k1 h1
  · exact ⟨k3.trans h3.symm, k2.trans h2.symm⟩
theorem ruT_ne (r : RT) : ruT r ≠ [] := by
  cases r with
  | mk k s p ds rs =>
    rw [ruT]
    split
    · simp
    · simp
theorem rusT_ne {l : List RT} (h : l ≠ []) : rusT l ≠ [] := by
  cases l with
  | nil => exact absurd rfl h
  | cons r rs => rw [rusT_cons]; intro e; exact ruT_ne r (List.append_eq_nil_iff.1 e).1
theorem By.app' {a b : List Int} (h : By a) (k : By b) : By (a ++ b) := by
  intro x hx
  rcases List.mem_append.1 hx with hx | hx
  · exact h x hx
  · exact k x hx
theorem By.one {x : Int} (h : 0 ≤ x ∧ x ≤ 255) : By [x] := by intro y hy; rw [List.mem_singleton] at hy; subst hy; exact h
theorem rus_by (N : Nat) : ∀ l : List RT, zsL l ≤ N → By (rusT l) := by
  induction N with
  | zero =>
    intro l h
    cases l with
    | nil => rw [rusT_nil]; intro x hx; cases hx
    | cons r rs => rw [zsL_cons] at h; omega
  | succ N ih =>
    intro l
    induction l with
    | nil => intro _; rw [rusT_nil]; intro x hx; cases hx
    | cons r rs ih2 =>
      intro h
      rw [zsL_cons] at h
      rw [rusT_cons]
      refine By.app' ?_ (ih2 (by omega))
      have h1 := ih r.rs (by omega)
      cases r with
      | mk k s p ds rs' =>
        rw [ruT]
        split
        · exact By.app' (By.app' (By.app' (spA_by _ _) (By.one (by decide))) (dsT_by ds)) (By.one (by decide))
        · refine By.app' (By.app' (By.app' ?_ (By.app' (spA_by _ _) (By.one (by decide)))) h1) (By.one (by decide))
          exact By.app' (a := [64]) (By.one (by decide)) (By.app' (bl_by s) (By.one (by decide)))
set_option maxRecDepth 100000 in
theorem rulesNone_any (a : Option Addr) (c : Nat) (w : World) : Calls Tryz.prog 13 #[.slice a 0 c] w fun e w' => PostRr [] 0 w e w' := by
  have CT := hide (toldNone_any w.heap.size 0 (w.alloc (.cells #[.pointer none, .slice none 0 0, .int .i64 0] 51)) (heap_alloc_new w _))
  go_enter Tryz.func13, Tryz.ntmps13
  go_wp2_with (first
    | (go_at_call 27; refine (eachNoneR_any _ _ _ _ ⟨_, _, rfl⟩).mono ?_; rintro r w2 ⟨rfl, rfl⟩)
    | (go_at_call 23; refine CT.out.mono ?_; rintro r w3 ⟨rfl, B3⟩; replace B3 := hide (show Below w.heap.size w w3 from bto (bplus (Below.refl _ _) _) B3)))
  go_ret2
  exact ⟨_, _, rfl, .inl ⟨okRs_nil 0, rfl, by rw [rusT_nil]; rfl⟩, B3.out⟩
set_option maxRecDepth 100000 in
set_option maxHeartbeats 1000000 in
theorem rulesP_any (l : List RT) (m : Nat) (v : Value) (w : World) (hx : (rusT l).length ≤ 35184372088000) (hv : RM w v l) (hB : ∀ r ∈ l, RBd m r) (hK : KT w) (hT : Tabs w) :
    Calls Tryz.prog 13 #[v] w fun e w' => PostRr l 0 w e w' := by
  by_cases hl : l = []
  · subst hl
    obtain ⟨a, c, rfl, _⟩ := hv.shape
    exact rulesNone_any a c w
  have CE := hide (eachR_any (zsL l) m (ruleP_all (zsL l) m) w w.heap.size [] 0 l v _ (Nat.le_refl _) (by omega) (bplus (Below.refl _ _) (.cells #[.pointer none, .slice none 0 0, .int .i64 0] 51)) (Wr.fresh w) (by simpa using hx) hv hB hK hT)
  have BY := hide (rus_by (zsL l) l (Nat.le_refl _))
  have NE := hide (rusT_ne hl)
  obtain ⟨a, c, rfl, h9⟩ := hv.shape
  clear hv hB hK hT hl hx
  have SZ := hide (show w.heap.size ≤ (w.alloc (.cells #[.pointer none, .slice none 0 0, .int .i64 0] 51)).heap.size by simp)
  by_cases hd : okRs l 0
  · have HD := hide hd
    clear hd
    go_enter Tryz.func13, Tryz.ntmps13
    go_wp2_with (first
      | (go_at_call 27; refine CE.out.mono ?_; intro r w2 hP; obtain ⟨rfl, Q⟩ := hP.yes HD.out; clear hP; rw [List.nil_append] at Q; replace Q := hide Q)
      | (go_at_call 23; refine (toldOk_any w.heap.size w.heap.size (rusT l) _ _ Q.out.wr BY.out NE.out (Q.out.size SZ.out)).mono ?_; rintro r w3 ⟨s, rfl, hs, B3⟩; replace hs := hide hs; replace B3 := hide (show Below w.heap.size w w3 from (bplus (Below.refl _ _) _ : Below w.heap.size w _).trans (Q.out.bel.trans B3))))
    go_ret2
    exact ⟨_, _, rfl, .inl ⟨HD.out, rfl, hs.out⟩, B3.out⟩
  · have HD := hide hd
    clear hd
    go_enter Tryz.func13, Tryz.ntmps13
    go_wp2_with (first
      | (go_at_call 27; refine CE.out.mono ?_; intro r w2 hP; obtain ⟨rfl, ys, Q⟩ := hP.no HD.out; clear hP; replace Q := hide (show Below w.heap.size w w2 from (bplus (Below.refl _ _) _ : Below w.heap.size w _).trans Q.bel))
      | (go_at_call 23; refine (toldErr_any _ _).mono ?_; rintro r w3 ⟨rfl, rfl⟩))
    go_ret2
    exact ⟨_, _, rfl, .inr ⟨HD.out, rfl, rfl⟩, Q.out⟩
end Go.Proofs.YtbdacepomdlcbaaGreatDoor
