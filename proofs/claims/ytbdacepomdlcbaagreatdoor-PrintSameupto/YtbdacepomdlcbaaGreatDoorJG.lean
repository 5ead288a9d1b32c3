/-
  Rules' texts: by the reference.
  Rules as a row reads them; the law of rules' texts.
-/
import Derived.Test.YtbdacepomdlcbaaGreatDoorJF
import Derived.Test.YtbdacepomdlcbaaGreatDoorJD
set_option linter.unusedVariables false
set_option linter.unusedSimpArgs false
namespace Go.Proofs.YtbdacepomdlcbaaGreatDoor
open Go.RowKit Go.Shelf

def RelRr (l : List RT) (n : Nat) (w : World) (i s : Value) (wr : World) : Prop := ∃ (k : Nat) (t : ByteArray), i = .int .i64 k ∧ s = .string t ∧ k ≤ l.length ∧ t.size ≤ 35184372088000 ∧ Hid (bl t = rusT (l.take k) ∧ Below w.heap.size w wr ∧ ∀ r ∈ l.take k, okR r n)
theorem RelRr.mk {l : List RT} {n : Nat} {w : World} {i s : Value} {wr : World} (k : Nat) (t : ByteArray) (h1 : i = .int .i64 k) (h2 : s = .string t) (h3 : k ≤ l.length) (h4 : t.size ≤ 35184372088000) (h5 : bl t = rusT (l.take k) ∧ Below w.heap.size w wr ∧ ∀ r ∈ l.take k, okR r n) : RelRr l n w i s wr := ⟨k, t, h1, h2, h3, h4, h5⟩
theorem gn_cases (s : ByteArray) : (gnB s = true ∧ (s = ⟨#[109, 101, 100, 105, 97]⟩ ∨ s = ⟨#[115, 117, 112, 112, 111, 114, 116, 115]⟩ ∨ s = ⟨#[99, 111, 110, 116, 97, 105, 110, 101, 114]⟩)) ∨ (gnB s = false ∧ (s.toList == [109, 101, 100, 105, 97]) = false ∧ (s.toList == [115, 117, 112, 112, 111, 114, 116, 115]) = false ∧ (s.toList == [99, 111, 110, 116, 97, 105, 110, 101, 114]) = false) := by
  by_cases h1 : bl s = [109, 101, 100, 105, 97]
  · exact .inl ⟨by unfold gnB; simp [h1], .inl (lit_eq (l := [109, 101, 100, 105, 97]) (h1.trans (by decide)))⟩
  by_cases h2 : bl s = [115, 117, 112, 112, 111, 114, 116, 115]
  · exact .inl ⟨by unfold gnB; simp [h2], .inr (.inl (lit_eq (l := [115, 117, 112, 112, 111, 114, 116, 115]) (h2.trans (by decide))))⟩
  by_cases h3 : bl s = [99, 111, 110, 116, 97, 105, 110, 101, 114]
  · exact .inl ⟨by unfold gnB; simp [h3], .inr (.inr (lit_eq (l := [99, 111, 110, 116, 97, 105, 110, 101, 114]) (h3.trans (by decide))))⟩
  exact .inr ⟨by unfold gnB; simp [h1, h2, h3], lit_ne (l := [109, 101, 100, 105, 97]) (by intro h; exact h1 (h.trans (by decide))), lit_ne (l := [115, 117, 112, 112, 111, 114, 116, 115]) (by intro h; exact h2 (h.trans (by decide))), lit_ne (l := [99, 111, 110, 116, 97, 105, 110, 101, 114]) (by intro h; exact h3 (h.trans (by decide)))⟩
theorem sd_size {ds : List DT} {u : ByteArray} {c : Int} (h : SpD ds u c) (hx : (dsT ds).length ≤ 35184372088000) : u.size ≤ 35184372088000 := by
  rcases h with ⟨_, _, h3⟩ | ⟨_, _, rfl⟩
  · rw [← bl_len u, h3]; exact hx
  · show 0 ≤ _; omega
theorem sr_size {l : List RT} {n : Nat} {u : ByteArray} {c : Int} (h : SpR l n u c) (hx : (rusT l).length ≤ 35184372088000) : u.size ≤ 35184372088000 := by
  rcases h with ⟨_, _, h3⟩ | ⟨_, _, rfl⟩
  · rw [← bl_len u, h3]; exact hx
  · show 0 ≤ _; omega
set_option maxRecDepth 100000 in
set_option maxHeartbeats 3000000 in
theorem rulesR_any (N m : Nat) : ∀ (l : List RT) (n : Nat) (v : Value) (w : World), zsL l ≤ N → n ≤ 64 → (rusT l).length ≤ 35184372088000 → RM w v l → (∀ r ∈ l, RBd m r) → Tabs w →
    Calls Tryz.prog 29 #[v, .int .i64 ((n : Int) + 1)] w fun e w' => PostRr l n w e w' := by
  induction N with
  | zero =>
    intro l n v w hN _ _ hv _ _
    have hl : l = [] := by cases l with | nil => rfl | cons y r => rw [zsL_cons] at hN; omega
    subst hl
    obtain ⟨a, c, rfl, _⟩ := hv.shape
    clear hv
    go_enter Tryz.func29, Tryz.ntmps29
    go_wp2
    refine wp_loop_rounds 1 ?_
    rw [rounds_succ]
    go_wp2
    go_ret2
    exact ⟨_, _, rfl, .inl ⟨okRs_nil n, rfl, by rw [rusT_nil]; rfl⟩, Below.refl _ _⟩
  | succ N ih =>
    intro l n v w hN hn hx hv hB hT
    obtain ⟨a, c, rfl, h9⟩ := hv.shape
    have HV := hide hv
    have HB := hide hB
    have HX := hide hx
    have HT := hide hT
    have IH := hide ih
    have HN := hide hN
    clear hv hB hx hT ih hN
    go_enter Tryz.func29, Tryz.ntmps29
    go_wp2
    go_loopw [14, 6] (fun i s wr => RelRr l n w i s wr) (fun i _ _ => l.length - (intOf i).toNat)
    case atStart => exact .mk 0 _ rfl rfl (by omega) (by decide) ⟨by rw [List.take_zero, rusT_nil]; rfl, Below.refl _ _, by simp⟩
    case round =>
      obtain ⟨k, t, rfl, rfl, hk, ht9, R⟩ := hrel
      have BE := hide R.out.2.1
      have BT := hide R.out.1
      have A := hide R.out.2.2
      clear R
      by_cases hlt : k < l.length
      · obtain ⟨d, hd⟩ : ∃ d, l[k]? = some d := ⟨_, List.getElem?_eq_getElem hlt⟩
        obtain ⟨bb, o, c', up, ud, ur, hv', hb, ⟨g0, g1, g2, g3, g4⟩, gp, gd, gr⟩ := HV.out.at hd
        obtain ⟨rfl, rfl⟩ : a = some ⟨bb, o, none⟩ ∧ c = c' := by cases hv'; exact ⟨rfl, rfl⟩
        obtain ⟨pa, pc, hps, _⟩ := gp.shape
        obtain ⟨da, dc, hds, hd9⟩ := gd.shape
        obtain ⟨ra, rc, hrs, hr9⟩ := gr.shape
        have hmem : d ∈ l := List.mem_of_getElem? hd
        have hlt' : (k : Int) < l.length := by omega
        have e0 := (BE.out.cell (p := ⟨bb, o + k * 5, none⟩) hb).trans g0
        have e1 := (BE.out.cell (p := ⟨bb, o + k * 5 + 1, none⟩) hb).trans g1
        have e2 := (BE.out.cell (p := ⟨bb, o + k * 5 + 2, none⟩) hb).trans g2
        have e3 := (BE.out.cell (p := ⟨bb, o + k * 5 + 3, none⟩) hb).trans g3
        have e4 := (BE.out.cell (p := ⟨bb, o + k * 5 + 4, none⟩) hb).trans g4
        have hbw : bb < wr.heap.size := by have := BE.out.size; omega
        have nb : bb ≠ wr.heap.size := by omega
        have ST := hide (rusT_step hd)
        have LN := hide (show (rusT (l.take (k + 1))).length ≤ 35184372088000 by have := rusT_le l (k + 1); have := HX.out; omega)
        have TK := hide (show l.take (k + 1) = l.take k ++ [d] by obtain ⟨h, rfl⟩ := List.getElem?_eq_some_iff.1 hd; exact List.take_succ_eq_append_getElem h)
        have ZN := hide (show zsL d.rs ≤ N by have := zs_at hd; have := HN.out; omega)
        have DB0 := HB.out d hmem
        have s9 := DB0.s_le
        have PB := hide DB0.pb
        have DDB := hide DB0.db
        have RBS := hide DB0.rb
        have FB := hide (fun (h : ¬ okR d n) => show ¬ okRs l n from fun g => h (okRs_mem.1 g d hmem))
        have AL := hide (fun (h : okR d n) => show ∀ e ∈ l.take (k + 1), okR e n from fun e he => by rw [TK.out, List.mem_append, List.mem_singleton] at he; rcases he with he | rfl; exact A.out e he; exact h)
        have OK := hide (okR_eq d n)
        subst hps hds hrs
        replace gp := hide gp
        replace gd := hide gd
        replace gr := hide gr
        clear g0 g1 g2 g3 g4 hv' hd hmem TK DB0
        obtain ⟨kk, ss, pp, dd, rr⟩ := d
        simp only [RT.k, RT.s, RT.p, RT.ds, RT.rs] at e0 e1 e2 e3 e4 ZN s9 PB DDB RBS OK gp gd gr hd9 hr9
        rw [OK.out] at FB AL
        clear OK
        have CV := hide (fun (V : World) (h : Below w.heap.size w V) => valuesR_any pp m (.slice pa pp.length pc) V (gp.out.low h) PB.out (HT.out.below h))
        have BX := hide (show (wr.alloc (.cells #[.int .i64 kk, .string ss, .slice pa pp.length pc, .slice da dd.length dc, .slice ra rr.length rc] 58)).heap[wr.heap.size]? = some (.cells #[.int .i64 kk, .string ss, .slice pa pp.length pc, .slice da dd.length dc, .slice ra rr.length rc] 58) from heap_alloc_new wr _)
        go_wp2_with fail
        go_at_call 9
        refine (CV.out _ (bplus BE.out _)).mono ?_
        rintro e w2 ⟨u4, c4, rfl, H4, B4⟩
        replace BX := hide ((B4.block _ (Array.getElem?_eq_some_iff.1 BX.out).1).trans BX.out)
        replace BE := hide (bto (bplus BE.out _) B4)
        clear B4 e0 e1 e2 e3 e4 CV
        obtain ⟨q0, q1, q2, q3, q4⟩ := bxr_at BX.out
        have z4 := sv_size H4 PB.out
        rcases sv_cases H4 with ⟨hv, rfl, hu4⟩ | ⟨hv, rfl, rfl⟩
        case inr =>
          have F := hide (FB.out (fun h => hv h.2.1))
          clear hv H4 FB AL
          go_wp2
          all_goals
            go_ret2
            exact ⟨_, _, rfl, .inr ⟨F.out, rfl, rfl⟩, BE.out⟩
        have U4 := hide (show bl u4 = vlT pp from hu4)
        have HV4 := hide (show vlB pp from hv)
        clear hv hu4 H4
        by_cases hn64 : n < 64
        case neg =>
          have F := hide (FB.out (fun h => hn64 h.1))
          have hn' : (64 : Int) < (n : Int) + 1 := by omega
          clear FB AL
          go_wp2
          all_goals
            go_ret2
            exact ⟨_, _, rfl, .inr ⟨F.out, rfl, rfl⟩, BE.out⟩
        have hn' : (n : Int) + 1 ≤ 64 := by omega
        by_cases hk1 : kk = 1
        · subst hk1
          by_cases hs0 : ss.size = 0
          case neg =>
            have F := hide (FB.out (fun h => by rcases h.2.2 with g | g; exact hs0 g.2.1; exact absurd g.1 (by decide)))
            have y1 : ss.toList.isEmpty = false := emp_f (by omega)
            have y2 : ¬ ss.toList = [] := by intro h; rw [h] at y1; cases y1
            clear hs0 FB AL
            go_wp2
            all_goals
              go_ret2
              exact ⟨_, _, rfl, .inr ⟨F.out, rfl, rfl⟩, BE.out⟩
          have y1 : ss.toList.isEmpty = true := emp_t hs0
          have y2 : ss.toList = [] := by simpa using y1
          by_cases hr0 : rr.length = 0
          case neg =>
            have F := hide (FB.out (fun h => by rcases h.2.2 with g | g; exact hr0 (by rw [g.2.2.1]; rfl); exact absurd g.1 (by decide)))
            have hr1 : (0 : Int) < rr.length := by omega
            clear hr0 hs0 FB AL
            go_wp2
            all_goals
              go_ret2
              exact ⟨_, _, rfl, .inr ⟨F.out, rfl, rfl⟩, BE.out⟩
          have HR0 := hide (len_nil hr0)
          have T1 := hide (ruT_style (r := .mk 1 ss pp dd rr) rfl)
          simp only [RT.k, RT.s, RT.p, RT.ds, RT.rs] at T1
          have LT := hide (show (vlT pp).length + 1 + (dsT dd).length + 1 ≤ 35184372088000 by have h := LN.out; rw [ST.out, T1.out] at h; simp only [List.length_append, List.length_singleton] at h; omega)
          have CD := hide (fun (V : World) (h : Below w.heap.size w V) => declsR_any dd m (.slice da dd.length dc) V (by have := LT.out; omega) (gd.out.low h) DDB.out (HT.out.below h))
          rw [hr0] at q4
          have HS0 := hide hs0
          clear hr0 hs0
          go_wp2_with fail
          go_at_call 12
          refine (CD.out _ BE.out).mono ?_
          rintro e w3 ⟨u5, c5, rfl, H5, B5⟩
          replace BE := hide (bto BE.out B5)
          clear B5 q0 q1 q2 q3 q4 CD
          have z5 := sd_size H5 (by have := LT.out; omega)
          rcases H5 with ⟨hok, rfl, hu5⟩ | ⟨hok, rfl, rfl⟩
          case inr =>
            have F := hide (FB.out (fun h => by rcases h.2.2 with g | g; exact hok g.2.2.2; exact absurd g.1 (by decide)))
            clear hok FB AL
            go_wp2
            all_goals
              go_ret2
              exact ⟨_, _, rfl, .inr ⟨F.out, rfl, rfl⟩, BE.out⟩
          have AL' := hide (AL.out ⟨hn64, HV4.out, .inl ⟨by first | rfl | trivial, HS0.out, HR0.out, hok⟩⟩)
          have FIN := hide (fun (x : ByteArray) (h : bl x = bl t ++ (((bl u4 ++ [123]) ++ bl u5) ++ [125])) => show bl x = rusT (l.take (k + 1)) by rw [h, ST.out, T1.out, BT.out, U4.out, hu5])
          clear hok hu5 FB AL
          go_wp2
          go_roundw
          case rel => exact .mk (k + 1) _ (by go_num) rfl (by omega) (by rw [← bl_len, FIN.out _ (by simp only [bl_app]; rfl)]; exact LN.out) ⟨FIN.out _ (by simp only [bl_app]; rfl), BE.out, AL'.out⟩
          case measure => simp [intOf]; omega
        by_cases hk2 : kk = 2
        · subst hk2
          rcases gn_cases ss with ⟨hg, hss⟩ | ⟨hg, m1, m2, m3⟩
          case inr =>
            have F := hide (FB.out (fun h => by rcases h.2.2 with g | g; exact absurd g.1 (by decide); have := g.2.1; rw [hg] at this; cases this))
            have j1 : ¬ ss.toList = [109, 101, 100, 105, 97] := by simpa using m1
            have j2 : ¬ ss.toList = [115, 117, 112, 112, 111, 114, 116, 115] := by simpa using m2
            have j3 : ¬ ss.toList = [99, 111, 110, 116, 97, 105, 110, 101, 114] := by simpa using m3
            clear hg FB AL hk1
            go_wp2
            all_goals
              go_ret2
              exact ⟨_, _, rfl, .inr ⟨F.out, rfl, rfl⟩, BE.out⟩
          have HG := hide hg
          clear hg hk1
          by_cases hd0 : dd.length = 0
          case neg =>
            have F := hide (FB.out (fun h => by rcases h.2.2 with g | g; exact absurd g.1 (by decide); exact hd0 (by rw [g.2.2.1]; rfl)))
            have hd1 : (0 : Int) < dd.length := by omega
            clear hd0 FB
            go_wp2
            all_goals
              go_ret2
              exact ⟨_, _, rfl, .inr ⟨F.out, rfl, rfl⟩, BE.out⟩
          have HD0 := hide (len_nil hd0)
          have T1 := hide (ruT_group (r := .mk 2 ss pp dd rr) (by show (2 : Int) ≠ 1; decide))
          simp only [RT.k, RT.s, RT.p, RT.ds, RT.rs] at T1
          have LT := hide (show (bl ss).length + 2 + (vlT pp).length + 1 + (rusT rr).length + 1 ≤ 35184372088000 by have h := LN.out; rw [ST.out, T1.out] at h; simp only [List.length_append, List.length_cons, List.length_nil] at h; omega)
          have CR := hide (fun (V : World) (h : Below w.heap.size w V) => IH.out rr (n + 1) (.slice ra rr.length rc) V (by have := ZN.out; omega) (by omega) (by have := LT.out; omega) (gr.out.low h) RBS.out (HT.out.below h))
          rw [show (((n + 1 : Nat) : Int) + 1) = (n : Int) + 1 + 1 by omega] at CR
          rw [hd0] at q3
          clear hd0
          rcases hss with rfl | rfl | rfl
          all_goals
            go_wp2_with fail
            go_at_call 29
            refine (CR.out _ BE.out).mono ?_
            rintro e w3 ⟨u5, c5, rfl, H5, B5⟩
            replace BE := hide (bto BE.out B5)
            clear B5 q0 q1 q2 q3 q4 CR
            have z5 := sr_size H5 (by have := LT.out; omega)
            rcases H5 with ⟨hok, rfl, hu5⟩ | ⟨hok, rfl, rfl⟩
            · have AL' := hide (AL.out ⟨hn64, HV4.out, .inr ⟨by first | rfl | trivial, HG.out, HD0.out, hok⟩⟩)
              have FIN := hide (fun (x : ByteArray) (h : rusT (l.take k) ++ ruT (.mk 2 _ pp dd rr) = bl x) => show bl x = rusT (l.take (k + 1)) by rw [← h, ST.out])
              have HU5 := hide hu5
              clear hok hu5 FB AL
              go_wp2
              go_roundw
              case rel => exact .mk (k + 1) _ (by go_num) rfl (by omega) (by rw [← bl_len, FIN.out _ (by rw [T1.out]; simp only [bl_app, BT.out, U4.out, HU5.out]; simp [bl])]; exact LN.out) ⟨FIN.out _ (by rw [T1.out]; simp only [bl_app, BT.out, U4.out, HU5.out]; simp [bl]), BE.out, AL'.out⟩
              case measure => simp [intOf]; omega
            · have F := hide (FB.out (fun h => by rcases h.2.2 with g | g; exact absurd g.1 (by decide); exact hok g.2.2.2))
              clear hok FB AL
              go_wp2
              all_goals
                go_ret2
                exact ⟨_, _, rfl, .inr ⟨F.out, rfl, rfl⟩, BE.out⟩
        have F := hide (FB.out (fun h => by rcases h.2.2 with g | g; exact hk1 g.1; exact hk2 g.1))
        have j1 : (kk == 1) = false := by simpa using hk1
        have j2 : (kk == 2) = false := by simpa using hk2
        clear FB AL
        go_wp2
        all_goals
          go_ret2
          exact ⟨_, _, rfl, .inr ⟨F.out, rfl, rfl⟩, BE.out⟩
      · have hlt' : ¬ (k : Int) < l.length := by omega
        have TK := hide (show l.take k = l from List.take_of_length_le (by omega))
        go_wp2
        go_ret2
        exact ⟨_, _, rfl, .inl ⟨okRs_mem.2 (fun d hd => A.out d (by rw [TK.out]; exact hd)), rfl, by rw [BT.out, TK.out]⟩, BE.out⟩
theorem rulesRR_any (l : List RT) (m : Nat) (v : Value) (w : World) (hx : (rusT l).length ≤ 35184372088000) (hv : RM w v l) (hB : ∀ r ∈ l, RBd m r) (hT : Tabs w) :
    Calls Tryz.prog 14 #[v] w fun e w' => PostRr l 0 w e w' := by
  have C := hide (rulesR_any (zsL l) m l 0 v w (Nat.le_refl _) (by omega) hx hv hB hT)
  obtain ⟨a, c, rfl, _⟩ := hv.shape
  clear hv hB hT hx
  go_enter Tryz.func14, Tryz.ntmps14
  go_wp2_with (go_at_call 29; refine C.out.mono ?_; rintro e w1 ⟨u, c1, rfl, H, B1⟩; replace H := hide H; replace B1 := hide B1)
  go_ret2
  exact ⟨_, _, rfl, H.out, B1.out⟩
end Go.Proofs.YtbdacepomdlcbaaGreatDoor
set_option linter.unusedVariables false
set_option linter.unusedSimpArgs false
namespace Go.Proofs.YtbdacepomdlcbaaGreatDoor
open Go.RowKit Go.Shelf
set_option maxRecDepth 100000 in
set_option maxHeartbeats 1000000 in
theorem law_rules6 (l : List RT) (m : Nat) (v : Value) (w : World) (hx : (rusT l).length ≤ 35184372088000) (hv : RM w v l) (hB : ∀ r ∈ l, RBd m r) (hK : KT w) (hT : Tabs w) :
    Calls Tryz.prog 5 #[v] w fun e w' => e = .returned (.bool true) ∧ Below w.heap.size w w' := by
  have C1 := hide (rulesP_any l m v w hx hv hB hK hT)
  have C2 := hide (fun (W : World) (h : Below w.heap.size w W) => rulesRR_any l m v W hx (hv.low h) hB (hT.below h))
  have C3 := hide (fun (W : World) (h : Below w.heap.size w W) => awake6_any W (hK.below h) (hT.below h))
  obtain ⟨a, c, rfl, _⟩ := hv.shape
  clear hK hT hv hB hx
  go_enter Tryz.func5, Tryz.ntmps5
  go_wp2_with (first
    | (go_at_call 13; refine C1.out.mono ?_; rintro e w1 ⟨u, c1, rfl, H, B1⟩; replace B1 := hide B1; replace H := hide H)
    | (go_at_call 14; refine (C2.out _ B1.out).mono ?_; rintro e w2 ⟨x, f, rfl, H2, B2⟩; obtain ⟨rfl, rfl⟩ := spr_eq H.out H2; replace B1 := hide (bto B1.out B2); clear B2 H2)
    | (go_at_call 10; refine (C3.out _ B1.out).mono ?_; rintro e w3 ⟨rfl, B3⟩; replace B1 := hide (bto B1.out B3)))
  go_ret
  exact ⟨rfl, B1.out⟩
end Go.Proofs.YtbdacepomdlcbaaGreatDoor
namespace Go.Proofs.YtbdacepomdlcbaaGreatDoor.prv
open Go.ChangeShapes Go.WideShapes Go.ChangeAt Go.RowKit Go.Joins
theorem cRu : Tryz.prog.cellsOf 58 = 5 := by kernel_rfl
theorem cKd : Tryz.prog.cellsOf 28 = 1 := by kernel_rfl
theorem cKr : Tryz.prog.cellsOf 31 = 1 := by kernel_rfl
instance : Inhabited (RT × Value × Value × Value) := ⟨(.mk 0 ⟨#[]⟩ [] [] [], .bool false, .bool false, .bool false)⟩
theorem vl_len {l : List VT} {n : Nat} (h : ∀ t ∈ flL l, Fine t) (hn : szL l ≤ n) (hb : n ≤ 1048576) : (vlT l).length ≤ 12583320 * n := by
  have B := fine_VB h hn hb
  have h1 := spA_len (flL l) 1048576 B.ok B.sz (flL l).length
  have h2 := fl_len l
  have h7 : (flL l).length * (6 * 1048576 + 204) ≤ (2 * n) * (6 * 1048576 + 204) := Nat.mul_le_mul_right _ (by omega)
  unfold vlT
  omega
theorem ru_len {H : Type} (q : Nat → RT) (D : Nat → DataW H) (is : List Nat) (h : ∀ i ∈ is, (ruT (q i)).length ≤ 12583341 * Rows.uptoBulk (D i)) : (rusT (is.map q)).length ≤ 12583341 * Rows.uptoBulkAll (is.map D) := by
  induction is with
  | nil => rw [List.map_nil, rusT_nil]; simp
  | cons i r ih =>
    have h1 := h i (by simp)
    have h2 := ih (fun j hj => h j (by simp [hj]))
    rw [List.map_cons, List.map_cons, rusT_cons, List.length_append]
    simp only [Rows.uptoBulkAll]
    omega
/-- A slice of rules that comes in. -/
theorem rules_open {H : Type} {enc : TypeId × Value → H} {W : World} {held : Bool} (N : Nat) : ∀ (c : Value) (fuel : Nat) (x : DataW H × List MemPlace),
    DataW.trod enc Tryz.prog W 0 (fun _ => true) held fuel 31 [c] = some x → Rows.uptoBulk x.1 ≤ N → N ≤ 1048576 →
    ∃ l : List RT, RM W c l ∧ (rusT l).length ≤ 12583341 * Rows.uptoBulk x.1 ∧ ∀ r ∈ l, RBd 1048576 r := by
  induction N with
  | zero => intro c fuel x hf hb; have := one_le x.1; omega
  | succ N ih =>
    intro c fuel x hf hb hN
    rcases Go.Deep.open_slice Tryz.underlying31 hf with ⟨hcs, hx⟩ | ⟨a1, len, cap, m, n, D, Pl, hcs, _, hl, hm, hmm, hx, each⟩
    · simp at hcs
      subst hcs
      exact ⟨[], .nil _ _, by rw [rusT_nil]; simp, fun t ht => by cases ht⟩
    · simp at hcs
      subst hcs
      simp only [if_true] at hmm
      subst hmm
      rw [hx] at hb ⊢
      simp only [Rows.uptoBulk] at hb ⊢
      have hlen := length_le ((List.range len).map D)
      rw [List.length_map, List.length_range] at hlen
      have hcap := length_le ((List.range (m - len)).map fun j => D (len + j))
      rw [List.length_map, List.length_range] at hcap
      have each2 : ∀ i, i < len → ∃ p : RT × Value × Value × Value, (∀ j, j < 5 → W.cell? ((a1.add (i * 5)).add j) = [Value.int .i64 p.1.k, .string p.1.s, p.2.1, p.2.2.1, p.2.2.2][j]?) ∧ VM W p.2.1 p.1.p ∧ DM W p.2.2.1 p.1.ds ∧ RM W p.2.2.2 p.1.rs ∧ (ruT p.1).length ≤ 12583341 * Rows.uptoBulk (D i) ∧ RBd 1048576 p.1 := by
        intro i hi
        obtain ⟨cs, h1, h2⟩ := each i (by omega)
        rw [cRu] at h1
        obtain ⟨_, hcl, hcell⟩ := World.cells?_some h1
        have hm2 := mem_le (d := D i) (l := (List.range len).map D) (List.mem_map.2 ⟨i, List.mem_range.2 hi, rfl⟩)
        match cs, hcl with
        | [c0, c1, c2, c3, c4], _ =>
          obtain ⟨xs, k', _, hx', _, hl', hq⟩ := DataW.trod_struct Tryz.underlying58 h2
          match xs, hl' with
          | [y0, y1, y2, y3, y4], _ =>
            have q0' : DataW.trod enc Tryz.prog W 0 (fun _ => true) held k' 3 (([c0, c1, c2, c3, c4].drop 0).take (Tryz.prog.cellsOf 3)) = some y0 := hq 0 _ rfl
            rw [cI] at q0'
            have q0 : DataW.trod enc Tryz.prog W 0 (fun _ => true) held k' 3 [c0] = some y0 := q0'
            have q1' : DataW.trod enc Tryz.prog W 0 (fun _ => true) held k' 9 (([c0, c1, c2, c3, c4].drop 1).take (Tryz.prog.cellsOf 9)) = some y1 := hq 1 _ rfl
            rw [cS] at q1'
            have q1 : DataW.trod enc Tryz.prog W 0 (fun _ => true) held k' 9 [c1] = some y1 := q1'
            have q2' : DataW.trod enc Tryz.prog W 0 (fun _ => true) held k' 22 (([c0, c1, c2, c3, c4].drop 2).take (Tryz.prog.cellsOf 22)) = some y2 := hq 2 _ rfl
            rw [cK'] at q2'
            have q2 : DataW.trod enc Tryz.prog W 0 (fun _ => true) held k' 22 [c2] = some y2 := q2'
            have q3' : DataW.trod enc Tryz.prog W 0 (fun _ => true) held k' 28 (([c0, c1, c2, c3, c4].drop 3).take (Tryz.prog.cellsOf 28)) = some y3 := hq 3 _ rfl
            rw [cKd] at q3'
            have q3 : DataW.trod enc Tryz.prog W 0 (fun _ => true) held k' 28 [c3] = some y3 := q3'
            have q4' : DataW.trod enc Tryz.prog W 0 (fun _ => true) held k' 31 (([c0, c1, c2, c3, c4].drop 4).take (Tryz.prog.cellsOf 31)) = some y4 := hq 4 _ rfl
            rw [cKr] at q4'
            have q4 : DataW.trod enc Tryz.prog W 0 (fun _ => true) held k' 31 [c4] = some y4 := q4'
            obtain ⟨k, ek, hy0, wk⟩ := DataW.trod_int Tryz.underlying3 q0
            obtain ⟨s, es, hy1, ws⟩ := DataW.trod_string Tryz.underlying9 q1
            simp at ek es
            subst ek es
            have hDi : D i = .agg [y0.1, y1.1, y2.1, y3.1, y4.1] := by simpa using congrArg Prod.fst hx'
            have hbk : Rows.uptoBulk (D i) = Rows.uptoBulk y0.1 + (Rows.uptoBulk y1.1 + (Rows.uptoBulk y2.1 + (Rows.uptoBulk y3.1 + Rows.uptoBulk y4.1))) + 1 := by rw [hDi]; simp [Rows.uptoBulk, Rows.uptoBulkAll]
            have hs : s.size ≤ Rows.uptoBulk y1.1 := by
              rw [hy1]
              simp only [Rows.uptoBulk]
              have e : s.data.toList.length = s.size := by rw [Array.length_toList]; rfl
              omega
            have o0 := one_le y0.1
            obtain ⟨ps, hvm, hsz, hfine⟩ := vals_open 1048576 c2 k' y2 q2 (by omega) (Nat.le_refl _)
            obtain ⟨ds, hdm, hdl, hdf⟩ := decls_open c3 k' y3 q3 (by omega)
            obtain ⟨rs, hrm, hrl, hrf⟩ := ih c4 k' y4 q4 (by omega) (by omega)
            obtain ⟨x1, x2⟩ := bounds_i64 wk
            have hvl := vl_len hfine hsz (by omega)
            refine ⟨(.mk k s ps ds rs, c2, c3, c4), hcell, hvm, hdm, hrm, ?_, .mk k s ps ds rs x1 x2 (by omega) (fine_VB hfine hsz (by omega)) (fine_DB hdf (by omega)) hrf⟩
            show (ruT (.mk k s ps ds rs)).length ≤ _
            rw [ruT]
            split
            · simp only [List.length_append, List.length_singleton]; omega
            · simp only [List.length_append, List.length_singleton, List.length_cons, List.length_nil, bl_len]; omega
      obtain ⟨q, hq⟩ := Go.Deep.choose_lt each2
      have hsz := ru_len (fun i => (q i).1) D (List.range len) (fun i hi => (hq i (List.mem_range.1 hi)).2.2.2.2.1)
      refine ⟨(List.range len).map fun i => (q i).1, ?_, by omega, ?_⟩
      · by_cases h0 : len = 0
        · subst h0; exact .nil _ _
        · obtain ⟨b, off, spot⟩ := a1
          have c00 := (hq 0 (by omega)).1 0 (by omega)
          have hspot : spot = none := by simpa [Addr.add] using World.cell?_spot c00
          subst hspot
          have hll : ((List.range len).map fun i => (q i).1).length = len := by simp
          have IX : ∀ i v, ((List.range len).map fun i => (q i).1)[i]? = some v → i < len ∧ (q i).1 = v := fun i v hi => by
            have hil : i < len := by
              have := (List.getElem?_eq_some_iff.1 hi).1
              simpa using this
            refine ⟨hil, ?_⟩
            rw [List.getElem?_map, List.getElem?_range hil] at hi
            simpa using hi
          have g : ∀ i, i < len → ∀ j, j < 5 → W.cell? ⟨b, off + i * 5 + j, none⟩ = [Value.int .i64 (q i).1.k, .string (q i).1.s, (q i).2.1, (q i).2.2.1, (q i).2.2.2][j]? := fun i hi j hj => by
            have := (hq i hi).1 j hj
            rwa [Addr.add_lit, Addr.add_lit] at this
          have R := RM.row (w := W) b off m ((List.range len).map fun i => (q i).1) (fun i => (q i).2.1) (fun i => (q i).2.2.1) (fun i => (q i).2.2.2) (by rw [hll]; omega) (by have k := World.block_lt_of_cell? _ _ c00; simpa [Addr.add] using k) (by rw [hll]; exact hl) (by rw [hll]; omega) (by unfold maxLen at hm; omega)
            (fun i v hi => by obtain ⟨hil, rfl⟩ := IX i v hi; have := g i hil; exact ⟨this 0 (by omega), this 1 (by omega), this 2 (by omega), this 3 (by omega), this 4 (by omega)⟩)
            (fun i v hi => by obtain ⟨hil, rfl⟩ := IX i v hi; exact (hq i hil).2.1)
            (fun i v hi => by obtain ⟨hil, rfl⟩ := IX i v hi; exact (hq i hil).2.2.1)
            (fun i v hi => by obtain ⟨hil, rfl⟩ := IX i v hi; exact (hq i hil).2.2.2.1)
          rw [hll] at R
          exact R
      · intro r hr
        obtain ⟨i, hi, rfl⟩ := List.mem_map.1 hr
        exact (hq i (List.mem_range.1 hi)).2.2.2.2.2
end Go.Proofs.YtbdacepomdlcbaaGreatDoor.prv
