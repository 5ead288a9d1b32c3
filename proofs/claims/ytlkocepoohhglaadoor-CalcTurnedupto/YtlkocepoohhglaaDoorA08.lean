/-
  All component values: by the reference.
-/
import Derived.Test.YtlkocepoohhglaaDoorA05
import Derived.Test.YtlkocepoohhglaaDoorA07
import Derived.Deep.DeepCutAuto
import Derived.Deep.RegionLaw
set_option linter.unusedVariables false
set_option linter.unusedSimpArgs false
namespace Go.Proofs.YtlkocepoohhglaaDoor
open Go.RowKit

def Shut5 : Prop := ∀ (qs : List Fm) (f1 f2 : Fm) (sv : Value) (w wr : World), SM 77 7 w wr sv (qs ++ [f1, f2]) → qs.length ≤ 1000000000 → f1.its.length ≤ 500000000 → f2.its.length ≤ 500000000 →
    Calls Tryd.prog 48 #[sv] wr fun e w' => ∃ u sv', e = .returned sv' ∧ SM 77 7 w w' sv' (qs ++ [⟨f1.t, u, f1.its ++ [⟨f2.t, f2.u, vtL f2.its⟩], f1.x⟩])
/-- The frames, the innermost first. -/
def frV (fs : List Fm) : List Fr := (fs.map fun f => (f.t, vtL f.its)).reverse
theorem frV_snoc (fs : List Fm) (f : Fm) : frV (fs ++ [f]) = (f.t, vtL f.its) :: frV fs := by simp [frV]
theorem frV_two (fs : List Fm) (f g : Fm) : frV (fs ++ [f, g]) = (g.t, vtL g.its) :: (f.t, vtL f.its) :: frV fs := by simp [frV]
theorem stF_shut {t : TS} {τ σ : TS} {ks ls : List VT} {r : List Fr} (h : t.k = cKn τ.k) : stF ((τ, ks) :: (σ, ls) :: r) t = (σ, ls ++ [.mk τ ks]) :: r := by
  unfold stF; rw [if_pos (by unfold shBv; simpa using h)]; rfl
theorem stF_no {t τ : TS} {ks : List VT} {r : List Fr} (h : r = [] ∨ t.k ≠ cKn τ.k) : shBv t ((τ, ks) :: r) = false := by
  cases r with
  | nil => rfl
  | cons x r =>
    rcases h with h | h
    · cases h
    · unfold shBv; simpa using h
theorem stF_open {t τ : TS} {ks : List VT} {r : List Fr} (h : r = [] ∨ t.k ≠ cKn τ.k) (hc : cKn t.k ≠ 0) : stF ((τ, ks) :: r) t = (t, []) :: (τ, ks) :: r := by
  unfold stF; rw [if_neg (by rw [stF_no h]; simp), if_pos hc]
theorem stF_leaf {t τ : TS} {ks : List VT} {r : List Fr} (h : r = [] ∨ t.k ≠ cKn τ.k) (hc : cKn t.k = 0) : stF ((τ, ks) :: r) t = (τ, ks ++ [.mk t []]) :: r := by
  unfold stF; rw [if_neg (by rw [stF_no h]; simp), if_neg (by simp [hc])]; rfl
theorem fold_step {l : List TS} {k : Nat} {t : TS} (h : l[k]? = some t) (st : List Fr) : (l.take (k + 1)).foldl stF st = stF ((l.take k).foldl stF st) t := by
  obtain ⟨hk, rfl⟩ := List.getElem?_eq_some_iff.1 h
  rw [List.take_succ_eq_append_getElem hk, List.foldl_append]; rfl
theorem Toks4.shape {w : World} {v : Value} {l : List TS} (h : Toks4 w v l) : ∃ a c, v = .slice a l.length c := by
  rcases h with ⟨a, c, rfl, rfl⟩ | ⟨b, o, n, c, rfl, rfl, _⟩
  · exact ⟨a, c, rfl⟩
  · exact ⟨_, _, rfl⟩
theorem Toks4.at {w : World} {v : Value} {l : List TS} (h : Toks4 w v l) {i : Nat} {t : TS} (hi : l[i]? = some t) : ∃ b o c, v = .slice (some ⟨b, o, none⟩) l.length c ∧ b < w.heap.size ∧ l.length ≤ c ∧ c ≤ 9223372036854775807 ∧ Six4 w b (o + i * 6) t := by
  rcases h with ⟨a, c, rfl, rfl⟩ | ⟨b, o, n, c, rfl, rfl, h0, hb, hl, _, hc, hr⟩
  · cases hi
  · exact ⟨b, o, c, rfl, hb, hl, hc, hr i t hi⟩
def RelV5 (w : World) (l : List TS) (i sv : Value) (wr : World) : Prop := ∃ (k : Nat) (qs : List Fm) (f : Fm), i = .int .i64 k ∧ k ≤ l.length ∧ SM 77 7 w wr sv (qs ++ [f]) ∧ qs.length ≤ k ∧ Hid (∀ x ∈ qs ++ [f], x.its.length ≤ k) ∧ Hid ((l.take k).foldl stF [(zT 0, [])] = frV (qs ++ [f]))
theorem RelV5.mk {w : World} {l : List TS} {i sv : Value} {wr : World} (k : Nat) (qs : List Fm) (f : Fm) (h1 : i = .int .i64 k) (h2 : k ≤ l.length) (h3 : SM 77 7 w wr sv (qs ++ [f])) (h4 : qs.length ≤ k) (h5 : ∀ x ∈ qs ++ [f], x.its.length ≤ k) (h6 : (l.take k).foldl stF [(zT 0, [])] = frV (qs ++ [f])) : RelV5 w l i sv wr := ⟨k, qs, f, h1, h2, h3, h4, h5, h6⟩
def RelW5 (w : World) (l : List TS) (g : Nat) (sv : Value) (wr : World) : Prop := ∃ (qs : List Fm) (f : Fm), SM 77 7 w wr sv (qs ++ [f]) ∧ qs.length ≤ g ∧ qs.length ≤ l.length ∧ f.its.length ≤ l.length + 1 ∧ Hid (∀ x ∈ qs, x.its.length ≤ l.length) ∧ Hid (valsF l = fiF (frV (qs ++ [f])))
theorem RelW5.mk {w : World} {l : List TS} {g : Nat} {sv : Value} {wr : World} (qs : List Fm) (f : Fm) (h3 : SM 77 7 w wr sv (qs ++ [f])) (h4 : qs.length ≤ g) (h4' : qs.length ≤ l.length) (h5 : f.its.length ≤ l.length + 1) (h5' : ∀ x ∈ qs, x.its.length ≤ l.length) (h6 : valsF l = fiF (frV (qs ++ [f]))) : RelW5 w l g sv wr := ⟨qs, f, h3, h4, h4', h5, h5', h6⟩
theorem infoF5 : (Tryd.prog.info? 77).map (fun i => (i.zero, i.size, i.bytes)) = some (some (.agg #[.int .i64 0, .string ⟨#[]⟩, .int .i64 0, .int .i64 0, .bool false, .bool false, .slice none 0 0]), 7, 72) := by kernel_rfl
theorem sm_start (w : World) : SM 77 7 w (w.alloc (.cells #[.int .i64 0, .string ⟨#[]⟩, .int .i64 0, .int .i64 0, .bool false, .bool false, .slice none 0 0] 77)) (.slice (some ⟨w.heap.size, 0, none⟩) 1 1) ([] ++ [⟨zT 0, .slice none 0 0, [], []⟩]) :=
  SM.one w ⟨zT 0, .slice none 0 0, [], []⟩ rfl (by decide) rfl rfl
theorem fiF_two {τ σ : TS} {ks ls : List VT} {r : List Fr} : fiF ((τ, ks) :: (σ, ls) :: r) = fiF ((σ, ls ++ [.mk τ ks]) :: r) := by rw [fiF]
theorem fiF_one {τ : TS} {ks : List VT} : fiF [(τ, ks)] = ks := by rw [fiF]
set_option maxRecDepth 100000 in
set_option maxHeartbeats 8000000 in
theorem valuesF_of (SH : Shut5) (l : List TS) (v : Value) (w : World) (hv : Toks4 w v l) (hL : l.length ≤ 250000000) :
    Calls Tryd.prog 31 #[v] w fun e w' => ∃ u, e = .returned u ∧ VM w' u (valsF l) ∧ Below w.heap.size w w' := by
  obtain ⟨i1, hj, hy0, hy1, hy2⟩ := info_parts infoV5
  obtain ⟨i0, hi, hz0, hz1, hz2⟩ := info_parts infoF5
  obtain ⟨a, c, rfl⟩ := hv.shape
  have HV := hide hv
  have SHh := hide SH
  have S0 := hide (sm_start w)
  clear hv SH
  go_enter Tryd.func31, Tryd.ntmps31
  go_wp2
  go_loopw [11, 3] (fun i sv wr => RelV5 w l i sv wr) (fun i _ _ => l.length - (intOf i).toNat)
  case atStart => exact .mk 0 [] _ rfl (by omega) S0.out (by simp) (by simp) (by rw [frV_snoc]; rfl)
  case round =>
    obtain ⟨k, qs, f, rfl, hk, SM0, hq, HB, R⟩ := hrel
    by_cases hlt : k < l.length
    · obtain ⟨t, ht⟩ : ∃ t, l[k]? = some t := ⟨_, List.getElem?_eq_getElem hlt⟩
      obtain ⟨b, o, c', hv', hb, hlc, hc9, t6⟩ := HV.out.at ht
      obtain ⟨rfl, rfl⟩ : a = some ⟨b, o, none⟩ ∧ c = c' := by cases hv'; exact ⟨rfl, rfl⟩
      obtain ⟨G, cap, hv, hG1, hG2, hc1, hc2, hfz, ⟨s0, -, -, -, -, -⟩, hd6, -⟩ := SM0.top
      obtain ⟨a1, c1, hu1⟩ := (SM0.kid f (by simp)).slice
      rw [hu1] at hd6
      have hf9 := HB.out f (by simp)
      have FS := hide (fold_step ht [(zT 0, [])])
      have E0 := hide (show (l.take (k + 1)).foldl stF [(zT 0, [])] = stF (frV (qs ++ [f])) t by rw [FS.out, R.out])
      obtain ⟨ft, fu, its, fx⟩ := f
      simp only at hu1 hd6 s0 hf9
      subst hv hu1
      have hlt' : (k : Int) < l.length := by omega
      have BW := SM0.bel
      obtain ⟨e0, e1, e2, e3, e4, e5⟩ := t6.below BW hb
      have hbw : b < wr.heap.size := by have := BW.size; omega
      have nb : b ≠ wr.heap.size := by omega
      have HBk := hide (fun x (hx : x ∈ qs) => HB.out x (by simp [hx]))
      have S1 := hide SM0
      obtain ⟨W1, hW1⟩ : ∃ W1, wr.alloc (.cells #[.int .i64 t.k, .string t.s, .int .i64 t.n, .int .i64 t.d, .bool t.i, .bool t.h] 66) = W1 := ⟨_, rfl⟩
      have HW1 := hide hW1
      have hs1 : W1.heap.size = wr.heap.size + 1 := by rw [← hW1]; simp
      have BX := hide (show W1.heap[wr.heap.size]? = some (.cells #[.int .i64 t.k, .string t.s, .int .i64 t.n, .int .i64 t.d, .bool t.i, .bool t.h] 66) by rw [← hW1]; exact heap_alloc_new wr _)
      have B1 := hide (show Below wr.heap.size wr W1 by rw [← hW1]; exact bplus (Below.refl _ _) _)
      have d0 := (B1.out.cell (p := ⟨G, qs.length * 7, none⟩) hG2).trans s0
      have x0 := bxk_at (j := 0) BX.out (by simp)
      simp at x0
      obtain ⟨cl, hcl⟩ : ∃ cl, decide (0 < qs.length ∧ t.k = cKn ft.k) = cl := ⟨_, rfl⟩
      have CL := hide hcl
      have QL := hide (show qs.length = 0 → qs = [] from List.eq_nil_of_length_eq_zero)
      clear hcl hW1 SM0 t6 hv' ht FS R HB hfz hd6 s0 BW
      obtain ⟨m, hm⟩ : ∃ m, qs.length = m := ⟨_, rfl⟩
      rw [hm] at d0 hc1 hq CL QL ⊢
      have HM := hide hm
      clear hm
      have hm9 : m ≤ 250000000 := by omega
      have hml : (m : Int) < (m : Int) + 1 := by omega
      go_upto_region 6 with fail
      rw [HW1.out]
      go_cut [31] (fun x wx => x = .bool cl ∧ Below W1.heap.size W1 wx)
      case first =>
        by_cases hm0 : m = 0
        · obtain rfl : cl = false := by rw [← CL.out]; simp [hm0]
          have g0 : decide (0 < m) = false := by simp [hm0]
          clear CL QL
          go_wp2_with fail
          go_quiet (fail)
          go_wp2
          go_meet
          case rel => exact ⟨rfl, by repeat (first | exact Below.refl _ _ | (with_reducible refine Below.drew ?_) | (with_reducible refine below_drewN ?_ _))⟩
        · have g0 : decide (0 < m) = true := by simp; omega
          have g1 : (0 : Int) < (m : Int) := by omega
          have hcl2 : (t.k == cKn ft.k) = cl := by rw [← CL.out, Bool.eq_iff_iff]; simp; omega
          have CL2 := hide hcl2
          clear CL QL hcl2
          go_wp2_with fail
          go_quiet ((go_at_call 47; exact Calls.quiet_of_same (closer5_any _ _)))
          go_wp2
          go_meet
          case rel => exact ⟨by rw [← CL2.out], by repeat (first | exact Below.refl _ _ | (with_reducible refine Below.drew ?_) | (with_reducible refine below_drewN ?_ _))⟩
      case rest =>
        obtain ⟨rfl, BL⟩ := hcut
        have hsx := BL.size
        have BXc := (BL.block _ (by omega)).trans BX.out
        have y0 := bxk_at (j := 0) BXc (by simp)
        have y1 := bxk_at (j := 1) BXc (by simp)
        have y2 := bxk_at (j := 2) BXc (by simp)
        have y3 := bxk_at (j := 3) BXc (by simp)
        have y4 := bxk_at (j := 4) BXc (by simp)
        have y5 := bxk_at (j := 5) BXc (by simp)
        simp at y0 y1 y2 y3 y4 y5
        have SX := hide (S1.out.low (bto B1.out BL))
        have hGx : G < wc.heap.size := by omega
        have hBx : wr.heap.size < wc.heap.size := by omega
        have n1 : wr.heap.size ≠ wc.heap.size := by omega
        have n2' : G ≠ wc.heap.size := by omega
        clear e0 e1 e2 e3 e4 e5 BL BX HW1 B1 hsx hs1 S1 d0 x0 HV S0
        cases hclv : cl
        · -- it closes nothing
          rw [hclv] at CL
          have NO := hide (show frV qs = [] ∨ t.k ≠ cKn ft.k by
            by_cases h0 : m = 0
            · left; rw [QL.out h0]; rfl
            · right; intro e; have := CL.out; simp [e] at this; omega)
          clear CL QL hclv
          by_cases hc0 : cKn t.k = 0
          · have E := hide (show (l.take (k + 1)).foldl stF [(zT 0, [])] = frV (qs ++ [⟨ft, .slice a1 its.length c1, its ++ [⟨t, .slice none 0 0, []⟩], fx⟩]) by rw [E0.out, frV_snoc, frV_snoc, stF_leaf NO.out hc0, vtL_snoc])
            have K0 := hide hc0
            have OX := hide (fun (o : Obj) => World.ownsRow.alloc (show wc.drew.ownsRow w.heap.size 68 7 (.slice a1 its.length c1) its.length (itCs its) from SX.out.drew.kid _ (List.mem_append_right _ (List.mem_singleton.2 rfl))) o)
            have LF := hide (fun (o : Obj) (g cp : Nat) (w5 : World) (hown : w5.ownsRow w.heap.size 68 7 (.slice (some ⟨g, 0, none⟩) (its.length + 1) cp) (its.length + 1) (itCs its ++ itC zIt)) (hg : (wc.drew.alloc o).grownBy w5 (Value.slice a1 its.length c1).ownBlock) (hl : (Value.slice a1 its.length c1).ownBlock = some g ∨ g = wc.heap.size + 1) =>
              (show SM 77 7 w wc (.slice (some ⟨G, 0, none⟩) (m + 1) cap) (qs ++ [⟨ft, .slice a1 its.length c1, its, fx⟩]) by have r := SX.out; rw [HM.out] at r; exact r).leaf HM.out (by decide) ⟨t, .slice none 0 0, []⟩ (.nil _ _) o g cp hown hg hl)
            have v6 : wc.cell? ⟨G, m * 7 + 6, none⟩ = some (.slice a1 its.length c1) := by
              obtain ⟨G', cap', hv', -, -, -, -, -, -, u6', -⟩ := SX.out.top
              cases hv'
              rw [HM.out] at u6'; exact u6'
            clear hc0 NO E0 SX
            have HBn := hide (show ∀ x ∈ qs, x.its.length ≤ k from HBk.out)
            have LQ := hide (show qs.length ≤ k + 1 by rw [HM.out]; omega)
            have hl1 : (its.length : Int) < (its.length : Int) + 1 := by omega
            clear HBk
            go_wp2_with (go_at_call 47; refine (closer5_any _ _).mono ?_; rintro e w8 ⟨rfl, rfl⟩; (try rw [K0.out]))
            go_region_law (refine step_append_lies _ rfl (.tmp 47) (.tmp 51) 42 rfl w.heap.size 68 i1 _ 7 72 Tryd.underlying42 hj hy0 hy1 hy2 rfl (by decide) (.slice a1 its.length c1) _ _ rfl (OX.out _) ⟨w8.heap.size, 0, none⟩ 1 1 (itC zIt) rfl rfl (newV _ _ _ _ _ _ _ _ _ _ (by simp)) (one7 _ rfl) (by decide) (by unfold maxLen; omega) (by omega) (by simp; omega) (w8.heap.size + 1) (by simp) ?_; intro g cp w5 hown5 hg5 hl5 hlt5; have LV := hide (LF.out _ g cp w5 hown5 hg5 hl5); have k5 := LV.out.k5; have f5 := LV.out.f5; have ng := LV.out.ne; have ng' := Ne.symm ng; obtain ⟨q0, r0⟩ := LV.out.q 0 (by omega); obtain ⟨q1, r1⟩ := LV.out.q 1 (by omega); obtain ⟨q2, r2⟩ := LV.out.q 2 (by omega); obtain ⟨q3, r3⟩ := LV.out.q 3 (by omega); obtain ⟨q4, r4⟩ := LV.out.q 4 (by omega); obtain ⟨q5, r5⟩ := LV.out.q 5 (by omega); obtain ⟨q6, r6⟩ := LV.out.q 6 (by omega); (simp only [Nat.add_zero] at q0 r0); (simp only [itC, zIt, zT, List.getElem?_cons_zero, List.getElem?_cons_succ] at q0 q1 q2 q3 q4 q5 q6); have FA := LV.out.fa; have FB := LV.out.fb; (dsimp only [set7] at FA FB); replace FA := hide FA; replace FB := hide FB; clear hown5 hg5 hl5 LV)
            all_goals
              go_wp2
              go_roundw
              case rel => exact .mk (k + 1) qs ⟨ft, .slice (some ⟨g, 0, none⟩) (its.length + 1) cp, its ++ [⟨t, .slice none 0 0, []⟩], fx⟩ (by go_num) (by omega) (by first | (with_reducible exact FA.out) | (with_reducible exact FB.out)) LQ.out (fun x hx => by
                rcases List.mem_append.1 hx with hx | hx
                · have := HBn.out x hx; omega
                · rw [List.mem_singleton] at hx; subst hx; show (its ++ _).length ≤ _; rw [List.length_append, List.length_singleton]; omega) (by rw [E.out, frV_snoc, frV_snoc])
              case measure => simp [intOf]; omega
          · have E := hide (show (l.take (k + 1)).foldl stF [(zT 0, [])] = frV ((qs ++ [⟨ft, .slice a1 its.length c1, its, fx⟩]) ++ [⟨t, .slice none 0 0, [], []⟩]) by rw [E0.out, frV_snoc, stF_open NO.out hc0, frV_snoc, frV_snoc]; rfl)
            have hc1' : (cKn t.k != 0) = true := by simpa using hc0
            have hc2' : ¬ cKn t.k = 0 := hc0
            have SY := hide (show SM 77 7 w wc (.slice (some ⟨G, 0, none⟩) (m + 1) cap) (qs ++ [⟨ft, .slice a1 its.length c1, its, fx⟩]) by have r := SX.out; rw [HM.out] at r; exact r)
            have HBn := hide (show ∀ x ∈ qs, x.its.length ≤ k from HBk.out)
            have LQ := hide (show (qs ++ [(⟨ft, .slice a1 its.length c1, its, fx⟩ : Fm)]).length ≤ k + 1 by rw [List.length_append, List.length_singleton, HM.out]; omega)
            clear hc0 NO E0 SX
            go_wp2_with (first
              | (go_at_call 47; refine (closer5_any _ _).mono ?_; rintro e w8 ⟨rfl, rfl⟩)
              | (at_builtin; refine wpList_append_lies _ rfl _ _ 78 rfl w.heap.size 77 i0 _ 7 72 Tryd.underlying78 hi hz0 hz1 hz2 rfl (by decide) (.slice (some ⟨G, 0, none⟩) (m + 1) cap) _ _ rfl (SY.out.own.alloc _) ⟨_, 0, none⟩ 1 1 (fmC ⟨t, .slice none 0 0, [], []⟩) rfl rfl (newV _ _ _ _ _ _ _ _ _ _ (by simp)) (one7 ⟨t, .slice none 0 0, []⟩ rfl) (by decide) (by have := LQ.out; unfold maxLen; omega) (by have := LQ.out; omega) (by simp; omega) (w8.heap.size + 1) (by simp) ?_; intro g cp w5 hown5 hg5 hl5 hlt5; have S2 := hide ((SY.out.alloc _).push (f := ⟨t, .slice none 0 0, [], []⟩) (by decide) rfl rfl rfl hown5 hg5 (by simpa using hl5)); clear hown5 hg5 hl5))
            go_roundw
            case rel => exact .mk (k + 1) (qs ++ [⟨ft, .slice a1 its.length c1, its, fx⟩]) ⟨t, .slice none 0 0, [], []⟩ (by go_num) (by omega) (by have r := S2.out; simp only [List.length_append, List.length_cons, List.length_nil, Nat.zero_add] at r; exact r) LQ.out (fun x hx => by
              rcases List.mem_append.1 hx with hx | hx
              · rcases List.mem_append.1 hx with hx | hx
                · have := HBn.out x hx; omega
                · rw [List.mem_singleton] at hx; subst hx; show its.length ≤ _; omega
              · rw [List.mem_singleton] at hx; subst hx; show (0 : Nat) ≤ _; omega) E.out
            case measure => simp [intOf]; omega
        · -- it closes the innermost
          rw [hclv] at CL
          have hcl := CL.out
          simp at hcl
          obtain ⟨hm0, htk⟩ := hcl
          rcases last_cases qs with rfl | ⟨qs, f1, rfl⟩
          · have := HM.out; simp at this; omega
          have SY := SX.out
          rw [List.append_assoc, List.singleton_append] at SY
          have HM2 := HM.out
          rw [List.length_append, List.length_singleton] at HM2
          have hf1 := HBk.out f1 (by simp)
          have C := hide (SHh.out qs f1 ⟨ft, .slice a1 its.length c1, its, fx⟩ _ w wc SY (by omega) (by omega) (by show its.length ≤ _; omega))
          rw [List.length_append, List.length_singleton] at C
          rw [HM2] at C
          have HB2 := hide (show ∀ x ∈ qs, x.its.length ≤ k from fun x hx => HBk.out x (by simp [hx]))
          have E := hide (show (l.take (k + 1)).foldl stF [(zT 0, [])] = (f1.t, vtL f1.its ++ [.mk ft (vtL its)]) :: frV qs by rw [E0.out, List.append_assoc, List.singleton_append, frV_two, stF_shut htk])
          have LQ := hide (show qs.length ≤ k + 1 by omega)
          clear SX SY CL QL hclv HBk HM HM2 E0 htk n1 n2'
          go_wp2_with (go_at_call 48; refine C.out.mono ?_; rintro e w1 ⟨u, sv', rfl, S2⟩; replace S2 := hide S2)
          go_roundw
          case rel => exact .mk (k + 1) qs _ (by go_num) (by omega) S2.out LQ.out (fun x hx => by
            rcases List.mem_append.1 hx with hx | hx
            · have := HB2.out x hx; omega
            · rw [List.mem_singleton] at hx; subst hx; show (f1.its ++ _).length ≤ _; rw [List.length_append, List.length_singleton]; omega) (by rw [E.out, frV_snoc, vtL_snoc])
          case measure => simp [intOf]; omega
    · have hlt' : ¬ (k : Int) < l.length := by omega
      have TK := hide (show l.take k = l from List.take_of_length_le (by omega))
      have hkl : k = l.length := by omega
      have S1 := hide SM0
      have HB1 := hide (fun x hx => Nat.le_trans (HB.out x hx) (Nat.le_of_eq hkl))
      have E := hide (show valsF l = fiF (frV (qs ++ [f])) by unfold valsF; rw [← R.out, TK.out])
      have hql : qs.length ≤ l.length := by omega
      clear SM0 HB R hkl
      go_wp2
      go_loopg [3] l.length (fun g sv wr => RelW5 w l g sv wr)
      case atStart => exact .mk qs f S1.out hql hql (by have := HB1.out f (by simp); omega) (fun x hx => HB1.out x (by simp [hx])) E.out
      case round =>
        clear S1 HB1 E hql S0 TK HV
        obtain ⟨qs, f, SM1, hg, hql, hf, HB, R⟩ := hrel
        rcases last_cases qs with rfl | ⟨qs, f1, rfl⟩
        · obtain ⟨G, cap, hv, hG1, hG2, hc1, hc2, hfz, -, hd6, -⟩ := SM1.top
          subst hv
          obtain ⟨-, VX⟩ := SM1.pop (by decide) (by omega)
          have VM1 := hide VX.vm
          have B1 := hide SM1.bel
          have E := hide (show valsF l = vtL f.its by rw [R.out, frV_snoc]; exact fiF_one)
          obtain ⟨a1, c1, hu1⟩ := (SM1.kid f (by simp)).slice
          simp only [List.length_nil, Nat.zero_mul, Nat.zero_add] at hd6 hc1 ⊢
          rw [hu1] at hd6 VM1
          clear SM1 VX hfz hu1 R
          go_wp2
          go_ret
          exact ⟨_, rfl, by rw [E.out]; exact VM1.out, B1.out⟩
        · rw [List.append_assoc, List.singleton_append] at SM1
          rw [List.length_append, List.length_singleton] at hg hql
          have C := hide (SHh.out qs f1 f u3 w wr SM1 (by omega) (by have := HB.out f1 (by simp); omega) (by omega))
          obtain ⟨G, cap, hv⟩ := SM1.len
          rw [show (qs ++ [f1, f]).length = qs.length + 1 + 1 by simp] at hv
          subst hv
          have HB1 := hide (show ∀ x ∈ qs, x.its.length ≤ l.length from fun x hx => HB.out x (by simp [hx]))
          have hf1 := HB.out f1 (by simp)
          have E := hide (show valsF l = fiF ((f1.t, vtL f1.its ++ [.mk f.t (vtL f.its)]) :: frV qs) by rw [R.out, List.append_assoc, List.singleton_append, frV_two, fiF_two])
          have hm9 : qs.length ≤ 250000000 := by omega
          have hm1 : (1 : Int) < (qs.length : Int) + 1 + 1 := by omega
          have LQ := hide (show qs.length ≤ gk - 1 by omega)
          have LQ2 := hide (show qs.length ≤ l.length by omega)
          clear SM1 HB R
          generalize qs.length = m at hm1 hm9 C ⊢
          go_wp2_with (go_at_call 48; refine C.out.mono ?_; rintro e w1 ⟨u, sv', rfl, S2⟩; replace S2 := hide S2)
          go_roundg (gk - 1)
          case measure => omega
          case rel => exact .mk qs _ S2.out LQ.out LQ2.out (by rw [List.length_append, List.length_singleton]; omega) HB1.out (by rw [E.out, frV_snoc, vtL_snoc])
end Go.Proofs.YtlkocepoohhglaaDoor
