/-
  Are two lists of declarations, of rules the same: by the program.
-/
import Derived.Test.YtbdacepomdlcbaaGreatDoorLPrvDd
set_option linter.unusedVariables false
set_option linter.unusedSimpArgs false
namespace Go.Proofs.YtbdacepomdlcbaaGreatDoor
open Go.RowKit Go.Shelf

theorem DM.at {w : World} {v : Value} {ds : List DT} (h : DM w v ds) {i : Nat} {d : DT} (hi : ds[i]? = some d) : ∃ b o c u, v = .slice (some ⟨b, o, none⟩) ds.length c ∧ b < w.heap.size ∧ (w.cell? ⟨b, o + i * 3, none⟩ = some (.string d.s) ∧ w.cell? ⟨b, o + i * 3 + 1, none⟩ = some u ∧ w.cell? ⟨b, o + i * 3 + 2, none⟩ = some (.bool d.imp)) ∧ VM w u d.l := by
  rcases h with ⟨a, c, rfl, rfl⟩ | ⟨b, o, c, rfl, h2, h3, h4, h5, h6, h7⟩
  · simp at hi
  · obtain ⟨g0, ⟨u, g1, g2⟩, g3⟩ := h7 i d hi
    exact ⟨b, o, c, u, rfl, h3, ⟨g0, g1, g3⟩, g2⟩
theorem str_ne {s t : ByteArray} (h : ¬ s = t) : (s.toList == t.toList) = false := by
  rw [beq_eq_false_iff_ne]
  intro g
  rw [Lib.toList_data, Lib.toList_data] at g
  exact h (Go.WideShapes.bytes_inj g)
set_option maxRecDepth 100000 in
set_option maxHeartbeats 1500000 in
theorem sameDecl_any (w : World) (x y : DT) (ux uy : Value) (hx : VM w ux x.l) (hy : VM w uy y.l) :
    Calls Tryz.prog 62 #[.agg #[.string x.s, ux, .bool x.imp], .agg #[.string y.s, uy, .bool y.imp]] w fun e w' => e = .returned (.bool (eqP (x = y))) ∧ Below w.heap.size w w' := by
  have C := hide (fun (W : World) (h : Below w.heap.size w W) => sameValues_any W x.l y.l ux uy (hx.low h) (hy.low h))
  obtain ⟨xa, xc, rfl, _⟩ := hx.shape
  obtain ⟨ya, yc, rfl, _⟩ := hy.shape
  obtain ⟨s, l, i⟩ := x
  obtain ⟨s', l', i'⟩ := y
  simp only at *
  clear hx hy
  have EQ := hide (show (DT.mk s l i = DT.mk s' l' i') ↔ (s = s' ∧ l = l' ∧ i = i') by simp)
  have B0 := hide (bplus (bplus (Below.refl w.heap.size w) (.cells #[.string s, .slice xa l.length xc, .bool i] 45)) (.cells #[.string s', .slice ya l'.length yc, .bool i'] 45))
  by_cases hs : s = s'
  case neg =>
    have F := hide (show eqP (DT.mk s l i = DT.mk s' l' i') = false from eqP_f (fun h => hs (EQ.out.1 h).1))
    have n1 := str_ne hs
    have n2 : ¬ s.toList = s'.toList := by simpa using n1
    clear hs EQ C
    go_enter Tryz.func62, Tryz.ntmps62
    go_wp2
    go_ret
    exact ⟨ret_bool F.out.symm, B0.out⟩
  subst hs
  by_cases hi : i = i'
  case neg =>
    have F := hide (show eqP (DT.mk s l i = DT.mk s l' i') = false from eqP_f (fun h => hi (EQ.out.1 h).2.2))
    clear EQ C
    cases i <;> cases i'
    all_goals first
      | exact absurd rfl hi
      | (clear hi
         go_enter Tryz.func62, Tryz.ntmps62
         go_wp2
         go_ret
         exact ⟨ret_bool F.out.symm, B0.out⟩)
  subst hi
  have E := hide (show eqP (DT.mk s l i = DT.mk s l' i) = eqP (l = l') from eqP_iff (by rw [EQ.out]; simp))
  clear EQ
  go_enter Tryz.func62, Tryz.ntmps62
  go_wp2_with (go_at_call 60; refine (C.out _ B0.out).mono ?_; rintro e w1 ⟨rfl, B1⟩; replace B1 := hide (bto B0.out B1))
  go_ret
  exact ⟨ret_bool E.out.symm, B1.out⟩
set_option maxRecDepth 100000 in
set_option maxHeartbeats 1500000 in
theorem eqFuncD_any (w : World) (l1 l2 : List DT) (v1 v2 : Value) (h1 : DM w v1 l1) (h2 : DM w v2 l2) :
    Calls Tryz.prog 61 #[v1, v2, .func (.func 62) #[] #[]] w fun e w' => e = .returned (.bool (eqP (l1 = l2))) ∧ Below w.heap.size w w' := by
  obtain ⟨a1, c1, rfl, hl1⟩ := h1.shape
  obtain ⟨a2, c2, rfl, hl2⟩ := h2.shape
  by_cases hlen : l1.length = l2.length
  case neg =>
    have F := hide (show eqP (l1 = l2) = false from eqP_f (fun h => hlen (by rw [h])))
    have g1 : ¬ (l1.length : Int) = l2.length := by omega
    have g2 : ((l1.length : Int) == l2.length) = false := by simpa using g1
    clear h1 h2 hlen
    go_enter Tryz.func61, Tryz.ntmps61
    go_wp2
    go_ret
    exact ⟨ret_bool F.out.symm, Below.refl _ _⟩
  have H1 := hide h1
  have H2 := hide h2
  have LE := hide hlen
  obtain ⟨n, hn⟩ : ∃ n, l1.length = n := ⟨_, rfl⟩
  have hn2 : l2.length = n := hlen.symm.trans hn
  have L1 := hide hn
  have L2 := hide hn2
  rw [hn] at hl1
  rw [hn, hn2]
  clear h1 h2 hn hn2 hlen hl2
  go_enter Tryz.func61, Tryz.ntmps61
  go_wp2
  go_loopw [17] (fun i wr => RelEqq w l1 l2 i wr) (fun i _ => n - (intOf i).toNat)
  case atStart => exact .mk 0 rfl (Nat.zero_le _) (Below.refl _ _) rfl
  case round =>
    obtain ⟨k, rfl, hk, BE, R⟩ := hrel
    replace BE := hide BE
    rw [L1.out] at hk
    by_cases hlt : k < n
    · obtain ⟨x, hx⟩ : ∃ x, l1[k]? = some x := ⟨_, List.getElem?_eq_getElem (by rw [L1.out]; exact hlt)⟩
      obtain ⟨y, hy⟩ : ∃ y, l2[k]? = some y := ⟨_, List.getElem?_eq_getElem (by rw [L2.out]; exact hlt)⟩
      have hlt' : (k : Int) < n := by omega
      obtain ⟨b1, o1, c1', u1, hv1, hb1, ⟨g0, g1, g2⟩, hk1⟩ := H1.out.at hx
      obtain ⟨b2, o2, c2', u2, hv2, hb2, ⟨k0, k1, k2⟩, hk2⟩ := H2.out.at hy
      obtain ⟨rfl, rfl⟩ : a1 = some ⟨b1, o1, none⟩ ∧ c1 = c1' := by cases hv1; exact ⟨rfl, rfl⟩
      obtain ⟨rfl, rfl⟩ : a2 = some ⟨b2, o2, none⟩ ∧ c2 = c2' := by cases hv2; exact ⟨rfl, rfl⟩
      have x0 := (BE.out.cell (p := ⟨b1, o1 + k * 3, none⟩) hb1).trans g0
      have x1 := (BE.out.cell (p := ⟨b1, o1 + k * 3 + 1, none⟩) hb1).trans g1
      have x2 := (BE.out.cell (p := ⟨b1, o1 + k * 3 + 2, none⟩) hb1).trans g2
      have y0 := (BE.out.cell (p := ⟨b2, o2 + k * 3, none⟩) hb2).trans k0
      have y1 := (BE.out.cell (p := ⟨b2, o2 + k * 3 + 1, none⟩) hb2).trans k1
      have y2 := (BE.out.cell (p := ⟨b2, o2 + k * 3 + 2, none⟩) hb2).trans k2
      have w1 : b1 < wr.heap.size := by have := BE.out.size; omega
      have w2 : b2 < wr.heap.size := by have := BE.out.size; omega
      have m1 : b1 ≠ wr.heap.size := by omega
      have m2 : b2 ≠ wr.heap.size := by omega
      have m3 : b2 ≠ wr.heap.size + 1 := by omega
      have m4 : b1 ≠ wr.heap.size + 1 := by omega
      have CQ := hide (fun (V : World) (h : Below w.heap.size w V) => sameDecl_any V x y u1 u2 (hk1.low h) (hk2.low h))
      obtain ⟨p1, p2, hp1, _⟩ := hk1.shape
      obtain ⟨p3, p4, hp2, _⟩ := hk2.shape
      subst hp1 hp2
      have ST := hide (fun (e : x = y) => take_more R.out hx hy e)
      have NQ := hide (fun (e : ¬ x = y) => ne_at hx hy e)
      clear hx hy R
      clear g0 g1 g2 k0 k1 k2 hk1 hk2 hv1 hv2
      by_cases heq : x = y
      · have Q := hide (eqP_t heq)
        have TM := hide (ST.out heq)
        clear heq ST NQ
        go_wp2_with (go_at_call 62; refine (CQ.out _ (bplus (bplus BE.out _) _)).mono ?_; rintro e w3 ⟨rfl, B3⟩; rw [Q.out]; replace B3 := hide (bto (bplus (bplus BE.out _) _) B3))
        go_roundw
        case rel => exact .mk (k + 1) (by go_num) (by rw [L1.out]; omega) B3.out TM.out
        case measure => simp [intOf]; omega
      · have Q := hide (eqP_f heq)
        have F := hide (eqP_f (NQ.out heq))
        clear heq ST NQ
        go_wp2_with (go_at_call 62; refine (CQ.out _ (bplus (bplus BE.out _) _)).mono ?_; rintro e w3 ⟨rfl, B3⟩; rw [Q.out]; replace B3 := hide (bto (bplus (bplus BE.out _) _) B3))
        go_ret
        exact ⟨ret_bool F.out.symm, B3.out⟩
    · have hlt' : ¬ (k : Int) < n := by omega
      have F := hide (eqP_t (show l1 = l2 by have h := R.out; rwa [List.take_of_length_le (by rw [L1.out]; omega), List.take_of_length_le (by rw [L2.out]; omega)] at h))
      go_wp2
      go_ret
      exact ⟨ret_bool F.out.symm, BE.out⟩
def SrC (N : Nat) : Prop := ∀ (w : World) (l1 l2 : List RT) (v1 v2 : Value), zsL l1 < N → RM w v1 l1 → RM w v2 l2 → Calls Tryz.prog 15 #[v1, v2] w fun e w' => e = .returned (.bool (eqP (l1 = l2))) ∧ Below w.heap.size w w'
set_option maxRecDepth 100000 in
set_option maxHeartbeats 1500000 in
theorem sameRule_any (N : Nat) (hS : SrC N) (w : World) (x y : RT) (up ud ur up' ud' ur' : Value) (hN : zsL x.rs < N) (h1 : VM w up x.p) (h2 : DM w ud x.ds) (h3 : RM w ur x.rs) (h4 : VM w up' y.p) (h5 : DM w ud' y.ds) (h6 : RM w ur' y.rs) :
    Calls Tryz.prog 31 #[.agg #[.int .i64 x.k, .string x.s, up, ud, ur], .agg #[.int .i64 y.k, .string y.s, up', ud', ur']] w fun e w' => e = .returned (.bool (eqP (x = y))) ∧ Below w.heap.size w w' := by
  have C1 := hide (fun (W : World) (h : Below w.heap.size w W) => sameValues_any W x.p y.p up up' (h1.low h) (h4.low h))
  have C2 := hide (fun (W : World) (h : Below w.heap.size w W) => eqFuncD_any W x.ds y.ds ud ud' (h2.low h) (h5.low h))
  have C3 := hide (fun (W : World) (h : Below w.heap.size w W) => hS W x.rs y.rs ur ur' hN (h3.low h) (h6.low h))
  obtain ⟨pa, pc, hq1, _⟩ := h1.shape
  obtain ⟨da, dc, hq2, _⟩ := h2.shape
  obtain ⟨ra, rc, hq3, _⟩ := h3.shape
  obtain ⟨pa', pc', hq4, _⟩ := h4.shape
  obtain ⟨da', dc', hq5, _⟩ := h5.shape
  obtain ⟨ra', rc', hq6, _⟩ := h6.shape
  subst hq1 hq2 hq3 hq4 hq5 hq6
  clear h1 h2 h3 h4 h5 h6 hS
  obtain ⟨k, s, p, ds, rs⟩ := x
  obtain ⟨k', s', p', ds', rs'⟩ := y
  simp only [RT.k, RT.s, RT.p, RT.ds, RT.rs] at *
  have EQ := hide (show (RT.mk k s p ds rs = RT.mk k' s' p' ds' rs') ↔ (k = k' ∧ s = s' ∧ p = p' ∧ ds = ds' ∧ rs = rs') by simp)
  have B0 := hide (bplus (bplus (Below.refl w.heap.size w) (.cells #[.int .i64 k, .string s, .slice pa p.length pc, .slice da ds.length dc, .slice ra rs.length rc] 58)) (.cells #[.int .i64 k', .string s', .slice pa' p'.length pc', .slice da' ds'.length dc', .slice ra' rs'.length rc'] 58))
  have X1 := hide (show ((w.alloc (.cells #[.int .i64 k, .string s, .slice pa p.length pc, .slice da ds.length dc, .slice ra rs.length rc] 58)).alloc (.cells #[.int .i64 k', .string s', .slice pa' p'.length pc', .slice da' ds'.length dc', .slice ra' rs'.length rc'] 58)).heap[w.heap.size]? = some (.cells #[.int .i64 k, .string s, .slice pa p.length pc, .slice da ds.length dc, .slice ra rs.length rc] 58) by
    show ((w.heap.push _).push _)[w.heap.size]? = _
    rw [Array.getElem?_push, if_neg (by simp), Array.getElem?_push, if_pos rfl])
  have X2 := hide (show ((w.alloc (.cells #[.int .i64 k, .string s, .slice pa p.length pc, .slice da ds.length dc, .slice ra rs.length rc] 58)).alloc (.cells #[.int .i64 k', .string s', .slice pa' p'.length pc', .slice da' ds'.length dc', .slice ra' rs'.length rc'] 58)).heap[w.heap.size + 1]? = some (.cells #[.int .i64 k', .string s', .slice pa' p'.length pc', .slice da' ds'.length dc', .slice ra' rs'.length rc'] 58) by
    have := heap_alloc_new (w.alloc (.cells #[.int .i64 k, .string s, .slice pa p.length pc, .slice da ds.length dc, .slice ra rs.length rc] 58)) (.cells #[.int .i64 k', .string s', .slice pa' p'.length pc', .slice da' ds'.length dc', .slice ra' rs'.length rc'] 58)
    rwa [show (w.alloc (.cells #[.int .i64 k, .string s, .slice pa p.length pc, .slice da ds.length dc, .slice ra rs.length rc] 58)).heap.size = w.heap.size + 1 by simp] at this)
  by_cases hk : k = k'
  case neg =>
    have F := hide (show eqP (RT.mk k s p ds rs = RT.mk k' s' p' ds' rs') = false from eqP_f (fun h => hk (EQ.out.1 h).1))
    have n1 : (k == k') = false := by simpa using hk
    clear C1 C2 C3 EQ
    go_enter Tryz.func31, Tryz.ntmps31
    go_wp2
    go_ret
    exact ⟨ret_bool F.out.symm, B0.out⟩
  subst hk
  by_cases hs : s = s'
  case neg =>
    have F := hide (show eqP (RT.mk k s p ds rs = RT.mk k s' p' ds' rs') = false from eqP_f (fun h => hs (EQ.out.1 h).2.1))
    have n1 := str_ne hs
    have n2 : ¬ s.toList = s'.toList := by simpa using n1
    clear C1 C2 C3 EQ hs
    go_enter Tryz.func31, Tryz.ntmps31
    go_wp2
    go_ret
    exact ⟨ret_bool F.out.symm, B0.out⟩
  subst hs
  by_cases hp : p = p'
  case neg =>
    have F := hide (show eqP (RT.mk k s p ds rs = RT.mk k s p' ds' rs') = false from eqP_f (fun h => hp (EQ.out.1 h).2.2.1))
    have Q1 := hide (eqP_f hp)
    clear C2 C3 EQ hp
    go_enter Tryz.func31, Tryz.ntmps31
    go_wp2_with (go_at_call 60; refine (C1.out _ B0.out).mono ?_; rintro e w1 ⟨rfl, B1⟩; rw [Q1.out]; replace X1 := hide ((B1.block _ (Array.getElem?_eq_some_iff.1 X1.out).1).trans X1.out); replace X2 := hide ((B1.block _ (Array.getElem?_eq_some_iff.1 X2.out).1).trans X2.out); replace B0 := hide (bto B0.out B1); clear B1; (try clear q0 q1 q2 q3 q4 r0 r1 r2 r3 r4); obtain ⟨q0, q1, q2, q3, q4⟩ := bxr_at X1.out; obtain ⟨r0, r1, r2, r3, r4⟩ := bxr_at X2.out)
    go_ret
    exact ⟨ret_bool F.out.symm, B0.out⟩
  have Q1 := hide (eqP_t hp)
  have HP := hide hp
  clear hp
  by_cases hd : ds = ds'
  case neg =>
    have F := hide (show eqP (RT.mk k s p ds rs = RT.mk k s p' ds' rs') = false from eqP_f (fun h => hd (EQ.out.1 h).2.2.2.1))
    have Q2 := hide (eqP_f hd)
    clear C3 EQ hd
    go_enter Tryz.func31, Tryz.ntmps31
    go_wp2_with (first
      | (go_at_call 60; refine (C1.out _ B0.out).mono ?_; rintro e w1 ⟨rfl, B1⟩; rw [Q1.out]; replace X1 := hide ((B1.block _ (Array.getElem?_eq_some_iff.1 X1.out).1).trans X1.out); replace X2 := hide ((B1.block _ (Array.getElem?_eq_some_iff.1 X2.out).1).trans X2.out); replace B0 := hide (bto B0.out B1); clear B1; (try clear q0 q1 q2 q3 q4 r0 r1 r2 r3 r4); obtain ⟨q0, q1, q2, q3, q4⟩ := bxr_at X1.out; obtain ⟨r0, r1, r2, r3, r4⟩ := bxr_at X2.out)
      | (go_at_call 61; refine (C2.out _ B0.out).mono ?_; rintro e w1 ⟨rfl, B1⟩; rw [Q2.out]; replace X1 := hide ((B1.block _ (Array.getElem?_eq_some_iff.1 X1.out).1).trans X1.out); replace X2 := hide ((B1.block _ (Array.getElem?_eq_some_iff.1 X2.out).1).trans X2.out); replace B0 := hide (bto B0.out B1); clear B1; (try clear q0 q1 q2 q3 q4 r0 r1 r2 r3 r4); obtain ⟨q0, q1, q2, q3, q4⟩ := bxr_at X1.out; obtain ⟨r0, r1, r2, r3, r4⟩ := bxr_at X2.out))
    go_ret
    exact ⟨ret_bool F.out.symm, B0.out⟩
  have Q2 := hide (eqP_t hd)
  have E := hide (show eqP (RT.mk k s p ds rs = RT.mk k s p' ds' rs') = eqP (rs = rs') from eqP_iff (by rw [EQ.out]; exact ⟨fun h => h.2.2.2.2, fun h => ⟨rfl, rfl, HP.out, hd, h⟩⟩))
  clear hd EQ
  go_enter Tryz.func31, Tryz.ntmps31
  go_wp2_with (first
    | (go_at_call 60; refine (C1.out _ B0.out).mono ?_; rintro e w1 ⟨rfl, B1⟩; rw [Q1.out]; replace X1 := hide ((B1.block _ (Array.getElem?_eq_some_iff.1 X1.out).1).trans X1.out); replace X2 := hide ((B1.block _ (Array.getElem?_eq_some_iff.1 X2.out).1).trans X2.out); replace B0 := hide (bto B0.out B1); clear B1; (try clear q0 q1 q2 q3 q4 r0 r1 r2 r3 r4); obtain ⟨q0, q1, q2, q3, q4⟩ := bxr_at X1.out; obtain ⟨r0, r1, r2, r3, r4⟩ := bxr_at X2.out)
    | (go_at_call 61; refine (C2.out _ B0.out).mono ?_; rintro e w1 ⟨rfl, B1⟩; rw [Q2.out]; replace X1 := hide ((B1.block _ (Array.getElem?_eq_some_iff.1 X1.out).1).trans X1.out); replace X2 := hide ((B1.block _ (Array.getElem?_eq_some_iff.1 X2.out).1).trans X2.out); replace B0 := hide (bto B0.out B1); clear B1; (try clear q0 q1 q2 q3 q4 r0 r1 r2 r3 r4); obtain ⟨q0, q1, q2, q3, q4⟩ := bxr_at X1.out; obtain ⟨r0, r1, r2, r3, r4⟩ := bxr_at X2.out)
    | (go_at_call 15; refine (C3.out _ B0.out).mono ?_; rintro e w1 ⟨rfl, B1⟩; replace B0 := hide (bto B0.out B1)))
  go_ret
  exact ⟨ret_bool E.out.symm, B0.out⟩
set_option maxRecDepth 100000 in
set_option maxHeartbeats 1500000 in
theorem eqFuncR_any (N : Nat) (hS : SrC N) (w : World) (l1 l2 : List RT) (v1 v2 : Value) (hN : zsL l1 ≤ N) (h1 : RM w v1 l1) (h2 : RM w v2 l2) :
    Calls Tryz.prog 30 #[v1, v2, .func (.func 31) #[] #[]] w fun e w' => e = .returned (.bool (eqP (l1 = l2))) ∧ Below w.heap.size w w' := by
  obtain ⟨a1, c1, rfl, hl1⟩ := h1.shape
  obtain ⟨a2, c2, rfl, hl2⟩ := h2.shape
  by_cases hlen : l1.length = l2.length
  case neg =>
    have F := hide (show eqP (l1 = l2) = false from eqP_f (fun h => hlen (by rw [h])))
    have g1 : ¬ (l1.length : Int) = l2.length := by omega
    have g2 : ((l1.length : Int) == l2.length) = false := by simpa using g1
    clear h1 h2 hS hlen
    go_enter Tryz.func30, Tryz.ntmps30
    go_wp2
    go_ret
    exact ⟨ret_bool F.out.symm, Below.refl _ _⟩
  have H1 := hide h1
  have H2 := hide h2
  have HS := hide hS
  have LE := hide hlen
  obtain ⟨n, hn⟩ : ∃ n, l1.length = n := ⟨_, rfl⟩
  have hn2 : l2.length = n := hlen.symm.trans hn
  have L1 := hide hn
  have L2 := hide hn2
  rw [hn] at hl1
  rw [hn, hn2]
  clear h1 h2 hS hn hn2 hlen hl2
  go_enter Tryz.func30, Tryz.ntmps30
  go_wp2
  go_loopw [17] (fun i wr => RelEqq w l1 l2 i wr) (fun i _ => n - (intOf i).toNat)
  case atStart => exact .mk 0 rfl (Nat.zero_le _) (Below.refl _ _) rfl
  case round =>
    obtain ⟨k, rfl, hk, BE, R⟩ := hrel
    replace BE := hide BE
    rw [L1.out] at hk
    by_cases hlt : k < n
    · obtain ⟨x, hx⟩ : ∃ x, l1[k]? = some x := ⟨_, List.getElem?_eq_getElem (by rw [L1.out]; exact hlt)⟩
      obtain ⟨y, hy⟩ : ∃ y, l2[k]? = some y := ⟨_, List.getElem?_eq_getElem (by rw [L2.out]; exact hlt)⟩
      have hlt' : (k : Int) < n := by omega
      obtain ⟨b1, o1, c1', up1, ud1, ur1, hv1, hb1, ⟨g0, g1, g2, g3, g4⟩, gp1, gd1, gr1⟩ := H1.out.at hx
      obtain ⟨b2, o2, c2', up2, ud2, ur2, hv2, hb2, ⟨k0, k1, k2, k3, k4⟩, gp2, gd2, gr2⟩ := H2.out.at hy
      obtain ⟨rfl, rfl⟩ : a1 = some ⟨b1, o1, none⟩ ∧ c1 = c1' := by cases hv1; exact ⟨rfl, rfl⟩
      obtain ⟨rfl, rfl⟩ : a2 = some ⟨b2, o2, none⟩ ∧ c2 = c2' := by cases hv2; exact ⟨rfl, rfl⟩
      have x0 := (BE.out.cell (p := ⟨b1, o1 + k * 5, none⟩) hb1).trans g0
      have y0 := (BE.out.cell (p := ⟨b2, o2 + k * 5, none⟩) hb2).trans k0
      have x1 := (BE.out.cell (p := ⟨b1, o1 + k * 5 + 1, none⟩) hb1).trans g1
      have y1 := (BE.out.cell (p := ⟨b2, o2 + k * 5 + 1, none⟩) hb2).trans k1
      have x2 := (BE.out.cell (p := ⟨b1, o1 + k * 5 + 2, none⟩) hb1).trans g2
      have y2 := (BE.out.cell (p := ⟨b2, o2 + k * 5 + 2, none⟩) hb2).trans k2
      have x3 := (BE.out.cell (p := ⟨b1, o1 + k * 5 + 3, none⟩) hb1).trans g3
      have y3 := (BE.out.cell (p := ⟨b2, o2 + k * 5 + 3, none⟩) hb2).trans k3
      have x4 := (BE.out.cell (p := ⟨b1, o1 + k * 5 + 4, none⟩) hb1).trans g4
      have y4 := (BE.out.cell (p := ⟨b2, o2 + k * 5 + 4, none⟩) hb2).trans k4
      have w1 : b1 < wr.heap.size := by have := BE.out.size; omega
      have w2 : b2 < wr.heap.size := by have := BE.out.size; omega
      have m1 : b1 ≠ wr.heap.size := by omega
      have m2 : b2 ≠ wr.heap.size := by omega
      have m3 : b2 ≠ wr.heap.size + 1 := by omega
      have m4 : b1 ≠ wr.heap.size + 1 := by omega
      have CQ := hide (fun (V : World) (h : Below w.heap.size w V) => sameRule_any N HS.out V x y up1 ud1 ur1 up2 ud2 ur2 (by have := zs_at hx; omega) (gp1.low h) (gd1.low h) (gr1.low h) (gp2.low h) (gd2.low h) (gr2.low h))
      obtain ⟨_, _, hq1, _⟩ := gp1.shape
      obtain ⟨_, _, hq2, _⟩ := gd1.shape
      obtain ⟨_, _, hq3, _⟩ := gr1.shape
      obtain ⟨_, _, hq4, _⟩ := gp2.shape
      obtain ⟨_, _, hq5, _⟩ := gd2.shape
      obtain ⟨_, _, hq6, _⟩ := gr2.shape
      subst hq1 hq2 hq3 hq4 hq5 hq6
      have ST := hide (fun (e : x = y) => take_more R.out hx hy e)
      have NQ := hide (fun (e : ¬ x = y) => ne_at hx hy e)
      clear hx hy R
      clear g0 g1 g2 g3 g4 k0 k1 k2 k3 k4 gp1 gd1 gr1 gp2 gd2 gr2 hv1 hv2
      by_cases heq : x = y
      · have Q := hide (eqP_t heq)
        have TM := hide (ST.out heq)
        clear heq ST NQ
        go_wp2_with (go_at_call 31; refine (CQ.out _ (bplus (bplus BE.out _) _)).mono ?_; rintro e w3 ⟨rfl, B3⟩; rw [Q.out]; replace B3 := hide (bto (bplus (bplus BE.out _) _) B3))
        go_roundw
        case rel => exact .mk (k + 1) (by go_num) (by rw [L1.out]; omega) B3.out TM.out
        case measure => simp [intOf]; omega
      · have Q := hide (eqP_f heq)
        have F := hide (eqP_f (NQ.out heq))
        clear heq ST NQ
        go_wp2_with (go_at_call 31; refine (CQ.out _ (bplus (bplus BE.out _) _)).mono ?_; rintro e w3 ⟨rfl, B3⟩; rw [Q.out]; replace B3 := hide (bto (bplus (bplus BE.out _) _) B3))
        go_ret
        exact ⟨ret_bool F.out.symm, B3.out⟩
    · have hlt' : ¬ (k : Int) < n := by omega
      have F := hide (eqP_t (show l1 = l2 by have h := R.out; rwa [List.take_of_length_le (by rw [L1.out]; omega), List.take_of_length_le (by rw [L2.out]; omega)] at h))
      go_wp2
      go_ret
      exact ⟨ret_bool F.out.symm, BE.out⟩
theorem sr_step (N : Nat) (hS : SrC N) : SrC (N + 1) := by
  intro w l1 l2 v1 v2 hN h1 h2
  have C := hide (eqFuncR_any N hS w l1 l2 v1 v2 (by omega) h1 h2)
  obtain ⟨a1, c1, rfl, hl1⟩ := h1.shape
  obtain ⟨a2, c2, rfl, hl2⟩ := h2.shape
  clear h1 h2 hS
  go_enter Tryz.func15, Tryz.ntmps15
  go_wp2_with (go_at_call 30; refine C.out.mono ?_; rintro e w1 ⟨rfl, B1⟩; replace B1 := hide B1)
  go_ret
  exact ⟨rfl, B1.out⟩
theorem sr_all (N : Nat) : SrC N := by
  induction N with
  | zero => intro w l1 l2 v1 v2 hN; omega
  | succ N ih => exact sr_step N ih
theorem sameP_any (w : World) (l1 l2 : List RT) (v1 v2 : Value) (h1 : RM w v1 l1) (h2 : RM w v2 l2) : Calls Tryz.prog 15 #[v1, v2] w fun e w' => e = .returned (.bool (eqP (l1 = l2))) ∧ Below w.heap.size w w' :=
  sr_all (zsL l1 + 1) w l1 l2 v1 v2 (by omega) h1 h2
end Go.Proofs.YtbdacepomdlcbaaGreatDoor
