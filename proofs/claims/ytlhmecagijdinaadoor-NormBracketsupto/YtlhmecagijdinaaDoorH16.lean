/-
  The seven fractions of a form, each times another: by the program.
  A form times a fraction: plain.
-/
import Derived.Test.YtlhmecagijdinaaDoorH12
import Derived.Test.YtlhmecagijdinaaDoorH11
import Derived.Test.YtlhmecagijdinaaDoorK10
set_option linter.unusedVariables false
set_option linter.unusedSimpArgs false
namespace Go.Proofs.YtlhmecagijdinaaDoor.nm
open Go.RowKit

/-- The product of two fractions. -/
def muR (r s : Int × Int) : Int × Int := wk.mulAll [r, s]
theorem mu_64 (r s : Int × Int) : R64 (muR r s) := wk.mulAll_I64 _
theorem mul2_drew (W : World) (T : TypeId) (n d m e : Int) (hn : i64 n) (hd : i64 d) (hm : i64 m) (he : i64 e) : Calls Tryd.prog 56 #[.slice (some ⟨W.heap.size, 0, none⟩) 2 2] (W.alloc (.cells #[.int .i64 n, .int .i64 d, .int .i64 m, .int .i64 e] T)).drew fun x w' => x = .returned (.agg #[.int .i64 (muR (n, d) (m, e)).1, .int .i64 (muR (n, d) (m, e)).2]) ∧ Below W.heap.size W w' := by
  refine (wk.mulP_any _ [(n, d), (m, e)] _ ((wk.row_two W n d m e T).up ((wk.Up.refl _).drew)) (by intro r hr; simp at hr; rcases hr with rfl | rfl; exact ⟨hn, hd⟩; exact ⟨hm, he⟩)).mono ?_
  rintro x w1 ⟨rfl, U⟩
  exact ⟨rfl, bto (bplus (Below.refl _ _) _).drew U.1⟩
/-- The first k are multiplied. -/
def mtU (k : Nat) (us : List (Int × Int)) (s : Int × Int) : List (Int × Int) := (us.map fun r => muR r s).take k ++ us.drop k
def tmU (us : List (Int × Int)) (s : Int × Int) : List (Int × Int) := us.map fun r => muR r s
theorem mtU_len {us : List (Int × Int)} (h1 : us.length = 7) (s : Int × Int) {k : Nat} (hk : k ≤ 7) : (mtU k us s).length = 7 := by simp [mtU, h1]; omega
theorem mtU_at {us : List (Int × Int)} (h1 : us.length = 7) (s : Int × Int) {k : Nat} (hk : k < 7) : (mtU k us s)[k]? = us[k]? := by
  unfold mtU
  rw [List.getElem?_append_right (by simp [h1]; omega)]
  simp [h1]
  rw [show min k 7 = k by omega, Nat.sub_self, Nat.add_zero]
theorem mtU_step {us : List (Int × Int)} (h1 : us.length = 7) {s : Int × Int} {k : Nat} (hk : k < 7) {r : Int × Int} (hr : us[k]? = some r) : (mtU k us s).set k (muR r s) = mtU (k + 1) us s := by
  have hz : (us.map fun r => muR r s)[k]? = some (muR r s) := by rw [List.getElem?_map, hr]; rfl
  have hlz : (us.map fun r => muR r s).length = 7 := by simp [h1]
  unfold mtU
  rw [List.set_append_right _ _ (by simp [h1]; omega)]
  rw [show k - ((us.map fun r => muR r s).take k).length = 0 by rw [List.length_take, hlz]; omega]
  rw [drop_atE hr, List.set_cons_zero, List.take_add_one, hz]
  simp
theorem mtU_end {us : List (Int × Int)} (h1 : us.length = 7) (s : Int × Int) : mtU 7 us s = tmU us s := by
  unfold mtU tmU
  rw [List.take_of_length_le (by simp [h1]), List.drop_of_length_le (by omega), List.append_nil]
theorem tmU_us {us : List (Int × Int)} (h1 : Us us) (s : Int × Int) : Us (tmU us s) := by
  refine ⟨by simp [tmU, h1.1], fun r hr => ?_⟩
  obtain ⟨x, -, rfl⟩ := List.mem_map.1 hr
  exact mu_64 _ _
def RelTm (w : World) (us : List (Int × Int)) (s : Int × Int) (i : Value) (wr : World) : Prop := ∃ k : Nat, i = .int .i64 k ∧ k ≤ 7 ∧ Hid (BU wr w.heap.size 67 (mtU k us s) ∧ Bk wr (w.heap.size + 1) 23 [.int .i64 s.1, .int .i64 s.2] ∧ BU wr (w.heap.size + 2) 67 z00 ∧ Below w.heap.size w wr)
theorem RelTm.mk {w : World} {us : List (Int × Int)} {s : Int × Int} {i : Value} {wr : World} (k : Nat) (h1 : i = .int .i64 k) (h2 : k ≤ 7) (h3 : BU wr w.heap.size 67 (mtU k us s)) (h4 : Bk wr (w.heap.size + 1) 23 [.int .i64 s.1, .int .i64 s.2]) (h5 : BU wr (w.heap.size + 2) 67 z00) (h6 : Below w.heap.size w wr) : RelTm w us s i wr := ⟨k, h1, h2, h3, h4, h5, h6⟩
set_option maxRecDepth 100000 in
set_option maxHeartbeats 8000000 in
theorem times_any (us : List (Int × Int)) (s : Int × Int) (w : World) (hus : Us us) (hs : R64 s) : Calls Tryd.prog 39 #[usV us, ratV s] w fun e w' => e = .returned (usV (tmU us s)) ∧ Below w.heap.size w w' := by
  have l1 := hus.1
  have HU := hide hus
  obtain ⟨W1, hW1⟩ : ∃ W1, ((w.alloc (.cells (usL us).toArray 67)).alloc (.cells #[.int .i64 s.1, .int .i64 s.2] 23)).alloc (.cells (usL z00).toArray 67) = W1 := ⟨_, rfl⟩
  have B0 := hide (show Below w.heap.size w W1 by rw [← hW1]; exact bplus (bplus (bplus (Below.refl _ _) _) _) _)
  have P0 := hide (show BU W1 w.heap.size 67 us by rw [← hW1]; exact (three_new w _ _ _).1)
  have P1 := hide (show Bk W1 (w.heap.size + 1) 23 [.int .i64 s.1, .int .i64 s.2] by rw [← hW1]; exact (three_new w _ _ _).2.1)
  have P2 := hide (show BU W1 (w.heap.size + 2) 67 z00 by rw [← hW1]; exact (three_new w _ _ _).2.2)
  have HW1 := hide hW1
  clear hW1
  unfold usV ratV
  have C := hide (fun (W : World) (T : TypeId) (n d : Int) (hn : i64 n) (hd : i64 d) => mul2_drew W T n d s.1 s.2 hn hd hs.1 hs.2)
  obtain ⟨ul, hul⟩ : ∃ ul, (usL us).toArray = ul := ⟨_, rfl⟩
  rw [hul]
  rw [hul] at HW1
  have hsu : ul.size = 14 := by rw [← hul]; simp [usL_len, l1]
  clear hul hs
  go_enter Tryd.func39, Tryd.ntmps39
  go_upto_region 1 with fail
  rw [show (((w.alloc (.cells ul 67)).alloc (.cells #[.int .i64 s.1, .int .i64 s.2] 23)).alloc (.cells #[.int .i64 0, .int .i64 0, .int .i64 0, .int .i64 0, .int .i64 0, .int .i64 0, .int .i64 0, .int .i64 0, .int .i64 0, .int .i64 0, .int .i64 0, .int .i64 0, .int .i64 0, .int .i64 0] 67)) = W1 from HW1.out]
  go_wp2_with fail
  go_loopw [6] (fun i wr => RelTm w us s i wr) (fun i _ => 7 - (intOf i).toNat)
  case atStart => exact .mk 0 rfl (by omega) P0.out P1.out P2.out B0.out
  case round =>
    obtain ⟨k, rfl, hk, R⟩ := hrel
    have Q0 := hide R.out.1
    have Q1 := hide R.out.2.1
    have Q2 := hide R.out.2.2.1
    have BW := hide R.out.2.2.2
    clear R P0 P1 P2 B0 HW1
    by_cases hlt : k < 7
    · have hlt' : (k : Int) < 7 := by omega
      obtain ⟨rn, rd, hr, hrn, hrd⟩ := us_at HU.out hlt
      have C2 := hide (fun (W : World) (T : TypeId) => C.out W T rn rd hrn hrd)
      have ST := hide (mtU_step (s := s) l1 hlt hr)
      rw [show ((s.1, s.2) : Int × Int) = s from rfl] at C2
      obtain ⟨ad, had⟩ : ∃ ad, muR (rn, rd) s = ad := ⟨_, rfl⟩
      rw [had] at C2 ST
      clear had
      obtain ⟨c0, c1⟩ := BU.at Q0.out ((mtU_at l1 s hlt).trans hr)
      have d0 := Bk.cell Q1.out 0
      have d1 := Bk.cell Q1.out 1
      simp at d0 d1
      have ha1 : w.heap.size < wr.heap.size := Bk.lt Q0.out
      have ha2 : w.heap.size + 1 < wr.heap.size := Bk.lt Q1.out
      have ha3 : w.heap.size ≠ wr.heap.size := by omega
      have ha4 : w.heap.size + 1 ≠ wr.heap.size := by omega
      have NX := hide (fun (W : World) (h : Below wr.heap.size wr W) => show BU ((W.setCell ⟨w.heap.size, k * 2, none⟩ (.int .i64 ad.1)).setCell ⟨w.heap.size, k * 2 + 1, none⟩ (.int .i64 ad.2)) w.heap.size 67 (mtU (k + 1) us s) by
        have := BU.put (Bk.up Q0.out h : BU W w.heap.size 67 (mtU k us s)) (k := k) (by rw [mtU_len l1 s hk]; omega) ad.1 ad.2
        rwa [show ((ad.1, ad.2) : Int × Int) = ad from rfl, ST.out] at this)
      have NY := hide (fun (W : World) (h : Below wr.heap.size wr W) => show Bk ((W.setCell ⟨w.heap.size, k * 2, none⟩ (.int .i64 ad.1)).setCell ⟨w.heap.size, k * 2 + 1, none⟩ (.int .i64 ad.2)) (w.heap.size + 1) 23 [.int .i64 s.1, .int .i64 s.2] from Bk.far (Bk.far (Bk.up Q1.out h) (by omega) _ _) (by omega) _ _)
      have NZ := hide (fun (W : World) (h : Below wr.heap.size wr W) => show BU ((W.setCell ⟨w.heap.size, k * 2, none⟩ (.int .i64 ad.1)).setCell ⟨w.heap.size, k * 2 + 1, none⟩ (.int .i64 ad.2)) (w.heap.size + 2) 67 z00 from Bk.far (Bk.far (Bk.up Q2.out h) (by omega) _ _) (by omega) _ _)
      have NB := hide (fun (W : World) (h : Below wr.heap.size wr W) => show Below w.heap.size w ((W.setCell ⟨w.heap.size, k * 2, none⟩ (.int .i64 ad.1)).setCell ⟨w.heap.size, k * 2 + 1, none⟩ (.int .i64 ad.2)) from ((bto BW.out h).setCell (by simp) _).setCell (by simp) _)
      have KC := hide (fun (W : World) (h : Below wr.heap.size wr W) => And.intro ((BU.at (Bk.up Q0.out h : BU W w.heap.size 67 (mtU k us s)) ((mtU_at l1 s hlt).trans hr))) (Bk.fz (Bk.up Q0.out h)))
      clear hr ST Q0 Q1 Q2
      go_wp2
      go_region_with ((go_at_call 56; refine (C2.out _ _).mono ?_; rintro e w4 ⟨rfl, B4⟩; replace B4 := hide (show Below wr.heap.size wr w4 from B4); obtain ⟨⟨v0, v1⟩, vz⟩ := KC.out w4 B4.out; have vz0 := vz (k * 2); have vz1 := vz (k * 2 + 1); clear vz))
      all_goals
        go_wp2_with fail
        go_roundw
        case rel => exact .mk (k + 1) (by go_num) (by omega) (NX.out _ B4.out) (NY.out _ B4.out) (NZ.out _ B4.out) (NB.out _ B4.out)
        case measure => simp [intOf]; omega
    · obtain rfl : k = 7 := by omega
      have q0 := hide (show wr.heap[w.heap.size]? = some (.cells (usL (tmU us s)).toArray 67) by rw [← mtU_end l1]; exact Q0.out)
      have q2 := hide (show wr.heap[w.heap.size + 2]? = some (.cells (usL z00).toArray 67) from Q2.out)
      have l3 : (usL (tmU us s)).length = 14 := by rw [usL_len, (tmU_us HU.out s).1]
      have oc : ∀ v ∈ usL (tmU us s), v.oneCell' = true := by
        intro v hv
        simp only [usL, List.mem_flatMap] at hv
        obtain ⟨r, -, hv⟩ := hv
        simp at hv
        rcases hv with rfl | rfl <;> rfl
      clear Q0 Q1 Q2
      go_upto_region 6 with fail
      refine wp_region_list ?_
      refine wpList_load_mid rfl 67 (.tmp 2) rfl w.heap.size 0 rfl (usL (tmU us s)) _ (range_blk q0.out) Tryd.underlying67 rfl (by rw [l3]; kernel_rfl) ?_
      refine wpList_store_mid rfl 67 (.tmp 4) (.tmp 18) rfl (w.heap.size + 2) 0 (usL (tmU us s)).toArray rfl rfl (there_blk q2.out (by simp only [List.size_toArray, l3]; rfl)) (by rw [List.size_toArray, l3]; kernel_rfl) (all_oneCell_toArray oc) ?_
      go_wp2_with fail
      refine ret_cell (b := w.heap.size + 2) (cs := usL (tmU us s)) Tryd.results39 rfl (World.rangeAt_setCells_same _ _ _ _ (there_blk q2.out (by simp only [List.size_toArray, l3]; rfl))) Tryd.underlying67 rfl (by rw [l3]; kernel_rfl) rfl ?_
      exact ⟨rfl, BW.out.grown (setCells_grown _ _ _ _) BW.out.size (fun k hk => by cases hk; simp)⟩
end Go.Proofs.YtlhmecagijdinaaDoor.nm
set_option linter.unusedVariables false
set_option linter.unusedSimpArgs false
namespace Go.Proofs.YtlhmecagijdinaaDoor.nm
open Go.RowKit

/-- A part's pick is turned about where the fraction is below 0. -/
def scX (k : Int × Int) (m : Bool) : Bool := m != decide (k.1 < 0)
/-- The forms whose sum is f times k; g is what becomes of a part's forms. -/
def scG (g : Fo → Fo) (k : Int × Int) (f : Fo) : List Fo := .mk (tmU f.us k) [] :: f.ps.map fun p => pkF (scX k p.1) (p.2.map g)
def scF (k : Int × Int) : Nat → Fo → Fo
  | 0, f => .mk (ssU (scG id k f)) (ssP (scG id k f))
  | n + 1, f => .mk (ssU (scG (scF k n) k f)) (ssP (scG (scF k n) k f))
theorem pkF_len (mx : Bool) (l : List Fo) : (pkF mx l).ps.length ≤ 1 + (l.map fun f => f.ps.length).sum := by
  unfold pkF
  split
  · rename_i h1
    match l, h1 with
    | [f], _ => show f.ps.length ≤ 1 + (f.ps.length + 0); omega
  · split
    · show 1 ≤ _; omega
    · split
      · exact Nat.zero_le _
      · exact Nat.zero_le _
theorem sum_le {α : Type} {f g : α → Nat} : ∀ (l : List α), (∀ x ∈ l, f x ≤ g x) → (l.map f).sum ≤ (l.map g).sum := by
  intro l
  induction l with
  | nil => intro _; exact Nat.le_refl _
  | cons x r ih =>
    intro h
    rw [List.map_cons, List.map_cons, List.sum_cons, List.sum_cons]
    exact Nat.add_le_add (h x (by simp)) (ih fun y hy => h y (by simp [hy]))
theorem ps_le (f : Fo) : f.ps.length ≤ szF f := by
  rw [szF_eq]
  have : (f.ps.map fun _ => 1).sum ≤ (f.ps.map fun p => 1 + (p.2.map szF).sum).sum := sum_le _ (fun p _ => by omega)
  rw [rowg.ones_sum] at this
  omega
theorem scG_len {g : Fo → Fo} (k : Int × Int) (f : Fo) (hg : ∀ p ∈ f.ps, ∀ x ∈ p.2, (g x).ps.length ≤ szF x) : (ssP (scG g k f)).length ≤ szF f := by
  rw [rowg.ssP_len, scG, List.map_cons, List.sum_cons, szF_eq, List.map_map]
  have h1 : (f.ps.map ((fun f : Fo => f.ps.length) ∘ fun p => pkF (scX k p.1) (p.2.map g))).sum ≤ (f.ps.map fun p => 1 + (p.2.map szF).sum).sum := by
    refine sum_le _ fun p hp => ?_
    show (pkF (scX k p.1) (p.2.map g)).ps.length ≤ _
    refine Nat.le_trans (pkF_len _ _) ?_
    rw [List.map_map]
    have := sum_le (f := (fun f : Fo => f.ps.length) ∘ g) (g := szF) p.2 (fun x hx => hg p hp x hx)
    omega
  have h2 : ((.mk (tmU f.us k) [] : Fo).ps).length = 0 := rfl
  omega
theorem scF_len (k : Int × Int) : ∀ (n : Nat) (f : Fo), (scF k n f).ps.length ≤ szF f := by
  intro n
  induction n with
  | zero => intro f; exact scG_len k f (fun p _ x _ => ps_le x)
  | succ n ih => intro f; exact scG_len k f (fun p _ x _ => ih x)
theorem szF_part {f : Fo} {p : Pa} (hp : p ∈ f.ps) {x : Fo} (hx : x ∈ p.2) : szF x + 2 ≤ szF f := by
  have mem_le : ∀ {α : Type} (μ : α → Nat) (l : List α) (y : α), y ∈ l → μ y ≤ (l.map μ).sum := by
    intro α μ l
    induction l with
    | nil => intro y hy; cases hy
    | cons a r ih =>
      intro y hy
      rw [List.map_cons, List.sum_cons]
      rcases List.mem_cons.1 hy with rfl | hy
      · omega
      · have := ih y hy; omega
  rw [szF_eq f]
  have h1 := mem_le (fun p : Pa => 1 + (p.2.map szF).sum) f.ps p hp
  have h2 := mem_le szF p.2 x hx
  have h3 : 1 + (p.2.map szF).sum ≤ (f.ps.map fun p : Pa => 1 + (p.2.map szF).sum).sum := h1
  omega
theorem low_may (neg : Bool) {n d : Int} (n0 : 0 ≤ n) : mayB (wk.lowN neg n d) (wk.lowD n d) = true := by
  unfold wk.lowN wk.lowD
  cases h : wk.fits n d with
  | false => show mayB 0 0 = true; decide
  | true =>
    have k := h
    simp [wk.fits] at k
    have g0 : 0 < wk.gc n d := by rw [wk.gc_comm]; exact wk.gc_pos k.1.1
    have q0 : 0 ≤ n / wk.gc n d := Int.ediv_nonneg n0 (Int.le_of_lt g0)
    have e1 : 0 < d / wk.gc n d := Int.ediv_pos_of_pos_of_dvd k.1.1 (Int.le_of_lt g0) (wk.gc_dvd_r n d)
    have q9 : n / wk.gc n d ≤ 9223372036854775807 := by omega
    have co : wk.gc (n / wk.gc n d) (d / wk.gc n d) = 1 := by
      unfold wk.gc at g0 ⊢
      have := Int.gcd_ediv_gcd_ediv_gcd (i := n) (j := d) (by omega)
      rw [this]; rfl
    generalize n / wk.gc n d = q at *
    generalize d / wk.gc n d = e at *
    show (wk.mayB (if neg then -q else q) e) = true
    have ha : wk.ab (if neg then -q else q) = q := by
      unfold wk.ab
      cases neg
      · show (if q < 0 then -q else q) = q; rw [if_neg (by omega)]
      · show (if -q < 0 then - -q else -q) = q; split <;> omega
    have hn : (if neg then -q else q) ≠ -9223372036854775808 := by cases neg; (show q ≠ _; omega); (show -q ≠ _; omega)
    unfold wk.mayB wk.isV
    rw [ha, co]
    simp [hn]
    right; omega
theorem mulN_may (n d m e : Int) : mayB (wk.mulN n d m e) (wk.mulD n d m e) = true := by
  unfold wk.mulN wk.mulD
  split
  · exact low_may _ (Int.mul_nonneg (by unfold wk.ab; split <;> omega) (by unfold wk.ab; split <;> omega))
  · decide
theorem mulAll_may : ∀ (rs : List (Int × Int)), rs ≠ [] → mayB (wk.mulAll rs).1 (wk.mulAll rs).2 = true := by
  have : ∀ (l : List (Int × Int)) (p : Int × Int), mayB p.1 p.2 = true → mayB (l.foldl (fun p r => (wk.mulN p.1 p.2 r.1 r.2, wk.mulD p.1 p.2 r.1 r.2)) p).1 (l.foldl (fun p r => (wk.mulN p.1 p.2 r.1 r.2, wk.mulD p.1 p.2 r.1 r.2)) p).2 = true := by
    intro l
    induction l with
    | nil => intro p h; exact h
    | cons x r ih => intro p _; exact ih _ (mulN_may _ _ _ _)
  intro rs _
  exact this rs (1, 1) (by decide)
theorem mu_may (r s : Int × Int) : mayB (muR r s).1 (muR r s).2 = true := mulAll_may [r, s] (by simp)
theorem tmU_may (us : List (Int × Int)) (k : Int × Int) : ((tmU us k).all fun r => mayB r.1 r.2) = true := by
  rw [List.all_eq_true]
  intro r hr
  obtain ⟨x, -, rfl⟩ := List.mem_map.1 hr
  exact mu_may x k
end Go.Proofs.YtlhmecagijdinaaDoor.nm
