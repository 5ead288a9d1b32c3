/-
  However it is bracketed: plain.
-/
import Derived.Test.YtlhmecagijdinaaDoorJ01
import Derived.Test.YtlhmecagijdinaaDoorMFwA
set_option linter.unusedVariables false
set_option linter.unusedSimpArgs false
namespace Go.Proofs.YtlhmecagijdinaaDoor.nm
open Go.RowKit cc

/-- Seven fractions each, nested at most so deep. -/
def dF : Nat → Fo → Prop
  | 0, f => Us f.us ∧ ∀ p ∈ f.ps, p.2 = []
  | n + 1, f => Us f.us ∧ ∀ p ∈ f.ps, ∀ a ∈ p.2, dF n a
theorem dF.us {n : Nat} {f : Fo} (h : dF n f) : Us f.us := by cases n <;> exact h.1
theorem dF.up {n : Nat} : ∀ {f : Fo}, dF n f → dF (n + 1) f := by
  induction n with
  | zero => intro f h; exact ⟨h.1, fun p hp a ha => by rw [h.2 p hp] at ha; cases ha⟩
  | succ n ih => intro f h; exact ⟨h.1, fun p hp a ha => ih (h.2 p hp a ha)⟩
theorem dF.le {n m : Nat} {f : Fo} (h : dF n f) (hl : n ≤ m) : dF m f := by
  induction hl with
  | refl => exact h
  | step _ ih => exact ih.up
theorem dF_plain {n : Nat} {us : List (Int × Int)} (h : Us us) : dF n (.mk us []) := by
  cases n with
  | zero => exact ⟨h, fun p hp => by cases hp⟩
  | succ n => exact ⟨h, fun p hp => by cases hp⟩
theorem mem_ssP {l : List Fo} {p : Pa} (h : p ∈ ssP l) : ∃ f ∈ l, p ∈ f.ps := by
  unfold ssP at h
  exact List.mem_flatMap.1 h
theorem dF_sum {n : Nat} {l : List Fo} (h : ∀ f ∈ l, dF n f) : dF n (.mk (ssU l) (ssP l)) := by
  have hu := ssU_us fun f hf => (h f hf).us
  cases n with
  | zero =>
    refine ⟨hu, fun p hp => ?_⟩
    obtain ⟨f, hf, hp⟩ := mem_ssP hp
    exact (h f hf).2 p hp
  | succ n =>
    refine ⟨hu, fun p hp => ?_⟩
    obtain ⟨f, hf, hp⟩ := mem_ssP hp
    exact (h f hf).2 p hp
theorem dF_pick {n : Nat} {mx : Bool} {l : List Fo} (h : ∀ f ∈ l, dF n f) : dF (n + 1) (pkF mx l) := by
  have hu := pkF_us (mx := mx) fun f hf => (h f hf).us
  unfold pkF at hu ⊢
  split
  · rename_i h1
    match l, h1 with
    | [f], _ => exact (h f (by simp)).up
  split
  · refine ⟨zus, fun p hp a ha => ?_⟩
    obtain rfl := List.mem_singleton.1 hp
    exact h a ha
  split
  · exact dF_plain zus
  · rename_i h1 h2 h3
    rw [if_neg h1, if_neg h2, if_neg h3] at hu
    exact dF_plain hu
theorem pk_nil (mx : Bool) : pkF mx [] = .mk z01 [] := by
  unfold pkF
  rw [if_neg (by decide), if_neg (by decide), if_pos (by decide)]
theorem scG_stable {k : Int × Int} {g g' : Fo → Fo} {f : Fo} (h : ∀ p ∈ f.ps, ∀ a ∈ p.2, g a = g' a) : scG g k f = scG g' k f := by
  unfold scG
  congr 1
  refine List.map_congr_left fun p hp => ?_
  congr 1
  exact List.map_congr_left fun a ha => h p hp a ha
/-- Deeper makes no difference. -/
theorem scF_stable (k : Int × Int) (n : Nat) : ∀ (m : Nat) (f : Fo), dF n f → n ≤ m → scF k m f = scF k n f := by
  induction n with
  | zero =>
    intro m f h hm
    have e : ∀ g g' : Fo → Fo, scG g k f = scG g' k f := fun g g' => scG_stable fun p hp a ha => by rw [h.2 p hp] at ha; cases ha
    cases m with
    | zero => rfl
    | succ m => rw [scF, scF, e (scF k m) id]
  | succ n ih =>
    intro m f h hm
    obtain ⟨m, rfl⟩ : ∃ q, m = q + 1 := ⟨m - 1, by omega⟩
    rw [scF, scF, scG_stable fun p hp a ha => ih m a (h.2 p hp a ha) (by omega)]
theorem dF_scale (k : Int × Int) (n : Nat) : ∀ (f : Fo), dF n f → dF n (scF k n f) := by
  induction n with
  | zero =>
    intro f h
    rw [scF]
    refine dF_sum fun x hx => ?_
    unfold scG at hx
    rcases List.mem_cons.1 hx with rfl | hx
    · exact dF_plain (tmU_us h.1 k)
    · obtain ⟨p, hp, rfl⟩ := List.mem_map.1 hx
      rw [h.2 p hp, List.map_nil, pk_nil]
      exact dF_plain zus
  | succ n ih =>
    intro f h
    rw [scF]
    refine dF_sum fun x hx => ?_
    unfold scG at hx
    rcases List.mem_cons.1 hx with rfl | hx
    · exact dF_plain (tmU_us h.1 k)
    · obtain ⟨p, hp, rfl⟩ := List.mem_map.1 hx
      refine dF_pick fun y hy => ?_
      obtain ⟨a, ha, rfl⟩ := List.mem_map.1 hy
      exact ih a (h.2 p hp a ha)
theorem dF_at {n : Nat} {l : List Fo} (h : ∀ f ∈ l, dF n f) (i : Nat) : dF n (foAt l i) := by
  unfold foAt
  rw [List.getD_eq_getElem?_getD]
  cases hi : l[i]? with
  | none => exact dF_plain zus
  | some f => exact h f (List.mem_of_getElem? hi)
theorem fm_deep (N : Nat) : ∀ (x : Ex) (j : Nat), szE x ≤ N → OkX x → exM x j = true → dF (2 * j) (fmE x j) := by
  induction N with
  | zero => intro x j h; rw [szE_ks] at h; omega
  | succ N ih =>
    intro x j h hx hm
    have hj : 0 < j := by rw [exM_eq, Bool.and_eq_true] at hm; simpa using hm.1
    rw [szE_ks] at h
    have KX := hx.kids
    have OX := hx.ok
    have KM := fun h => exMs_mem (exM_kids hm h).1
    obtain ⟨k, n, d, u, ks⟩ := x
    simp only [Ex.k, Ex.ks] at *
    rw [fmE_mk]
    by_cases k1 : k = 1
    · rw [if_pos k1]
      exact dF_plain (one_us u n d OX.2.1 OX.2.2.1)
    · rw [if_neg k1]
      have hl : ∀ f ∈ fmEs ks (j - 1), dF (2 * (j - 1)) f := fun f hf => by
        obtain ⟨y, hy, -, rfl⟩ := fmEs_mem hf
        obtain ⟨i, hi⟩ := List.mem_iff_getElem?.1 hy
        exact ih y (j - 1) (by have := szEs_at hi; omega) (KX y hy) (KM k1 y hy)
      have e : 2 * j = 2 * (j - 1) + 1 + 1 := by omega
      rw [e]
      unfold fmK
      split
      · exact (dF_sum hl).up.up
      split
      · exact (dF_scale _ _ _ (dF_at hl 0)).up.up
      split
      · exact (dF_scale _ _ _ (dF_at hl 0)).up.up
      split
      · exact (dF_pick hl).up
      split
      · exact (dF_pick hl).up
      · refine dF_pick fun f hf => ?_
        simp at hf
        rcases hf with rfl | rfl
        · exact (dF_at hl 0).up
        · refine dF_pick fun f hf => ?_
          simp at hf
          rcases hf with rfl | rfl
          · exact dF_at hl 1
          · exact dF_at hl 2
/-- How deep an expression may be makes no difference. -/
theorem fm_indep (N : Nat) : ∀ (x : Ex) (i j : Nat), szE x ≤ N → OkX x → exM x i = true → exM x j = true → fmE x i = fmE x j := by
  induction N with
  | zero => intro x i j h; rw [szE_ks] at h; omega
  | succ N ih =>
    intro x i j h hx hi hj
    rw [szE_ks] at h
    have KX := hx.kids
    have KI := fun h => exMs_mem (exM_kids hi h).1
    have KJ := fun h => exMs_mem (exM_kids hj h).1
    obtain ⟨k, n, d, u, ks⟩ := x
    simp only [Ex.k, Ex.ks] at *
    rw [fmE_mk, fmE_mk]
    by_cases k1 : k = 1
    · rw [if_pos k1, if_pos k1]
    · rw [if_neg k1, if_neg k1]
      have hs : ∀ y ∈ ks, szE y ≤ N := fun y hy => by
        obtain ⟨q, hq⟩ := List.mem_iff_getElem?.1 hy
        have := szEs_at hq
        omega
      have el : fmEs ks (i - 1) = fmEs ks (j - 1) := by
        have : ∀ (l : List Ex), (∀ y ∈ l, y ∈ ks) → fmEs l (i - 1) = fmEs l (j - 1) := by
          intro l
          induction l with
          | nil => intro _; rw [fmEs_nil, fmEs_nil]
          | cons e r ihl =>
            intro hl
            have he := hl e (by simp)
            rw [fmEs_cons, fmEs_cons, ihl (fun y hy => hl y (by simp [hy])), ih e (i - 1) (j - 1) (hs e he) (KX e he) (KI k1 e he) (KJ k1 e he)]
        exact this ks (fun y hy => hy)
      have hd : ∀ q, (∀ y ∈ ks, exM y q = true) → ∀ f ∈ fmEs ks q, dF (2 * q) f := fun q hq f hf => by
        obtain ⟨y, hy, -, rfl⟩ := fmEs_mem hf
        exact fm_deep _ y q (Nat.le_refl _) (KX y hy) (hq y hy)
      have di := hd (i - 1) (KI k1)
      have dj := hd (j - 1) (KJ k1)
      rw [el] at di ⊢
      have es : ∀ r, scF r (2 * (i - 1)) (foAt (fmEs ks (j - 1)) 0) = scF r (2 * (j - 1)) (foAt (fmEs ks (j - 1)) 0) := fun r => by
        rcases Nat.le_total (i - 1) (j - 1) with hle | hle
        · exact (scF_stable r _ _ _ (dF_at di 0) (by omega)).symm
        · exact scF_stable r _ _ _ (dF_at dj 0) (by omega)
      unfold fmK
      rw [es, es]
/-! ### Sums, bracketed -/
theorem zp_adR {r : Int × Int} (h : mayB r.1 r.2 = true) (h1 : i64 r.1) (h2 : i64 r.2) : adR (0, 1) r = r := by
  have e0 : wk.addN 0 1 0 1 = 0 ∧ wk.addD 0 1 0 1 = 1 := by
    obtain ⟨a, b⟩ := wk.zero_add (n := 0) (d := 1) ⟨by decide, by decide⟩ ⟨by decide, by decide⟩
    rw [a, b]
    decide
  obtain ⟨a, b⟩ := wk.zero_add (n := r.1) (d := r.2) h1 h2
  show (wk.addN (wk.addN 0 1 0 1) (wk.addD 0 1 0 1) r.1 r.2, wk.addD (wk.addN 0 1 0 1) (wk.addD 0 1 0 1) r.1 r.2) = r
  rw [e0.1, e0.2, a, b]
  unfold wk.clN wk.clD
  rw [show wk.mayB r.1 r.2 = true from h]
  rfl
theorem zp_plU {us : List (Int × Int)} (h : Us us) (hm : mayU us = true) : plU z01 us = us := by
  unfold mayU at hm
  match us, h.1 with
  | [r0, r1, r2, r3, r4, r5, r6], _ =>
    simp only [List.all_cons, List.all_nil, Bool.and_true, Bool.and_eq_true] at hm
    obtain ⟨m0, m1, m2, m3, m4, m5, m6⟩ := hm
    have k := h.2
    show [adR (0, 1) r0, adR (0, 1) r1, adR (0, 1) r2, adR (0, 1) r3, adR (0, 1) r4, adR (0, 1) r5, adR (0, 1) r6] = _
    rw [zp_adR m0 (k r0 (by simp)).1 (k r0 (by simp)).2, zp_adR m1 (k r1 (by simp)).1 (k r1 (by simp)).2, zp_adR m2 (k r2 (by simp)).1 (k r2 (by simp)).2, zp_adR m3 (k r3 (by simp)).1 (k r3 (by simp)).2, zp_adR m4 (k r4 (by simp)).1 (k r4 (by simp)).2, zp_adR m5 (k r5 (by simp)).1 (k r5 (by simp)).2, zp_adR m6 (k r6 (by simp)).1 (k r6 (by simp)).2]
theorem adR_ad {r s : Int × Int} (h : mayB r.1 r.2 = true) (h1 : i64 r.1) (h2 : i64 r.2) : adR r s = wk.ad r s := by
  have e := zp_adR h h1 h2
  have e0 : wk.addN 0 1 0 1 = 0 ∧ wk.addD 0 1 0 1 = 1 := by
    obtain ⟨a, b⟩ := wk.zero_add (n := 0) (d := 1) ⟨by decide, by decide⟩ ⟨by decide, by decide⟩
    rw [a, b]
    decide
  have e2 : wk.addN 0 1 r.1 r.2 = r.1 ∧ wk.addD 0 1 r.1 r.2 = r.2 := by
    obtain ⟨a, b⟩ := wk.zero_add (n := r.1) (d := r.2) h1 h2
    rw [a, b]
    unfold wk.clN wk.clD
    rw [show wk.mayB r.1 r.2 = true from h]
    exact ⟨rfl, rfl⟩
  show (wk.addN (wk.addN 0 1 r.1 r.2) (wk.addD 0 1 r.1 r.2) s.1 s.2, wk.addD (wk.addN 0 1 r.1 r.2) (wk.addD 0 1 r.1 r.2) s.1 s.2) = _
  rw [e2.1, e2.2]
  rfl
theorem adR_may (r s : Int × Int) : mayB (adR r s).1 (adR r s).2 = true := addAll_may _
theorem may_V {r : Int × Int} (h : mayB r.1 r.2 = true) (h0 : r.2 ≠ 0) : wk.V r := by
  have h' : wk.mayB r.1 r.2 = true := h
  unfold wk.mayB at h'
  rw [Bool.or_eq_true] at h'
  rcases h' with h' | h'
  · simp at h'; exact absurd h'.2 h0
  · exact h'
/-- Three fractions, added. -/
theorem three {a b c : Int × Int} (ha : mayB a.1 a.2 = true ∧ i64 a.1 ∧ i64 a.2) (hb : mayB b.1 b.2 = true ∧ i64 b.1 ∧ i64 b.2) (hc : mayB c.1 c.2 = true ∧ i64 c.1 ∧ i64 c.2) (h1 : (adR (adR a b) c).2 ≠ 0) (h2 : (adR a (adR b c)).2 ≠ 0) (h3 : (adR (adR c a) b).2 ≠ 0) : adR (adR a b) c = adR a (adR b c) ∧ adR (adR a b) c = adR (adR c a) b := by
  have v1 := may_V (adR_may (adR a b) c) h1
  have v2 := may_V (adR_may a (adR b c)) h2
  have v3 := may_V (adR_may (adR c a) b) h3
  have e1 : adR (adR a b) c = wk.ad (wk.ad a b) c := by rw [adR_ad (adR_may _ _) (ad_i64 _ _).1 (ad_i64 _ _).2, adR_ad ha.1 ha.2.1 ha.2.2]
  have e2 : adR a (adR b c) = wk.ad a (wk.ad b c) := by rw [adR_ad ha.1 ha.2.1 ha.2.2, adR_ad hb.1 hb.2.1 hb.2.2]
  have e3 : adR (adR c a) b = wk.ad (wk.ad c a) b := by rw [adR_ad (adR_may _ _) (ad_i64 _ _).1 (ad_i64 _ _).2, adR_ad hc.1 hc.2.1 hc.2.2]
  rw [e1] at v1; rw [e2] at v2; rw [e3] at v3
  rw [e1, e2, e3]
  refine ⟨wk.add_assoc' v1 v2, ?_⟩
  obtain ⟨vab, vc⟩ := v1.add_l
  have ec := wk.add_comm' vab vc
  rw [ec] at v1 ⊢
  exact (wk.add_assoc' v3 v1).symm
def noZ (us : List (Int × Int)) : Prop := ∀ r ∈ us, r.2 ≠ 0
theorem plU_three {A B C : List (Int × Int)} (hA : Us A) (hB : Us B) (hC : Us C) (mA : mayU A = true) (mB : mayU B = true) (mC : mayU C = true) (h1 : noZ (plU (plU A B) C)) (h2 : noZ (plU A (plU B C))) (h3 : noZ (plU (plU C A) B)) : plU (plU A B) C = plU A (plU B C) ∧ plU (plU A B) C = plU (plU C A) B := by
  unfold mayU at mA mB mC
  have at3 : ∀ (i : Nat) (a b c : Int × Int), A[i]? = some a → B[i]? = some b → C[i]? = some c → adR (adR a b) c = adR a (adR b c) ∧ adR (adR a b) c = adR (adR c a) b := by
    intro i a b c ea eb ec
    have ma := List.mem_of_getElem? ea
    have mb := List.mem_of_getElem? eb
    have mc := List.mem_of_getElem? ec
    refine three ⟨List.all_eq_true.1 mA a ma, hA.2 a ma⟩ ⟨List.all_eq_true.1 mB b mb, hB.2 b mb⟩ ⟨List.all_eq_true.1 mC c mc, hC.2 c mc⟩ (h1 _ (List.mem_of_getElem? (i := i) ?_)) (h2 _ (List.mem_of_getElem? (i := i) ?_)) (h3 _ (List.mem_of_getElem? (i := i) ?_))
    all_goals
      unfold plU
      simp only [List.getElem?_zipWith, ea, eb, ec]
  constructor
  all_goals
    refine List.ext_getElem? fun i => ?_
    unfold plU
    simp only [List.getElem?_zipWith]
    by_cases hi : i < 7
    · have ea := List.getElem?_eq_getElem (l := A) (i := i) (by rw [hA.1]; exact hi)
      have eb := List.getElem?_eq_getElem (l := B) (i := i) (by rw [hB.1]; exact hi)
      have ec := List.getElem?_eq_getElem (l := C) (i := i) (by rw [hC.1]; exact hi)
      obtain ⟨t1, t2⟩ := at3 i _ _ _ ea eb ec
      rw [ea, eb, ec]
      simp only
      first | exact congrArg some t1 | exact congrArg some t2
    · rw [List.getElem?_eq_none (l := A) (by rw [hA.1]; omega), List.getElem?_eq_none (l := B) (by rw [hB.1]; omega), List.getElem?_eq_none (l := C) (by rw [hC.1]; omega)]
/-- A sum of expressions. -/
def smX (l : List Ex) : Ex := .mk 2 0 0 0 l
theorem sm_kids {l : List Ex} {j : Nat} (h : exM (smX l) j = true) (hk : kdE (smX l) = 2) : (∀ y ∈ l, kdE y = 2) ∧ (∀ y ∈ l, exM y (j - 1) = true) ∧ fmE (smX l) j = .mk (ssU (l.map fun y => fmE y (j - 1))) (ssP (l.map fun y => fmE y (j - 1))) := by
  have n1 : ¬ (smX l).k = 1 := by show ¬ (2 : Int) = 1; decide
  obtain ⟨-, h2, -, -⟩ := kids_kind h n1 (by omega)
  have h3 : ∀ y ∈ l, kdE y = 2 := by
    have q := h2 (by show ¬ (2 : Int) = 4; decide)
    rw [hk] at q
    exact q
  refine ⟨h3, exMs_mem (exM_kids h n1).1, ?_⟩
  show fmE (.mk 2 0 0 0 l) j = _
  rw [fmE_mk, if_neg (by decide), fmEs_all (j - 1) h3]
  unfold fmK
  rw [if_pos rfl]
/-- However three are bracketed. -/
theorem br_same {a b c : Ex} (ha : OkX a) (hb : OkX b) (hc : OkX c) (e1 : exM (smX [a, b, c]) 340 = true) (k1 : kdE (smX [a, b, c]) = 2) (e2 : exM (smX [a, smX [b, c]]) 340 = true) (k2 : kdE (smX [a, smX [b, c]]) = 2) (e3 : exM (smX [smX [c, a], b]) 340 = true) (k3 : kdE (smX [smX [c, a], b]) = 2)
    (hp : (fmE (smX [a, b, c]) 340).ps = []) : (fmE (smX [a, smX [b, c]]) 340).ps = [] ∧ (fmE (smX [smX [c, a], b]) 340).ps = [] ∧ (noZ (fmE (smX [a, b, c]) 340).us → noZ (fmE (smX [a, smX [b, c]]) 340).us → noZ (fmE (smX [smX [c, a], b]) 340).us → fmE (smX [a, smX [b, c]]) 340 = fmE (smX [a, b, c]) 340 ∧ fmE (smX [smX [c, a], b]) 340 = fmE (smX [a, b, c]) 340) := by
  obtain ⟨-, m1, r1⟩ := sm_kids e1 k1
  obtain ⟨q2, m2, r2⟩ := sm_kids e2 k2
  obtain ⟨q3, m3, r3⟩ := sm_kids e3 k3
  obtain ⟨-, m4, r4⟩ := sm_kids (m2 (smX [b, c]) (by simp)) (q2 (smX [b, c]) (by simp))
  obtain ⟨-, m5, r5⟩ := sm_kids (m3 (smX [c, a]) (by simp)) (q3 (smX [c, a]) (by simp))
  simp only [List.map_cons, List.map_nil, Nat.reduceSub] at r1 r2 r3 r4 r5 m1 m2 m3 m4 m5
  have ea := m1 a (by simp)
  have eb := m1 b (by simp)
  have ec := m1 c (by simp)
  rw [fm_indep _ b 338 339 (Nat.le_refl _) hb (m4 b (by simp)) eb, fm_indep _ c 338 339 (Nat.le_refl _) hc (m4 c (by simp)) ec] at r4
  rw [fm_indep _ c 338 339 (Nat.le_refl _) hc (m5 c (by simp)) ec, fm_indep _ a 338 339 (Nat.le_refl _) ha (m5 a (by simp)) ea] at r5
  rw [r4] at r2
  rw [r5] at r3
  have UA := (fm_deep _ a 339 (Nat.le_refl _) ha ea).us
  have UB := (fm_deep _ b 339 (Nat.le_refl _) hb eb).us
  have UC := (fm_deep _ c 339 (Nat.le_refl _) hc ec).us
  have MA := fm_may _ a 339 (Nat.le_refl _)
  have MB := fm_may _ b 339 (Nat.le_refl _)
  have MC := fm_may _ c 339 (Nat.le_refl _)
  rw [r1] at hp ⊢
  rw [r2, r3]
  generalize fmE a 339 = fa at *
  generalize fmE b 339 = fb at *
  generalize fmE c 339 = fc at *
  have hp' : fa.ps ++ (fb.ps ++ (fc.ps ++ [])) = [] := hp
  simp only [List.append_eq_nil_iff] at hp'
  obtain ⟨pa, pb, pc, -⟩ := hp'
  have u1 : ssU [fa, fb, fc] = plU (plU fa.us fb.us) fc.us := by
    show plU (plU (plU z01 fa.us) fb.us) fc.us = _
    rw [zp_plU UA MA]
  have p1 : ssP [fa, fb, fc] = [] := hp
  have s2 : ∀ x y : Fo, Us x.us → mayU x.us = true → ssU [x, y] = plU x.us y.us := fun x y h1 h2 => by
    show plU (plU z01 x.us) y.us = _
    rw [zp_plU h1 h2]
  have u2 : ssU [fa, .mk (ssU [fb, fc]) (ssP [fb, fc])] = plU fa.us (plU fb.us fc.us) := by
    rw [s2 _ _ UA MA]
    show plU fa.us (ssU [fb, fc]) = _
    rw [s2 _ _ UB MB]
  have u3 : ssU [.mk (ssU [fc, fa]) (ssP [fc, fa]), fb] = plU (plU fc.us fa.us) fb.us := by
    have e := s2 fc fa UC MC
    have h1 : Us (ssU [fc, fa]) := by rw [e]; exact plU_us UC UA
    rw [s2 (.mk (ssU [fc, fa]) (ssP [fc, fa])) _ h1 (by rw [show (Fo.mk (ssU [fc, fa]) (ssP [fc, fa])).us = ssU [fc, fa] from rfl, e]; exact plU_may _ _)]
    show plU (ssU [fc, fa]) fb.us = _
    rw [e]
  have p2 : ssP [fa, .mk (ssU [fb, fc]) (ssP [fb, fc])] = [] := by
    show fa.ps ++ ((fb.ps ++ (fc.ps ++ [])) ++ []) = []
    rw [pa, pb, pc]; rfl
  have p3 : ssP [.mk (ssU [fc, fa]) (ssP [fc, fa]), fb] = [] := by
    show (fc.ps ++ (fa.ps ++ [])) ++ (fb.ps ++ []) = []
    rw [pa, pb, pc]; rfl
  refine ⟨p2, p3, fun z1 z2 z3 => ?_⟩
  rw [show ∀ l, (Fo.mk (ssU l) (ssP l)).us = ssU l from fun _ => rfl, u1] at z1
  rw [show ∀ l, (Fo.mk (ssU l) (ssP l)).us = ssU l from fun _ => rfl, u2] at z2
  rw [show ∀ l, (Fo.mk (ssU l) (ssP l)).us = ssU l from fun _ => rfl, u3] at z3
  obtain ⟨t1, t2⟩ := plU_three UA UB UC MA MB MC z1 z2 z3
  rw [u1, u2, u3, p1, p2, p3, ← t1, ← t2]
  exact ⟨rfl, rfl⟩
end Go.Proofs.YtlhmecagijdinaaDoor.nm
