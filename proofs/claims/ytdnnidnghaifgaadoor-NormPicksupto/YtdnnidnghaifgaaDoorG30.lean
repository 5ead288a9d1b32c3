/-
  The pick, as the reference scans it: plain.
  Nothing of each unit, and so much of one: by the reference.
-/
import Derived.Test.YtdnnidnghaifgaaDoorMPkE
import Derived.Test.YtdnnidnghaifgaaDoorMNvE
set_option linter.unusedVariables false
set_option linter.unusedSimpArgs false
namespace Go.Proofs.YtdnnidnghaifgaaDoor.nm
open Go.RowKit cc

theorem ut_isV (k : Int) : ∀ (rs : List (Int × Int)) (o : Option (Int × Int)) (z : Int × Int), rs ≠ [] → rs.foldl (wk.utS k) o = some z → wk.isV z.1 z.2 = true := by
  intro rs
  induction rs with
  | nil => intro o z h; exact absurd rfl h
  | cons x l ih =>
    intro o z _ h
    by_cases hl : l = []
    · subst hl
      have h2 : wk.utS k o x = some z := h
      unfold wk.utS at h2
      cases o with
      | none => cases h2
      | some b =>
        simp only [Option.bind_some] at h2
        split at h2
        · rename_i hv
          simp only [Bool.and_eq_true] at hv
          simp only [Option.some.injEq] at h2
          split at h2
          · subst h2; exact hv.1
          · subst h2; exact hv.2
        · cases h2
    · exact ih _ z hl h
theorem ut_may (k : Int) (rs : List (Int × Int)) : mayB (wk.utAll k rs).1 (wk.utAll k rs).2 = true := by
  cases rs with
  | nil => show mayB 0 0 = true; decide
  | cons x l =>
    show mayB ((wk.utF k (x :: l) x).getD (0, 0)).1 ((wk.utF k (x :: l) x).getD (0, 0)).2 = true
    cases hq : wk.utF k (x :: l) x with
    | none => show mayB 0 0 = true; decide
    | some z =>
      have hv := ut_isV k (x :: l) (some x) z (by simp) hq
      show mayB z.1 z.2 = true
      rw [show mayB z.1 z.2 = wk.mayB z.1 z.2 from rfl]
      unfold wk.mayB
      rw [show (wk.isV z.1 z.2) = true from hv]
      simp
theorem ut_ct (k : Int) (rs : List (Int × Int)) : ctR (wk.utAll k rs) = wk.utAll k rs := by unfold ctR; rw [if_pos (ut_may k rs)]
/-- The scan of one form's units: the unit that was met last, and is there but one. -/
def scU : Int → Bool → List (Int × Int) → Nat → Int × Bool
  | u, p, [], _ => (u, p)
  | u, p, r :: rs, k => if r = (0, 1) then scU u p rs (k + 1) else scU k (if 0 ≤ u ∧ u ≠ k then false else p) rs (k + 1)
def scL : Int → Bool → List Fo → Int × Bool
  | u, p, [] => (u, p)
  | u, p, f :: l => scL (scU u (p && f.ps.isEmpty) f.us 0).1 (scU u (p && f.ps.isEmpty) f.us 0).2 l
def mOf (u : Int) : Nat := if u < 0 then 0 else 2 ^ (u.toNat + 1)
/-- What the scan has found. -/
def ScI (u : Int) (p : Bool) (pl : Bool) (M : Nat) : Prop := -1 ≤ u ∧ u ≤ 6 ∧ M < 256 ∧ (p = true → pl = true ∧ M = mOf u) ∧ (p = false → pl = false ∨ 2 ≤ popM M)
theorem pop_mono : ∀ M, M < 256 → ∀ k, k < 7 → 2 ≤ popM M → 2 ≤ popM (M ||| 2 ^ (k + 1)) := by decide +kernel
theorem pop_two : ∀ a, a < 7 → ∀ k, k < 7 → a ≠ k → 2 ≤ popM (2 ^ (a + 1) ||| 2 ^ (k + 1)) := by decide +kernel
theorem pop_mOf : ∀ a, a < 7 → popM (2 ^ (a + 1)) = 1 ∧ (2 ^ (a + 1)).log2 = a + 1 := by decide +kernel
theorem sc_step {u : Int} {p pl : Bool} {M k : Nat} (h : ScI u p pl M) (hk : k < 7) : ScI k (if 0 ≤ u ∧ u ≠ k then false else p) pl (M ||| 2 ^ (k + 1)) := by
  obtain ⟨h1, h2, h3, h4, h5⟩ := h
  refine ⟨by omega, by omega, or_lt256 h3 (pow_lt256 (by omega)), ?_, ?_⟩
  · intro hp
    split at hp
    · cases hp
    · rename_i hc
      obtain ⟨a, b⟩ := h4 hp
      refine ⟨a, ?_⟩
      rw [b]
      have e2 : mOf (k : Int) = 2 ^ (k + 1) := by unfold mOf; rw [if_neg (by omega), Int.toNat_natCast]
      rw [e2]
      by_cases hu : u < 0
      · have : mOf u = 0 := by unfold mOf; rw [if_pos hu]
        rw [this, Nat.zero_or]
      · have hu2 : u = k := by
          refine Classical.byContradiction fun hn => hc ⟨by omega, hn⟩
        rw [hu2, e2, Nat.or_self]
  · intro hp
    by_cases hpt : p = true
    · obtain ⟨a, b⟩ := h4 hpt
      right
      have hc : 0 ≤ u ∧ u ≠ k := by
        refine Classical.byContradiction fun hn => ?_
        rw [if_neg hn] at hp
        rw [hpt] at hp; cases hp
      obtain ⟨q, rfl⟩ : ∃ q : Nat, u = q := ⟨u.toNat, by omega⟩
      rw [b, show mOf (q : Int) = 2 ^ (q + 1) by unfold mOf; rw [if_neg (by omega), Int.toNat_natCast]]
      exact pop_two q (by omega) k hk (fun e => hc.2 (by rw [e]))
    · rcases h5 (by simpa using hpt) with h | h
      · exact .inl h
      · exact .inr (pop_mono M h3 k hk h)
theorem sc_units : ∀ (us : List (Int × Int)) (k : Nat) (u : Int) (p pl : Bool) (M : Nat), k + us.length ≤ 7 → ScI u p pl M → ScI (scU u p us k).1 (scU u p us k).2 pl (M ||| usedN us k) := by
  intro us
  induction us with
  | nil => intro k u p pl M _ h; rw [usedN, Nat.or_zero]; exact h
  | cons r rs ih =>
    intro k u p pl M hk h
    rw [List.length_cons] at hk
    rw [scU, usedN]
    by_cases hr : r = (0, 1)
    · rw [if_pos hr, if_pos hr, Nat.zero_or]
      exact ih (k + 1) u p pl M (by omega) h
    · rw [if_neg hr, if_neg hr, ← Nat.or_assoc]
      exact ih (k + 1) _ _ pl _ (by omega) (sc_step h (by omega))
theorem sc_forms : ∀ (l : List Fo) (u : Int) (p pl : Bool) (M : Nat), (∀ f ∈ l, f.us.length = 7) → ScI u p pl M → ScI (scL u p l).1 (scL u p l).2 (pl && plainL l) (M ||| maskN l) := by
  intro l
  induction l with
  | nil => intro u p pl M _ h; rw [maskN, Nat.or_zero]; show ScI u p (pl && true) M; rw [Bool.and_true]; exact h
  | cons f l ih =>
    intro u p pl M hl h
    have h0 : ScI u (p && f.ps.isEmpty) (pl && f.ps.isEmpty) M := by
      obtain ⟨h1, h2, h3, h4, h5⟩ := h
      refine ⟨h1, h2, h3, ?_, ?_⟩
      · intro hp
        simp only [Bool.and_eq_true] at hp
        obtain ⟨a, b⟩ := h4 hp.1
        exact ⟨by rw [a, hp.2]; rfl, b⟩
      · intro hp
        cases he : f.ps.isEmpty with
        | false => exact .inl (Bool.and_false _)
        | true =>
          rw [he, Bool.and_true] at hp
          rcases h5 hp with h | h
          · left; rw [h]; rfl
          · exact .inr h
    have h1 := sc_units f.us 0 u _ _ M (by rw [hl f (by simp)]; decide) h0
    have h2 := ih _ _ _ _ (fun g hg => hl g (by simp [hg])) h1
    rw [scL, maskN, ← Nat.or_assoc]
    rw [show plainL (f :: l) = (f.ps.isEmpty && plainL l) from rfl, ← Bool.and_assoc]
    exact h2
/-- The pick by the scan. -/
def pkS (mx : Bool) (l : List Fo) (s : Int × Bool) : Fo :=
  if s.2 = false then .mk z01 [(mx, l)] else if s.1 < 0 then .mk z01 [] else .mk (z01.set s.1.toNat (wk.utAll (if mx then 1 else -1) (amU (s.1.toNat + 1) l))) []
theorem pkS_eq {mx : Bool} {l : List Fo} (h : ∀ f ∈ l, f.us.length = 7) (h1 : ¬ l.length = 1) : pkF mx l = pkS mx l (scL (-1) true l) := by
  have hI := sc_forms l (-1) true true 0 h ⟨by omega, by omega, by decide, fun _ => ⟨rfl, rfl⟩, fun h => by cases h⟩
  rw [Bool.true_and, Nat.zero_or] at hI
  generalize scL (-1) true l = s at *
  obtain ⟨a1, a2, a3, a4, a5⟩ := hI
  unfold pkF pkS
  rw [if_neg h1]
  cases hs : s.2 with
  | false =>
    rw [if_pos rfl]
    rcases a5 hs with h | h
    · rw [if_pos (.inl h)]
    · rw [if_pos (.inr (by omega))]
  | true =>
    obtain ⟨b1, b2⟩ := a4 hs
    have n0 : ¬ (true = false) := by simp
    by_cases hu : s.1 < 0
    · have e0 : maskN l = 0 := by rw [b2]; unfold mOf; rw [if_pos hu]
      have n1 : ¬ (plainL l = false ∨ 1 < popM (maskN l)) := by rw [b1, e0, pop_zero]; simp
      rw [if_neg n1, if_pos e0, if_neg n0, if_pos hu]
    · obtain ⟨q, hq⟩ : ∃ q : Nat, s.1 = q := ⟨s.1.toNat, by omega⟩
      have hq7 : q < 7 := by omega
      obtain ⟨c1, c2⟩ := pop_mOf q hq7
      have e0 : maskN l = 2 ^ (q + 1) := by rw [b2, hq]; unfold mOf; rw [if_neg (by omega), Int.toNat_natCast]
      have n1 : ¬ (plainL l = false ∨ 1 < popM (maskN l)) := by rw [b1, e0, c1]; simp
      have n2 : ¬ maskN l = 0 := by rw [e0]; exact Nat.ne_of_gt (Nat.two_pow_pos _)
      rw [if_neg n1, if_neg n2, if_neg n0, if_neg hu, e0, c2, hq, Int.toNat_natCast]
      unfold oneU
      rw [if_pos ⟨by omega, by omega⟩, show (((q + 1 : Nat) : Int) - 1).toNat = q by omega, ut_ct]
end Go.Proofs.YtdnnidnghaifgaaDoor.nm
set_option linter.unusedVariables false
set_option linter.unusedSimpArgs false
namespace Go.Proofs.YtdnnidnghaifgaaDoor.nm
open Go.RowKit

theorem may_same (n d : Int) : wk.mayB n d = mayB n d := rfl
set_option maxRecDepth 100000 in
set_option maxHeartbeats 8000000 in
theorem zeroR_any (w : World) : Calls Tryd.prog 8 #[] w fun e w' => e = .returned (foV z01 nilS) ∧ Below w.heap.size w w' := by
  have CI0 := hide (fun (W : World) => (wk.int_any 0 W).mono (R' := fun e w' => e = .returned (.agg #[.int .i64 0, .int .i64 1]) ∧ Below W.heap.size W w') (by rintro e w1 ⟨rfl, cc, rfl⟩; exact ⟨rfl, bplus (Below.refl _ _) _⟩))
  obtain ⟨W1, hW1⟩ : ∃ W1, (w.alloc (.cells (usL z00 ++ [nilS]).toArray 38)).alloc (.cells (usL z00 ++ [nilS]).toArray 38) = W1 := ⟨_, rfl⟩
  have B0 := hide (show Below w.heap.size w W1 by rw [← hW1]; exact bplus (bplus (Below.refl _ _) _) _)
  have P0 := hide (show BF W1 w.heap.size z00 nilS by rw [← hW1]; exact (Bk.new w _ _).more _)
  have P1 := hide (show BF W1 (w.heap.size + 1) z00 nilS by rw [← hW1]; have := Bk.new (w.alloc (.cells (usL z00 ++ [nilS]).toArray 38)) 38 (usL z00 ++ [nilS]); rwa [show (w.alloc (.cells (usL z00 ++ [nilS]).toArray 38)).heap.size = w.heap.size + 1 by simp] at this)
  have HW1 := hide hW1
  clear hW1
  go_enter Tryd.func8, Tryd.ntmps8
  go_wp2_with fail
  rw [show (w.alloc (.cells #[.int .i64 0, .int .i64 0, .int .i64 0, .int .i64 0, .int .i64 0, .int .i64 0, .int .i64 0, .int .i64 0, .int .i64 0, .int .i64 0, .int .i64 0, .int .i64 0, .int .i64 0, .int .i64 0, .slice none 0 0] 38)).alloc (.cells #[.int .i64 0, .int .i64 0, .int .i64 0, .int .i64 0, .int .i64 0, .int .i64 0, .int .i64 0, .int .i64 0, .int .i64 0, .int .i64 0, .int .i64 0, .int .i64 0, .int .i64 0, .int .i64 0, .slice none 0 0] 38) = W1 from HW1.out]
  go_loopw [4] (fun i wr => RelZ w i wr) (fun i _ => 7 - (intOf i).toNat)
  case atStart => exact .mk 0 rfl (by omega) P0.out P1.out B0.out
  case round =>
    obtain ⟨k, rfl, hk, R⟩ := hrel
    have Q0 := hide R.out.1
    have Q1 := hide R.out.2.1
    have BW := hide R.out.2.2
    clear R P0 P1 B0 HW1
    by_cases hlt : k < 7
    · have hlt' : (k : Int) < 7 := by omega
      have KC := hide (fun (W : World) (h : Below wr.heap.size wr W) => And.intro (BF.at (Bk.up Q1.out h : BF W (w.heap.size + 1) (zK k) nilS) (zK_len (by omega)) (zK_at hlt)) (Bk.fz (Bk.up Q1.out h)))
      have N0 := hide (fun (W : World) (h : Below wr.heap.size wr W) => show BF ((W.setCell ⟨w.heap.size + 1, k * 2, none⟩ (.int .i64 0)).setCell ⟨w.heap.size + 1, k * 2 + 1, none⟩ (.int .i64 1)) w.heap.size z00 nilS from Bk.far (Bk.far (Bk.up Q0.out h) (by omega) _ _) (by omega) _ _)
      have N1 := hide (fun (W : World) (h : Below wr.heap.size wr W) => show BF ((W.setCell ⟨w.heap.size + 1, k * 2, none⟩ (.int .i64 0)).setCell ⟨w.heap.size + 1, k * 2 + 1, none⟩ (.int .i64 1)) (w.heap.size + 1) (zK (k + 1)) nilS by have := BF.put (Bk.up Q1.out h : BF W (w.heap.size + 1) (zK k) nilS) (k := k) (by rw [zK_len (by omega)]; omega) 0 1; rwa [zK_step hlt] at this)
      have N2 := hide (fun (W : World) (h : Below wr.heap.size wr W) => show Below w.heap.size w ((W.setCell ⟨w.heap.size + 1, k * 2, none⟩ (.int .i64 0)).setCell ⟨w.heap.size + 1, k * 2 + 1, none⟩ (.int .i64 1)) from ((bto BW.out h).setCell (by simp) _).setCell (by simp) _)
      clear Q0 Q1
      go_wp2_with (go_at_call 20; refine (CI0.out _).mono ?_; rintro e w4 ⟨rfl, B4⟩; replace B4 := hide B4; obtain ⟨⟨c0, c1⟩, cz⟩ := KC.out w4 B4.out; have z0 := cz (k * 2); have z1 := cz (k * 2 + 1); clear cz)
      go_roundw
      case rel => exact .mk (k + 1) (by go_num) (by omega) (N0.out _ B4.out) (N1.out _ B4.out) (N2.out _ B4.out)
      case measure => simp [intOf]; omega
    · obtain rfl : k = 7 := by omega
      have q0 : wr.heap[w.heap.size]? = some (.cells (usL z00 ++ [nilS]).toArray 38) := Q0.out
      have q1 : wr.heap[w.heap.size + 1]? = some (.cells (usL z01 ++ [nilS]).toArray 38) := Q1.out
      replace q0 := hide q0
      replace q1 := hide q1
      clear Q0 Q1
      go_upto_region 7 with fail
      refine wp_region_list ?_
      refine wpList_load_mid rfl 38 (.tmp 1) rfl (w.heap.size + 1) 0 rfl (usL z01 ++ [nilS]) _ (range_blk q1.out) Tryd.underlying38 rfl (by kernel_rfl) ?_
      refine wpList_store_mid rfl 38 (.tmp 0) (.tmp 12) rfl w.heap.size 0 (usL z01 ++ [nilS]).toArray rfl rfl (there_blk q0.out rfl) (by kernel_rfl) (by simp [Value.oneCell', usL, z01, nilS]) ?_
      go_wp2_with fail
      refine ret_cell (b := w.heap.size) (cs := usL z01 ++ [nilS]) Tryd.results8 rfl (World.rangeAt_setCells_same _ _ _ _ (there_blk q0.out rfl)) Tryd.underlying38 rfl (by kernel_rfl) rfl ?_
      exact ⟨rfl, BW.out.grown (setCells_grown _ _ _ _) BW.out.size (fun k hk => by cases hk; exact Nat.le_refl _)⟩
end Go.Proofs.YtdnnidnghaifgaaDoor.nm
