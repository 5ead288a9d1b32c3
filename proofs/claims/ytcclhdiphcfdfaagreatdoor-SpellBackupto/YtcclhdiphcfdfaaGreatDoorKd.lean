/-
  Characters by places: the program's looks.
  Where a name, a number, an escape begins, by the program.
  Characters by places, by the reference; where a name, a number, an escape begins.
  The program's reader: what comes next, what is taken.
-/
import Derived.Test.YtcclhdiphcfdfaaGreatDoorKa
import Derived.Test.YtcclhdiphcfdfaaGreatDoorKc
import Derived.Shelf.Abstract
import Derived.Deep.RegionHeld3
set_option linter.unusedVariables false
set_option linter.unusedSimpArgs false
namespace Go.Proofs.YtcclhdiphcfdfaaGreatDoor
open Go.RowKit

theorem isC5 (x : Int) : (x < 0 ∧ isC x = false) ∨ (1114111 < x ∧ isC x = false) ∨ (55296 ≤ x ∧ x ≤ 57343 ∧ isC x = false) ∨ (0 ≤ x ∧ x < 55296 ∧ isC x = true) ∨ (57343 < x ∧ x ≤ 1114111 ∧ isC x = true) := by
  have := isC_iff x
  by_cases h : isC x = true
  · have := this.1 h; rcases this with ⟨h1, h2, h3 | h3⟩
    · right; right; right; left; exact ⟨h1, h3, h⟩
    · right; right; right; right; exact ⟨h3, h2, h⟩
  · have h' : isC x = false := by simpa using h
    have : ¬ (0 ≤ x ∧ x ≤ 1114111 ∧ (x < 55296 ∨ 57343 < x)) := fun k => h (this.2 k)
    simp only [h', and_true]; omega
theorem chrT {x : Int} (h : isC x = true) : chr x = x := by unfold chr; rw [if_pos h]
theorem chrF {x : Int} (h : isC x = false) : chr x = 65533 := by unfold chr; rw [h]; rfl
theorem validRune_any (x : Int) (w : World) : Calls Tryz.prog 156 #[.int .i32 x] w fun e w' => e = .returned (.bool (isC x)) ∧ w' = w := by
  rcases isC5 x with ⟨h, e⟩ | ⟨h, e⟩ | ⟨h, g, e⟩ | ⟨h, g, e⟩ | ⟨h, g, e⟩
  all_goals
    have E := hide e
    clear e
    go_enter Tryz.func156, Tryz.ntmps156
    go_wp2
    go_ret
    exact ⟨ret_bool (by first | (rw [E.out]; done) | (rw [E.out]; simp; omega)), rfl⟩
theorem character_any (x : Int) (w : World) : Calls Tryz.prog 160 #[.int .i32 x] w fun e w' => e = .returned (.int .i32 (chr x)) ∧ w' = w := by
  by_cases h : isC x = true
  · have E := hide (chrT h)
    have H := hide h
    clear h
    go_enter Tryz.func160, Tryz.ntmps160
    go_wp2_with (go_at_call 156; refine (validRune_any x _).mono ?_; rintro e w' ⟨rfl, rfl⟩; rw [H.out])
    go_ret
    exact ⟨ret_int E.out.symm, rfl⟩
  · have h' : isC x = false := by simpa using h
    have E := hide (chrF h')
    have H := hide h'
    clear h h'
    go_enter Tryz.func160, Tryz.ntmps160
    go_wp2_with (go_at_call 156; refine (validRune_any x _).mono ?_; rintro e w' ⟨rfl, rfl⟩; rw [H.out])
    go_ret
    exact ⟨ret_int E.out.symm, rfl⟩
/-- The characters of some numbers. -/
def chs (l : List Int) : List Int := l.map chr
theorem chs_len (l : List Int) : (chs l).length = l.length := by simp [chs]
theorem nx_in {l : List Int} {p k : Nat} (h : p + k < l.length) : nx ((chs l).drop p) k = chr (gt l (p + k)) := by
  rw [nx_drop]
  simp [nx, chs, gt, List.getD_eq_getElem?_getD, List.getElem?_map, List.getElem?_eq_getElem h]
theorem nx_out {l : List Int} {p k : Nat} (h : l.length ≤ p + k) : nx ((chs l).drop p) k = -1 := by
  rw [nx_drop]
  simp [nx, chs, List.getD_eq_getElem?_getD, List.getElem?_map, List.getElem?_eq_none h]
set_option maxHeartbeats 1000000 in
theorem look1_any (l : List Int) (v : Value) (p k B C : Nat) (w : World) (hv : Nums .i32 w v l) (hp : p ≤ l.length) (hk : k ≤ 1099511627776) (hl : l.length ≤ 140737488355328)
    (h1 : w.cell? ⟨B, 0, none⟩ = some v) (h2 : w.cell? ⟨C, 0, none⟩ = some (.int .i64 p)) :
    Calls Tryz.prog 159 #[.int .i64 k, .pointer (some ⟨B, 0, none⟩), .pointer (some ⟨C, 0, none⟩)] w fun e w' => e = .returned (.int .i32 (nx ((chs l).drop p) k)) ∧ Below w.heap.size w w' := by
  rcases hv with ⟨a, c, rfl, rfl⟩ | ⟨b, o, n, c, rfl, hn, h0, hbw, hc, hn9, hc9, hcell⟩
  · obtain rfl : p = 0 := by simpa using hp
    have E := hide (nx_out (l := []) (p := 0) (k := k) (by simp))
    go_enter Tryz.func159, Tryz.ntmps159
    go_wp2
    go_ret
    exact ⟨ret_int E.out.symm, Below.refl _ _⟩
  · have HN := hide hn
    have hnl : n ≤ 140737488355328 := by omega
    have hpn : p ≤ n := by omega
    clear hl hp hn
    by_cases hlt : p + k < n
    · have E := hide (nx_in (l := l) (p := p) (k := k) (by rw [← HN.out]; exact hlt))
      have cx := hcell (p + k) hlt
      clear hcell
      go_enter Tryz.func159, Tryz.ntmps159
      go_wp2_with (go_at_call 160; refine (character_any _ _).mono ?_; rintro e w' ⟨rfl, rfl⟩)
      go_ret
      exact ⟨ret_int E.out.symm, Below.refl _ _⟩
    · have E := hide (nx_out (l := l) (p := p) (k := k) (by rw [← HN.out]; omega))
      clear hcell
      go_enter Tryz.func159, Tryz.ntmps159
      go_wp2
      go_ret
      exact ⟨ret_int E.out.symm, Below.refl _ _⟩
/-- A function that tells what stands so many places on, in every later world. -/
def Look (d : Nat) (w : World) (v : Value) (s : List Int) : Prop :=
  ∃ (g : Nat) (lb : Array Value), v = .func (.func g) #[] lb ∧ (∀ args w, (callFunc g args).run Tryz.prog w = .ok (.enter g args) w) ∧
    ∀ (k : Int) (W : World), 0 ≤ k → k ≤ d → Below w.heap.size w W → Calls Tryz.prog g (#[.int .i64 k] ++ lb) W fun e W' => e = .returned (.int .i32 (nx s k.toNat)) ∧ Below W.heap.size W W'
theorem Look.below {d : Nat} {w w' : World} {v : Value} {s : List Int} (h : Look d w v s) (hw : Below w.heap.size w w') : Look d w' v s := by
  obtain ⟨g, lb, h1, h2, h3⟩ := h
  exact ⟨g, lb, h1, h2, fun k W h0 hk hW => h3 k W h0 hk (bto hw hW)⟩
theorem Nums.shape {k : IntKind} {w : World} {v : Value} {bs : List Int} (h : Nums k w v bs) : ∃ a n c, v = .slice a n c := by
  rcases h with ⟨a, c, rfl, rfl⟩ | ⟨b, o, n, c, rfl, _⟩
  · exact ⟨_, _, _, rfl⟩
  · exact ⟨_, _, _, rfl⟩
theorem lookFrom_any (l : List Int) (v : Value) (p : Nat) (w : World) (hv : Nums .i32 w v l) (hp : p ≤ l.length) (hl : l.length ≤ 140737488355328) :
    Calls Tryz.prog 118 #[v, .int .i64 p] w fun e w' => ∃ u, e = .returned u ∧ Look 9 w' u ((chs l).drop p) ∧ Below w.heap.size w w' := by
  have HV := hide hv
  have HB := hide (show Below w.heap.size w ((w.alloc (.cells #[v] 43)).alloc (.cells #[.int .i64 p] 3)) from bplus (bplus (Below.refl _ _) _) _)
  have HL := hide fun W B C k h1 h2 h3 h4 => look1_any l v p k B C W h1 hp h2 hl h3 h4
  obtain ⟨a, n, c, hs⟩ := hv.shape
  clear hv
  subst hs
  go_enter Tryz.func118, Tryz.ntmps118
  go_wp2
  go_ret
  have hB := HB.out
  refine ⟨_, rfl, ⟨159, _, rfl, enters_of Tryz.func159 (by kernel_rfl) rfl, fun k W h0 hk hW => ?_⟩, hB⟩
  obtain ⟨j, rfl⟩ := Int.eq_ofNat_of_zero_le h0
  refine HL.out W w.heap.size (w.heap.size + 1) j (HV.out.below (bto hB hW)) (by omega) ?_ ?_
  · rw [hW.cell (p := ⟨w.heap.size, 0, none⟩) (by simp; omega)]; simp
  · rw [hW.cell (p := ⟨w.heap.size + 1, 0, none⟩) (by simp)]; simp
theorem behind1_any (d : Nat) (v : Value) (s : List Int) (n k B C : Nat) (w : World) (hv : Look (d + n) w v s) (hn : n ≤ 1000) (hk : k ≤ d) (hd : d ≤ 1000)
    (h1 : w.cell? ⟨B, 0, none⟩ = some v) (h2 : w.cell? ⟨C, 0, none⟩ = some (.int .i64 n)) :
    Calls Tryz.prog 171 #[.int .i64 k, .pointer (some ⟨B, 0, none⟩), .pointer (some ⟨C, 0, none⟩)] w fun e w' => e = .returned (.int .i32 (nx (s.drop n) k)) ∧ Below w.heap.size w w' := by
  obtain ⟨g, lb, rfl, eg, hg⟩ := hv
  have HG := hide hg
  have E := hide (nx_drop s n k)
  clear hg
  go_enter Tryz.func171, Tryz.ntmps171
  go_wp2_with (go_at_fn g; refine (HG.out _ _ (by omega) (by omega) (Below.refl _ _)).mono ?_; rintro e w' ⟨rfl, hB⟩)
  go_ret
  exact ⟨ret_int (by rw [E.out]; congr 1), hB⟩
end Go.Proofs.YtcclhdiphcfdfaaGreatDoor
set_option linter.unusedVariables false
set_option linter.unusedSimpArgs false
namespace Go.Proofs.YtcclhdiphcfdfaaGreatDoor
open Go.RowKit

theorem isDigP_any (c : Int) (w : World) : Calls Tryz.prog 92 #[.int .i32 c] w fun e w' => e = .returned (.bool (isDig c)) ∧ w' = w := by
  rcases (show c < 48 ∨ (48 ≤ c ∧ c ≤ 57) ∨ 57 < c by omega) with h | ⟨h, g⟩ | h
  all_goals
    go_enter Tryz.func92, Tryz.ntmps92
    go_wp2
    go_ret
    exact ⟨ret_bool (by simp [isDig]; omega), rfl⟩
theorem fst_cases (c : Int) : (c < 65 ∧ isFst c = false) ∨ (65 ≤ c ∧ c ≤ 90 ∧ isFst c = true) ∨ (90 < c ∧ c < 95 ∧ isFst c = false) ∨ (c = 95 ∧ isFst c = true) ∨ (c = 96 ∧ isFst c = false) ∨ (97 ≤ c ∧ c ≤ 122 ∧ isFst c = true) ∨ (122 < c ∧ c < 128 ∧ isFst c = false) ∨ (128 ≤ c ∧ isFst c = true) := by
  have : isFst c = true ↔ (97 ≤ c ∧ c ≤ 122) ∨ (65 ≤ c ∧ c ≤ 90) ∨ c = 95 ∨ 128 ≤ c := by simp [isFst]; omega
  by_cases h : isFst c = true
  · have := this.1 h; simp only [h, and_true]; simp; omega
  · have h' : isFst c = false := by simpa using h
    have : ¬ ((97 ≤ c ∧ c ≤ 122) ∨ (65 ≤ c ∧ c ≤ 90) ∨ c = 95 ∨ 128 ≤ c) := fun k => h (this.2 k)
    simp only [h', and_true]; simp; omega
set_option maxHeartbeats 1000000 in
theorem isFstP_any (c : Int) (w : World) : Calls Tryz.prog 94 #[.int .i32 c] w fun e w' => e = .returned (.bool (isFst c)) ∧ w' = w := by
  rcases fst_cases c with ⟨h, e⟩ | ⟨h, g, e⟩ | ⟨h, g, e⟩ | ⟨rfl, e⟩ | ⟨rfl, e⟩ | ⟨h, g, e⟩ | ⟨h, g, e⟩ | ⟨h, e⟩
  all_goals
    have E := hide e
    clear e
    go_enter Tryz.func94, Tryz.ntmps94
    go_wp2
    go_ret
    exact ⟨ret_bool (by rw [E.out]; first | done | rfl | (simp; omega)), rfl⟩
theorem isSgP_any (c : Int) (w : World) : Calls Tryz.prog 195 #[.int .i32 c] w fun e w' => e = .returned (.bool (isSg c)) ∧ w' = w := by
  rcases (show c = 43 ∨ c = 45 ∨ (c ≠ 43 ∧ c ≠ 45) by omega) with rfl | rfl | ⟨h, g⟩
  · go_enter Tryz.func195, Tryz.ntmps195
    go_wp2
    go_ret
    exact ⟨rfl, rfl⟩
  · go_enter Tryz.func195, Tryz.ntmps195
    go_wp2
    go_ret
    exact ⟨rfl, rfl⟩
  · have h' : (c == 43) = false := by simpa using h
    have g' : (c == 45) = false := by simpa using g
    go_enter Tryz.func195, Tryz.ntmps195
    go_wp2
    go_ret
    exact ⟨ret_bool (by simp [isSg, h, g]), rfl⟩
theorem Look.shape {d : Nat} {w : World} {v : Value} {s : List Int} (h : Look d w v s) : ∃ g lb, v = .func (.func g) #[] lb := by
  obtain ⟨g, lb, h1, _⟩ := h; exact ⟨g, lb, h1⟩
theorem Look.le {d e : Nat} {w : World} {v : Value} {s : List Int} (h : Look d w v s) (hd : e ≤ d) : Look e w v s := by
  obtain ⟨g, lb, h1, h2, h3⟩ := h
  exact ⟨g, lb, h1, h2, fun k W h0 hk hW => h3 k W h0 (by omega) hW⟩
theorem behind_any (d : Nat) (v : Value) (s : List Int) (n : Nat) (w : World) (hv : Look (d + n) w v s) (hn : n ≤ 1000) (hd : d ≤ 1000) :
    Calls Tryz.prog 131 #[v, .int .i64 n] w fun e w' => ∃ u, e = .returned u ∧ Look d w' u (s.drop n) ∧ Below w.heap.size w w' := by
  have HV := hide hv
  obtain ⟨g, lb, hs⟩ := hv.shape
  have HB := hide (show Below w.heap.size w ((w.alloc (.cells #[v] 93)).alloc (.cells #[.int .i64 n] 3)) from bplus (bplus (Below.refl _ _) _) _)
  have HL := hide fun W B C k h1 h2 h3 h4 => behind1_any d v s n k B C W h1 hn h2 hd h3 h4
  clear hv
  subst hs
  go_enter Tryz.func131, Tryz.ntmps131
  go_wp2
  go_ret
  have hB := HB.out
  refine ⟨_, rfl, ⟨171, _, rfl, enters_of Tryz.func171 (by kernel_rfl) rfl, fun k W h0 hk hW => ?_⟩, hB⟩
  obtain ⟨j, rfl⟩ := Int.eq_ofNat_of_zero_le h0
  refine HL.out W w.heap.size (w.heap.size + 1) j (HV.out.below (bto hB hW)) (by omega) ?_ ?_
  · rw [hW.cell (p := ⟨w.heap.size, 0, none⟩) (by simp; omega)]; simp
  · rw [hW.cell (p := ⟨w.heap.size + 1, 0, none⟩) (by simp)]; simp
theorem isEscape_any (v : Value) (s : List Int) (w : World) (hv : Look 1 w v s) :
    Calls Tryz.prog 130 #[v] w fun e w' => e = .returned (.bool (es2 (nx s 0) (nx s 1))) ∧ Below w.heap.size w w' := by
  obtain ⟨g, lb, rfl, eg, hg⟩ := hv
  have HG := hide hg
  clear hg
  have T0 : nx s (Int.toNat 0) = nx s 0 := rfl
  have T1 : nx s (Int.toNat 1) = nx s 1 := rfl
  have B := hide (Below.refl w.heap.size w)
  generalize nx s 0 = a at T0 ⊢
  generalize nx s 1 = b at T1 ⊢
  have H0 := hide T0
  have H1 := hide T1
  clear T0 T1
  by_cases ha : a = 92
  · subst ha
    by_cases hb : b = 10
    · subst hb
      go_enter Tryz.func130, Tryz.ntmps130
      go_wp2_with (go_at_fn g; refine (HG.out _ _ (by decide) (by decide) B.out).mono ?_; rintro e w1 ⟨he, B1⟩; (first | rw [H0.out] at he | rw [H1.out] at he); subst he; replace B := hide (bto B.out B1); clear B1)
      go_ret
      exact ⟨rfl, B.out⟩
    · have hb' : (b == 10) = false := by simpa using hb
      go_enter Tryz.func130, Tryz.ntmps130
      go_wp2_with (go_at_fn g; refine (HG.out _ _ (by decide) (by decide) B.out).mono ?_; rintro e w1 ⟨he, B1⟩; (first | rw [H0.out] at he | rw [H1.out] at he); subst he; replace B := hide (bto B.out B1); clear B1)
      go_ret
      exact ⟨ret_bool (by simp [es2, bne, hb']), B.out⟩
  · have ha' : (a == 92) = false := by simpa using ha
    go_enter Tryz.func130, Tryz.ntmps130
    go_wp2_with (go_at_fn g; refine (HG.out _ _ (by decide) (by decide) B.out).mono ?_; rintro e w1 ⟨he, B1⟩; (first | rw [H0.out] at he | rw [H1.out] at he); subst he; replace B := hide (bto B.out B1); clear B1)
    go_ret
    exact ⟨ret_bool (by simp [es2, ha']), B.out⟩
theorem behindSign_any (v : Value) (s : List Int) (w : World) (hv : Look 4 w v s) :
    Calls Tryz.prog 172 #[v] w fun e w' => ∃ u, e = .returned u ∧ Look 3 w' u (nmS s) ∧ Below w.heap.size w w' := by
  have HV := hide hv
  obtain ⟨g, lb, rfl, eg, hg⟩ := hv
  have HG := hide hg
  clear hg
  have H0 := hide (show nx s (Int.toNat 0) = nx s 0 from rfl)
  have B := hide (Below.refl w.heap.size w)
  by_cases h : isSg (nx s 0) = true
  · have HS := hide h
    have E := hide (show nmS s = s.drop 1 by unfold nmS; rw [if_pos h])
    clear h
    go_enter Tryz.func172, Tryz.ntmps172
    go_wp2_with (first
      | (go_at_fn g; refine (HG.out _ _ (by decide) (by decide) B.out).mono ?_; rintro e w1 ⟨he, B1⟩; rw [H0.out] at he; subst he; replace B := hide (bto B.out B1); clear B1)
      | (go_at_call 195; refine (isSgP_any _ _).mono ?_; rintro e w2 ⟨rfl, rfl⟩; rw [HS.out])
      | (go_at_call 131; refine (behind_any 3 _ s 1 _ (HV.out.below B.out) (by decide) (by decide)).mono ?_; rintro e w3 ⟨u, rfl, HL, B3⟩; replace HL := hide HL; replace B := hide (bto B.out B3); clear B3))
    go_ret
    exact ⟨_, rfl, by rw [E.out]; exact HL.out, B.out⟩
  · have h' : isSg (nx s 0) = false := by simpa using h
    have HS := hide h'
    have E := hide (show nmS s = s by unfold nmS; rw [if_neg h])
    clear h h'
    go_enter Tryz.func172, Tryz.ntmps172
    go_wp2_with (first
      | (go_at_fn g; refine (HG.out _ _ (by decide) (by decide) B.out).mono ?_; rintro e w1 ⟨he, B1⟩; rw [H0.out] at he; subst he; replace B := hide (bto B.out B1); clear B1)
      | (go_at_call 195; refine (isSgP_any _ _).mono ?_; rintro e w2 ⟨rfl, rfl⟩; rw [HS.out]))
    go_ret
    exact ⟨_, rfl, by rw [E.out]; exact (HV.out.below B.out).le (by decide), B.out⟩
/-- A number begins, as it is behind the sign. -/
theorem nuB_s (s : List Int) : nuB (nx s 0) (nx s 1) (nx s 2) = (isDig (nx (nmS s) 0) || ((nx (nmS s) 0 == 46) && isDig (nx (nmS s) 1))) := by
  unfold nuB nmS
  split
  · rw [nx_drop, nx_drop]
  · rfl
set_option maxHeartbeats 1000000 in
theorem numB_any (v : Value) (s : List Int) (w : World) (hv : Look 4 w v s) :
    Calls Tryz.prog 133 #[v] w fun e w' => e = .returned (.bool (nuB (nx s 0) (nx s 1) (nx s 2))) ∧ Below w.heap.size w w' := by
  rw [nuB_s]
  have HC := hide (behindSign_any v s w hv)
  clear hv
  generalize nmS s = t at *
  have B := hide (Below.refl w.heap.size w)
  have H0 := hide (show nx t (Int.toNat 0) = nx t 0 from rfl)
  have H1 := hide (show nx t (Int.toNat 1) = nx t 1 from rfl)
  generalize nx t 0 = a at H0 ⊢
  generalize nx t 1 = b at H1 ⊢
  by_cases d0 : isDig a = true
  · have D0 := hide d0
    have D1 := hide d0
    clear d0
    go_enter Tryz.func133, Tryz.ntmps133
    go_wp2_with (first
        | (go_at_call 172; refine HC.out.mono ?_; rintro e w1 ⟨u, rfl, HL, B1⟩; obtain ⟨g, lb, rfl, eg, hg⟩ := HL; replace hg := hide hg; have BL := hide (Below.refl w1.heap.size w1); replace B := hide (bto B.out B1); clear B1)
        | (go_at_call 92; refine (isDigP_any _ _).mono ?_; rintro e w2 ⟨rfl, rfl⟩; (first | rw [D0.out] | rw [D1.out]))
        | (go_at_fn g; refine (hg.out _ _ (by decide) (by decide) BL.out).mono ?_; rintro e w1 ⟨he, B1⟩; (first | rw [H0.out] at he | rw [H1.out] at he); subst he; replace B := hide (bto B.out B1); replace BL := hide (bto BL.out B1); clear B1))
    go_ret
    exact ⟨ret_bool (by rw [D0.out]; rfl), B.out⟩
  · have D0 := hide (show isDig a = false by simpa using d0)
    clear d0
    by_cases ha : a = 46
    · subst ha
      by_cases d1 : isDig b = true
      · have D1 := hide d1
        clear d1
        go_enter Tryz.func133, Tryz.ntmps133
        go_wp2_with (first
        | (go_at_call 172; refine HC.out.mono ?_; rintro e w1 ⟨u, rfl, HL, B1⟩; obtain ⟨g, lb, rfl, eg, hg⟩ := HL; replace hg := hide hg; have BL := hide (Below.refl w1.heap.size w1); replace B := hide (bto B.out B1); clear B1)
        | (go_at_call 92; refine (isDigP_any _ _).mono ?_; rintro e w2 ⟨rfl, rfl⟩; (first | rw [D0.out] | rw [D1.out]))
        | (go_at_fn g; refine (hg.out _ _ (by decide) (by decide) BL.out).mono ?_; rintro e w1 ⟨he, B1⟩; (first | rw [H0.out] at he | rw [H1.out] at he); subst he; replace B := hide (bto B.out B1); replace BL := hide (bto BL.out B1); clear B1))
        go_ret
        exact ⟨ret_bool (by rw [D0.out, D1.out]; rfl), B.out⟩
      · have D1 := hide (show isDig b = false by simpa using d1)
        clear d1
        go_enter Tryz.func133, Tryz.ntmps133
        go_wp2_with (first
        | (go_at_call 172; refine HC.out.mono ?_; rintro e w1 ⟨u, rfl, HL, B1⟩; obtain ⟨g, lb, rfl, eg, hg⟩ := HL; replace hg := hide hg; have BL := hide (Below.refl w1.heap.size w1); replace B := hide (bto B.out B1); clear B1)
        | (go_at_call 92; refine (isDigP_any _ _).mono ?_; rintro e w2 ⟨rfl, rfl⟩; (first | rw [D0.out] | rw [D1.out]))
        | (go_at_fn g; refine (hg.out _ _ (by decide) (by decide) BL.out).mono ?_; rintro e w1 ⟨he, B1⟩; (first | rw [H0.out] at he | rw [H1.out] at he); subst he; replace B := hide (bto B.out B1); replace BL := hide (bto BL.out B1); clear B1))
        go_ret
        exact ⟨ret_bool (by rw [D0.out, D1.out]; rfl), B.out⟩
    · have ha' : (a == 46) = false := by simpa using ha
      have D1 := D0
      go_enter Tryz.func133, Tryz.ntmps133
      go_wp2_with (first
        | (go_at_call 172; refine HC.out.mono ?_; rintro e w1 ⟨u, rfl, HL, B1⟩; obtain ⟨g, lb, rfl, eg, hg⟩ := HL; replace hg := hide hg; have BL := hide (Below.refl w1.heap.size w1); replace B := hide (bto B.out B1); clear B1)
        | (go_at_call 92; refine (isDigP_any _ _).mono ?_; rintro e w2 ⟨rfl, rfl⟩; (first | rw [D0.out] | rw [D1.out]))
        | (go_at_fn g; refine (hg.out _ _ (by decide) (by decide) BL.out).mono ?_; rintro e w1 ⟨he, B1⟩; (first | rw [H0.out] at he | rw [H1.out] at he); subst he; replace B := hide (bto B.out B1); replace BL := hide (bto BL.out B1); clear B1))
      go_ret
      exact ⟨ret_bool (by rw [D0.out, ha']; rfl), B.out⟩
set_option maxHeartbeats 1000000 in
theorem nameB_any (v : Value) (s : List Int) (w : World) (hv : Look 3 w v s) :
    Calls Tryz.prog 124 #[v] w fun e w' => e = .returned (.bool (nmB (nx s 0) (nx s 1) (nx s 2))) ∧ Below w.heap.size w w' := by
  have HV := hide hv
  obtain ⟨g, lb, rfl, eg, hg⟩ := hv
  have HG := hide hg
  clear hg
  have B := hide (Below.refl w.heap.size w)
  have H0 := hide (show nx s (Int.toNat 0) = nx s 0 from rfl)
  have H1 := hide (show nx s (Int.toNat 1) = nx s 1 from rfl)
  have X0 := hide (show nx (s.drop 1) 0 = nx s 1 from nx_drop s 1 0)
  have X1 := hide (show nx (s.drop 1) 1 = nx s 2 from nx_drop s 1 1)
  by_cases ha : nx s 0 = 45
  · rw [ha] at H0
    have HE := hide (show nmB (nx s 0) (nx s 1) (nx s 2) = (isFst (nx s 1) || (nx s 1 == 45) || es2 (nx s 1) (nx s 2)) by unfold nmB; rw [if_pos ha])
    rw [HE.out]
    clear ha HE
    by_cases f : isFst (nx s 1) = true
    · have F := hide f
      have ES := hide (show isFst (nx s 1) = true from f)
      clear f
      go_enter Tryz.func124, Tryz.ntmps124
      go_wp2_with (first
        | (go_at_call 131; refine (behind_any 2 _ s 1 _ ((HV.out.le (by decide)).below B.out) (by decide) (by decide)).mono ?_; rintro e w3 ⟨u, rfl, HL, B3⟩; replace HL := hide HL; replace B := hide (bto B.out B3); clear B3)
        | (go_at_call 94; refine (isFstP_any _ _).mono ?_; rintro e w2 ⟨rfl, rfl⟩; rw [F.out])
        | (go_at_call 130; refine (isEscape_any _ (s.drop 1) _ (HL.out.le (by decide))).mono ?_; rintro e w4 ⟨rfl, B4⟩; rw [ES.out]; replace B := hide (bto B.out B4); clear B4)
        | (go_at_fn g; refine (HG.out _ _ (by decide) (by decide) B.out).mono ?_; rintro e w1 ⟨he, B1⟩; (first | rw [H0.out] at he | rw [H1.out] at he); subst he; replace B := hide (bto B.out B1); clear B1))
      go_ret
      exact ⟨ret_bool (by rw [F.out]; rfl), B.out⟩
    · have F := hide (show isFst (nx s 1) = false by simpa using f)
      clear f
      by_cases hb : nx s 1 = 45
      · have ES := F
        rw [hb] at H1 F ⊢
        go_enter Tryz.func124, Tryz.ntmps124
        go_wp2_with (first
          | (go_at_call 131; refine (behind_any 2 _ s 1 _ ((HV.out.le (by decide)).below B.out) (by decide) (by decide)).mono ?_; rintro e w3 ⟨u, rfl, HL, B3⟩; replace HL := hide HL; replace B := hide (bto B.out B3); clear B3)
          | (go_at_call 94; refine (isFstP_any _ _).mono ?_; rintro e w2 ⟨rfl, rfl⟩; rw [F.out])
          | (go_at_call 130; refine (isEscape_any _ (s.drop 1) _ (HL.out.le (by decide))).mono ?_; rintro e w4 ⟨rfl, B4⟩; rw [ES.out]; replace B := hide (bto B.out B4); clear B4)
          | (go_at_fn g; refine (HG.out _ _ (by decide) (by decide) B.out).mono ?_; rintro e w1 ⟨he, B1⟩; (first | rw [H0.out] at he | rw [H1.out] at he); subst he; replace B := hide (bto B.out B1); clear B1))
        go_ret
        exact ⟨ret_bool (by rw [F.out]; rfl), B.out⟩
      · have hb' : (nx s 1 == 45) = false := by simpa using hb
        by_cases es : es2 (nx s 1) (nx s 2) = true
        · have ES := hide (show es2 (nx (s.drop 1) 0) (nx (s.drop 1) 1) = true by rw [X0.out, X1.out]; exact es)
          have ES' := hide es
          clear es
          go_enter Tryz.func124, Tryz.ntmps124
          go_wp2_with (first
            | (go_at_call 131; refine (behind_any 2 _ s 1 _ ((HV.out.le (by decide)).below B.out) (by decide) (by decide)).mono ?_; rintro e w3 ⟨u, rfl, HL, B3⟩; replace HL := hide HL; replace B := hide (bto B.out B3); clear B3)
            | (go_at_call 94; refine (isFstP_any _ _).mono ?_; rintro e w2 ⟨rfl, rfl⟩; rw [F.out])
            | (go_at_call 130; refine (isEscape_any _ (s.drop 1) _ (HL.out.le (by decide))).mono ?_; rintro e w4 ⟨rfl, B4⟩; rw [ES.out]; replace B := hide (bto B.out B4); clear B4)
            | (go_at_fn g; refine (HG.out _ _ (by decide) (by decide) B.out).mono ?_; rintro e w1 ⟨he, B1⟩; (first | rw [H0.out] at he | rw [H1.out] at he); subst he; replace B := hide (bto B.out B1); clear B1))
          go_ret
          exact ⟨ret_bool (by rw [F.out, hb', ES'.out]; rfl), B.out⟩
        · have es' : es2 (nx s 1) (nx s 2) = false := by simpa using es
          have ES := hide (show es2 (nx (s.drop 1) 0) (nx (s.drop 1) 1) = false by rw [X0.out, X1.out]; exact es')
          have ES' := hide es'
          clear es es'
          go_enter Tryz.func124, Tryz.ntmps124
          go_wp2_with (first
            | (go_at_call 131; refine (behind_any 2 _ s 1 _ ((HV.out.le (by decide)).below B.out) (by decide) (by decide)).mono ?_; rintro e w3 ⟨u, rfl, HL, B3⟩; replace HL := hide HL; replace B := hide (bto B.out B3); clear B3)
            | (go_at_call 94; refine (isFstP_any _ _).mono ?_; rintro e w2 ⟨rfl, rfl⟩; rw [F.out])
            | (go_at_call 130; refine (isEscape_any _ (s.drop 1) _ (HL.out.le (by decide))).mono ?_; rintro e w4 ⟨rfl, B4⟩; rw [ES.out]; replace B := hide (bto B.out B4); clear B4)
            | (go_at_fn g; refine (HG.out _ _ (by decide) (by decide) B.out).mono ?_; rintro e w1 ⟨he, B1⟩; (first | rw [H0.out] at he | rw [H1.out] at he); subst he; replace B := hide (bto B.out B1); clear B1))
          go_ret
          exact ⟨ret_bool (by rw [F.out, hb', ES'.out]; rfl), B.out⟩
  · have ha' : (nx s 0 == 45) = false := by simpa using ha
    have HE := hide (show nmB (nx s 0) (nx s 1) (nx s 2) = (isFst (nx s 0) || es2 (nx s 0) (nx s 1)) by unfold nmB; rw [if_neg ha])
    rw [HE.out]
    clear ha HE
    by_cases f : isFst (nx s 0) = true
    · have F := hide f
      have ES := hide f
      clear f
      go_enter Tryz.func124, Tryz.ntmps124
      go_wp2_with (first
        | (go_at_call 131; refine (behind_any 2 _ s 1 _ ((HV.out.le (by decide)).below B.out) (by decide) (by decide)).mono ?_; rintro e w3 ⟨u, rfl, HL, B3⟩; replace HL := hide HL; replace B := hide (bto B.out B3); clear B3)
        | (go_at_call 94; refine (isFstP_any _ _).mono ?_; rintro e w2 ⟨rfl, rfl⟩; rw [F.out])
        | (go_at_call 130; refine (isEscape_any _ s _ ((HV.out.le (by decide)).below B.out)).mono ?_; rintro e w4 ⟨rfl, B4⟩; rw [ES.out]; replace B := hide (bto B.out B4); clear B4)
        | (go_at_fn g; refine (HG.out _ _ (by decide) (by decide) B.out).mono ?_; rintro e w1 ⟨he, B1⟩; (first | rw [H0.out] at he | rw [H1.out] at he); subst he; replace B := hide (bto B.out B1); clear B1))
      go_ret
      exact ⟨ret_bool (by rw [F.out]; rfl), B.out⟩
    · have F := hide (show isFst (nx s 0) = false by simpa using f)
      clear f
      by_cases es : es2 (nx s 0) (nx s 1) = true
      · have ES := hide es
        clear es
        go_enter Tryz.func124, Tryz.ntmps124
        go_wp2_with (first
          | (go_at_call 131; refine (behind_any 2 _ s 1 _ ((HV.out.le (by decide)).below B.out) (by decide) (by decide)).mono ?_; rintro e w3 ⟨u, rfl, HL, B3⟩; replace HL := hide HL; replace B := hide (bto B.out B3); clear B3)
          | (go_at_call 94; refine (isFstP_any _ _).mono ?_; rintro e w2 ⟨rfl, rfl⟩; rw [F.out])
          | (go_at_call 130; refine (isEscape_any _ s _ ((HV.out.le (by decide)).below B.out)).mono ?_; rintro e w4 ⟨rfl, B4⟩; rw [ES.out]; replace B := hide (bto B.out B4); clear B4)
          | (go_at_fn g; refine (HG.out _ _ (by decide) (by decide) B.out).mono ?_; rintro e w1 ⟨he, B1⟩; (first | rw [H0.out] at he | rw [H1.out] at he); subst he; replace B := hide (bto B.out B1); clear B1))
        go_ret
        exact ⟨ret_bool (by rw [F.out, ES.out]; rfl), B.out⟩
      · have ES := hide (show es2 (nx s 0) (nx s 1) = false by simpa using es)
        clear es
        go_enter Tryz.func124, Tryz.ntmps124
        go_wp2_with (first
          | (go_at_call 131; refine (behind_any 2 _ s 1 _ ((HV.out.le (by decide)).below B.out) (by decide) (by decide)).mono ?_; rintro e w3 ⟨u, rfl, HL, B3⟩; replace HL := hide HL; replace B := hide (bto B.out B3); clear B3)
          | (go_at_call 94; refine (isFstP_any _ _).mono ?_; rintro e w2 ⟨rfl, rfl⟩; rw [F.out])
          | (go_at_call 130; refine (isEscape_any _ s _ ((HV.out.le (by decide)).below B.out)).mono ?_; rintro e w4 ⟨rfl, B4⟩; rw [ES.out]; replace B := hide (bto B.out B4); clear B4)
          | (go_at_fn g; refine (HG.out _ _ (by decide) (by decide) B.out).mono ?_; rintro e w1 ⟨he, B1⟩; (first | rw [H0.out] at he | rw [H1.out] at he); subst he; replace B := hide (bto B.out B1); clear B1))
        go_ret
        exact ⟨ret_bool (by rw [F.out, ES.out]; rfl), B.out⟩
end Go.Proofs.YtcclhdiphcfdfaaGreatDoor
set_option linter.unusedVariables false
set_option linter.unusedSimpArgs false
namespace Go.Proofs.YtcclhdiphcfdfaaGreatDoor
open Go.RowKit

/-- A reader in memory: a list, and how many of it are taken. -/
structure Rd (T : TypeId) (W w : World) (b : Nat) (v : Value) (l : List Int) (p : Nat) : Prop where
  bel : Below W.heap.size W w
  ge : W.heap.size ≤ b
  blk : w.heap[b]? = some (.cells #[v, .int .i64 p] T (0, 0))
  nums : Nums .i32 W v l
  len : l.length ≤ 140737488355328
  le : p ≤ l.length + 4
theorem Rd.lt {T : TypeId} {W w : World} {b : Nat} {v : Value} {l : List Int} {p : Nat} (h : Rd T W w b v l p) : b < w.heap.size := (Array.getElem?_eq_some_iff.1 h.blk).1
theorem Rd.below {T : TypeId} {W w w' : World} {b : Nat} {v : Value} {l : List Int} {p : Nat} (h : Rd T W w b v l p) (hw : Below w.heap.size w w') : Rd T W w' b v l p :=
  ⟨bto h.bel hw, h.ge, (hw.block b h.lt).trans h.blk, h.nums, h.len, h.le⟩
theorem cell_blk {w : World} {b : Nat} {cs : Array Value} {T : TypeId} {q : Nat × Nat} (h : w.heap[b]? = some (.cells cs T q)) (i : Nat) : w.cell? ⟨b, i, none⟩ = cs[i]? := by
  simp [World.cell?, h]
theorem Rd.c0 {T : TypeId} {W w : World} {b : Nat} {v : Value} {l : List Int} {p : Nat} (h : Rd T W w b v l p) : w.cell? ⟨b, 0, none⟩ = some v := by rw [cell_blk h.blk]; rfl
theorem Rd.c1 {T : TypeId} {W w : World} {b : Nat} {v : Value} {l : List Int} {p : Nat} (h : Rd T W w b v l p) : w.cell? ⟨b, 1, none⟩ = some (.int .i64 p) := by rw [cell_blk h.blk]; rfl
theorem Rd.ns {T : TypeId} {W w : World} {b : Nat} {v : Value} {l : List Int} {p : Nat} (h : Rd T W w b v l p) : Nums .i32 w v l := h.nums.below h.bel
theorem isRef_any (x : Int) (w : World) : Calls Tryz.prog 114 #[.int .i32 x] w fun e w' => e = .returned (.bool (isC x)) ∧ w' = w := by
  rcases isC5 x with ⟨h, e⟩ | ⟨h, e⟩ | ⟨h, g, e⟩ | ⟨h, g, e⟩ | ⟨h, g, e⟩
  all_goals
    have E := hide e
    clear e
    go_enter Tryz.func114, Tryz.ntmps114
    go_wp2
    go_ret
    exact ⟨ret_bool (by first | (rw [E.out]; done) | (rw [E.out]; simp; omega)), rfl⟩
theorem isDigR_any (c : Int) (w : World) : Calls Tryz.prog 73 #[.int .i32 c] w fun e w' => e = .returned (.bool (isDig c)) ∧ w' = w := by
  rcases (show c < 48 ∨ (48 ≤ c ∧ c ≤ 57) ∨ 57 < c by omega) with h | ⟨h, g⟩ | h
  all_goals
    go_enter Tryz.func73, Tryz.ntmps73
    go_wp2
    go_ret
    exact ⟨ret_bool (by simp [isDig]; omega), rfl⟩
set_option maxHeartbeats 1000000 in
theorem isFstR_any (c : Int) (w : World) : Calls Tryz.prog 72 #[.int .i32 c] w fun e w' => e = .returned (.bool (isFst c)) ∧ w' = w := by
  rcases fst_cases c with ⟨h, e⟩ | ⟨h, g, e⟩ | ⟨h, g, e⟩ | ⟨rfl, e⟩ | ⟨rfl, e⟩ | ⟨h, g, e⟩ | ⟨h, g, e⟩ | ⟨h, e⟩
  all_goals
    have E := hide e
    clear e
    go_enter Tryz.func72, Tryz.ntmps72
    go_wp2
    go_ret
    exact ⟨ret_bool (by rw [E.out]; first | done | rfl | (simp; omega)), rfl⟩
/-- A number begins at these two (a sign is gone). -/
def nu2 (a b : Int) : Bool := isDig a || ((a == 46) && isDig b)
end Go.Proofs.YtcclhdiphcfdfaaGreatDoor
set_option linter.unusedVariables false
set_option linter.unusedSimpArgs false
namespace Go.Proofs.YtcclhdiphcfdfaaGreatDoor
open Go.RowKit

/-- All but block b is as it was. -/
theorem Mod.of {w w' : World} (b : Nat) (h : Below w.heap.size w w') : w.grownBy w' (some b) := ⟨h.os, h.tape, h.output, h.size, fun k hk _ => h.block k hk⟩
theorem Mod.trans {w w1 w2 : World} {b : Nat} (h : w.grownBy w1 (some b)) (k : w1.grownBy w2 (some b)) : w.grownBy w2 (some b) :=
  ⟨k.os.trans h.os, k.tape.trans h.tape, k.output.trans h.output, Nat.le_trans h.size k.size, fun i hi hb => (k.block i (Nat.lt_of_lt_of_le hi h.size) hb).trans (h.block i hi hb)⟩
theorem Mod.below {W w w' : World} {b : Nat} (h : w.grownBy w' (some b)) (hb : W.heap.size ≤ b) (hw : Below W.heap.size W w) : Below W.heap.size W w' :=
  hw.trans ⟨h.os, h.tape, h.output, h.size, fun k hk => h.block k (Nat.lt_of_lt_of_le hk hw.size) (by intro e; cases e; omega)⟩
theorem Mod.refl (w : World) (b : Nat) : w.grownBy w (some b) := Mod.of b (Below.refl _ _)
set_option maxHeartbeats 1000000 in
theorem ahead_any (T : TypeId) (W w : World) (b : Nat) (v : Value) (l : List Int) (p : Nat) (h : Rd T W w b v l p) (hp : p ≤ l.length) :
    Calls Tryz.prog 86 #[.pointer (some ⟨b, 0, none⟩)] w fun e w' => ∃ u, e = .returned u ∧ Look 9 w' u ((chs l).drop p) ∧ Below w.heap.size w w' := by
  have c0 := h.c0
  have c1 := h.c1
  have NS := hide h.ns
  have hl := h.len
  obtain ⟨a, n, c, rfl⟩ := h.ns.shape
  clear h
  go_enter Tryz.func86, Tryz.ntmps86
  go_wp2
  go_region_with (go_at_call 118; refine (lookFrom_any l _ p _ (NS.out.below (by repeat (first | (with_reducible exact Below.refl _ _) | (with_reducible refine Below.drew ?_)))) hp hl).mono ?_; rintro e w1 ⟨u, rfl, HL, B1⟩; replace HL := hide HL; replace B1 := hide B1)
  all_goals go_wp2
  all_goals go_ret
  all_goals exact ⟨_, rfl, HL.out, bto (by repeat (first | (with_reducible exact Below.refl _ _) | (with_reducible refine Below.drew ?_))) B1.out⟩
theorem next_any (T : TypeId) (W w : World) (b : Nat) (v : Value) (l : List Int) (p : Nat) (h : Rd T W w b v l p) (hp : p ≤ l.length) :
    Calls Tryz.prog 59 #[.pointer (some ⟨b, 0, none⟩)] w fun e w' => e = .returned (.int .i32 (nx ((chs l).drop p) 0)) ∧ Below w.heap.size w w' := by
  have C := hide (ahead_any T W w b v l p h hp)
  have H0 := hide (show nx ((chs l).drop p) (Int.toNat 0) = nx ((chs l).drop p) 0 from rfl)
  clear h
  go_enter Tryz.func59, Tryz.ntmps59
  go_wp2_with (first
    | (go_at_call 86; refine C.out.mono ?_; rintro e w1 ⟨u, rfl, HL, B1⟩; obtain ⟨g, lb, rfl, eg, hg⟩ := HL; replace hg := hide hg; replace B1 := hide B1)
    | (go_at_fn g; refine (hg.out _ _ (by decide) (by decide) (Below.refl _ _)).mono ?_; rintro e w2 ⟨he, B2⟩; rw [H0.out] at he; subst he; replace B1 := hide (bto B1.out B2); clear B2))
  go_ret
  exact ⟨rfl, B1.out⟩
theorem heap_set {w : World} {b : Nat} {cs : Array Value} {T : TypeId} {q : Nat × Nat} (h : w.heap[b]? = some (.cells cs T q)) (i : Nat) (u : Value) : (w.setCell ⟨b, i, none⟩ u).heap[b]? = some (.cells (cs.setIfInBounds i u) T q) := by
  simp [World.setCell, Array.getElem?_modify, h]
theorem Rd.set {T : TypeId} {W w : World} {b : Nat} {v : Value} {l : List Int} {p : Nat} (h : Rd T W w b v l p) (q : Nat) (hq : q ≤ l.length + 4) : Rd T W (w.setCell ⟨b, 1, none⟩ (.int .i64 q)) b v l q ∧ w.grownBy (w.setCell ⟨b, 1, none⟩ (.int .i64 q)) (some b) :=
  ⟨⟨h.bel.setCell (p := ⟨b, 1, none⟩) h.ge _, h.ge, (heap_set h.blk 1 _).trans rfl, h.nums, h.len, hq⟩,
   rfl, rfl, rfl, by simp, fun k _ hk => Below.heap_setCell _ _ _ _ (by intro e; exact hk (by rw [e]))⟩
theorem Rd.drew {T : TypeId} {W w w' : World} {b : Nat} {v : Value} {l : List Int} {p : Nat} (h : Rd T W w' b v l p ∧ w.grownBy w' (some b)) : Rd T W w'.drew b v l p ∧ w.grownBy w'.drew (some b) :=
  ⟨⟨h.1.bel.drew, h.1.ge, h.1.blk, h.1.nums, h.1.len, h.1.le⟩, h.2.os, h.2.tape, h.2.output, h.2.size, h.2.block⟩
set_option maxHeartbeats 1000000 in
theorem skip_any (T : TypeId) (W w : World) (b : Nat) (v : Value) (l : List Int) (p : Nat) (k : Int) (h : Rd T W w b v l p) (k0 : 0 ≤ k) (k1 : k ≤ 9) :
    Calls Tryz.prog 87 #[.pointer (some ⟨b, 0, none⟩), .int .i64 k] w fun e w' => e = .returned (.tuple #[]) ∧ Rd T W w' b v l (min (p + k.toNat) l.length) ∧ w.grownBy w' (some b) := by
  have c0 := h.c0
  have c1 := h.c1
  have f1 : w.frozen? ⟨b, 1, none⟩ = false := by simp [World.frozen?, h.blk]
  have H := hide h
  have hl := h.len
  have hpl := h.le
  obtain ⟨j, rfl⟩ := Int.eq_ofNat_of_zero_le k0
  obtain ⟨a, n, c, rfl, hn, _⟩ : ∃ a n c, v = .slice a n c ∧ n = l.length ∧ True := by
    rcases h.ns with ⟨a, c, rfl, rfl⟩ | ⟨b', o, n, c, rfl, hn, _⟩
    · exact ⟨_, _, _, rfl, rfl, trivial⟩
    · exact ⟨_, _, _, rfl, hn, trivial⟩
  have HN := hide hn
  have hnl : n ≤ 140737488355328 := by omega
  have hpn : p ≤ n + 4 := by omega
  clear h hn hl hpl
  by_cases hle : p + j ≤ n
  · have q1 : (p : Int) + j ≤ n := by omega
    have E := hide (show min (p + (Int.toNat (j : Int))) l.length = p + j by rw [← HN.out]; simp; omega)
    have S := hide (H.out.set (p + j) (by rw [← HN.out]; omega))
    rw [show ((p + j : Nat) : Int) = (p : Int) + j by omega] at S
    go_enter Tryz.func87, Tryz.ntmps87
    go_wp2
    go_region
    all_goals (try go_wp2)
    all_goals go_end0
    all_goals exact ⟨rfl, by rw [E.out]; exact Rd.drew S.out⟩
  · have q1 : ¬ (p : Int) + j ≤ n := by omega
    have q2 : (n : Int) < (p : Int) + j := by omega
    have E := hide (show min (p + (Int.toNat (j : Int))) l.length = n by rw [← HN.out]; simp; omega)
    have S := hide (H.out.set n (by rw [← HN.out]; omega))
    go_enter Tryz.func87, Tryz.ntmps87
    go_wp2
    go_region
    all_goals (try go_wp2)
    all_goals go_end0
    all_goals exact ⟨rfl, by rw [E.out]; exact Rd.drew S.out⟩
theorem drop_min (l : List Int) (p k : Nat) : (chs l).drop (min (p + k) l.length) = ((chs l).drop p).drop k := by
  rw [List.drop_drop]
  by_cases h : p + k ≤ l.length
  · rw [Nat.min_eq_left h]
  · rw [Nat.min_eq_right (by omega), List.drop_of_length_le (by rw [chs_len]; omega), List.drop_of_length_le (by rw [chs_len]; omega)]
/-- Where the reader stands. -/
structure At (T : TypeId) (W w : World) (b : Nat) (v : Value) (l : List Int) (s : List Int) : Prop where
  ex : ∃ p, Rd T W w b v l p ∧ p ≤ l.length ∧ s = (chs l).drop p
theorem At.below {T : TypeId} {W w w' : World} {b : Nat} {v : Value} {l s : List Int} (h : At T W w b v l s) (hw : Below w.heap.size w w') : At T W w' b v l s := by
  obtain ⟨p, h1, h2, h3⟩ := h.ex
  exact ⟨p, h1.below hw, h2, h3⟩
theorem At.lt {T : TypeId} {W w : World} {b : Nat} {v : Value} {l s : List Int} (h : At T W w b v l s) : b < w.heap.size := by
  obtain ⟨p, h1, _⟩ := h.ex; exact h1.lt
theorem At.len {T : TypeId} {W w : World} {b : Nat} {v : Value} {l s : List Int} (h : At T W w b v l s) : s.length ≤ l.length ∧ l.length ≤ 140737488355328 := by
  obtain ⟨p, h1, _, rfl⟩ := h.ex
  exact ⟨by rw [List.length_drop, chs_len]; omega, h1.len⟩
theorem At.chr {T : TypeId} {W w : World} {b : Nat} {v : Value} {l s : List Int} (h : At T W w b v l s) : ∀ x ∈ s, isC x = true := by
  obtain ⟨p, _, _, rfl⟩ := h.ex
  intro x hx
  obtain ⟨y, _, rfl⟩ := List.mem_map.1 (List.mem_of_mem_drop hx)
  exact isC_chr y
theorem aheadA (T : TypeId) (W w : World) (b : Nat) (v : Value) (l s : List Int) (h : At T W w b v l s) :
    Calls Tryz.prog 86 #[.pointer (some ⟨b, 0, none⟩)] w fun e w' => ∃ u, e = .returned u ∧ Look 9 w' u s ∧ Below w.heap.size w w' := by
  obtain ⟨p, h1, h2, rfl⟩ := h.ex
  exact ahead_any T W w b v l p h1 h2
theorem nextA (T : TypeId) (W w : World) (b : Nat) (v : Value) (l s : List Int) (h : At T W w b v l s) :
    Calls Tryz.prog 59 #[.pointer (some ⟨b, 0, none⟩)] w fun e w' => e = .returned (.int .i32 (nx s 0)) ∧ Below w.heap.size w w' := by
  obtain ⟨p, h1, h2, rfl⟩ := h.ex
  exact next_any T W w b v l p h1 h2
theorem skipA (T : TypeId) (W w : World) (b : Nat) (v : Value) (l s : List Int) (k : Int) (h : At T W w b v l s) (k0 : 0 ≤ k) (k1 : k ≤ 9) :
    Calls Tryz.prog 87 #[.pointer (some ⟨b, 0, none⟩), .int .i64 k] w fun e w' => e = .returned (.tuple #[]) ∧ At T W w' b v l (s.drop k.toNat) ∧ w.grownBy w' (some b) := by
  obtain ⟨p, h1, h2, rfl⟩ := h.ex
  exact (skip_any T W w b v l p k h1 k0 k1).mono fun e w' ⟨e1, e2, e3⟩ => ⟨e1, ⟨_, e2, Nat.min_le_right _ _, (drop_min l p k.toNat).symm⟩, e3⟩
theorem takeA (T : TypeId) (W w : World) (b : Nat) (v : Value) (l s : List Int) (h : At T W w b v l s) :
    Calls Tryz.prog 119 #[.pointer (some ⟨b, 0, none⟩)] w fun e w' => e = .returned (.int .i32 (nx s 0)) ∧ At T W w' b v l (s.drop 1) ∧ w.grownBy w' (some b) := by
  have H := hide h
  have M := hide (Mod.refl w b)
  clear h
  go_enter Tryz.func119, Tryz.ntmps119
  go_wp2_with (first
    | (go_at_call 59; refine (nextA T W _ b v l s H.out).mono ?_; rintro e w1 ⟨rfl, B1⟩; replace H := hide (H.out.below B1); replace M := hide (Mod.trans M.out (Mod.of b B1)); clear B1)
    | (go_at_call 87; refine (skipA T W _ b v l s 1 H.out (by decide) (by decide)).mono ?_; rintro e w2 ⟨rfl, A2, M2⟩; replace H := hide A2; replace M := hide (Mod.trans M.out M2); clear A2 M2))
  go_ret
  exact ⟨rfl, H.out, M.out⟩
end Go.Proofs.YtcclhdiphcfdfaaGreatDoor
