/-
  Characters by places: the program's looks.
-/
import Derived.Test.YtckefmhleklciaaGreatDoorUtfD
import Derived.Test.YtckefmhleklciaaGreatDoorTokQ
import Derived.Shelf.Abstract
set_option linter.unusedVariables false
set_option linter.unusedSimpArgs false
namespace Go.Proofs.YtckefmhleklciaaGreatDoor
open Go.RowKit

theorem isC5 (x : Int) : (x < 0 ∧ isC x = false) ∨ (1114111 < x ∧ isC x = false) ∨ (55296 ≤ x ∧ x ≤ 57343 ∧ isC x = false) ∨ (0 ≤ x ∧ x < 55296 ∧ isC x = true) ∨ (57343 < x ∧ x ≤ 1114111 ∧ isC x = true) := by
  have := isC_iff x
  by_cases h : isC x = true
  · have := this.1 h; rcases this with ⟨h1, h2, h3 | h3⟩
    · right; right; right; left; exact ⟨h1, h3, h⟩
    · right; right; right; right; exact ⟨h3, h2, h⟩
  · have h' : isC x = false := by simpa using h
    have : ¬ (0 ≤ x ∧ x ≤ 1114111 ∧ (x < 55296 ∨ 57343 < x)) := fun k => h (this.2 k)
    simp only [h', and_true]; omega
theorem chrT {x : Int} (h : isC x = true) : chr x = x := by unfold chr; rw [if_pos h]
theorem chrF {x : Int} (h : isC x = false) : chr x = 65533 := by unfold chr; rw [h]; rfl
theorem validRune_any (x : Int) (w : World) : Calls Tryz.prog 103 #[.int .i32 x] w fun e w' => e = .returned (.bool (isC x)) ∧ w' = w := by
  rcases isC5 x with ⟨h, e⟩ | ⟨h, e⟩ | ⟨h, g, e⟩ | ⟨h, g, e⟩ | ⟨h, g, e⟩
  all_goals
    have E := hide e
    clear e
    go_enter Tryz.func103, Tryz.ntmps103
    go_wp2
    go_ret
    exact ⟨ret_bool (by first | (rw [E.out]; done) | (rw [E.out]; simp; omega)), rfl⟩
theorem character_any (x : Int) (w : World) : Calls Tryz.prog 79 #[.int .i32 x] w fun e w' => e = .returned (.int .i32 (chr x)) ∧ w' = w := by
  by_cases h : isC x = true
  · have E := hide (chrT h)
    have H := hide h
    clear h
    go_enter Tryz.func79, Tryz.ntmps79
    go_wp2_with (go_at_call 103; refine (validRune_any x _).mono ?_; rintro e w' ⟨rfl, rfl⟩; rw [H.out])
    go_ret
    exact ⟨ret_int E.out.symm, rfl⟩
  · have h' : isC x = false := by simpa using h
    have E := hide (chrF h')
    have H := hide h'
    clear h h'
    go_enter Tryz.func79, Tryz.ntmps79
    go_wp2_with (go_at_call 103; refine (validRune_any x _).mono ?_; rintro e w' ⟨rfl, rfl⟩; rw [H.out])
    go_ret
    exact ⟨ret_int E.out.symm, rfl⟩
/-- The characters of some numbers. -/
def chs (l : List Int) : List Int := l.map chr
theorem chs_len (l : List Int) : (chs l).length = l.length := by simp [chs]
theorem nx_in {l : List Int} {p k : Nat} (h : p + k < l.length) : nx ((chs l).drop p) k = chr (gt l (p + k)) := by
  rw [nx_drop]
  simp [nx, chs, gt, List.getD_eq_getElem?_getD, List.getElem?_map, List.getElem?_eq_getElem h]
theorem nx_out {l : List Int} {p k : Nat} (h : l.length ≤ p + k) : nx ((chs l).drop p) k = -1 := by
  rw [nx_drop]
  simp [nx, chs, List.getD_eq_getElem?_getD, List.getElem?_map, List.getElem?_eq_none h]
set_option maxHeartbeats 1000000 in
theorem look1_any (l : List Int) (v : Value) (p k B C : Nat) (w : World) (hv : Nums .i32 w v l) (hp : p ≤ l.length) (hk : k ≤ 1099511627776) (hl : l.length ≤ 140737488355328)
    (h1 : w.cell? ⟨B, 0, none⟩ = some v) (h2 : w.cell? ⟨C, 0, none⟩ = some (.int .i64 p)) :
    Calls Tryz.prog 78 #[.int .i64 k, .pointer (some ⟨B, 0, none⟩), .pointer (some ⟨C, 0, none⟩)] w fun e w' => e = .returned (.int .i32 (nx ((chs l).drop p) k)) ∧ Below w.heap.size w w' := by
  rcases hv with ⟨a, c, rfl, rfl⟩ | ⟨b, o, n, c, rfl, hn, h0, hbw, hc, hn9, hc9, hcell⟩
  · obtain rfl : p = 0 := by simpa using hp
    have E := hide (nx_out (l := []) (p := 0) (k := k) (by simp))
    go_enter Tryz.func78, Tryz.ntmps78
    go_wp2
    go_ret
    exact ⟨ret_int E.out.symm, Below.refl _ _⟩
  · have HN := hide hn
    have hnl : n ≤ 140737488355328 := by omega
    have hpn : p ≤ n := by omega
    clear hl hp hn
    by_cases hlt : p + k < n
    · have E := hide (nx_in (l := l) (p := p) (k := k) (by rw [← HN.out]; exact hlt))
      have cx := hcell (p + k) hlt
      clear hcell
      go_enter Tryz.func78, Tryz.ntmps78
      go_wp2_with (go_at_call 79; refine (character_any _ _).mono ?_; rintro e w' ⟨rfl, rfl⟩)
      go_ret
      exact ⟨ret_int E.out.symm, Below.refl _ _⟩
    · have E := hide (nx_out (l := l) (p := p) (k := k) (by rw [← HN.out]; omega))
      clear hcell
      go_enter Tryz.func78, Tryz.ntmps78
      go_wp2
      go_ret
      exact ⟨ret_int E.out.symm, Below.refl _ _⟩
/-- A function that tells what stands so many places on, in every later world. -/
def Look (d : Nat) (w : World) (v : Value) (s : List Int) : Prop :=
  ∃ (g : Nat) (lb : Array Value), v = .func (.func g) #[] lb ∧ (∀ args w, (callFunc g args).run Tryz.prog w = .ok (.enter g args) w) ∧
    ∀ (k : Int) (W : World), 0 ≤ k → k ≤ d → Below w.heap.size w W → Calls Tryz.prog g (#[.int .i64 k] ++ lb) W fun e W' => e = .returned (.int .i32 (nx s k.toNat)) ∧ Below W.heap.size W W'
theorem Look.below {d : Nat} {w w' : World} {v : Value} {s : List Int} (h : Look d w v s) (hw : Below w.heap.size w w') : Look d w' v s := by
  obtain ⟨g, lb, h1, h2, h3⟩ := h
  exact ⟨g, lb, h1, h2, fun k W h0 hk hW => h3 k W h0 hk (bto hw hW)⟩
theorem Nums.shape {k : IntKind} {w : World} {v : Value} {bs : List Int} (h : Nums k w v bs) : ∃ a n c, v = .slice a n c := by
  rcases h with ⟨a, c, rfl, rfl⟩ | ⟨b, o, n, c, rfl, _⟩
  · exact ⟨_, _, _, rfl⟩
  · exact ⟨_, _, _, rfl⟩
theorem lookFrom_any (l : List Int) (v : Value) (p : Nat) (w : World) (hv : Nums .i32 w v l) (hp : p ≤ l.length) (hl : l.length ≤ 140737488355328) :
    Calls Tryz.prog 50 #[v, .int .i64 p] w fun e w' => ∃ u, e = .returned u ∧ Look 9 w' u ((chs l).drop p) ∧ Below w.heap.size w w' := by
  have HV := hide hv
  have HB := hide (show Below w.heap.size w ((w.alloc (.cells #[v] 22)).alloc (.cells #[.int .i64 p] 3)) from bplus (bplus (Below.refl _ _) _) _)
  have HL := hide fun W B C k h1 h2 h3 h4 => look1_any l v p k B C W h1 hp h2 hl h3 h4
  obtain ⟨a, n, c, hs⟩ := hv.shape
  clear hv
  subst hs
  go_enter Tryz.func50, Tryz.ntmps50
  go_wp2
  go_ret
  have hB := HB.out
  refine ⟨_, rfl, ⟨78, _, rfl, enters_of Tryz.func78 (by kernel_rfl) rfl, fun k W h0 hk hW => ?_⟩, hB⟩
  obtain ⟨j, rfl⟩ := Int.eq_ofNat_of_zero_le h0
  refine HL.out W w.heap.size (w.heap.size + 1) j (HV.out.below (bto hB hW)) (by omega) ?_ ?_
  · rw [hW.cell (p := ⟨w.heap.size, 0, none⟩) (by simp; omega)]; simp
  · rw [hW.cell (p := ⟨w.heap.size + 1, 0, none⟩) (by simp)]; simp
theorem behind1_any (d : Nat) (v : Value) (s : List Int) (n k B C : Nat) (w : World) (hv : Look (d + n) w v s) (hn : n ≤ 1000) (hk : k ≤ d) (hd : d ≤ 1000)
    (h1 : w.cell? ⟨B, 0, none⟩ = some v) (h2 : w.cell? ⟨C, 0, none⟩ = some (.int .i64 n)) :
    Calls Tryz.prog 90 #[.int .i64 k, .pointer (some ⟨B, 0, none⟩), .pointer (some ⟨C, 0, none⟩)] w fun e w' => e = .returned (.int .i32 (nx (s.drop n) k)) ∧ Below w.heap.size w w' := by
  obtain ⟨g, lb, rfl, eg, hg⟩ := hv
  have HG := hide hg
  have E := hide (nx_drop s n k)
  clear hg
  go_enter Tryz.func90, Tryz.ntmps90
  go_wp2_with (go_at_fn g; refine (HG.out _ _ (by omega) (by omega) (Below.refl _ _)).mono ?_; rintro e w' ⟨rfl, hB⟩)
  go_ret
  exact ⟨ret_int (by rw [E.out]; congr 1), hB⟩
end Go.Proofs.YtckefmhleklciaaGreatDoor
