/-
  The form of a number with a unit; of a sum of three: by the program.
-/
import Derived.Test.YticgcokhdipomaaDoorLNoJ
import Derived.Test.YticgcokhdipomaaDoorN20
set_option linter.unusedVariables false
set_option linter.unusedSimpArgs false
namespace Go.Proofs.YticgcokhdipomaaDoor.nm
open Go.RowKit

theorem Bk.puts {b : Nat} {T : TypeId} : ∀ (xs : List Value) (o : Nat) (w : World) (cs : List Value), Bk w b T cs → o + xs.length ≤ cs.length → Bk (w.setCells b o xs) b T (cs.take o ++ xs ++ cs.drop (o + xs.length)) := by
  intro xs
  induction xs with
  | nil => intro o w cs h _; simpa [World.setCells] using h
  | cons x r ih =>
    intro o w cs h hl
    simp only [List.length_cons] at hl
    have h2 := ih (o + 1) (w.setCell ⟨b, o, none⟩ x) (cs.set o x) (Bk.put h o x) (by rw [List.length_set]; omega)
    have e : (cs.set o x).take (o + 1) ++ r ++ (cs.set o x).drop (o + 1 + r.length) = cs.take o ++ x :: r ++ cs.drop (o + (x :: r).length) := by
      rw [List.take_add_one, List.take_set_of_le (by omega), List.getElem?_set_self (by omega), List.drop_set_of_lt (by omega), List.length_cons, show o + 1 + r.length = o + (r.length + 1) by omega]
      simp
    rw [e] at h2
    exact h2
/-- Plain forms, cell by cell. -/
def fl (fs : List (List (Int × Int))) : List Value := fs.flatMap fun us => usL us ++ [nilS]
theorem fl_len {fs : List (List (Int × Int))} (h : ∀ x ∈ fs, x.length = 7) : (fl fs).length = fs.length * 15 := by
  induction fs with
  | nil => rfl
  | cons x r ih =>
    have := ih (fun y hy => h y (by simp [hy]))
    have h7 := h x (by simp)
    simp only [fl, List.flatMap_cons, List.length_append, List.length_cons, List.length_nil] at this ⊢
    rw [usL_len, h7, this]; omega
theorem fl_put {fs : List (List (Int × Int))} (h : ∀ x ∈ fs, x.length = 7) {k : Nat} (hk : k < fs.length) (us : List (Int × Int)) (hu : us.length = 7) : (fl fs).take (k * 15) ++ (usL us ++ [nilS]) ++ (fl fs).drop (k * 15 + 15) = fl (fs.set k us) := by
  induction fs generalizing k with
  | nil => simp at hk
  | cons x r ih =>
    have h7 := h x (by simp)
    have lx : (usL x ++ [nilS]).length = 15 := by rw [List.length_append, usL_len, h7]; rfl
    cases k with
    | zero =>
      simp only [fl, List.flatMap_cons, List.set_cons_zero, Nat.zero_mul, List.take_zero, List.nil_append, Nat.zero_add]
      rw [List.drop_left' lx]
    | succ k =>
      have hi := ih (fun y hy => h y (by simp [hy])) (k := k) (by simpa using hk)
      simp only [fl, List.flatMap_cons, List.set_cons_succ] at hi ⊢
      rw [← hi, show (k + 1) * 15 = 15 + k * 15 by omega]
      rw [List.take_append, List.take_of_length_le (by omega), lx, show 15 + k * 15 - 15 = k * 15 by omega, show 15 + k * 15 + 15 = 15 + (k * 15 + 15) by omega]
      rw [List.drop_append, List.drop_of_length_le (by omega), lx, show 15 + (k * 15 + 15) - 15 = k * 15 + 15 by omega]
      simp
theorem fl_at {fs : List (List (Int × Int))} (h : ∀ x ∈ fs, x.length = 7) {k j : Nat} {us : List (Int × Int)} (hk : fs[k]? = some us) (hj : j < 15) : (fl fs)[k * 15 + j]? = (usL us ++ [nilS])[j]? := by
  induction fs generalizing k with
  | nil => simp at hk
  | cons x r ih =>
    have h7 := h x (by simp)
    have lx : (usL x ++ [nilS]).length = 15 := by rw [List.length_append, usL_len, h7]; rfl
    cases k with
    | zero =>
      simp at hk; subst hk
      simp only [fl, List.flatMap_cons, Nat.zero_mul, Nat.zero_add]
      rw [List.getElem?_append_left (by omega)]
    | succ k =>
      have hi := ih (fun y hy => h y (by simp [hy])) (k := k) (by simpa using hk)
      simp only [fl, List.flatMap_cons] at hi ⊢
      rw [List.getElem?_append_right (by omega), lx, show (k + 1) * 15 + j - 15 = k * 15 + j by omega, hi]
theorem pf_of {w : World} {b : Nat} {T : TypeId} {fs : List (List (Int × Int))} (h : Bk w b T (fl fs)) (hu : ∀ x ∈ fs, Us x) (h0 : 0 < fs.length) (h9 : fs.length ≤ 1000000000) : PF w (.slice (some ⟨b, 0, none⟩) fs.length fs.length) fs := by
  refine .inr ⟨b, 0, fs.length, rfl, h0, Bk.lt h, Nat.le_refl _, h9, by omega, fun i us hi => ?_⟩
  have h7 : ∀ x ∈ fs, x.length = 7 := fun x hx => (hu x hx).1
  have hus := hu us (List.mem_of_getElem? hi)
  refine ⟨⟨hus, fun j r hj => ?_⟩, ?_⟩
  · obtain ⟨rn, rd⟩ := r
    obtain ⟨e1, e2⟩ := usL_at hj
    have hj7 : j < 7 := by have := (List.getElem?_eq_some_iff.1 hj).1; rw [hus.1] at this; exact this
    have ll := usL_len us
    rw [hus.1] at ll
    refine ⟨?_, ?_⟩
    · rw [Bk.cell h, show 0 + i * 15 + j * 2 = i * 15 + j * 2 by omega, fl_at h7 hi (by omega), List.getElem?_append_left (by omega), e1]
    · rw [Bk.cell h, show 0 + i * 15 + j * 2 + 1 = i * 15 + (j * 2 + 1) by omega, fl_at h7 hi (by omega), List.getElem?_append_left (by omega), e2]
  · have ll := usL_len us
    rw [hus.1] at ll
    rw [Bk.cell h, show 0 + i * 15 + 14 = i * 15 + 14 by omega, fl_at h7 hi (by omega), List.getElem?_append_right (by omega), show 14 - (usL us).length = 0 by omega]
    rfl
set_option maxRecDepth 100000 in
set_option maxHeartbeats 8000000 in
theorem form_num (n d u : Int) (a : Option Addr) (m c : Nat) (w : World) (hN : Nth w) (hn : i64 n) (hd : i64 d) (hu : i64 u) : Calls Tryd.prog 44 #[.agg #[.int .i64 1, .int .i64 n, .int .i64 d, .int .i64 u, .slice a m c]] w fun e w' => e = .returned (foV (oneU u (n, d)) nilS) ∧ Below w.heap.size w w' := by
  have CO := hide (fun (W : World) (h : Below w.heap.size w W) => oneF_any u n d W (hN.low h) hu hn hd)
  have US := hide (one_us u n d hn hd)
  obtain ⟨OU, hOU⟩ : ∃ x, oneU u (n, d) = x := ⟨_, rfl⟩
  rw [hOU] at CO US ⊢
  unfold foV at CO ⊢
  obtain ⟨W1, hW1⟩ : ∃ W1, (w.alloc (.cells #[.int .i64 1, .int .i64 n, .int .i64 d, .int .i64 u, .slice a m c] 51)).alloc (.cells #[.int .i64 0, .int .i64 0, .int .i64 0, .int .i64 0, .int .i64 0, .int .i64 0, .int .i64 0, .int .i64 0, .int .i64 0, .int .i64 0, .int .i64 0, .int .i64 0, .int .i64 0, .int .i64 0, .slice none 0 0] 29) = W1 := ⟨_, rfl⟩
  have B0 := hide (show Below w.heap.size w W1 by rw [← hW1]; exact bplus (bplus (Below.refl _ _) _) _)
  have P0 := hide (show Bk W1 w.heap.size 51 [.int .i64 1, .int .i64 n, .int .i64 d, .int .i64 u, .slice a m c] by rw [← hW1]; exact (two_new w _ _).1)
  have P1 := hide (show BF W1 (w.heap.size + 1) z00 nilS by rw [← hW1]; exact (two_new w _ _).2)
  have HW1 := hide hW1
  have a0 := Bk.cell P0.out 0
  have a1 := Bk.cell P0.out 1
  have a2 := Bk.cell P0.out 2
  have a3 := Bk.cell P0.out 3
  simp at a0 a1 a2 a3
  have l3 : (usL OU ++ [nilS]).length = 15 := by rw [List.length_append, usL_len, US.out.1]; rfl
  have H9 : (Tryd.prog.info? 29).map (·.size) = some (usL OU ++ [nilS]).toArray.size := by rw [List.size_toArray, l3]; kernel_rfl
  replace H9 := hide H9
  have TH := hide (fun (W : World) (h : Below W1.heap.size W1 W) => show W.there (w.heap.size + 1) 0 (usL OU ++ [nilS]).toArray.size from there_blk (show W.heap[w.heap.size + 1]? = some (.cells (usL z00 ++ [nilS]).toArray 29) from Bk.up P1.out h) (by simp only [List.size_toArray, l3]; rfl))
  clear hW1 hN hOU
  go_enter Tryd.func44, Tryd.ntmps44
  go_upto_region 1 with fail
  rw [HW1.out]
  clear HW1
  go_wp2_with (first
    | (go_at_call 9; refine (CO.out _ B0.out).mono ?_; rintro e w5 ⟨rfl, B5⟩; replace B5 := hide B5)
    | (refine wpList_store_mid rfl 29 (.tmp 2) (.tmp 14) rfl (w.heap.size + 1) 0 (usL OU ++ [nilS]).toArray rfl rfl (TH.out _ B5.out) H9.out (all_oneCell_toArray (us_one rfl)) ?_))
  refine ret_cell (b := w.heap.size + 1) (cs := usL OU ++ [nilS]) Tryd.results44 rfl (World.rangeAt_setCells_same _ _ _ _ (TH.out _ B5.out)) Tryd.underlying29 rfl (by rw [l3]; kernel_rfl) rfl ?_
  exact ⟨rfl, (bto B0.out B5.out).grown (setCells_grown _ _ _ _) (bto B0.out B5.out).size (fun k hk => by cases hk; simp)⟩
end Go.Proofs.YticgcokhdipomaaDoor.nm
