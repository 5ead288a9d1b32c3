/-
  A simple selector, a compound, a selector, a list: by the program.
  A simple selector that may be: by the program.
  A compound, a selector, a list of selectors that may be: by the program.
  A selector, a list of selectors that may be: by the program.
-/
import Derived.Test.YtmkbjcoagfnegaaGreatDoorZ17
set_option linter.unusedVariables false
set_option linter.unusedSimpArgs false
namespace Go.Proofs.YtmkbjcoagfnegaaGreatDoor
open Go.RowKit

def attB (op : Int) (nm vl : ByteArray) (fo : Bool) : Bool := nmS9 nm && opS9 op vl fo
set_option maxRecDepth 100000 in
set_option maxHeartbeats 2000000 in
theorem attrMay9_any (k op a b : Int) (nm vl : ByteArray) (fo : Bool) (ua : Option Addr) (ln uc : Nat) (w : World) (hn : nm.size ≤ 1048576) (hv : vl.size ≤ 1048576) (hK : KT w) (hT : Tabs w) : Calls Tryz.prog 143 #[slV k op a b nm vl fo (.slice ua ln uc)] w fun e w' => e = .returned (.bool (attB op nm vl fo)) ∧ Below w.heap.size w w' := by
  have C1 := hide (fun (W : World) (h : Below w.heap.size w W) => isName9_any nm W (by omega) (hK.below h) (hT.below h))
  have C2 := hide (fun (W : World) (h : Below w.heap.size w W) => isText9_any vl W (by omega) (hK.below h) (hT.below h))
  clear hK hT
  unfold slV
  obtain ⟨x1, hx1⟩ : ∃ x, nmS9 nm = x := ⟨_, rfl⟩
  obtain ⟨x2, hx2⟩ : ∃ x, chB (bl vl) = x := ⟨_, rfl⟩
  have E := hide (show attB op nm vl fo = (x1 && ((decide (0 ≤ op) && decide (op ≤ 6)) && (x2 && !((op == 0) && (!(bl vl).isEmpty || fo))))) by unfold attB opS9; rw [hx1, hx2])
  rw [hx1] at C1
  rw [hx2] at C2
  clear hx1 hx2
  have W : (op = 0 ∧ ¬ vl.size = 0) ∨ (op = 0 ∧ vl.size = 0 ∧ fo = true) ∨ (op = 0 ∧ vl.size = 0 ∧ fo = false) ∨ op < 0 ∨ 6 < op ∨ (0 < op ∧ op ≤ 6) := by
    by_cases h1 : op = 0
    · by_cases h2 : vl.size = 0
      · cases fo
        · exact .inr (.inr (.inl ⟨h1, h2, rfl⟩))
        · exact .inr (.inl ⟨h1, h2, rfl⟩)
      · exact .inl ⟨h1, h2⟩
    · exact .inr (.inr (.inr (by omega)))
  rcases W with ⟨rfl, h⟩ | ⟨rfl, h, rfl⟩ | ⟨rfl, h, rfl⟩ | h | h | ⟨h, h'⟩
  · have B0 := hide (bplus (Below.refl w.heap.size w) (.cells #[.int .i64 k, .string nm, .int .i64 0, .string vl, .bool fo, .slice ua ln uc, .int .i64 a, .int .i64 b] 69))
    have BX := hide (show (w.alloc (.cells #[.int .i64 k, .string nm, .int .i64 0, .string vl, .bool fo, .slice ua ln uc, .int .i64 a, .int .i64 b] 69)).heap[w.heap.size]? = some (.cells #[.int .i64 k, .string nm, .int .i64 0, .string vl, .bool fo, .slice ua ln uc, .int .i64 a, .int .i64 b] 69) from heap_alloc_new w _)
    have y1 := emp_f (show 0 < vl.size by omega)
    have y2 : ¬ vl.toList = [] := by intro h'; rw [h'] at y1; cases y1
    have y3 := nemp_bl h
    clear h
    cases x1 <;> cases x2
    all_goals
      go_enter Tryz.func143, Tryz.ntmps143
      go_wp2_with (first
        | (go_at_call 128; refine (C1.out _ B0.out).mono ?_; rintro e w1 ⟨rfl, B1⟩; replace BX := hide ((B1.block _ (Array.getElem?_eq_some_iff.1 BX.out).1).trans BX.out); replace B0 := hide (bto B0.out B1); have c2 := bxk_at9 BX.out 2 (by simp); have c3 := bxk_at9 BX.out 3 (by simp); (simp at c2 c3); clear B1)
        | (go_at_call 168; refine (C2.out _ B0.out).mono ?_; rintro e w2 ⟨rfl, B2⟩; replace B0 := hide (bto B0.out B2); clear B2))
      all_goals
        go_ret
        exact ⟨ret_bool (by rw [E.out]; clear E C1 C2 B0 BX; first | (simp [*]; done) | (simp [*]; omega)), B0.out⟩
  · have B0 := hide (bplus (Below.refl w.heap.size w) (.cells #[.int .i64 k, .string nm, .int .i64 0, .string vl, .bool true, .slice ua ln uc, .int .i64 a, .int .i64 b] 69))
    have BX := hide (show (w.alloc (.cells #[.int .i64 k, .string nm, .int .i64 0, .string vl, .bool true, .slice ua ln uc, .int .i64 a, .int .i64 b] 69)).heap[w.heap.size]? = some (.cells #[.int .i64 k, .string nm, .int .i64 0, .string vl, .bool true, .slice ua ln uc, .int .i64 a, .int .i64 b] 69) from heap_alloc_new w _)
    have y1 := emp_t h
    have y2 : vl.toList = [] := by simpa using y1
    have y3 := emp_bl h
    clear h
    cases x1 <;> cases x2
    all_goals
      go_enter Tryz.func143, Tryz.ntmps143
      go_wp2_with (first
        | (go_at_call 128; refine (C1.out _ B0.out).mono ?_; rintro e w1 ⟨rfl, B1⟩; replace BX := hide ((B1.block _ (Array.getElem?_eq_some_iff.1 BX.out).1).trans BX.out); replace B0 := hide (bto B0.out B1); have c2 := bxk_at9 BX.out 2 (by simp); have c3 := bxk_at9 BX.out 3 (by simp); (simp at c2 c3); clear B1)
        | (go_at_call 168; refine (C2.out _ B0.out).mono ?_; rintro e w2 ⟨rfl, B2⟩; replace B0 := hide (bto B0.out B2); clear B2))
      all_goals
        go_ret
        exact ⟨ret_bool (by rw [E.out]; clear E C1 C2 B0 BX; first | (simp [*]; done) | (simp [*]; omega)), B0.out⟩
  · have B0 := hide (bplus (Below.refl w.heap.size w) (.cells #[.int .i64 k, .string nm, .int .i64 0, .string vl, .bool false, .slice ua ln uc, .int .i64 a, .int .i64 b] 69))
    have BX := hide (show (w.alloc (.cells #[.int .i64 k, .string nm, .int .i64 0, .string vl, .bool false, .slice ua ln uc, .int .i64 a, .int .i64 b] 69)).heap[w.heap.size]? = some (.cells #[.int .i64 k, .string nm, .int .i64 0, .string vl, .bool false, .slice ua ln uc, .int .i64 a, .int .i64 b] 69) from heap_alloc_new w _)
    have y1 := emp_t h
    have y2 : vl.toList = [] := by simpa using y1
    have y3 := emp_bl h
    clear h
    cases x1 <;> cases x2
    all_goals
      go_enter Tryz.func143, Tryz.ntmps143
      go_wp2_with (first
        | (go_at_call 128; refine (C1.out _ B0.out).mono ?_; rintro e w1 ⟨rfl, B1⟩; replace BX := hide ((B1.block _ (Array.getElem?_eq_some_iff.1 BX.out).1).trans BX.out); replace B0 := hide (bto B0.out B1); have c2 := bxk_at9 BX.out 2 (by simp); have c3 := bxk_at9 BX.out 3 (by simp); (simp at c2 c3); clear B1)
        | (go_at_call 168; refine (C2.out _ B0.out).mono ?_; rintro e w2 ⟨rfl, B2⟩; replace B0 := hide (bto B0.out B2); clear B2))
      all_goals
        go_ret
        exact ⟨ret_bool (by rw [E.out]; clear E C1 C2 B0 BX; first | (simp [*]; done) | (simp [*]; omega)), B0.out⟩
  · have B0 := hide (bplus (Below.refl w.heap.size w) (.cells #[.int .i64 k, .string nm, .int .i64 op, .string vl, .bool fo, .slice ua ln uc, .int .i64 a, .int .i64 b] 69))
    have BX := hide (show (w.alloc (.cells #[.int .i64 k, .string nm, .int .i64 op, .string vl, .bool fo, .slice ua ln uc, .int .i64 a, .int .i64 b] 69)).heap[w.heap.size]? = some (.cells #[.int .i64 k, .string nm, .int .i64 op, .string vl, .bool fo, .slice ua ln uc, .int .i64 a, .int .i64 b] 69) from heap_alloc_new w _)
    have g0 : (op == 0) = false := by simp; omega
    have g1 : ¬ (0 : Int) ≤ op := by omega
    clear h
    cases x1 <;> cases x2
    all_goals
      go_enter Tryz.func143, Tryz.ntmps143
      go_wp2_with (first
        | (go_at_call 128; refine (C1.out _ B0.out).mono ?_; rintro e w1 ⟨rfl, B1⟩; replace BX := hide ((B1.block _ (Array.getElem?_eq_some_iff.1 BX.out).1).trans BX.out); replace B0 := hide (bto B0.out B1); have c2 := bxk_at9 BX.out 2 (by simp); have c3 := bxk_at9 BX.out 3 (by simp); (simp at c2 c3); clear B1)
        | (go_at_call 168; refine (C2.out _ B0.out).mono ?_; rintro e w2 ⟨rfl, B2⟩; replace B0 := hide (bto B0.out B2); clear B2))
      all_goals
        go_ret
        exact ⟨ret_bool (by rw [E.out]; clear E C1 C2 B0 BX; first | (simp [*]; done) | (simp [*]; omega)), B0.out⟩
  · have B0 := hide (bplus (Below.refl w.heap.size w) (.cells #[.int .i64 k, .string nm, .int .i64 op, .string vl, .bool fo, .slice ua ln uc, .int .i64 a, .int .i64 b] 69))
    have BX := hide (show (w.alloc (.cells #[.int .i64 k, .string nm, .int .i64 op, .string vl, .bool fo, .slice ua ln uc, .int .i64 a, .int .i64 b] 69)).heap[w.heap.size]? = some (.cells #[.int .i64 k, .string nm, .int .i64 op, .string vl, .bool fo, .slice ua ln uc, .int .i64 a, .int .i64 b] 69) from heap_alloc_new w _)
    have g0 : (op == 0) = false := by simp; omega
    have g1 : (0 : Int) ≤ op := by omega
    have g2 : ¬ op ≤ 6 := by omega
    clear h
    cases x1 <;> cases x2
    all_goals
      go_enter Tryz.func143, Tryz.ntmps143
      go_wp2_with (first
        | (go_at_call 128; refine (C1.out _ B0.out).mono ?_; rintro e w1 ⟨rfl, B1⟩; replace BX := hide ((B1.block _ (Array.getElem?_eq_some_iff.1 BX.out).1).trans BX.out); replace B0 := hide (bto B0.out B1); have c2 := bxk_at9 BX.out 2 (by simp); have c3 := bxk_at9 BX.out 3 (by simp); (simp at c2 c3); clear B1)
        | (go_at_call 168; refine (C2.out _ B0.out).mono ?_; rintro e w2 ⟨rfl, B2⟩; replace B0 := hide (bto B0.out B2); clear B2))
      all_goals
        go_ret
        exact ⟨ret_bool (by rw [E.out]; clear E C1 C2 B0 BX; first | (simp [*]; done) | (simp [*]; omega)), B0.out⟩
  · have B0 := hide (bplus (Below.refl w.heap.size w) (.cells #[.int .i64 k, .string nm, .int .i64 op, .string vl, .bool fo, .slice ua ln uc, .int .i64 a, .int .i64 b] 69))
    have BX := hide (show (w.alloc (.cells #[.int .i64 k, .string nm, .int .i64 op, .string vl, .bool fo, .slice ua ln uc, .int .i64 a, .int .i64 b] 69)).heap[w.heap.size]? = some (.cells #[.int .i64 k, .string nm, .int .i64 op, .string vl, .bool fo, .slice ua ln uc, .int .i64 a, .int .i64 b] 69) from heap_alloc_new w _)
    have g0 : (op == 0) = false := by simp; omega
    have g1 : (0 : Int) ≤ op := by omega
    clear h
    cases x1 <;> cases x2
    all_goals
      go_enter Tryz.func143, Tryz.ntmps143
      go_wp2_with (first
        | (go_at_call 128; refine (C1.out _ B0.out).mono ?_; rintro e w1 ⟨rfl, B1⟩; replace BX := hide ((B1.block _ (Array.getElem?_eq_some_iff.1 BX.out).1).trans BX.out); replace B0 := hide (bto B0.out B1); have c2 := bxk_at9 BX.out 2 (by simp); have c3 := bxk_at9 BX.out 3 (by simp); (simp at c2 c3); clear B1)
        | (go_at_call 168; refine (C2.out _ B0.out).mono ?_; rintro e w2 ⟨rfl, B2⟩; replace B0 := hide (bto B0.out B2); clear B2))
      all_goals
        go_ret
        exact ⟨ret_bool (by rw [E.out]; clear E C1 C2 B0 BX; first | (simp [*]; done) | (simp [*]; omega)), B0.out⟩
/-- What is left to hold of its fields. -/
def smB (left : Nat) (r : List Cx → Bool) (s : Sl) : Bool :=
  if s.k = 1 ∨ (9 ≤ s.k ∧ s.k ≤ 13) then true
  else if 2 ≤ s.k ∧ s.k ≤ 4 then nmS9 s.nm
  else if s.k = 5 then decide (1 < left) && attB s.op s.nm s.vl s.fo
  else if 6 ≤ s.k ∧ s.k ≤ 8 then r s.ls
  else if s.k = 14 ∨ s.k = 15 then decide (1 < left) && (stS9 s.a && stS9 s.b)
  else false
theorem slM_two (left : Nat) (r : List Cx → Bool) (s : Sl) : slM left r s = (oifB s.k s.op s.a s.b s.nm s.vl s.fo s.ls.length && smB left r s) := by
  have e : (s.ls.length == 0) = s.ls.isEmpty := by cases s.ls <;> rfl
  unfold slM smB oifB attB
  rw [e]
  by_cases h1 : s.k = 1 ∨ (9 ≤ s.k ∧ s.k ≤ 13)
  · rw [if_pos h1, if_pos h1]
    have f1 : (decide (2 ≤ s.k) && decide (s.k ≤ 5)) = false := by rw [Bool.eq_false_iff]; intro h'; simp at h'; omega
    have f2 : (decide (6 ≤ s.k) && decide (s.k ≤ 8)) = false := by rw [Bool.eq_false_iff]; intro h'; simp at h'; omega
    have f3 : (s.k == 5) = false := by simp; omega
    have f4 : (s.k == 14) = false := by simp; omega
    have f5 : (s.k == 15) = false := by simp; omega
    rw [f1, f2, f3, f4, f5]
    simp
  rw [if_neg h1, if_neg h1]
  by_cases h2 : 2 ≤ s.k ∧ s.k ≤ 4
  · rw [if_pos h2, if_pos h2]
    have f1 : (decide (2 ≤ s.k) && decide (s.k ≤ 5)) = true := by simp; omega
    have f2 : (decide (6 ≤ s.k) && decide (s.k ≤ 8)) = false := by rw [Bool.eq_false_iff]; intro h'; simp at h'; omega
    have f3 : (s.k == 5) = false := by simp; omega
    have f4 : (s.k == 14) = false := by simp; omega
    have f5 : (s.k == 15) = false := by simp; omega
    rw [f1, f2, f3, f4, f5]
    generalize nmS9 s.nm = x1; generalize noF9 s.op s.vl s.fo = x2; generalize s.ls.isEmpty = x3; generalize ((s.a == 0) && (s.b == 0)) = x4
    cases x1 <;> cases x2 <;> cases x3 <;> cases x4 <;> rfl
  rw [if_neg h2, if_neg h2]
  by_cases h3 : s.k = 5
  · rw [if_pos h3, if_pos h3]
    rw [h3]
    generalize nmS9 s.nm = x1; generalize opS9 s.op s.vl s.fo = x2; generalize s.ls.isEmpty = x3; generalize ((s.a == 0) && (s.b == 0)) = x4; generalize decide (1 < left) = x5; generalize noF9 s.op s.vl s.fo = x6
    cases x1 <;> cases x2 <;> cases x3 <;> cases x4 <;> cases x5 <;> cases x6 <;> simp
  rw [if_neg h3, if_neg h3]
  by_cases h4 : 6 ≤ s.k ∧ s.k ≤ 8
  · rw [if_pos h4, if_pos h4]
    have f1 : (decide (2 ≤ s.k) && decide (s.k ≤ 5)) = false := by rw [Bool.eq_false_iff]; intro h'; simp at h'; omega
    have f2 : (decide (6 ≤ s.k) && decide (s.k ≤ 8)) = true := by simp; omega
    have f3 : (s.k == 5) = false := by simp; omega
    have f4 : (s.k == 14) = false := by simp; omega
    have f5 : (s.k == 15) = false := by simp; omega
    rw [f1, f2, f3, f4, f5]
    generalize (bl s.nm).isEmpty = x1; generalize noF9 s.op s.vl s.fo = x2; generalize r s.ls = x3; generalize ((s.a == 0) && (s.b == 0)) = x4
    cases x1 <;> cases x2 <;> cases x3 <;> cases x4 <;> rfl
  rw [if_neg h4, if_neg h4]
  by_cases h5 : s.k = 14 ∨ s.k = 15
  · rw [if_pos h5, if_pos h5]
    have f1 : (decide (2 ≤ s.k) && decide (s.k ≤ 5)) = false := by rw [Bool.eq_false_iff]; intro h'; simp at h'; omega
    have f2 : (decide (6 ≤ s.k) && decide (s.k ≤ 8)) = false := by rw [Bool.eq_false_iff]; intro h'; simp at h'; omega
    have f3 : (s.k == 5) = false := by simp; omega
    have f4 : ((s.k == 14) || (s.k == 15)) = true := by simpa using h5
    rw [f1, f2, f3, f4]
    generalize (bl s.nm).isEmpty = x1; generalize noF9 s.op s.vl s.fo = x2; generalize s.ls.isEmpty = x3; generalize stS9 s.a = x4; generalize stS9 s.b = x5; generalize decide (1 < left) = x6
    cases x1 <;> cases x2 <;> cases x3 <;> cases x4 <;> cases x5 <;> cases x6 <;> rfl
  rw [if_neg h5, if_neg h5]
  simp
end Go.Proofs.YtmkbjcoagfnegaaGreatDoor
set_option linter.unusedVariables false
set_option linter.unusedSimpArgs false
namespace Go.Proofs.YtmkbjcoagfnegaaGreatDoor
open Go.RowKit

/-- What is to be known of lists that are at most so deep. -/
def ListMay (n : Nat) : Prop := ∀ (left : Nat) (l : List Cx) (v : Value) (W : World), left ≤ 65 → CM W n v l → KT W → Tabs W →
  Calls Tryz.prog 34 #[v, .int .i64 (66 - (left : Int))] W fun e w' => e = .returned (.bool (lsM left l)) ∧ Below W.heap.size W w'
theorem sm_ways (k : Int) : (k = 1 ∨ k = 9 ∨ k = 10 ∨ k = 11 ∨ k = 12 ∨ k = 13) ∨ (k = 2 ∨ k = 3 ∨ k = 4) ∨ k = 5 ∨ (k = 6 ∨ k = 7 ∨ k = 8) ∨ (k = 14 ∨ k = 15) ∨ (k < 1 ∨ 15 < k) := by omega
def Sl.v (s : Sl) (u : Value) : Value := slV s.k s.op s.a s.b s.nm s.vl s.fo u
theorem smB_true {left : Nat} {r : List Cx → Bool} {s : Sl} (h : s.k = 1 ∨ s.k = 9 ∨ s.k = 10 ∨ s.k = 11 ∨ s.k = 12 ∨ s.k = 13) : smB left r s = true := by unfold smB; rw [if_pos (by omega)]
theorem smB_name {left : Nat} {r : List Cx → Bool} {s : Sl} (h : s.k = 2 ∨ s.k = 3 ∨ s.k = 4) : smB left r s = nmS9 s.nm := by unfold smB; rw [if_neg (by omega), if_pos (by omega)]
theorem smB_attr {left : Nat} {r : List Cx → Bool} {s : Sl} (h : s.k = 5) : smB left r s = (decide (1 < left) && attB s.op s.nm s.vl s.fo) := by unfold smB; rw [if_neg (by omega), if_neg (by omega), if_pos h]
theorem smB_list {left : Nat} {r : List Cx → Bool} {s : Sl} (h : s.k = 6 ∨ s.k = 7 ∨ s.k = 8) : smB left r s = r s.ls := by unfold smB; rw [if_neg (by omega), if_neg (by omega), if_neg (by omega), if_pos (by omega)]
theorem smB_step {left : Nat} {r : List Cx → Bool} {s : Sl} (h : s.k = 14 ∨ s.k = 15) : smB left r s = (decide (1 < left) && (stS9 s.a && stS9 s.b)) := by unfold smB; rw [if_neg (by omega), if_neg (by omega), if_neg (by omega), if_neg (by omega), if_pos (by omega)]
theorem smB_none {left : Nat} {r : List Cx → Bool} {s : Sl} (h : s.k < 1 ∨ 15 < s.k) : smB left r s = false := by unfold smB; rw [if_neg (by omega), if_neg (by omega), if_neg (by omega), if_neg (by omega), if_neg (by omega)]
set_option maxRecDepth 100000 in
set_option maxHeartbeats 4000000 in
theorem simpleMay9_any (n left : Nat) (s : Sl) (u : Value) (w : World) (d : Int) (hd : d = 66 - (left : Int)) (hl1 : 1 ≤ left) (hl2 : left ≤ 65) (hu : CM w n u s.ls) (ok : SlOk s) (hK : KT w) (hT : Tabs w) (IH : ListMay n) :
    Calls Tryz.prog 113 #[s.v u, .int .i64 d] w fun e w' => e = .returned (.bool (smB left (lsM (left - 1)) s)) ∧ Below w.heap.size w w' := by
  have C1 := hide (fun (W : World) (h : Below w.heap.size w W) => isName9_any s.nm W (by have := ok.hn; omega) (hK.below h) (hT.below h))
  have C3 := hide (fun (W : World) (h : Below w.heap.size w W) => IH (left - 1) s.ls u W (by omega) (hu.low h) (hK.below h) (hT.below h))
  rw [show (66 : Int) - ((left - 1 : Nat) : Int) = d + 1 by omega] at C3
  obtain ⟨ua, uc, hus, _⟩ := hu.shape
  have C2 := hide (fun (W : World) (h : Below w.heap.size w W) => attrMay9_any s.k s.op s.a s.b s.nm s.vl s.fo ua s.ls.length uc W ok.hn ok.hv (hK.below h) (hT.below h))
  have EH := hide (show decide (d ≤ 64) = decide (1 < left) by rw [decide_eq_decide]; omega)
  have hd1 : 1 ≤ d := by omega
  have hd2 : d ≤ 65 := by omega
  have SE := hide (@smB_true left (lsM (left - 1)) s)
  have S1 := hide (@smB_name left (lsM (left - 1)) s)
  have S2 := hide (@smB_attr left (lsM (left - 1)) s)
  have S3 := hide (@smB_list left (lsM (left - 1)) s)
  have S4 := hide (@smB_step left (lsM (left - 1)) s)
  have S5 := hide (@smB_none left (lsM (left - 1)) s)
  have B0 := hide (bplus (Below.refl w.heap.size w) (.cells #[.int .i64 s.k, .string s.nm, .int .i64 s.op, .string s.vl, .bool s.fo, u, .int .i64 s.a, .int .i64 s.b] 69))
  have BX := hide (show (w.alloc (.cells #[.int .i64 s.k, .string s.nm, .int .i64 s.op, .string s.vl, .bool s.fo, u, .int .i64 s.a, .int .i64 s.b] 69)).heap[w.heap.size]? = some (.cells #[.int .i64 s.k, .string s.nm, .int .i64 s.op, .string s.vl, .bool s.fo, u, .int .i64 s.a, .int .i64 s.b] 69) from heap_alloc_new w _)
  clear hu IH hK hT ok hd hl1 hl2
  unfold Sl.v
  unfold slV at C2 ⊢
  subst hus
  generalize smB left (lsM (left - 1)) s = RR at SE S1 S2 S3 S4 S5 ⊢
  generalize lsM (left - 1) s.ls = R3 at C3 S3
  generalize attB s.op s.nm s.vl s.fo = R2 at C2 S2
  generalize nmS9 s.nm = R1 at C1 S1
  generalize decide (1 < left) = R0 at EH S2 S4
  generalize s.ls.length = ln at C2 C3 B0 BX ⊢
  obtain ⟨k, op, a, b, nm, vl, fo, ls⟩ := s
  simp only [Sl.k, Sl.op, Sl.a, Sl.b, Sl.nm, Sl.vl, Sl.fo, Sl.ls] at *
  rcases sm_ways k with h | h | h | h | h | h
  · have E := hide (SE.out h)
    clear SE S1 S2 S3 S4 S5
    rcases h with rfl | rfl | rfl | rfl | rfl | rfl
    all_goals
      go_enter Tryz.func113, Tryz.ntmps113
      go_wp2_with (first
        | (go_at_call 128; refine (C1.out _ B0.out).mono ?_; rintro e w1 ⟨rfl, B1⟩; replace B0 := hide (bto B0.out B1); clear B1)
        | (go_at_call 142; refine (holdsBlock9_any _ _).mono ?_; rintro e w2 ⟨rfl, rfl⟩; rw [EH.out])
        | (go_at_call 143; refine (C2.out _ B0.out).mono ?_; rintro e w3 ⟨rfl, B1⟩; replace B0 := hide (bto B0.out B1); clear B1)
        | (go_at_call 34; refine (C3.out _ B0.out).mono ?_; rintro e w4 ⟨rfl, B1⟩; replace B0 := hide (bto B0.out B1); clear B1)
        | (go_at_call 144; refine (isStep9_any _ _).mono ?_; rintro e w5 ⟨rfl, rfl⟩))
      all_goals
        go_ret
        exact ⟨ret_bool (by first | (rw [E.out]; done) | (rw [E.out]; rfl) | (rw [E.out]; simp; done)), B0.out⟩
  · have E := hide (S1.out h)
    clear SE S1 S2 S3 S4 S5
    rcases h with rfl | rfl | rfl
    all_goals
      go_enter Tryz.func113, Tryz.ntmps113
      go_wp2_with (first
        | (go_at_call 128; refine (C1.out _ B0.out).mono ?_; rintro e w1 ⟨rfl, B1⟩; replace B0 := hide (bto B0.out B1); clear B1)
        | (go_at_call 142; refine (holdsBlock9_any _ _).mono ?_; rintro e w2 ⟨rfl, rfl⟩; rw [EH.out])
        | (go_at_call 143; refine (C2.out _ B0.out).mono ?_; rintro e w3 ⟨rfl, B1⟩; replace B0 := hide (bto B0.out B1); clear B1)
        | (go_at_call 34; refine (C3.out _ B0.out).mono ?_; rintro e w4 ⟨rfl, B1⟩; replace B0 := hide (bto B0.out B1); clear B1)
        | (go_at_call 144; refine (isStep9_any _ _).mono ?_; rintro e w5 ⟨rfl, rfl⟩))
      all_goals
        go_ret
        exact ⟨ret_bool (by first | (rw [E.out]; done) | (rw [E.out]; rfl) | (rw [E.out]; simp; done)), B0.out⟩
  · have E := hide (S2.out h)
    clear SE S1 S2 S3 S4 S5
    subst h
    cases R0
    all_goals
      go_enter Tryz.func113, Tryz.ntmps113
      go_wp2_with (first
        | (go_at_call 128; refine (C1.out _ B0.out).mono ?_; rintro e w1 ⟨rfl, B1⟩; replace B0 := hide (bto B0.out B1); clear B1)
        | (go_at_call 142; refine (holdsBlock9_any _ _).mono ?_; rintro e w2 ⟨rfl, rfl⟩; rw [EH.out])
        | (go_at_call 143; refine (C2.out _ B0.out).mono ?_; rintro e w3 ⟨rfl, B1⟩; replace B0 := hide (bto B0.out B1); clear B1)
        | (go_at_call 34; refine (C3.out _ B0.out).mono ?_; rintro e w4 ⟨rfl, B1⟩; replace B0 := hide (bto B0.out B1); clear B1)
        | (go_at_call 144; refine (isStep9_any _ _).mono ?_; rintro e w5 ⟨rfl, rfl⟩))
      all_goals
        go_ret
        exact ⟨ret_bool (by first | (rw [E.out]; done) | (rw [E.out]; rfl) | (rw [E.out]; simp; done)), B0.out⟩
  · have E := hide (S3.out h)
    clear SE S1 S2 S3 S4 S5
    rcases h with rfl | rfl | rfl
    all_goals
      go_enter Tryz.func113, Tryz.ntmps113
      go_wp2_with (first
        | (go_at_call 128; refine (C1.out _ B0.out).mono ?_; rintro e w1 ⟨rfl, B1⟩; replace B0 := hide (bto B0.out B1); clear B1)
        | (go_at_call 142; refine (holdsBlock9_any _ _).mono ?_; rintro e w2 ⟨rfl, rfl⟩; rw [EH.out])
        | (go_at_call 143; refine (C2.out _ B0.out).mono ?_; rintro e w3 ⟨rfl, B1⟩; replace B0 := hide (bto B0.out B1); clear B1)
        | (go_at_call 34; refine (C3.out _ B0.out).mono ?_; rintro e w4 ⟨rfl, B1⟩; replace B0 := hide (bto B0.out B1); clear B1)
        | (go_at_call 144; refine (isStep9_any _ _).mono ?_; rintro e w5 ⟨rfl, rfl⟩))
      all_goals
        go_ret
        exact ⟨ret_bool (by first | (rw [E.out]; done) | (rw [E.out]; rfl) | (rw [E.out]; simp; done)), B0.out⟩
  · have E := hide (S4.out h)
    clear SE S1 S2 S3 S4 S5
    generalize hx : stS9 a = xa at E
    generalize hy : stS9 b = xb at E
    have EA := hide hx
    have EB := hide hy
    clear hx hy
    rcases h with rfl | rfl
    all_goals
      cases R0 <;> cases xa <;> cases xb
    all_goals
      go_enter Tryz.func113, Tryz.ntmps113
      go_wp2_with (first
        | (go_at_call 142; refine (holdsBlock9_any _ _).mono ?_; rintro e w2 ⟨rfl, rfl⟩; rw [EH.out])
        | (go_at_call 144; refine (isStep9_any _ _).mono ?_; rintro e w5 ⟨rfl, rfl⟩; (first | rw [EA.out] | rw [EB.out])))
      all_goals
        go_ret
        exact ⟨ret_bool (by first | (rw [E.out]; done) | (rw [E.out]; rfl) | (rw [E.out]; simp; done)), B0.out⟩
  · have E := hide (S5.out h)
    clear SE S1 S2 S3 S4 S5
    have g1 : (k == 1) = false := by simp; omega
    have g2 : (k == 2) = false := by simp; omega
    have g3 : (k == 3) = false := by simp; omega
    have g4 : (k == 4) = false := by simp; omega
    have g5 : (k == 5) = false := by simp; omega
    have g6 : (k == 6) = false := by simp; omega
    have g7 : (k == 7) = false := by simp; omega
    have g8 : (k == 8) = false := by simp; omega
    have g9 : (k == 9) = false := by simp; omega
    have g10 : (k == 10) = false := by simp; omega
    have g11 : (k == 11) = false := by simp; omega
    have g12 : (k == 12) = false := by simp; omega
    have g13 : (k == 13) = false := by simp; omega
    have g14 : (k == 14) = false := by simp; omega
    have g15 : (k == 15) = false := by simp; omega
    clear h
    go_enter Tryz.func113, Tryz.ntmps113
    go_wp2
    go_ret
    exact ⟨ret_bool (by rw [E.out]), B0.out⟩
end Go.Proofs.YtmkbjcoagfnegaaGreatDoor
set_option linter.unusedVariables false
set_option linter.unusedSimpArgs false
namespace Go.Proofs.YtmkbjcoagfnegaaGreatDoor
open Go.RowKit

theorem SsM.at {w : World} {n : Nat} {v : Value} {l : List Sl} (h : SsM w n v l) {i : Nat} {s : Sl} (hi : l[i]? = some s) : ∃ b o c u, v = .slice (some ⟨b, o, none⟩) l.length c ∧ b < w.heap.size ∧ Eig w b (o + i * 8) s u ∧ CM w n u s.ls ∧ SlOk s := by
  obtain ⟨b, o, c, h1, h2, _, _, u, h3, h4, h5⟩ := RowOf.at h hi
  exact ⟨b, o, c, u, h1, h2, h3, h4, h5⟩
theorem PsM.at {w : World} {n : Nat} {v : Value} {l : Cx} (h : PsM w n v l) {i : Nat} {p : Cp} (hi : l[i]? = some p) : ∃ b o c u, v = .slice (some ⟨b, o, none⟩) l.length c ∧ b < w.heap.size ∧ w.cell? ⟨b, o + i * 2, none⟩ = some (.int .i64 p.1) ∧ w.cell? ⟨b, o + i * 2 + 1, none⟩ = some u ∧ SsM w n u p.2 ∧ -9223372036854775808 ≤ p.1 ∧ p.1 ≤ 9223372036854775807 := by
  obtain ⟨b, o, c, h1, h2, _, _, u, h3, h4, h5, h6, h7⟩ := RowOf.at h hi
  exact ⟨b, o, c, u, h1, h2, h3, h4, h5, h6, h7⟩
theorem CM.at {w : World} {n : Nat} {v : Value} {l : List Cx} (h : CM w (n + 1) v l) {i : Nat} {x : Cx} (hi : l[i]? = some x) : ∃ b o c u, v = .slice (some ⟨b, o, none⟩) l.length c ∧ b < w.heap.size ∧ w.cell? ⟨b, o + i * 1, none⟩ = some u ∧ PsM w n u x := by
  obtain ⟨b, o, c, h1, h2, _, _, u, h3, h4⟩ := RowOf.at h hi
  exact ⟨b, o, c, u, h1, h2, h3, h4⟩
/-- The state of a loop that asks one by one. -/
def RelAI {α : Type} (f : Nat → α → Bool) (l : List α) (w : World) (i : Value) (wr : World) : Prop := ∃ k : Nat, i = .int .i64 k ∧ k ≤ l.length ∧ Hid (Below w.heap.size w wr ∧ ∀ j y, j < k → l[j]? = some y → f j y = true)
theorem RelAI.mk {α : Type} {f : Nat → α → Bool} {l : List α} {w : World} {i : Value} {wr : World} (k : Nat) (h1 : i = .int .i64 k) (h2 : k ≤ l.length) (h3 : Below w.heap.size w wr) (h4 : ∀ j y, j < k → l[j]? = some y → f j y = true) : RelAI f l w i wr := ⟨k, h1, h2, h3, h4⟩
theorem cpF_first {left : Nat} {r : List Cx → Bool} {j : Nat} {s : Sl} (hj : ¬ j = 0) (h : s.k = 1 ∨ s.k = 2) : cpF left r j s = false := by
  unfold cpF
  rw [show (j == 0) = false by simpa using hj, show ((s.k == 1) || (s.k == 2)) = true by simpa using h]
  rfl
theorem cpF_slM {left : Nat} {r : List Cx → Bool} {j : Nat} {s : Sl} (h : j = 0 ∨ (s.k ≠ 1 ∧ s.k ≠ 2)) : cpF left r j s = slM left r s := by
  unfold cpF
  rcases h with rfl | ⟨h1, h2⟩
  · rfl
  · rw [show (s.k == 1) = false by simpa using h1, show (s.k == 2) = false by simpa using h2]; simp
theorem bxk_8 {w : World} {b : Nat} {u0 u1 u2 u3 u4 u5 u6 u7 : Value} {T : TypeId} (h : w.heap[b]? = some (.cells #[u0, u1, u2, u3, u4, u5, u6, u7] T)) : w.cell? ⟨b, 0, none⟩ = some u0 ∧ w.cell? ⟨b, 1, none⟩ = some u1 ∧ w.cell? ⟨b, 2, none⟩ = some u2 ∧ w.cell? ⟨b, 3, none⟩ = some u3 ∧ w.cell? ⟨b, 4, none⟩ = some u4 ∧ w.cell? ⟨b, 5, none⟩ = some u5 ∧ w.cell? ⟨b, 6, none⟩ = some u6 ∧ w.cell? ⟨b, 7, none⟩ = some u7 :=
  ⟨by rw [row_blk h]; rfl, by rw [row_blk h]; rfl, by rw [row_blk h]; rfl, by rw [row_blk h]; rfl, by rw [row_blk h]; rfl, by rw [row_blk h]; rfl, by rw [row_blk h]; rfl, by rw [row_blk h]; rfl⟩
set_option maxRecDepth 100000 in
set_option maxHeartbeats 4000000 in
theorem compoundMay9_any (n left : Nat) (l : List Sl) (v : Value) (w : World) (d : Int) (hd : d = 66 - (left : Int)) (hl1 : 1 ≤ left) (hl2 : left ≤ 65) (hv : SsM w n v l) (hK : KT w) (hT : Tabs w) (IH : ListMay n) :
    Calls Tryz.prog 85 #[v, .int .i64 d] w fun e w' => e = .returned (.bool (cpM left (lsM (left - 1)) l)) ∧ Below w.heap.size w w' := by
  obtain ⟨a, c, rfl, h9⟩ := hv.shape
  have HV := hide hv
  have CS := hide (fun (s : Sl) (u : Value) (W : World) (hW : Below w.heap.size w W) (hu : CM w n u s.ls) (ok : SlOk s) => simpleMay9_any n left s u W d hd hl1 hl2 (hu.low hW) ok (hK.below hW) (hT.below hW) IH)
  clear hv hK hT IH hd hl1 hl2
  go_enter Tryz.func85, Tryz.ntmps85
  go_wp2
  go_loopw [9] (fun i wr => RelAI (cpF left (lsM (left - 1))) l w i wr) (fun i _ => l.length - (intOf i).toNat)
  case atStart => exact .mk 0 rfl (by omega) (Below.refl _ _) (fun j y hj => by omega)
  case round =>
    obtain ⟨k, rfl, hk, R⟩ := hrel
    by_cases hlt : k < l.length
    · obtain ⟨s, hs⟩ : ∃ s, l[k]? = some s := ⟨_, List.getElem?_eq_getElem hlt⟩
      obtain ⟨b, o, c', u, hv', hb, ⟨e0, e1, e2, e3, e4, e5, e6, e7⟩, hu, ok⟩ := HV.out.at hs
      obtain ⟨rfl, rfl⟩ : a = some ⟨b, o, none⟩ ∧ c = c' := by cases hv'; exact ⟨rfl, rfl⟩
      have BE := hide R.out.1
      have hlt' : (k : Int) < l.length := by omega
      have f0 := (BE.out.cell (p := ⟨b, o + k * 8, none⟩) hb).trans e0
      have f1 := (BE.out.cell (p := ⟨b, o + k * 8 + 1, none⟩) hb).trans e1
      have f2 := (BE.out.cell (p := ⟨b, o + k * 8 + 2, none⟩) hb).trans e2
      have f3 := (BE.out.cell (p := ⟨b, o + k * 8 + 3, none⟩) hb).trans e3
      have f4 := (BE.out.cell (p := ⟨b, o + k * 8 + 4, none⟩) hb).trans e4
      have f5 := (BE.out.cell (p := ⟨b, o + k * 8 + 5, none⟩) hb).trans e5
      have f6 := (BE.out.cell (p := ⟨b, o + k * 8 + 6, none⟩) hb).trans e6
      have f7 := (BE.out.cell (p := ⟨b, o + k * 8 + 7, none⟩) hb).trans e7
      have hbw : b < wr.heap.size := by have := BE.out.size; omega
      have nb : b ≠ wr.heap.size := by omega
      have NO := hide (fun (h : cpF left (lsM (left - 1)) k s = false) => show cpM left (lsM (left - 1)) l = false by unfold cpM; rw [allI_no hs h]; simp)
      have YES := hide (fun (h : cpF left (lsM (left - 1)) k s = true) => allI_snoc R.out.2 hs h)
      have KF1 := hide (@cpF_first left (lsM (left - 1)) k s)
      have KF2 := hide (@cpF_slM left (lsM (left - 1)) k s)
      rw [slM_two] at KF2
      have CS1 := hide (fun (W : World) (hW : Below w.heap.size w W) => CS.out s u W hW hu ok)
      obtain ⟨ua, uc, hus, _⟩ := hu.shape
      have CO := hide (fun (W : World) => oif_any s.k s.op s.a s.b s.nm s.vl s.fo ua s.ls.length uc W)
      clear e0 e1 e2 e3 e4 e5 e6 e7 hv' hs hu ok R
      have BB := hide (bplus BE.out (.cells #[.int .i64 s.k, .string s.nm, .int .i64 s.op, .string s.vl, .bool s.fo, u, .int .i64 s.a, .int .i64 s.b] 69))
      have BX := hide (show (wr.alloc (.cells #[.int .i64 s.k, .string s.nm, .int .i64 s.op, .string s.vl, .bool s.fo, u, .int .i64 s.a, .int .i64 s.b] 69)).heap[wr.heap.size]? = some (.cells #[.int .i64 s.k, .string s.nm, .int .i64 s.op, .string s.vl, .bool s.fo, u, .int .i64 s.a, .int .i64 s.b] 69) from heap_alloc_new wr _)
      unfold Sl.v at CS1
      unfold slV at CS1 CO
      subst hus
      generalize cpF left (lsM (left - 1)) k s = RF at NO YES KF1 KF2
      generalize smB left (lsM (left - 1)) s = RS at CS1 KF2
      generalize oifB s.k s.op s.a s.b s.nm s.vl s.fo s.ls.length = RO at CO KF2
      generalize s.ls.length = ln at CS1 CO f5 BB BX
      obtain ⟨sk, op, sa, sb, nm, vl, fo, ls⟩ := s
      simp only [Sl.k, Sl.op, Sl.a, Sl.b, Sl.nm, Sl.vl, Sl.fo, Sl.ls] at *
      by_cases hf : ¬ k = 0 ∧ (sk = 1 ∨ sk = 2)
      · have F := hide (NO.out (KF1.out hf.1 hf.2))
        have hk0 : (0 : Int) < (k : Int) := by omega
        have hk0' : 0 < k := by omega
        obtain ⟨_, hsk⟩ := hf
        clear NO YES KF1 KF2 CS1 CO
        rcases hsk with rfl | rfl
        all_goals
          go_wp2
          go_ret
          exact ⟨ret_bool F.out.symm, BB.out⟩
      · have hf' : k = 0 ∨ (sk ≠ 1 ∧ sk ≠ 2) := by omega
        have KF := hide (KF2.out hf')
        clear KF1 KF2 hf
        cases RO with
        | false =>
          have F := hide (NO.out (by rw [KF.out]; rfl))
          clear NO YES KF CS1
          rcases hf' with h0 | ⟨h1, h2⟩
          · have z1 : decide (0 < k) = false := by simp; omega
            have z2 : ¬ (0 : Int) < (k : Int) := by omega
            clear h0
            go_wp2_with (go_at_call 112; refine (CO.out _).mono ?_; rintro e w1 ⟨rfl, B1⟩; replace BB := hide (bto BB.out B1); clear B1)
            go_ret
            exact ⟨ret_bool F.out.symm, BB.out⟩
          · have g1 : (sk == 1) = false := by simpa using h1
            have g2 : (sk == 2) = false := by simpa using h2
            go_wp2_with (go_at_call 112; refine (CO.out _).mono ?_; rintro e w1 ⟨rfl, B1⟩; replace BB := hide (bto BB.out B1); clear B1)
            all_goals
              go_ret
              exact ⟨ret_bool F.out.symm, BB.out⟩
        | true =>
          cases RS with
          | false =>
            have F := hide (NO.out (by rw [KF.out]; rfl))
            clear NO YES KF
            rcases hf' with h0 | ⟨h1, h2⟩
            · have z1 : decide (0 < k) = false := by simp; omega
              have z2 : ¬ (0 : Int) < (k : Int) := by omega
              clear h0
              go_wp2_with (first
                | (go_at_call 112; refine (CO.out _).mono ?_; rintro e w1 ⟨rfl, B1⟩; replace BX := hide ((B1.block _ (Array.getElem?_eq_some_iff.1 BX.out).1).trans BX.out); replace BB := hide (bto BB.out B1); obtain ⟨x0, x1, x2, x3, x4, x5, x6, x7⟩ := bxk_8 BX.out; clear B1)
                | (go_at_call 113; refine (CS1.out _ BB.out).mono ?_; rintro e w2 ⟨rfl, B2⟩; replace BB := hide (bto BB.out B2); clear B2))
              go_ret
              exact ⟨ret_bool F.out.symm, BB.out⟩
            · have g1 : (sk == 1) = false := by simpa using h1
              have g2 : (sk == 2) = false := by simpa using h2
              go_wp2_with (first
                | (go_at_call 112; refine (CO.out _).mono ?_; rintro e w1 ⟨rfl, B1⟩; replace BX := hide ((B1.block _ (Array.getElem?_eq_some_iff.1 BX.out).1).trans BX.out); replace BB := hide (bto BB.out B1); obtain ⟨x0, x1, x2, x3, x4, x5, x6, x7⟩ := bxk_8 BX.out; clear B1)
                | (go_at_call 113; refine (CS1.out _ BB.out).mono ?_; rintro e w2 ⟨rfl, B2⟩; replace BB := hide (bto BB.out B2); clear B2))
              all_goals
                go_ret
                exact ⟨ret_bool F.out.symm, BB.out⟩
          | true =>
            have Y := hide (YES.out (by rw [KF.out]; rfl))
            clear NO YES KF
            rcases hf' with h0 | ⟨h1, h2⟩
            · have z1 : decide (0 < k) = false := by simp; omega
              have z2 : ¬ (0 : Int) < (k : Int) := by omega
              clear h0
              go_wp2_with (first
                | (go_at_call 112; refine (CO.out _).mono ?_; rintro e w1 ⟨rfl, B1⟩; replace BX := hide ((B1.block _ (Array.getElem?_eq_some_iff.1 BX.out).1).trans BX.out); replace BB := hide (bto BB.out B1); obtain ⟨x0, x1, x2, x3, x4, x5, x6, x7⟩ := bxk_8 BX.out; clear B1)
                | (go_at_call 113; refine (CS1.out _ BB.out).mono ?_; rintro e w2 ⟨rfl, B2⟩; replace BB := hide (bto BB.out B2); clear B2))
              go_roundw
              case rel => exact .mk (k + 1) (by go_num) (by omega) BB.out Y.out
              case measure => simp [intOf]; omega
            · have g1 : (sk == 1) = false := by simpa using h1
              have g2 : (sk == 2) = false := by simpa using h2
              go_wp2_with (first
                | (go_at_call 112; refine (CO.out _).mono ?_; rintro e w1 ⟨rfl, B1⟩; replace BX := hide ((B1.block _ (Array.getElem?_eq_some_iff.1 BX.out).1).trans BX.out); replace BB := hide (bto BB.out B1); obtain ⟨x0, x1, x2, x3, x4, x5, x6, x7⟩ := bxk_8 BX.out; clear B1)
                | (go_at_call 113; refine (CS1.out _ BB.out).mono ?_; rintro e w2 ⟨rfl, B2⟩; replace BB := hide (bto BB.out B2); clear B2))
              all_goals
                go_roundw
                case rel => exact .mk (k + 1) (by go_num) (by omega) BB.out Y.out
                case measure => simp [intOf]; omega
    · have hlt' : ¬ (k : Int) < l.length := by omega
      have F := hide (show cpM left (lsM (left - 1)) l = decide (0 < l.length) by
        unfold cpM
        rw [allI_end R.out.2 (by omega)]
        cases l <;> simp)
      have BE := hide R.out.1
      clear R
      go_wp2
      go_ret
      exact ⟨ret_bool (by rw [F.out]), BE.out⟩
end Go.Proofs.YtmkbjcoagfnegaaGreatDoor
set_option linter.unusedVariables false
set_option linter.unusedSimpArgs false
namespace Go.Proofs.YtmkbjcoagfnegaaGreatDoor
open Go.RowKit

theorem bxk_2 {w : World} {b : Nat} {u0 u1 : Value} {T : TypeId} (h : w.heap[b]? = some (.cells #[u0, u1] T)) : w.cell? ⟨b, 0, none⟩ = some u0 ∧ w.cell? ⟨b, 1, none⟩ = some u1 :=
  ⟨by rw [row_blk h]; rfl, by rw [row_blk h]; rfl⟩
theorem bxk_1 {w : World} {b : Nat} {u0 : Value} {T : TypeId} (h : w.heap[b]? = some (.cells #[u0] T)) : w.cell? ⟨b, 0, none⟩ = some u0 := by rw [row_blk h]; rfl
set_option maxRecDepth 100000 in
set_option maxHeartbeats 4000000 in
theorem complexMay9_any (n left : Nat) (l : Cx) (v : Value) (w : World) (d : Int) (hd : d = 66 - (left : Int)) (hl1 : 1 ≤ left) (hl2 : left ≤ 65) (hv : PsM w n v l) (hK : KT w) (hT : Tabs w) (IH : ListMay n) :
    Calls Tryz.prog 56 #[.agg #[v], .int .i64 d] w fun e w' => e = .returned (.bool (cxM left (lsM (left - 1)) l)) ∧ Below w.heap.size w w' := by
  obtain ⟨a, c, rfl, h9⟩ := hv.shape
  have HV := hide hv
  have CS := hide (fun (s : List Sl) (u : Value) (W : World) (hW : Below w.heap.size w W) (hu : SsM w n u s) => compoundMay9_any n left s u W d hd hl1 hl2 (hu.low hW) (hK.below hW) (hT.below hW) IH)
  clear hv hK hT IH hd hl1 hl2
  obtain ⟨W0, hW0⟩ : ∃ W0, w.alloc (.cells #[.slice a l.length c] 40) = W0 := ⟨_, rfl⟩
  have HW0 := hide hW0
  have B0 := hide (show Below w.heap.size w W0 by rw [← hW0]; exact bplus (Below.refl _ _) _)
  have P0 := hide (show W0.heap[w.heap.size]? = some (.cells #[.slice a l.length c] 40) by rw [← hW0]; exact heap_alloc_new w _)
  have hs0 : W0.heap.size = w.heap.size + 1 := by rw [← hW0]; simp
  have p0 := bxk_1 P0.out
  clear hW0
  go_enter Tryz.func56, Tryz.ntmps56
  go_wp2_with fail
  rw [HW0.out]
  go_wp2
  go_loopw [10] (fun i wr => RelAI (cxF left (lsM (left - 1))) l W0 i wr) (fun i _ => l.length - (intOf i).toNat)
  case atStart => exact .mk 0 rfl (by omega) (Below.refl _ _) (fun j y hj => by omega)
  case round =>
    obtain ⟨k, rfl, hk, R⟩ := hrel
    have BE := hide R.out.1
    have hsz := BE.out.size
    by_cases hlt : k < l.length
    · obtain ⟨s, hs⟩ : ∃ s, l[k]? = some s := ⟨_, List.getElem?_eq_getElem hlt⟩
      obtain ⟨b, o, c', u, hv', hb, e0, e1, hu, _, _⟩ := HV.out.at hs
      obtain ⟨rfl, rfl⟩ : a = some ⟨b, o, none⟩ ∧ c = c' := by cases hv'; exact ⟨rfl, rfl⟩
      have hlt' : (k : Int) < l.length := by omega
      have BW := hide (B0.out.trans (BE.out.mono (by omega)))
      have f0 := (BW.out.cell (p := ⟨b, o + k * 2, none⟩) hb).trans e0
      have f1 := (BW.out.cell (p := ⟨b, o + k * 2 + 1, none⟩) hb).trans e1
      have hbw : b < wr.heap.size := by omega
      have nb : b ≠ wr.heap.size := by omega
      have NO := hide (fun (h : cxF left (lsM (left - 1)) k s = false) => show cxM left (lsM (left - 1)) l = false by unfold cxM; rw [allI_no hs h]; simp)
      have YES := hide (fun (h : cxF left (lsM (left - 1)) k s = true) => allI_snoc R.out.2 hs h)
      have KF := hide (show cxF left (lsM (left - 1)) k s = (coB k s.1 && cpM left (lsM (left - 1)) s.2) from rfl)
      have CS1 := hide (fun (W : World) (hW : Below w.heap.size w W) => CS.out s.2 u W hW hu)
      have CC := hide (fun (W : World) => combMay9_any s.1 k W)
      obtain ⟨ua, uc, hus, _⟩ := hu.shape
      clear e0 e1 hv' hs hu R
      have BB := hide (bplus BW.out (.cells #[.int .i64 s.1, u] 67))
      have BX := hide (show (wr.alloc (.cells #[.int .i64 s.1, u] 67)).heap[wr.heap.size]? = some (.cells #[.int .i64 s.1, u] 67) from heap_alloc_new wr _)
      have BE2 := hide (bplus BE.out (.cells #[.int .i64 s.1, u] 67))
      subst hus
      generalize cxF left (lsM (left - 1)) k s = RF at NO YES KF
      generalize cpM left (lsM (left - 1)) s.2 = RS at CS1 KF
      generalize coB k s.1 = RO at CC KF
      have hkk : ((k : Int) == 0) = (k == 0) := by rw [Bool.eq_iff_iff]; simp
      rw [← hkk] at CC
      clear hkk
      generalize s.2.length = ln at CS1 f1 BB BX BE2
      obtain ⟨cm, ss⟩ := s
      simp only at *
      cases RO with
      | false =>
        have F := hide (NO.out (by rw [KF.out]; rfl))
        clear NO YES KF CS1
        go_wp2_with (go_at_call 84; refine (CC.out _).mono ?_; rintro e w1 ⟨rfl, rfl⟩)
        all_goals
          go_ret
          exact ⟨ret_bool F.out.symm, BB.out⟩
      | true =>
        cases RS with
        | false =>
          have F := hide (NO.out (by rw [KF.out]; rfl))
          clear NO YES KF
          go_wp2_with (first
            | (go_at_call 84; refine (CC.out _).mono ?_; rintro e w1 ⟨rfl, rfl⟩)
            | (go_at_call 85; refine (CS1.out _ BB.out).mono ?_; rintro e w2 ⟨rfl, B2⟩; replace BB := hide (bto BB.out B2); clear B2))
          go_ret
          exact ⟨ret_bool F.out.symm, BB.out⟩
        | true =>
          have Y := hide (YES.out (by rw [KF.out]; rfl))
          clear NO YES KF
          go_wp2_with (first
            | (go_at_call 84; refine (CC.out _).mono ?_; rintro e w1 ⟨rfl, rfl⟩)
            | (go_at_call 85; refine (CS1.out _ BB.out).mono ?_; rintro e w2 ⟨rfl, B2⟩; replace BE2 := hide (bto BE2.out B2); clear B2))
          go_roundw
          case rel => exact .mk (k + 1) (by go_num) (by omega) BE2.out Y.out
          case measure => simp [intOf]; omega
    · have hlt' : ¬ (k : Int) < l.length := by omega
      have F := hide (show cxM left (lsM (left - 1)) l = decide (0 < l.length) by
        unfold cxM
        rw [allI_end R.out.2 (by omega)]
        cases l <;> simp)
      have q0 := (BE.out.cell (p := ⟨w.heap.size, 0, none⟩) (by show w.heap.size < _; omega)).trans p0
      have BW := hide (B0.out.trans (BE.out.mono (by omega)))
      clear R
      go_wp2
      go_ret
      exact ⟨ret_bool (by rw [F.out]), BW.out⟩
set_option maxRecDepth 100000 in
set_option maxHeartbeats 4000000 in
theorem listMay9_any (n : Nat) : ListMay n := by
  induction n with
  | zero =>
    intro left l v W hl hv hK hT
    obtain ⟨rfl, a, c, rfl⟩ := hv
    have E := hide (show lsM left [] = false by cases left <;> rfl)
    go_enter Tryz.func34, Tryz.ntmps34
    go_wp2
    go_ret
    exact ⟨ret_bool E.out.symm, Below.refl _ _⟩
  | succ n ih =>
    intro left l v w hl hv hK hT
    obtain ⟨a, c, rfl, h9⟩ := hv.shape
    cases left with
    | zero =>
      have E := hide (show lsM 0 l = false from rfl)
      have h65 : (65 : Int) < 66 - ((0 : Nat) : Int) := by omega
      clear hv ih hK hT
      by_cases hl0 : l.length = 0
      · rw [hl0]
        go_enter Tryz.func34, Tryz.ntmps34
        go_wp2
        go_ret
        exact ⟨ret_bool E.out.symm, Below.refl _ _⟩
      · have g0 : ((l.length : Int) == 0) = false := by rw [beq_eq_false_iff_ne]; omega
        generalize l.length = ln at g0 h9 hl0 ⊢
        go_enter Tryz.func34, Tryz.ntmps34
        go_wp2
        all_goals
          go_ret
          exact ⟨ret_bool E.out.symm, Below.refl _ _⟩
    | succ left =>
      obtain ⟨d, hd⟩ : ∃ d : Int, d = 66 - ((left + 1 : Nat) : Int) := ⟨_, rfl⟩
      have HV := hide hv
      have CS := hide (fun (s : Cx) (u : Value) (W : World) (hW : Below w.heap.size w W) (hu : PsM w n u s) => complexMay9_any n (left + 1) s u W d hd (by omega) hl (hu.low hW) (hK.below hW) (hT.below hW) ih)
      have hd1 : 1 ≤ d := by omega
      have hd2 : d ≤ 65 := by omega
      rw [← hd]
      simp only [Nat.add_sub_cancel] at CS
      clear hv hK hT ih hd
      by_cases hl0 : l.length = 0
      · obtain rfl : l = [] := List.eq_nil_of_length_eq_zero hl0
        have E := hide (show lsM (left + 1) [] = false from rfl)
        clear CS HV
        go_enter Tryz.func34, Tryz.ntmps34
        go_wp2
        go_ret
        exact ⟨ret_bool E.out.symm, Below.refl _ _⟩
      · have g0 : ((l.length : Int) == 0) = false := by rw [beq_eq_false_iff_ne]; omega
        have g1 : ¬ (l.length : Int) = 0 := by omega
        go_enter Tryz.func34, Tryz.ntmps34
        go_wp2
        go_loopw [16] (fun i wr => RelAI (fun _ c => cxM (left + 1) (lsM left) c) l w i wr) (fun i _ => l.length - (intOf i).toNat)
        case atStart => exact .mk 0 rfl (by omega) (Below.refl _ _) (fun j y hj => by omega)
        case round =>
          obtain ⟨k, rfl, hk, R⟩ := hrel
          have BE := hide R.out.1
          by_cases hlt : k < l.length
          · obtain ⟨s, hs⟩ : ∃ s, l[k]? = some s := ⟨_, List.getElem?_eq_getElem hlt⟩
            obtain ⟨b, o, c', u, hv', hb, e0, hu⟩ := HV.out.at hs
            obtain ⟨rfl, rfl⟩ : a = some ⟨b, o, none⟩ ∧ c = c' := by cases hv'; exact ⟨rfl, rfl⟩
            have hlt' : (k : Int) < l.length := by omega
            have f0 := (BE.out.cell (p := ⟨b, o + k * 1, none⟩) hb).trans e0
            rw [Nat.mul_one] at f0
            have hbw : b < wr.heap.size := by have := BE.out.size; omega
            have nb : b ≠ wr.heap.size := by omega
            have NO := hide (fun (h : cxM (left + 1) (lsM left) s = false) => show lsM (left + 1) l = false by unfold lsM; rw [allI_no hs h]; simp)
            have YES := hide (fun (h : cxM (left + 1) (lsM left) s = true) => allI_snoc (f := fun _ c => cxM (left + 1) (lsM left) c) R.out.2 hs h)
            have CS1 := hide (fun (W : World) (hW : Below w.heap.size w W) => CS.out s u W hW hu)
            obtain ⟨ua, uc, hus, _⟩ := hu.shape
            clear e0 hv' hs hu R
            have BB := hide (bplus BE.out (.cells #[u] 40))
            subst hus
            generalize cxM (left + 1) (lsM left) s = RS at CS1 NO YES
            generalize s.length = ln at CS1 f0 BB
            cases RS with
            | false =>
              have F := hide (NO.out rfl)
              clear NO YES
              go_wp2_with (go_at_call 56; refine (CS1.out _ BB.out).mono ?_; rintro e w2 ⟨rfl, B2⟩; replace BB := hide (bto BB.out B2); clear B2)
              go_ret
              exact ⟨ret_bool F.out.symm, BB.out⟩
            | true =>
              have Y := hide (YES.out rfl)
              clear NO YES
              go_wp2_with (go_at_call 56; refine (CS1.out _ BB.out).mono ?_; rintro e w2 ⟨rfl, B2⟩; replace BB := hide (bto BB.out B2); clear B2)
              go_roundw
              case rel => exact .mk (k + 1) (by go_num) (by omega) BB.out Y.out
              case measure => simp [intOf]; omega
          · have hlt' : ¬ (k : Int) < l.length := by omega
            have F := hide (show lsM (left + 1) l = true by
              unfold lsM
              rw [allI_end R.out.2 (by omega)]
              cases l with
              | nil => simp at hl0
              | cons x r => rfl)
            clear R
            go_wp2
            go_ret
            exact ⟨ret_bool F.out.symm, BE.out⟩
theorem may9_any (n : Nat) (l : List Cx) (v : Value) (w : World) (hv : CM w n v l) (hK : KT w) (hT : Tabs w) :
    Calls Tryz.prog 15 #[v] w fun e w' => e = .returned (.bool (lsM 65 l)) ∧ Below w.heap.size w w' := by
  have C := hide (listMay9_any n 65 l v w (Nat.le_refl _) hv hK hT)
  rw [show (66 : Int) - ((65 : Nat) : Int) = 1 by decide] at C
  clear hv hK hT
  go_enter Tryz.func15, Tryz.ntmps15
  go_wp2_with (go_at_call 34; refine C.out.mono ?_; rintro e w1 ⟨rfl, B⟩; replace B := hide B)
  go_ret
  exact ⟨rfl, B.out⟩
end Go.Proofs.YtmkbjcoagfnegaaGreatDoor

