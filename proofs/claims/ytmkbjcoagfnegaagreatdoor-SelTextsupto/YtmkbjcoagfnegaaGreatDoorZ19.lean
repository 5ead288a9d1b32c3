/-
  The texts of selectors: plain; what hangs on a number alone, by the program.
  An identifier's, a string's, a step's text: by the program.
  An attribute selector, written by the program.
  A simple selector, written by the program.
-/
import Derived.Test.YtmkbjcoagfnegaaGreatDoorZ15
import Derived.Test.YtmkbjcoagfnegaaGreatDoorZ18
import Derived.Test.YtmkbjcoagfnegaaGreatDoorShelfI
import Derived.Deep.RegionWith
set_option linter.unusedVariables false
set_option linter.unusedSimpArgs false
namespace Go.Proofs.YtmkbjcoagfnegaaGreatDoor
open Go.RowKit Go.Shelf

def coS (k : Int) : ByteArray := if k = 1 then ⟨#[32]⟩ else if k = 2 then ⟨#[32, 62, 32]⟩ else if k = 3 then ⟨#[32, 43, 32]⟩ else if k = 4 then ⟨#[32, 126, 32]⟩ else ⟨#[]⟩
def opS (k : Int) : ByteArray := if k = 2 then ⟨#[126, 61]⟩ else if k = 3 then ⟨#[124, 61]⟩ else if k = 4 then ⟨#[94, 61]⟩ else if k = 5 then ⟨#[36, 61]⟩ else if k = 6 then ⟨#[42, 61]⟩ else ⟨#[61]⟩
def frS (k : Int) : ByteArray := if k = 1 then ⟨#[42]⟩ else if k = 3 then ⟨#[46]⟩ else if k = 4 then ⟨#[35]⟩ else if k = 5 then ⟨#[91]⟩ else if k = 6 then ⟨#[58, 110, 111, 116, 40]⟩ else if k = 7 then ⟨#[58, 105, 115, 40]⟩ else if k = 8 then ⟨#[58, 119, 104, 101, 114, 101, 40]⟩ else if k = 9 then ⟨#[58, 114, 111, 111, 116]⟩ else if k = 10 then ⟨#[58, 101, 109, 112, 116, 121]⟩ else if k = 11 then ⟨#[58, 102, 105, 114, 115, 116, 45, 99, 104, 105, 108, 100]⟩ else if k = 12 then ⟨#[58, 108, 97, 115, 116, 45, 99, 104, 105, 108, 100]⟩ else if k = 13 then ⟨#[58, 111, 110, 108, 121, 45, 99, 104, 105, 108, 100]⟩ else if k = 14 then ⟨#[58, 110, 116, 104, 45, 99, 104, 105, 108, 100, 40]⟩ else if k = 15 then ⟨#[58, 110, 116, 104, 45, 108, 97, 115, 116, 45, 99, 104, 105, 108, 100, 40]⟩ else ⟨#[]⟩
def itT (n : Int) : List Int := bl ⟨(Lib.itoa n).toArray⟩
def stT (a b : Int) : List Int := if a = 0 then itT b else (itT a ++ [110]) ++ ((if 0 < b then [43] else []) ++ (if b = 0 then [] else itT b))
def quT (s : ByteArray) : List Int := 34 :: (qtR (bl s) 0 ++ [34])
def atT (s : Sl) : List Int := wId (bl s.nm) ++ (if s.op = 0 then [] else bl (opS s.op) ++ (quT s.vl ++ (if s.fo = true then [32, 105] else [])))
/-- What follows a simple selector's front. -/
def slB (r : List Cx → List Int) (s : Sl) : List Int :=
  if s.k = 2 ∨ s.k = 3 ∨ s.k = 4 then wId (bl s.nm) else if s.k = 5 then atT s ++ [93] else if s.k = 6 ∨ s.k = 7 ∨ s.k = 8 then r s.ls ++ [41] else if s.k = 14 ∨ s.k = 15 then stT s.a s.b ++ [41] else []
def slT (r : List Cx → List Int) (s : Sl) : List Int := bl (frS s.k) ++ slB r s
def ssT (r : List Cx → List Int) (ss : List Sl) : List Int := ss.flatMap (slT r)
def cpT (r : List Cx → List Int) (p : Cp) : List Int := bl (coS p.1) ++ ssT r p.2
def cxT (r : List Cx → List Int) (c : Cx) : List Int := c.flatMap (cpT r)
/-- One behind the other, with a comma between. -/
def joT {α : Type} (f : α → List Int) : List α → List Int
  | [] => []
  | x :: l => f x ++ l.flatMap fun y => [44, 32] ++ f y
def lsT : Nat → List Cx → List Int
  | 0, _ => []
  | n + 1, l => joT (cxT (lsT n)) l
theorem fm_take {α : Type} {f : α → List Int} {l : List α} {k : Nat} {x : α} (h : l[k]? = some x) : (l.take (k + 1)).flatMap f = (l.take k).flatMap f ++ f x := by
  obtain ⟨hk, rfl⟩ := List.getElem?_eq_some_iff.1 h
  rw [List.take_succ_eq_append_getElem hk, List.flatMap_append]
  simp
theorem joT_take {α : Type} {f : α → List Int} {l : List α} {k : Nat} {x : α} (h : l[k]? = some x) : joT f (l.take (k + 1)) = joT f (l.take k) ++ (if k = 0 then f x else [44, 32] ++ f x) := by
  cases l with
  | nil => cases h
  | cons y l =>
    cases k with
    | zero =>
      obtain rfl : y = x := by simpa using h
      simp [joT]
    | succ k =>
      have h' : l[k]? = some x := by simpa using h
      rw [if_neg (by omega)]
      show f y ++ (l.take (k + 1)).flatMap _ = (f y ++ (l.take k).flatMap _) ++ ([44, 32] ++ f x)
      rw [fm_take h', List.append_assoc]
theorem fm_le {α : Type} {f : α → List Int} {l : List α} {k : Nat} : ((l.take k).flatMap f).length ≤ (l.flatMap f).length := by
  conv => rhs; rw [← List.take_append_drop k l]
  rw [List.flatMap_append, List.length_append]
  omega
theorem joT_le {α : Type} {f : α → List Int} {l : List α} {k : Nat} : (joT f (l.take k)).length ≤ (joT f l).length := by
  cases l with
  | nil => simp
  | cons y l =>
    cases k with
    | zero => simp [joT]
    | succ k =>
      show (f y ++ (l.take k).flatMap _).length ≤ (f y ++ l.flatMap _).length
      rw [List.length_append, List.length_append]
      have := @fm_le α (fun y => [44, 32] ++ f y) l k
      omega
set_option maxRecDepth 100000 in
set_option maxHeartbeats 4000000 in
theorem combText_any (k : Int) (w : World) : Calls Tryz.prog 88 #[.int .i64 k] w fun e w' => e = .returned (.string (coS k)) ∧ w' = w := by
  by_cases h : k = 1 ∨ k = 2 ∨ k = 3 ∨ k = 4
  · rcases h with rfl | rfl | rfl | rfl
    all_goals
      go_enter Tryz.func88, Tryz.ntmps88
      go_wp2
      go_ret
      exact ⟨rfl, rfl⟩
  · have E := hide (show coS k = _ by unfold coS; rw [if_neg (by omega), if_neg (by omega), if_neg (by omega), if_neg (by omega)])
    have g1 : (k == 1) = false := by simp; omega
    have g2 : (k == 2) = false := by simp; omega
    have g3 : (k == 3) = false := by simp; omega
    have g4 : (k == 4) = false := by simp; omega
    clear h
    go_enter Tryz.func88, Tryz.ntmps88
    go_wp2
    go_ret
    exact ⟨by rw [E.out]; rfl, rfl⟩
set_option maxRecDepth 100000 in
set_option maxHeartbeats 4000000 in
theorem opText_any (k : Int) (w : World) : Calls Tryz.prog 148 #[.int .i64 k] w fun e w' => e = .returned (.string (opS k)) ∧ w' = w := by
  by_cases h : k = 2 ∨ k = 3 ∨ k = 4 ∨ k = 5 ∨ k = 6
  · rcases h with rfl | rfl | rfl | rfl | rfl
    all_goals
      go_enter Tryz.func148, Tryz.ntmps148
      go_wp2
      go_ret
      exact ⟨rfl, rfl⟩
  · have E := hide (show opS k = _ by unfold opS; rw [if_neg (by omega), if_neg (by omega), if_neg (by omega), if_neg (by omega), if_neg (by omega)])
    have g2 : (k == 2) = false := by simp; omega
    have g3 : (k == 3) = false := by simp; omega
    have g4 : (k == 4) = false := by simp; omega
    have g5 : (k == 5) = false := by simp; omega
    have g6 : (k == 6) = false := by simp; omega
    clear h
    go_enter Tryz.func148, Tryz.ntmps148
    go_wp2
    go_ret
    exact ⟨by rw [E.out]; rfl, rfl⟩
set_option maxRecDepth 100000 in
set_option maxHeartbeats 4000000 in
theorem frontText_any (k : Int) (w : World) : Calls Tryz.prog 116 #[.int .i64 k] w fun e w' => e = .returned (.string (frS k)) ∧ w' = w := by
  by_cases h : k = 1 ∨ k = 3 ∨ k = 4 ∨ k = 5 ∨ k = 6 ∨ k = 7 ∨ k = 8 ∨ k = 9 ∨ k = 10 ∨ k = 11 ∨ k = 12 ∨ k = 13 ∨ k = 14 ∨ k = 15
  · rcases h with rfl | rfl | rfl | rfl | rfl | rfl | rfl | rfl | rfl | rfl | rfl | rfl | rfl | rfl
    all_goals
      go_enter Tryz.func116, Tryz.ntmps116
      go_wp2
      go_ret
      exact ⟨rfl, rfl⟩
  · have E := hide (show frS k = _ by unfold frS; rw [if_neg (by omega), if_neg (by omega), if_neg (by omega), if_neg (by omega), if_neg (by omega), if_neg (by omega), if_neg (by omega), if_neg (by omega), if_neg (by omega), if_neg (by omega), if_neg (by omega), if_neg (by omega), if_neg (by omega), if_neg (by omega)])
    have g1 : (k == 1) = false := by simp; omega
    have g3 : (k == 3) = false := by simp; omega
    have g4 : (k == 4) = false := by simp; omega
    have g5 : (k == 5) = false := by simp; omega
    have g6 : (k == 6) = false := by simp; omega
    have g7 : (k == 7) = false := by simp; omega
    have g8 : (k == 8) = false := by simp; omega
    have g9 : (k == 9) = false := by simp; omega
    have g10 : (k == 10) = false := by simp; omega
    have g11 : (k == 11) = false := by simp; omega
    have g12 : (k == 12) = false := by simp; omega
    have g13 : (k == 13) = false := by simp; omega
    have g14 : (k == 14) = false := by simp; omega
    have g15 : (k == 15) = false := by simp; omega
    clear h
    go_enter Tryz.func116, Tryz.ntmps116
    go_wp2
    go_ret
    exact ⟨by rw [E.out]; rfl, rfl⟩
end Go.Proofs.YtmkbjcoagfnegaaGreatDoor
set_option linter.unusedVariables false
set_option linter.unusedSimpArgs false
namespace Go.Proofs.YtmkbjcoagfnegaaGreatDoor
open Go.RowKit Go.Shelf

theorem nmS9_may {s : ByteArray} (h : nmS9 s = true) : (idT s).may = true := by
  rw [may_id]
  unfold nmS9 at h
  rw [Bool.and_eq_true] at h ⊢
  exact ⟨h.2, h.1⟩
set_option maxRecDepth 100000 in
set_option maxHeartbeats 4000000 in
theorem identText_any (s : ByteArray) (w : World) (hs : s.size ≤ 1048576) (hm : nmS9 s = true) (hK : KT w) (hT : Tabs w) : Calls Tryz.prog 117 #[.string s] w fun e w' => ∃ u, e = .returned (.string u) ∧ bl u = wId (bl s) ∧ Below w.heap.size w w' := by
  have C := hide (identS_any s w (by omega) hK hT)
  have HM := hide (nmS9_may hm)
  clear hK hT hm
  go_enter Tryz.func117, Tryz.ntmps117
  go_wp2_with (go_at_call 146; refine C.out.mono ?_; intro e w1 hP; obtain ⟨B1, u, c, rfl, H⟩ := hP.uni; clear hP; replace B1 := hide B1)
  go_ret
  refine ⟨u, rfl, ?_, B1.out⟩
  rcases H.out with ⟨_, _, h⟩ | ⟨⟨t, ht, h⟩, _, _⟩
  · rw [h]; exact spK_one wtI (idT s)
  · rw [List.mem_singleton.1 ht, HM.out] at h; cases h
def wtQ (t : TS) : List Int := quT t.s
theorem txt_may {s : ByteArray} (h : chB (bl s) = true) : (knT 5 s).may = true := by
  unfold TS.may knT
  rw [may_text (.inl rfl), h]
  rfl
theorem flat_by9 {f : Int → List Int} {l : List Int} (h : ∀ x ∈ l, By (f x)) : By (l.flatMap f) := by
  intro y hy
  obtain ⟨x, hx, hy⟩ := List.mem_flatMap.1 hy
  exact h x hx y hy
theorem flat_len9 {f : Int → List Int} {m : Nat} (h : ∀ x, (f x).length ≤ m) (l : List Int) : (l.flatMap f).length ≤ m * l.length := by
  induction l with
  | nil => simp
  | cons a r ih =>
    have := h a
    rw [List.flatMap_cons, List.length_append, List.length_cons, Nat.mul_add]
    omega
theorem qtT_by9 {c : Int} (h : isC c = true) : By (qtT c) := by
  unfold qtT
  split
  · exact by_cons (by omega) (enc1_by h)
  split
  · exact esc_by c
  · exact enc1_by h
theorem nd_le9 (k : Nat) : ∀ u, u < 10 ^ (k + 1) → Lib.nDigits u ≤ k + 1 := by
  induction k with
  | zero => intro u hu; rw [Lib.nDigits_small (by simpa using hu)]; omega
  | succ k ih =>
    intro u hu
    by_cases h : u < 10
    · rw [Lib.nDigits_small h]; omega
    · rw [Lib.nDigits_big h]
      have := ih (u / 10) (by rw [Nat.pow_succ] at hu; omega)
      omega
theorem itoa_len9 (n : Int) (h0 : -9223372036854775808 ≤ n) (h1 : n ≤ 9223372036854775807) : (Lib.itoa n).length ≤ 20 := by
  unfold Lib.itoa
  have e : (10 : Nat) ^ (18 + 1) = 10000000000000000000 := by decide
  split
  · rw [List.length_cons, Lib.decDigits_length]
    have := nd_le9 18 n.natAbs (by omega)
    omega
  · rw [Lib.decDigits_length]
    have := nd_le9 18 n.toNat (by omega)
    omega
theorem itT_len {n : Int} (h0 : -9223372036854775808 ≤ n) (h1 : n ≤ 9223372036854775807) : (itT n).length ≤ 20 := by
  unfold itT
  rw [bl_len]
  exact itoa_len9 n h0 h1
theorem quT_by (s : ByteArray) : By (quT s) := by
  unfold quT qtR
  exact by_cons (by omega) ((flat_by9 fun x hx => qtT_by9 (raw_isC5 _ (bl s) (Nat.le_refl _) (bl_by s) x (by simpa using hx))).app (by_cons (by omega) by_nil))
theorem quT_len (s : ByteArray) : (quT s).length ≤ 6 * s.size + 2 := by
  unfold quT qtR
  rw [List.drop_zero]
  have h1 := flat_len9 qtT_len (raw (bl s))
  have h2 := raw_le (bl s)
  rw [bl_len] at h2
  simp only [List.length_cons, List.length_append, List.length_nil]
  omega
/-- The text of a string, as sel asks spell for it. -/
theorem strTok_any (s : ByteArray) (w : World) (hs : s.size ≤ 1048576) (hm : chB (bl s) = true) (hK : KT w) (hT : Tabs w) : Calls Tryz.prog 147 #[.agg #[.int .i64 5, .string s, .int .i64 0, .int .i64 0, .bool false, .bool false]] w fun e w' => ∃ u, e = .returned (.tuple #[.string u, .int .i64 0]) ∧ bl u = quT s ∧ Below w.heap.size w w' := by
  refine (token_any wtQ (knT 5 s) w ⟨by simp [knT], by simp [knT], by show s.size ≤ _; omega, by simp [knT], by simp [knT], by simp [knT], by simp [knT]⟩ (fun _ => writes_text s (by omega) (ch_whole hm)) (quT_by s) (by show (quT s).length ≤ _; have := quT_len s; omega) hK hT).mono ?_
  intro e w' hP
  obtain ⟨B1, u, c, rfl, H⟩ := hP.uni
  rcases H.out with ⟨_, rfl, h⟩ | ⟨⟨t, ht, h⟩, _, _⟩
  · exact ⟨u, rfl, by rw [h]; exact spK_one wtQ (knT 5 s), B1⟩
  · rw [List.mem_singleton.1 ht, txt_may hm] at h; cases h
theorem itoa_any (n : Int) (w : World) (h0 : -9223372036854775808 ≤ n) (h1 : n ≤ 9223372036854775807) (hT : Tabs w) : Calls Tryz.prog 127 #[.int .i64 n] w fun e w' => e = .returned (.string ⟨(Lib.itoa n).toArray⟩) ∧ Below w.heap.size w w' :=
  (sh_strconv_Itoa n h0 h1 w hT.2).mono fun e w' ⟨h, k, os, hw⟩ => ⟨h, by rw [hw]; exact ⟨rfl, rfl, rfl, by show w.heap.size ≤ (w.heap ++ os).size; rw [Array.size_append]; omega, fun j hj => by show (w.heap ++ os)[j]? = w.heap[j]?; exact Array.getElem?_append_left hj⟩⟩
set_option maxRecDepth 100000 in
set_option maxHeartbeats 4000000 in
theorem stepText_any (a b : Int) (w : World) (a0 : -9223372036854775808 ≤ a) (a1 : a ≤ 9223372036854775807) (b0 : -9223372036854775808 ≤ b) (b1 : b ≤ 9223372036854775807) (hT : Tabs w) : Calls Tryz.prog 119 #[.int .i64 a, .int .i64 b] w fun e w' => ∃ u, e = .returned (.string u) ∧ bl u = stT a b ∧ Below w.heap.size w w' := by
  have CA := hide (fun (W : World) (h : Below w.heap.size w W) => itoa_any a W a0 a1 (hT.below h))
  have CB := hide (fun (W : World) (h : Below w.heap.size w W) => itoa_any b W b0 b1 (hT.below h))
  have la := itoa_len9 a a0 a1
  have lb := itoa_len9 b b0 b1
  have TA := hide (show bl ⟨(Lib.itoa a).toArray⟩ = itT a from rfl)
  have TB := hide (show bl ⟨(Lib.itoa b).toArray⟩ = itT b from rfl)
  have ua : (⟨(Lib.itoa a).toArray⟩ : ByteArray).size ≤ 20 := la
  have ub : (⟨(Lib.itoa b).toArray⟩ : ByteArray).size ≤ 20 := lb
  clear la lb hT a0 a1 b0 b1
  generalize (⟨(Lib.itoa a).toArray⟩ : ByteArray) = sa at *
  generalize (⟨(Lib.itoa b).toArray⟩ : ByteArray) = sb at *
  by_cases ha : a = 0
  · have E := hide (show stT a b = itT b by unfold stT; rw [if_pos ha])
    have ga : (a == 0) = true := by simpa using ha
    clear ha
    go_enter Tryz.func119, Tryz.ntmps119
    go_wp2_with (go_at_call 127; refine (CB.out _ (Below.refl _ _)).mono ?_; rintro e w1 ⟨rfl, B1⟩; replace B1 := hide B1)
    go_ret
    exact ⟨_, rfl, by rw [E.out]; exact TB.out, B1.out⟩
  · have ga : (a == 0) = false := by simpa using ha
    have n1 : ¬ 9223372036854775807 < sa.size + 1 := by omega
    have n2 : ¬ 9223372036854775807 < sa.size + 1 + 1 := by omega
    have n3 : ¬ 9223372036854775807 < sa.size + 1 + 1 + sb.size := by omega
    have n4 : ¬ 9223372036854775807 < sa.size + 1 + sb.size := by omega
    by_cases hb : b = 0
    · have E := hide (show stT a b = itT a ++ [110] by unfold stT; rw [if_neg ha, if_neg (by omega), if_pos hb]; simp)
      have gb : (b == 0) = true := by simpa using hb
      have gc : ¬ 0 < b := by omega
      have gd : decide (0 < b) = false := by simpa using gc
      clear ha hb
      go_enter Tryz.func119, Tryz.ntmps119
      go_wp2_with (go_at_call 127; refine (CA.out _ (Below.refl _ _)).mono ?_; rintro e w1 ⟨rfl, B1⟩; replace B1 := hide B1)
      go_ret
      exact ⟨_, rfl, by rw [E.out, bl_app, TA.out]; rfl, B1.out⟩
    · have gb : (b == 0) = false := by simpa using hb
      by_cases hc : 0 < b
      · have E := hide (show stT a b = ((itT a ++ [110]) ++ [43]) ++ itT b by unfold stT; rw [if_neg ha, if_pos hc, if_neg hb]; simp)
        have gd : decide (0 < b) = true := by simpa using hc
        clear ha hb
        go_enter Tryz.func119, Tryz.ntmps119
        go_wp2_with (first | (go_at_call_of 127 (Value.int IntKind.i64 a); refine (CA.out _ (Below.refl _ _)).mono ?_; rintro e w1 ⟨rfl, B1⟩; replace B1 := hide B1) | (go_at_call 127; refine (CB.out _ B1.out).mono ?_; rintro e w2 ⟨rfl, B2⟩; replace B1 := hide (bto B1.out B2)))
        go_ret
        exact ⟨_, rfl, by rw [E.out, bl_app, bl_app, bl_app, TA.out, TB.out]; rfl, B1.out⟩
      · have E := hide (show stT a b = (itT a ++ [110]) ++ itT b by unfold stT; rw [if_neg ha, if_neg hc, if_neg hb]; simp)
        have gd : decide (0 < b) = false := by simpa using hc
        clear ha hb
        go_enter Tryz.func119, Tryz.ntmps119
        go_wp2_with (first | (go_at_call_of 127 (Value.int IntKind.i64 a); refine (CA.out _ (Below.refl _ _)).mono ?_; rintro e w1 ⟨rfl, B1⟩; replace B1 := hide B1) | (go_at_call 127; refine (CB.out _ B1.out).mono ?_; rintro e w2 ⟨rfl, B2⟩; replace B1 := hide (bto B1.out B2)))
        go_ret
        exact ⟨_, rfl, by rw [E.out, bl_app, bl_app, TA.out, TB.out]; rfl, B1.out⟩
set_option maxRecDepth 100000 in
set_option maxHeartbeats 4000000 in
theorem stepR_any (a b : Int) (w : World) (a0 : -9223372036854775808 ≤ a) (a1 : a ≤ 9223372036854775807) (b0 : -9223372036854775808 ≤ b) (b1 : b ≤ 9223372036854775807) (hT : Tabs w) : Calls Tryz.prog 92 #[.int .i64 a, .int .i64 b] w fun e w' => ∃ u, e = .returned (.string u) ∧ bl u = stT a b ∧ Below w.heap.size w w' := by
  have CA := hide (fun (W : World) (h : Below w.heap.size w W) => itoa_any a W a0 a1 (hT.below h))
  have CB := hide (fun (W : World) (h : Below w.heap.size w W) => itoa_any b W b0 b1 (hT.below h))
  have la := itoa_len9 a a0 a1
  have lb := itoa_len9 b b0 b1
  have TA := hide (show bl ⟨(Lib.itoa a).toArray⟩ = itT a from rfl)
  have TB := hide (show bl ⟨(Lib.itoa b).toArray⟩ = itT b from rfl)
  have ua : (⟨(Lib.itoa a).toArray⟩ : ByteArray).size ≤ 20 := la
  have ub : (⟨(Lib.itoa b).toArray⟩ : ByteArray).size ≤ 20 := lb
  clear la lb hT a0 a1 b0 b1
  generalize (⟨(Lib.itoa a).toArray⟩ : ByteArray) = sa at *
  generalize (⟨(Lib.itoa b).toArray⟩ : ByteArray) = sb at *
  by_cases ha : a = 0
  · have E := hide (show stT a b = itT b by unfold stT; rw [if_pos ha])
    have ga : (a == 0) = true := by simpa using ha
    clear ha
    go_enter Tryz.func92, Tryz.ntmps92
    go_wp2_with (go_at_call 127; refine (CB.out _ (Below.refl _ _)).mono ?_; rintro e w1 ⟨rfl, B1⟩; replace B1 := hide B1)
    go_ret
    exact ⟨_, rfl, by rw [E.out]; exact TB.out, B1.out⟩
  · have ga : (a == 0) = false := by simpa using ha
    have n1 : ¬ 9223372036854775807 < sa.size + 1 := by omega
    have n2 : ¬ 9223372036854775807 < sa.size + 1 + 1 := by omega
    have n3 : ¬ 9223372036854775807 < sa.size + 1 + 1 + sb.size := by omega
    have n4 : ¬ 9223372036854775807 < sa.size + 1 + sb.size := by omega
    by_cases hb : b = 0
    · have E := hide (show stT a b = itT a ++ [110] by unfold stT; rw [if_neg ha, if_neg (by omega), if_pos hb]; simp)
      have gb : (b == 0) = true := by simpa using hb
      have gc : ¬ 0 < b := by omega
      have gd : decide (0 < b) = false := by simpa using gc
      clear ha hb
      go_enter Tryz.func92, Tryz.ntmps92
      go_wp2_with (go_at_call 127; refine (CA.out _ (Below.refl _ _)).mono ?_; rintro e w1 ⟨rfl, B1⟩; replace B1 := hide B1)
      go_ret
      exact ⟨_, rfl, by rw [E.out, bl_app, TA.out]; rfl, B1.out⟩
    · have gb : (b == 0) = false := by simpa using hb
      by_cases hc : 0 < b
      · have E := hide (show stT a b = ((itT a ++ [110]) ++ [43]) ++ itT b by unfold stT; rw [if_neg ha, if_pos hc, if_neg hb]; simp)
        have gd : decide (0 < b) = true := by simpa using hc
        clear ha hb
        go_enter Tryz.func92, Tryz.ntmps92
        go_wp2_with (first | (go_at_call_of 127 (Value.int IntKind.i64 a); refine (CA.out _ (Below.refl _ _)).mono ?_; rintro e w1 ⟨rfl, B1⟩; replace B1 := hide B1) | (go_at_call 127; refine (CB.out _ B1.out).mono ?_; rintro e w2 ⟨rfl, B2⟩; replace B1 := hide (bto B1.out B2)))
        go_ret
        exact ⟨_, rfl, by rw [E.out, bl_app, bl_app, bl_app, TA.out, TB.out]; rfl, B1.out⟩
      · have E := hide (show stT a b = (itT a ++ [110]) ++ itT b by unfold stT; rw [if_neg ha, if_neg hc, if_neg hb]; simp)
        have gd : decide (0 < b) = false := by simpa using hc
        clear ha hb
        go_enter Tryz.func92, Tryz.ntmps92
        go_wp2_with (first | (go_at_call_of 127 (Value.int IntKind.i64 a); refine (CA.out _ (Below.refl _ _)).mono ?_; rintro e w1 ⟨rfl, B1⟩; replace B1 := hide B1) | (go_at_call 127; refine (CB.out _ B1.out).mono ?_; rintro e w2 ⟨rfl, B2⟩; replace B1 := hide (bto B1.out B2)))
        go_ret
        exact ⟨_, rfl, by rw [E.out, bl_app, bl_app, TA.out, TB.out]; rfl, B1.out⟩
end Go.Proofs.YtmkbjcoagfnegaaGreatDoor
set_option linter.unusedVariables false
set_option linter.unusedSimpArgs false
namespace Go.Proofs.YtmkbjcoagfnegaaGreatDoor
open Go.RowKit Go.Shelf

/-- What a writing function has done so far: the builder, the box of what it was handed, what lies below. -/
structure Wq (w0 W : World) (b : Nat) (ys : List Int) (K : Nat) (o : Obj) (wc : World) : Prop where
  p : PB w0.heap.size b ys W wc
  x : wc.heap[K]? = some o
  l : Below w0.heap.size w0 wc
theorem Wq.start {w0 W : World} {b : Nat} {xs : List Int} (h : Bd w0.heap.size b xs W) (hW : Below w0.heap.size w0 W) (o : Obj) : Wq w0 W b xs W.heap.size o (W.alloc o) :=
  ⟨(PB.start h).grow hW.size (bplus (Below.refl _ _) o), heap_alloc_new W o, bplus hW o⟩
theorem Wq.up {w0 W : World} {b : Nat} {ys : List Int} {K : Nat} {o : Obj} {wc wd : World} (h : Wq w0 W b ys K o wc) (hW : w0.heap.size ≤ W.heap.size) (hb : Below wc.heap.size wc wd) : Wq w0 W b ys K o wd :=
  ⟨h.p.grow hW hb, (hb.block _ (Array.getElem?_eq_some_iff.1 h.x).1).trans h.x, bto h.l hb⟩
theorem Wq.write {w0 W : World} {b : Nat} {ys zs : List Int} {K : Nat} {o : Obj} {wc wd : World} (h : Wq w0 W b ys K o wc) (P : PB w0.heap.size b zs wc wd) (hK : K ≠ b) (ho : ∀ c fz, o ≠ .cells c 5 fz) : Wq w0 W b zs K o wd :=
  ⟨h.p.trans P, P.oth _ _ h.x (by simpa using hK) ho, h.l.trans P.bel⟩
def obS (s : Sl) (u : Value) : Obj := .cells #[.int .i64 s.k, .string s.nm, .int .i64 s.op, .string s.vl, .bool s.fo, u, .int .i64 s.a, .int .i64 s.b] 69
theorem obS_ne (s : Sl) (u : Value) : ∀ c fz, obS s u ≠ .cells c 5 fz := by intro c fz h; cases h
theorem wId_size {u s : ByteArray} (h : bl u = wId (bl s)) (hs : s.size ≤ 1048576) : u.size ≤ 10000000 := by
  have := wId_len s
  rw [← h, bl_len] at this
  omega
theorem qu_size {u s : ByteArray} (h : bl u = quT s) (hs : s.size ≤ 1048576) : u.size ≤ 10000000 := by
  have := quT_len s
  rw [← h, bl_len] at this
  omega
theorem opS_size (k : Int) : (opS k).size ≤ 2 := by unfold opS; repeat (first | split | decide)
set_option maxRecDepth 100000 in
set_option maxHeartbeats 4000000 in
theorem writeAttr_any (s : Sl) (ua : Option Addr) (ln uc : Nat) (w0 W : World) (b : Nat) (xs : List Int) (hW : Below w0.heap.size w0 W) (hb : Bd w0.heap.size b xs W) (hl : xs.length + (atT s).length ≤ 1000000000000) (ok : SlOk s) (hn : nmS9 s.nm = true) (hv : chB (bl s.vl) = true) (hK : KT w0) (hT : Tabs w0) :
    Calls Tryz.prog 118 #[.pointer (some ⟨b, 0, none⟩), s.v (.slice ua ln uc)] W fun e w' => e = .returned (.tuple #[]) ∧ PB w0.heap.size b (xs ++ atT s) W w' := by
  have nb : W.heap.size ≠ b := by have := hb.lt; omega
  have hB := hW.size
  have Q := hide (Wq.start hb hW (obS s (.slice ua ln uc)))
  have NE := hide (obS_ne s (.slice ua ln uc))
  have CI := hide (fun (W : World) (h : Below w0.heap.size w0 W) => identText_any s.nm W ok.hn hn (hK.below h) (hT.below h))
  have CV := hide (fun (W : World) (h : Below w0.heap.size w0 W) => strTok_any s.vl W ok.hv hv (hK.below h) (hT.below h))
  have SZ1 := hide (fun (u : ByteArray) (h : bl u = wId (bl s.nm)) => wId_size h ok.hn)
  have SZ2 := hide (fun (u : ByteArray) (h : bl u = quT s.vl) => qu_size h ok.hv)
  have so := opS_size s.op
  have AT := hide (show atT s = wId (bl s.nm) ++ (if s.op = 0 then [] else bl (opS s.op) ++ (quT s.vl ++ (if s.fo = true then [32, 105] else []))) from rfl)
  have hx : xs.length ≤ 1000000000000 := by omega
  clear hW hb hl ok hn hv hK hT
  generalize atT s = AA at AT ⊢
  unfold Sl.v slV
  unfold obS at Q NE
  obtain ⟨k, op, a, b', nm, vl, fo, ls⟩ := s
  simp only [Sl.k, Sl.op, Sl.a, Sl.b, Sl.nm, Sl.vl, Sl.fo, Sl.ls] at *
  generalize hos : opS op = os at so AT
  have OS := hide hos
  clear hos
  obtain ⟨q0, q1, q2, q3, q4, q5, q6, q7⟩ := bxk_8 Q.out.x
  by_cases h0 : op = 0
  · have E := hide (show AA = wId (bl nm) by rw [AT.out]; simp [h0])
    have g0 : (op == 0) = true := by simpa using h0
    clear h0 AT OS
    go_enter Tryz.func118, Tryz.ntmps118
    go_wp2_with (first
      | (go_at_call 117; refine (CI.out _ Q.out.l).mono ?_; rintro e w1 ⟨u1, rfl, hu1, B1⟩; have E1 := hide hu1; have z1 := SZ1.out u1 hu1; replace Q := hide (Q.out.up hB B1); obtain ⟨q0, q1, q2, q3, q4, q5, q6, q7⟩ := bxk_8 Q.out.x; clear hu1 B1)
      | (go_at_call 58; refine (wstr_any w0.heap.size b _ _ _ Q.out.p.bd ?_ (Q.out.p.size hB)).mono ?_; ((try simp only [List.length_append, bl_len]); omega); rintro e w3 ⟨rfl, P3⟩; replace Q := hide (Q.out.write P3 nb NE.out); obtain ⟨q0, q1, q2, q3, q4, q5, q6, q7⟩ := bxk_8 Q.out.x; clear P3))
    refine bodyPost_ret (results_none rfl _ _ _) rfl ?_
    refine ⟨rfl, ?_⟩
    have := Q.out.p
    rw [E1.out] at this
    rw [E.out]
    exact this
  · have g0 : (op == 0) = false := by simpa using h0
    have OT := hide (fun (W : World) => opText_any op W)
    rw [OS.out] at OT
    cases fo with
    | false =>
      have E := hide (show AA = wId (bl nm) ++ (bl os ++ quT vl) by rw [AT.out]; simp [h0])
      clear h0 AT OS
      go_enter Tryz.func118, Tryz.ntmps118
      go_wp2_with (first
        | (go_at_call 117; refine (CI.out _ Q.out.l).mono ?_; rintro e w1 ⟨u1, rfl, hu1, B1⟩; have E1 := hide hu1; have z1 := SZ1.out u1 hu1; replace Q := hide (Q.out.up hB B1); obtain ⟨q0, q1, q2, q3, q4, q5, q6, q7⟩ := bxk_8 Q.out.x; clear hu1 B1)
        | (go_at_call 147; refine (CV.out _ Q.out.l).mono ?_; rintro e w2 ⟨u2, rfl, hu2, B2⟩; have E2 := hide hu2; have z2 := SZ2.out u2 hu2; replace Q := hide (Q.out.up hB B2); obtain ⟨q0, q1, q2, q3, q4, q5, q6, q7⟩ := bxk_8 Q.out.x; clear hu2 B2)
        | (go_at_call 148; refine (OT.out _).mono ?_; rintro e w4 ⟨rfl, rfl⟩)
        | (go_at_call 58; refine (wstr_any w0.heap.size b _ _ _ Q.out.p.bd ?_ (Q.out.p.size hB)).mono ?_; ((try simp only [List.length_append, bl_len]); omega); rintro e w3 ⟨rfl, P3⟩; replace Q := hide (Q.out.write P3 nb NE.out); obtain ⟨q0, q1, q2, q3, q4, q5, q6, q7⟩ := bxk_8 Q.out.x; clear P3))
      go_end0
      refine ⟨rfl, ?_⟩
      have := Q.out.p
      rw [E1.out, E2.out] at this
      rw [E.out]
      simpa only [List.append_assoc] using this
    | true =>
      have E := hide (show AA = wId (bl nm) ++ (bl os ++ (quT vl ++ [32, 105])) by rw [AT.out]; simp [h0])
      clear h0 AT OS
      go_enter Tryz.func118, Tryz.ntmps118
      go_wp2_with (first
        | (go_at_call 117; refine (CI.out _ Q.out.l).mono ?_; rintro e w1 ⟨u1, rfl, hu1, B1⟩; have E1 := hide hu1; have z1 := SZ1.out u1 hu1; replace Q := hide (Q.out.up hB B1); obtain ⟨q0, q1, q2, q3, q4, q5, q6, q7⟩ := bxk_8 Q.out.x; clear hu1 B1)
        | (go_at_call 147; refine (CV.out _ Q.out.l).mono ?_; rintro e w2 ⟨u2, rfl, hu2, B2⟩; have E2 := hide hu2; have z2 := SZ2.out u2 hu2; replace Q := hide (Q.out.up hB B2); obtain ⟨q0, q1, q2, q3, q4, q5, q6, q7⟩ := bxk_8 Q.out.x; clear hu2 B2)
        | (go_at_call 148; refine (OT.out _).mono ?_; rintro e w4 ⟨rfl, rfl⟩)
        | (go_at_call_of 58 (Value.string ⟨#[32, 105]⟩); refine (wstr_any w0.heap.size b _ ⟨#[32, 105]⟩ _ Q.out.p.bd ?_ (Q.out.p.size hB)).mono ?_; ((try simp only [List.length_append, bl_len]); show _ + 2 ≤ _; omega); rintro e w5 ⟨rfl, P5⟩; replace Q := hide (Q.out.write P5 nb NE.out); clear P5)
        | (go_at_call 58; refine (wstr_any w0.heap.size b _ _ _ Q.out.p.bd ?_ (Q.out.p.size hB)).mono ?_; ((try simp only [List.length_append, bl_len]); omega); rintro e w3 ⟨rfl, P3⟩; replace Q := hide (Q.out.write P3 nb NE.out); obtain ⟨q0, q1, q2, q3, q4, q5, q6, q7⟩ := bxk_8 Q.out.x; clear P3))
      go_end0
      refine ⟨rfl, ?_⟩
      have := Q.out.p
      rw [E1.out, E2.out, show bl ⟨#[32, 105]⟩ = [32, 105] from rfl] at this
      rw [E.out]
      simpa only [List.append_assoc] using this
end Go.Proofs.YtmkbjcoagfnegaaGreatDoor
set_option linter.unusedVariables false
set_option linter.unusedSimpArgs false
namespace Go.Proofs.YtmkbjcoagfnegaaGreatDoor
open Go.RowKit Go.Shelf

/-- What is to be known of lists that are at most so deep. -/
def WrLs (n : Nat) : Prop := ∀ (left : Nat) (l : List Cx) (v : Value) (w0 W : World) (b : Nat) (xs : List Int), left ≤ 65 → CM w0 n v l → lsM left l = true → Below w0.heap.size w0 W → Bd w0.heap.size b xs W → xs.length + (lsT n l).length ≤ 1000000000000 → KT w0 → Tabs w0 →
  Calls Tryz.prog 36 #[.pointer (some ⟨b, 0, none⟩), v] W fun e w' => e = .returned (.tuple #[]) ∧ PB w0.heap.size b (xs ++ lsT n l) W w'
theorem ite_size {c : Prop} [Decidable c] {x y : ByteArray} {m : Nat} (hx : x.size ≤ m) (hy : y.size ≤ m) : (if c then x else y).size ≤ m := by split <;> assumption
theorem frS_size (k : Int) : (frS k).size ≤ 20 := by
  unfold frS
  repeat (refine ite_size (by decide) ?_)
  decide
theorem slB_2 {r : List Cx → List Int} {s : Sl} (h : s.k = 2 ∨ s.k = 3 ∨ s.k = 4) : slB r s = wId (bl s.nm) := by unfold slB; rw [if_pos h]
theorem slB_5 {r : List Cx → List Int} {s : Sl} (h : s.k = 5) : slB r s = atT s ++ [93] := by unfold slB; rw [if_neg (by omega), if_pos h]
theorem slB_6 {r : List Cx → List Int} {s : Sl} (h : s.k = 6 ∨ s.k = 7 ∨ s.k = 8) : slB r s = r s.ls ++ [41] := by unfold slB; rw [if_neg (by omega), if_neg (by omega), if_pos h]
theorem slB_14 {r : List Cx → List Int} {s : Sl} (h : s.k = 14 ∨ s.k = 15) : slB r s = stT s.a s.b ++ [41] := by unfold slB; rw [if_neg (by omega), if_neg (by omega), if_neg (by omega), if_pos h]
theorem slB_0 {r : List Cx → List Int} {s : Sl} (h : s.k = 1 ∨ (9 ≤ s.k ∧ s.k ≤ 13)) : slB r s = [] := by unfold slB; rw [if_neg (by omega), if_neg (by omega), if_neg (by omega), if_neg (by omega)]
theorem stT_len {a b : Int} (a0 : -9223372036854775808 ≤ a) (a1 : a ≤ 9223372036854775807) (b0 : -9223372036854775808 ≤ b) (b1 : b ≤ 9223372036854775807) : (stT a b).length ≤ 50 := by
  have ha := itT_len a0 a1
  have hb := itT_len b0 b1
  unfold stT
  split
  · omega
  · simp only [List.length_append]
    split <;> split <;> simp only [List.length_cons, List.length_nil] <;> omega
theorem st_size {s : Sl} {u : ByteArray} (h : bl u = stT s.a s.b) (ok : SlOk s) : u.size ≤ 50 := by
  have := stT_len ok.a1 ok.a2 ok.b1 ok.b2
  rw [← h, bl_len] at this
  exact this
/-- What a simple selector that may be is made of. -/
theorem sl_ways {left : Nat} {r : List Cx → Bool} {s : Sl} (h : slM left r s = true) :
    (s.k = 1 ∨ (9 ≤ s.k ∧ s.k ≤ 13)) ∨ ((s.k = 2 ∨ s.k = 3 ∨ s.k = 4) ∧ nmS9 s.nm = true) ∨ (s.k = 5 ∧ nmS9 s.nm = true ∧ chB (bl s.vl) = true ∧ 0 ≤ s.op ∧ s.op ≤ 6) ∨ ((s.k = 6 ∨ s.k = 7 ∨ s.k = 8) ∧ r s.ls = true) ∨ ((s.k = 14 ∨ s.k = 15)) := by
  unfold slM at h
  by_cases h1 : s.k = 1 ∨ (9 ≤ s.k ∧ s.k ≤ 13)
  · exact .inl h1
  rw [if_neg h1] at h
  by_cases h2 : 2 ≤ s.k ∧ s.k ≤ 4
  · rw [if_pos h2] at h
    rw [Bool.and_eq_true] at h
    exact .inr (.inl ⟨by omega, h.1⟩)
  rw [if_neg h2] at h
  by_cases h5 : s.k = 5
  · rw [if_pos h5] at h
    simp only [Bool.and_eq_true] at h
    obtain ⟨_, hn, ho, _⟩ := h
    unfold opS9 at ho
    simp only [Bool.and_eq_true, decide_eq_true_eq] at ho
    exact .inr (.inr (.inl ⟨h5, hn, ho.2.1, ho.1.1, ho.1.2⟩))
  rw [if_neg h5] at h
  by_cases h6 : 6 ≤ s.k ∧ s.k ≤ 8
  · rw [if_pos h6] at h
    simp only [Bool.and_eq_true] at h
    exact .inr (.inr (.inr (.inl ⟨by omega, h.2.2.1⟩)))
  rw [if_neg h6] at h
  by_cases h14 : s.k = 14 ∨ s.k = 15
  · exact .inr (.inr (.inr (.inr h14)))
  rw [if_neg h14] at h
  cases h
set_option maxRecDepth 100000 in
set_option maxHeartbeats 8000000 in
theorem writeSimple_any (n left : Nat) (s : Sl) (ua : Option Addr) (uc : Nat) (w0 W : World) (b : Nat) (xs : List Int) (hl65 : left ≤ 65) (hu : CM w0 n (.slice ua s.ls.length uc) s.ls) (hm : slM left (lsM (left - 1)) s = true) (hW : Below w0.heap.size w0 W) (hb : Bd w0.heap.size b xs W) (hl : xs.length + (slT (lsT n) s).length ≤ 1000000000000) (ok : SlOk s) (hK : KT w0) (hT : Tabs w0) (IH : WrLs n) :
    Calls Tryz.prog 89 #[.pointer (some ⟨b, 0, none⟩), s.v (.slice ua s.ls.length uc)] W fun e w' => e = .returned (.tuple #[]) ∧ PB w0.heap.size b (xs ++ slT (lsT n) s) W w' := by
  have nb : W.heap.size ≠ b := by have := hb.lt; omega
  have hB := hW.size
  have Q := hide (Wq.start hb hW (obS s (.slice ua s.ls.length uc)))
  have NE := hide (obS_ne s (.slice ua s.ls.length uc))
  have FT := hide (fun (W : World) => frontText_any s.k W)
  have sf := frS_size s.k
  have hx : xs.length ≤ 1000000000000 := by omega
  have ST := hide (show slT (lsT n) s = bl (frS s.k) ++ slB (lsT n) s from rfl)
  have LL := hide hl
  clear hb hl
  rw [ST.out] at LL ⊢
  rw [List.length_append, bl_len] at LL
  clear ST
  generalize frS s.k = fs at FT sf LL ⊢
  rcases sl_ways hm with h | ⟨h, hn⟩ | ⟨h, hn, hv, ho0, ho6⟩ | ⟨h, hr⟩ | h
  · rw [slB_0 h, List.append_nil]
    clear hm IH hK hT ok LL hu hW
    generalize s.ls.length = ln at *
    unfold Sl.v slV
    unfold obS at Q NE
    obtain ⟨k, op, a, b', nm, vl, fo, ls⟩ := s
    simp only [Sl.k, Sl.op, Sl.a, Sl.b, Sl.nm, Sl.vl, Sl.fo, Sl.ls] at *
    obtain ⟨q0, q1, q2, q3, q4, q5, q6, q7⟩ := bxk_8 Q.out.x
    have g2 : (k == 2) = false := by simp; omega
    have g3 : (k == 3) = false := by simp; omega
    have g4 : (k == 4) = false := by simp; omega
    have g5 : (k == 5) = false := by simp; omega
    have g6 : (k == 6) = false := by simp; omega
    have g7 : (k == 7) = false := by simp; omega
    have g8 : (k == 8) = false := by simp; omega
    have g14 : (k == 14) = false := by simp; omega
    have g15 : (k == 15) = false := by simp; omega
    clear h
    go_enter Tryz.func89, Tryz.ntmps89
    go_wp2_with (first
        | (go_at_call 116; refine (FT.out _).mono ?_; rintro e w4 ⟨rfl, rfl⟩)
        | (go_at_call 58; refine (wstr_any w0.heap.size b _ _ _ Q.out.p.bd ?_ (Q.out.p.size hB)).mono ?_; ((try simp only [List.length_append, bl_len]); omega); rintro e w3 ⟨rfl, P3⟩; replace Q := hide (Q.out.write P3 nb NE.out); obtain ⟨q0, q1, q2, q3, q4, q5, q6, q7⟩ := bxk_8 Q.out.x; clear P3))
    go_end0
    exact ⟨rfl, Q.out.p⟩
  · rw [slB_2 h]
    have CI := hide (fun (W : World) (h : Below w0.heap.size w0 W) => identText_any s.nm W ok.hn hn (hK.below h) (hT.below h))
    have SZ1 := hide (fun (u : ByteArray) (h : bl u = wId (bl s.nm)) => wId_size h ok.hn)
    clear hm IH hK hT ok LL hu hW hn
    generalize s.ls.length = ln at *
    unfold Sl.v slV
    unfold obS at Q NE
    obtain ⟨k, op, a, b', nm, vl, fo, ls⟩ := s
    simp only [Sl.k, Sl.op, Sl.a, Sl.b, Sl.nm, Sl.vl, Sl.fo, Sl.ls] at *
    obtain ⟨q0, q1, q2, q3, q4, q5, q6, q7⟩ := bxk_8 Q.out.x
    rcases h with rfl | rfl | rfl
    all_goals
      go_enter Tryz.func89, Tryz.ntmps89
      go_wp2_with (first
        | (go_at_call 116; refine (FT.out _).mono ?_; rintro e w4 ⟨rfl, rfl⟩)
        | (go_at_call 117; refine (CI.out _ Q.out.l).mono ?_; rintro e w1 ⟨u1, rfl, hu1, B1⟩; have E1 := hide hu1; have z1 := SZ1.out u1 hu1; replace Q := hide (Q.out.up hB B1); obtain ⟨q0, q1, q2, q3, q4, q5, q6, q7⟩ := bxk_8 Q.out.x; clear hu1 B1)
        | (go_at_call 58; refine (wstr_any w0.heap.size b _ _ _ Q.out.p.bd ?_ (Q.out.p.size hB)).mono ?_; ((try simp only [List.length_append, bl_len]); omega); rintro e w3 ⟨rfl, P3⟩; replace Q := hide (Q.out.write P3 nb NE.out); obtain ⟨q0, q1, q2, q3, q4, q5, q6, q7⟩ := bxk_8 Q.out.x; clear P3))
      go_end0
      refine ⟨rfl, ?_⟩
      have := Q.out.p
      rw [E1.out] at this
      simpa only [List.append_assoc] using this
  · rw [slB_5 h] at LL ⊢
    have L2 := hide (show (xs ++ bl fs).length + (atT s).length ≤ 1000000000000 by have := LL.out; rw [List.length_append] at this ⊢; rw [bl_len]; omega)
    have L3 := hide (show ((xs ++ bl fs) ++ atT s).length + 1 ≤ 140737488355328 by have := LL.out; rw [List.length_append] at this; rw [List.length_append, List.length_append, bl_len]; simp only [List.length_cons, List.length_nil] at this; omega)
    have CT := hide (fun (V : World) (ys : List Int) (hV : Below w0.heap.size w0 V) (hb : Bd w0.heap.size b ys V) (hl : ys.length + (atT s).length ≤ 1000000000000) => writeAttr_any s ua s.ls.length uc w0 V b ys hV hb hl ok hn hv hK hT)
    clear hm IH hK hT ok LL hu hW hn hv
    generalize s.ls.length = ln at *
    generalize atT s = AA at *
    unfold Sl.v slV at CT
    unfold Sl.v slV
    unfold obS at Q NE
    obtain ⟨k, op, a, b', nm, vl, fo, ls⟩ := s
    simp only [Sl.k, Sl.op, Sl.a, Sl.b, Sl.nm, Sl.vl, Sl.fo, Sl.ls] at *
    obtain ⟨q0, q1, q2, q3, q4, q5, q6, q7⟩ := bxk_8 Q.out.x
    subst h
    go_enter Tryz.func89, Tryz.ntmps89
    go_wp2_with (first
        | (go_at_call 116; refine (FT.out _).mono ?_; rintro e w4 ⟨rfl, rfl⟩)
        | (go_at_call 118; refine (CT.out _ _ Q.out.l Q.out.p.bd L2.out).mono ?_; rintro e w1 ⟨rfl, P1⟩; replace Q := hide (Q.out.write P1 nb NE.out); clear P1)
        | (go_at_call_of 58 (Value.string ⟨#[93]⟩); refine (wstr_any w0.heap.size b _ ⟨#[93]⟩ _ Q.out.p.bd ?_ (Q.out.p.size hB)).mono ?_; (show _ + 1 ≤ _; exact L3.out); rintro e w5 ⟨rfl, P5⟩; replace Q := hide (Q.out.write P5 nb NE.out); clear P5)
        | (go_at_call 58; refine (wstr_any w0.heap.size b _ _ _ Q.out.p.bd ?_ (Q.out.p.size hB)).mono ?_; ((try simp only [List.length_append, bl_len]); omega); rintro e w3 ⟨rfl, P3⟩; replace Q := hide (Q.out.write P3 nb NE.out); obtain ⟨q0, q1, q2, q3, q4, q5, q6, q7⟩ := bxk_8 Q.out.x; clear P3))
    go_end0
    refine ⟨rfl, ?_⟩
    have := Q.out.p
    rw [show bl ⟨#[93]⟩ = [93] from rfl] at this
    simpa only [List.append_assoc] using this
  · rw [slB_6 h] at LL ⊢
    have L2 := hide (show (xs ++ bl fs).length + (lsT n s.ls).length ≤ 1000000000000 by have := LL.out; rw [List.length_append] at this ⊢; rw [bl_len]; omega)
    have L3 := hide (show ((xs ++ bl fs) ++ lsT n s.ls).length + 1 ≤ 140737488355328 by have := LL.out; rw [List.length_append] at this; rw [List.length_append, List.length_append, bl_len]; simp only [List.length_cons, List.length_nil] at this; omega)
    have CT := hide (fun (V : World) (ys : List Int) (hV : Below w0.heap.size w0 V) (hb : Bd w0.heap.size b ys V) (hl : ys.length + (lsT n s.ls).length ≤ 1000000000000) => IH (left - 1) s.ls _ w0 V b ys (by omega) hu hr hV hb hl hK hT)
    clear hm IH hK hT ok LL hu hW hr
    generalize s.ls.length = ln at *
    generalize lsT n s.ls = AA at *
    unfold Sl.v slV
    unfold obS at Q NE
    obtain ⟨k, op, a, b', nm, vl, fo, ls⟩ := s
    simp only [Sl.k, Sl.op, Sl.a, Sl.b, Sl.nm, Sl.vl, Sl.fo, Sl.ls] at *
    obtain ⟨q0, q1, q2, q3, q4, q5, q6, q7⟩ := bxk_8 Q.out.x
    rcases h with rfl | rfl | rfl
    all_goals
      go_enter Tryz.func89, Tryz.ntmps89
      go_wp2_with (first
        | (go_at_call 116; refine (FT.out _).mono ?_; rintro e w4 ⟨rfl, rfl⟩)
        | (go_at_call 36; refine (CT.out _ _ Q.out.l Q.out.p.bd L2.out).mono ?_; rintro e w1 ⟨rfl, P1⟩; replace Q := hide (Q.out.write P1 nb NE.out); clear P1)
        | (go_at_call_of 58 (Value.string ⟨#[41]⟩); refine (wstr_any w0.heap.size b _ ⟨#[41]⟩ _ Q.out.p.bd ?_ (Q.out.p.size hB)).mono ?_; (show _ + 1 ≤ _; exact L3.out); rintro e w5 ⟨rfl, P5⟩; replace Q := hide (Q.out.write P5 nb NE.out); clear P5)
        | (go_at_call 58; refine (wstr_any w0.heap.size b _ _ _ Q.out.p.bd ?_ (Q.out.p.size hB)).mono ?_; ((try simp only [List.length_append, bl_len]); omega); rintro e w3 ⟨rfl, P3⟩; replace Q := hide (Q.out.write P3 nb NE.out); obtain ⟨q0, q1, q2, q3, q4, q5, q6, q7⟩ := bxk_8 Q.out.x; clear P3))
      go_end0
      refine ⟨rfl, ?_⟩
      have := Q.out.p
      rw [show bl ⟨#[41]⟩ = [41] from rfl] at this
      simpa only [List.append_assoc] using this
  · rw [slB_14 h]
    have CT := hide (fun (W : World) (h : Below w0.heap.size w0 W) => stepText_any s.a s.b W ok.a1 ok.a2 ok.b1 ok.b2 (hT.below h))
    have SZ := hide (fun (u : ByteArray) (h : bl u = stT s.a s.b) => st_size h ok)
    clear hm IH hK hT ok LL hu hW
    generalize s.ls.length = ln at *
    unfold Sl.v slV
    unfold obS at Q NE
    obtain ⟨k, op, a, b', nm, vl, fo, ls⟩ := s
    simp only [Sl.k, Sl.op, Sl.a, Sl.b, Sl.nm, Sl.vl, Sl.fo, Sl.ls] at *
    obtain ⟨q0, q1, q2, q3, q4, q5, q6, q7⟩ := bxk_8 Q.out.x
    rcases h with rfl | rfl
    all_goals
      go_enter Tryz.func89, Tryz.ntmps89
      go_wp2_with (first
        | (go_at_call 116; refine (FT.out _).mono ?_; rintro e w4 ⟨rfl, rfl⟩)
        | (go_at_call 119; refine (CT.out _ Q.out.l).mono ?_; rintro e w1 ⟨u1, rfl, hu1, B1⟩; have E1 := hide hu1; have z1 := SZ.out u1 hu1; replace Q := hide (Q.out.up hB B1); clear hu1 B1)
        | (go_at_call_of 58 (Value.string ⟨#[41]⟩); refine (wstr_any w0.heap.size b _ ⟨#[41]⟩ _ Q.out.p.bd ?_ (Q.out.p.size hB)).mono ?_; (show _ + 1 ≤ _; exact (by simp only [List.length_append, bl_len]; omega)); rintro e w5 ⟨rfl, P5⟩; replace Q := hide (Q.out.write P5 nb NE.out); clear P5)
        | (go_at_call 58; refine (wstr_any w0.heap.size b _ _ _ Q.out.p.bd ?_ (Q.out.p.size hB)).mono ?_; ((try simp only [List.length_append, bl_len]); omega); rintro e w3 ⟨rfl, P3⟩; replace Q := hide (Q.out.write P3 nb NE.out); obtain ⟨q0, q1, q2, q3, q4, q5, q6, q7⟩ := bxk_8 Q.out.x; clear P3))
      go_end0
      refine ⟨rfl, ?_⟩
      have := Q.out.p
      rw [E1.out, show bl ⟨#[41]⟩ = [41] from rfl] at this
      simpa only [List.append_assoc] using this
end Go.Proofs.YtmkbjcoagfnegaaGreatDoor

