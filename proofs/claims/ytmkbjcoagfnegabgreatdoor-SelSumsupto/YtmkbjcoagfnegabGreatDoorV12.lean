/-
  What a kind of token has; fields, texts and numbers that may be; tokens that must stand apart: by the program.
  What is left of some component values: the reader's small functions, by the program.
  A struct in a block of its own: written whole, told whole.
  What is left of some component values: taking, passing over white space, a character: by the program.
-/
import Derived.Test.YtmkbjcoagfnegabGreatDoorV11
import Derived.Test.YtmkbjcoagfnegabGreatDoorV04
import Derived.Test.YtmkbjcoagfnegabGreatDoorV05
import Derived.Test.YtmkbjcoagfnegabGreatDoorV03
import Derived.Deep.MidRow
import Derived.Deep.DeepCutAuto
set_option linter.unusedVariables false
set_option linter.unusedSimpArgs false
namespace Go.Proofs.YtmkbjcoagfnegabGreatDoor
open Go.RowKit

/-- The table of kinds, as it is laid. -/
def KT (w : World) : Prop := 1 < w.heap.size ∧ ∀ k : Nat, k < 25 → w.cell? ⟨1, k * 6, none⟩ = some (.bool (tx k)) ∧ w.cell? ⟨1, k * 6 + 1, none⟩ = some (.bool (nm k)) ∧ w.cell? ⟨1, k * 6 + 2, none⟩ = some (.bool (nu k)) ∧ w.cell? ⟨1, k * 6 + 3, none⟩ = some (.bool (ro k)) ∧ w.cell? ⟨1, k * 6 + 4, none⟩ = some (.bool (jo k)) ∧ w.cell? ⟨1, k * 6 + 5, none⟩ = some (.string (fx k))
theorem KT.below {w w' : World} (h : KT w) (hb : Below w.heap.size w w') : KT w' := by
  refine ⟨Nat.lt_of_lt_of_le h.1 hb.size, fun k hk => ?_⟩
  obtain ⟨c0, c1, c2, c3, c4, c5⟩ := h.2 k hk
  exact ⟨(hb.cell (p := ⟨1, k * 6, none⟩) h.1).trans c0, (hb.cell (p := ⟨1, k * 6 + 1, none⟩) h.1).trans c1, (hb.cell (p := ⟨1, k * 6 + 2, none⟩) h.1).trans c2, (hb.cell (p := ⟨1, k * 6 + 3, none⟩) h.1).trans c3, (hb.cell (p := ⟨1, k * 6 + 4, none⟩) h.1).trans c4, (hb.cell (p := ⟨1, k * 6 + 5, none⟩) h.1).trans c5⟩
def trV (k : Int) : Value := .agg #[.bool (tx k), .bool (nm k), .bool (nu k), .bool (ro k), .bool (jo k), .string (fx k)]
theorem trV_out {k : Int} (h : k < 0 ∨ 25 ≤ k) : trV k = .agg #[.bool false, .bool false, .bool false, .bool false, .bool false, .string ⟨#[]⟩] := by
  unfold trV
  have e1 : tx k = false := by simp [tx]; omega
  have e2 : nm k = false := by simp [nm]; omega
  have e3 : nu k = false := by simp [nu]; omega
  have e4 : ro k = false := by simp [ro]; omega
  have e5 : jo k = false := by simp [jo]; omega
  have e6 : fx k = ⟨#[]⟩ := by
    unfold fx
    iterate 14 rw [if_neg (by omega)]
  rw [e1, e2, e3, e4, e5, e6]
set_option maxRecDepth 100000 in
set_option maxHeartbeats 1000000 in
theorem traits_any (k : Int) (w : World) (k1 : -9223372036854775808 ≤ k) (k2 : k ≤ 9223372036854775807) (hK : KT w) :
    Calls Tryz.prog 110 #[.int .i64 k] w fun e w' => e = .returned (trV k) ∧ Below w.heap.size w w' := by
  by_cases hk : k < 0 ∨ 25 ≤ k
  · have E := hide (trV_out hk)
    rcases hk with hk | hk
    all_goals
      go_enter Tryz.func110, Tryz.ntmps110
      go_wp2
      refine bodyPost_ret (v := .agg #[.bool false, .bool false, .bool false, .bool false, .bool false, .string ⟨#[]⟩]) (by simp [results, Tryz.results110, go_sem]) rfl ⟨by rw [E.out], ?_⟩
      exact bplus (Below.refl _ _) _
  · obtain ⟨j, rfl⟩ := Int.eq_ofNat_of_zero_le (show 0 ≤ k by omega)
    have hj : j < 25 := by omega
    obtain ⟨c0, c1, c2, c3, c4, c5⟩ := hK.2 j hj
    have hz := hK.1
    have i0 : (0 : Int) ≤ j := by omega
    have i1 : (j : Int) < 25 := by omega
    unfold trV
    generalize tx (j : Int) = t1 at *
    generalize nm (j : Int) = t2 at *
    generalize nu (j : Int) = t3 at *
    generalize ro (j : Int) = t4 at *
    generalize jo (j : Int) = t5 at *
    generalize fx (j : Int) = t6 at *
    clear hk hK
    go_enter Tryz.func110, Tryz.ntmps110
    go_wp2
    refine bodyPost_ret (v := .agg #[.bool t1, .bool t2, .bool t3, .bool t4, .bool t5, .string t6]) (by simp [results, Tryz.results110, go_sem]) rfl ⟨rfl, ?_⟩
    exact bplus (Below.refl _ _) _
/-! ### Fields of what a kind has -/
theorem fld0 (a0 a1 a2 a3 a4 : Bool) (a5 : ByteArray) (w : World) : (Instr.field 150 (.agg #[.bool a0, .bool a1, .bool a2, .bool a3, .bool a4, .string a5]) 0).run Tryz.prog w = .ok (.bool a0) w := by kernel_rfl
theorem fld1 (a0 a1 a2 a3 a4 : Bool) (a5 : ByteArray) (w : World) : (Instr.field 150 (.agg #[.bool a0, .bool a1, .bool a2, .bool a3, .bool a4, .string a5]) 1).run Tryz.prog w = .ok (.bool a1) w := by kernel_rfl
theorem fld2 (a0 a1 a2 a3 a4 : Bool) (a5 : ByteArray) (w : World) : (Instr.field 150 (.agg #[.bool a0, .bool a1, .bool a2, .bool a3, .bool a4, .string a5]) 2).run Tryz.prog w = .ok (.bool a2) w := by kernel_rfl
theorem fld3 (a0 a1 a2 a3 a4 : Bool) (a5 : ByteArray) (w : World) : (Instr.field 150 (.agg #[.bool a0, .bool a1, .bool a2, .bool a3, .bool a4, .string a5]) 3).run Tryz.prog w = .ok (.bool a3) w := by kernel_rfl
theorem fld4 (a0 a1 a2 a3 a4 : Bool) (a5 : ByteArray) (w : World) : (Instr.field 150 (.agg #[.bool a0, .bool a1, .bool a2, .bool a3, .bool a4, .string a5]) 4).run Tryz.prog w = .ok (.bool a4) w := by kernel_rfl
/-! ### Tokens in memory -/
def tokV (k : Int) (s : ByteArray) (n d : Int) (i h : Bool) : Value := .agg #[.int .i64 k, .string s, .int .i64 n, .int .i64 d, .bool i, .bool h]
def Tok6 (w : World) (b : Nat) (k : Int) (s : ByteArray) (n d : Int) (i h : Bool) : Prop :=
  b < w.heap.size ∧ w.cell? ⟨b, 0, none⟩ = some (.int .i64 k) ∧ w.cell? ⟨b, 1, none⟩ = some (.string s) ∧ w.cell? ⟨b, 2, none⟩ = some (.int .i64 n) ∧ w.cell? ⟨b, 3, none⟩ = some (.int .i64 d) ∧ w.cell? ⟨b, 4, none⟩ = some (.bool i) ∧ w.cell? ⟨b, 5, none⟩ = some (.bool h)
theorem Tok6.below {w w' : World} {b : Nat} {k : Int} {s : ByteArray} {n d : Int} {i h : Bool} (t : Tok6 w b k s n d i h) (hb : Below w.heap.size w w') : Tok6 w' b k s n d i h := by
  obtain ⟨z, c0, c1, c2, c3, c4, c5⟩ := t
  exact ⟨Nat.lt_of_lt_of_le z hb.size, (hb.cell (p := ⟨b, 0, none⟩) z).trans c0, (hb.cell (p := ⟨b, 1, none⟩) z).trans c1, (hb.cell (p := ⟨b, 2, none⟩) z).trans c2, (hb.cell (p := ⟨b, 3, none⟩) z).trans c3, (hb.cell (p := ⟨b, 4, none⟩) z).trans c4, (hb.cell (p := ⟨b, 5, none⟩) z).trans c5⟩
theorem Tok6.box (w : World) (k : Int) (s : ByteArray) (n d : Int) (i h : Bool) (T : TypeId) : Tok6 (w.alloc (.cells #[.int .i64 k, .string s, .int .i64 n, .int .i64 d, .bool i, .bool h] T)) w.heap.size k s n d i h :=
  ⟨by simp, by simp [go_sem], by simp [go_sem], by simp [go_sem], by simp [go_sem], by simp [go_sem], by simp [go_sem]⟩
theorem emp_iff (s : ByteArray) : (bl s).isEmpty = s.toList.isEmpty := by
  by_cases h : s.size = 0
  · rw [emp_t h, bl_nil h]; rfl
  · rw [emp_f (by omega)]
    cases hb : bl s with
    | nil => exact absurd (bl_size0.1 hb) h
    | cons c r => rfl
/-- The ways of a token's fields. -/
theorem fd_ways (k : Int) (e : Bool) (n d : Int) (i h : Bool) :
    (tx k = false ∧ e = false) ∨
    (((tx k = true) ∨ (tx k = false ∧ e = true)) ∧ ((nu k = false ∧ ((n == 0) = false ∨ ((n == 0) = true ∧ (d == 0) = false) ∨ ((n == 0) = true ∧ (d == 0) = true ∧ i = true))) ∨ ((nu k = true ∨ (nu k = false ∧ (n == 0) = true ∧ (d == 0) = true ∧ i = false)) ∧ ((k == 4) = true ∨ (k == 4) = false)))) := by
  cases tx k <;> cases e <;> cases nu k <;> cases (n == 0) <;> cases (d == 0) <;> cases i <;> cases (k == 4) <;> simp
set_option maxRecDepth 100000 in
set_option maxHeartbeats 2000000 in
theorem fields_any (k : Int) (s : ByteArray) (n d : Int) (i h : Bool) (w : World) (k1 : -9223372036854775808 ≤ k) (k2 : k ≤ 9223372036854775807) (hK : KT w) :
    Calls Tryz.prog 102 #[tokV k s n d i h] w fun e w' => e = .returned (.bool (fdB k (bl s) n d i h)) ∧ Below w.heap.size w w' := by
  have HK := hide (hK.below (bplus (Below.refl _ _) (.cells #[.int .i64 k, .string s, .int .i64 n, .int .i64 d, .bool i, .bool h] 62)))
  have TB := hide (Tok6.box w k s n d i h 62)
  have W := fd_ways k s.toList.isEmpty n d i h
  have HE := hide (show fdB k (bl s) n d i h = ((tx k || s.toList.isEmpty) && ((nu k || (((n == 0) && (d == 0)) && !i)) && ((k == 4) || !h))) by unfold fdB; rw [emp_iff])
  unfold tokV
  generalize hs : s.toList.isEmpty = se at *
  rcases W with ⟨x1, rfl⟩ | ⟨x1 | ⟨x1, rfl⟩, ⟨x3, x4 | ⟨x4, x5⟩ | ⟨x4, x5, rfl⟩⟩ | ⟨x3 | ⟨x3, x4, x5, rfl⟩, x6 | x6⟩⟩
  all_goals
    have X1 := hide x1
    try (have X3 := hide x3)
    go_enter Tryz.func102, Tryz.ntmps102
    go_wp2_with (go_at_call 110; refine (traits_any k _ k1 k2 HK.out).mono ?_; rintro e w1 ⟨rfl, B1⟩; obtain ⟨z1, q0, q1, q2, q3, q4, q5⟩ := TB.out.below B1; unfold trV; rw [X1.out]; (try rw [X3.out]); replace B1 := hide (bto (bplus (Below.refl _ _) _) B1))
    go_ret
    refine ⟨ret_bool (by rw [HE.out]; simp [*]), ?_⟩
    repeat (first | (with_reducible exact B1.out) | (with_reducible refine Below.setCell ?_ (by simp) _) | (with_reducible refine bplus ?_ _))
set_option maxRecDepth 100000 in
set_option maxHeartbeats 2000000 in
theorem text_any (k : Int) (s : ByteArray) (n d : Int) (i h : Bool) (w : World) (k1 : -9223372036854775808 ≤ k) (k2 : k ≤ 9223372036854775807) (hs : s.size ≤ 140737488355328) (hK : KT w) :
    Calls Tryz.prog 103 #[tokV k s n d i h] w fun e w' => e = .returned (.bool (txB k (bl s) h)) ∧ Below w.heap.size w w' := by
  have HK := hide (hK.below (bplus (Below.refl _ _) (.cells #[.int .i64 k, .string s, .int .i64 n, .int .i64 d, .bool i, .bool h] 62)))
  have TB := hide (Tok6.box w k s n d i h 62)
  have C1 := hide (fun W => isDelim_any s W hs)
  have C2 := hide (fun W => isNumeric_any s W hs)
  have C3 := hide (fun W => isText_any s W hs)
  have EM := hide (emp_iff s)
  have f1 := fld1
  unfold tokV
  by_cases k9 : k = 9
  · have F := hide (show txB k (bl s) h = dlB (bl s) by unfold txB; rw [if_pos k9])
    have k9' : (k == 9) = true := by simpa using k9
    clear k9
    go_enter Tryz.func103, Tryz.ntmps103
    go_wp2_with (go_at_call 111; refine (C1.out _).mono ?_; rintro e w1 ⟨rfl, rfl⟩)
    go_ret
    exact ⟨ret_bool F.out.symm, bplus (Below.refl _ _) _⟩
  have k9' : (k == 9) = false := by simpa using k9
  by_cases hx : k = 4 ∧ h = false ∧ fB (bl s) = false
  · have F := hide (show txB k (bl s) h = false by unfold txB; rw [if_neg k9, if_pos hx])
    obtain ⟨rfl, rfl, x3⟩ := hx
    have X3 := hide x3
    clear x3 k9 k9'
    go_enter Tryz.func103, Tryz.ntmps103
    go_wp2_with (go_at_call 112; refine (C2.out _).mono ?_; rintro e w1 ⟨rfl, rfl⟩; rw [X3.out])
    go_ret
    exact ⟨ret_bool F.out.symm, bplus (Below.refl _ _) _⟩
  have F0 := hide (show txB k (bl s) h = if nm k = true ∧ bl s = [] then false else chB (bl s) by unfold txB; rw [if_neg k9, if_neg hx])
  have W : ((k == 4) = false ∨ ((k == 4) = true ∧ h = true) ∨ ((k == 4) = true ∧ h = false ∧ fB (bl s) = true)) := by
    by_cases h4 : k = 4
    · cases h with
      | true => right; left; simpa using h4
      | false =>
        right; right
        refine ⟨by simpa using h4, rfl, ?_⟩
        cases hf : fB (bl s) with
        | true => rfl
        | false => exact absurd ⟨h4, rfl, hf⟩ hx
    · left; simpa using h4
  have V : (nm k = true ∧ s.toList.isEmpty = true ∧ txB k (bl s) h = false) ∨ (nm k = false ∧ txB k (bl s) h = chB (bl s)) ∨ (nm k = true ∧ s.toList.isEmpty = false ∧ txB k (bl s) h = chB (bl s)) := by
    rw [← EM.out, F0.out]
    cases nm k with
    | false => right; left; exact ⟨rfl, if_neg (by simp)⟩
    | true =>
      cases hb : bl s with
      | nil => left; exact ⟨rfl, rfl, if_pos ⟨rfl, rfl⟩⟩
      | cons c r => right; right; exact ⟨rfl, rfl, if_neg (by simp)⟩
  clear hx k9 F0
  rcases W with x4 | ⟨x4, rfl⟩ | ⟨x4, rfl, x5⟩ <;> rcases V with ⟨y1, y2, y3⟩ | ⟨y1, y3⟩ | ⟨y1, y2, y3⟩
  all_goals
    have Y1 := hide y1
    have Y3 := hide y3
    try (have X5 := hide x5)
    clear y1 y3
    try clear x5
    go_enter Tryz.func103, Tryz.ntmps103
    go_wp2_with (first
      | (go_at_call 112; refine (C2.out _).mono ?_; rintro e w1 ⟨rfl, rfl⟩; rw [X5.out])
      | (go_at_call 110; refine (traits_any k _ k1 k2 HK.out).mono ?_; rintro e w1 ⟨rfl, B1⟩; obtain ⟨z1, q0, q1, q2, q3, q4, q5⟩ := TB.out.below B1; unfold trV; rw [Y1.out]; replace B1 := hide (bto (bplus (Below.refl _ _) _) B1))
      | (go_at_call 113; refine (C3.out _).mono ?_; rintro e w2 ⟨rfl, B2⟩; replace B1 := hide (bto B1.out B2)))
    go_ret
    exact ⟨ret_bool Y3.out.symm, B1.out⟩
theorem plR_ok {n d : Int} {i : Bool} {s : ByteArray} {x : Int} (hp : PlR n d i s x) : (x == 0) = (plT n d i).isSome := by
  unfold PlR at hp
  cases hq : plT n d i with
  | none => rw [hq] at hp; rw [hp.1]; rfl
  | some t => rw [hq] at hp; rw [hp.1]; rfl
set_option maxRecDepth 100000 in
set_option maxHeartbeats 2000000 in
theorem number_any (k : Int) (s : ByteArray) (n d : Int) (i h : Bool) (w : World) (k1 : -9223372036854775808 ≤ k) (k2 : k ≤ 9223372036854775807) (n1 : -9223372036854775808 ≤ n) (n2 : n ≤ 9223372036854775807) (d1 : -9223372036854775808 ≤ d) (d2 : d ≤ 9223372036854775807) (hK : KT w) (hT : Tabs w) :
    Calls Tryz.prog 104 #[tokV k s n d i h] w fun e w' => e = .returned (.bool (nuB1 k n d i)) ∧ Below w.heap.size w w' := by
  have HK := hide (hK.below (bplus (Below.refl _ _) (.cells #[.int .i64 k, .string s, .int .i64 n, .int .i64 d, .bool i, .bool h] 62)))
  have TB := hide (Tok6.box w k s n d i h 62)
  have W1 := hide (fun (W : World) (h : Below w.heap.size w W) => hT.below h)
  have C := hide (fun (W : World) (h : Below w.heap.size w W) => plainP_any n d i W n1 n2 d1 d2 (W1.out W h))
  have f2 := fld2
  unfold tokV
  cases hn : nu k with
  | false =>
    have F := hide (show nuB1 k n d i = true by unfold nuB1; rw [hn]; rfl)
    have X := hide hn
    clear hn
    go_enter Tryz.func104, Tryz.ntmps104
    go_wp2_with (go_at_call 110; refine (traits_any k _ k1 k2 HK.out).mono ?_; rintro e w1 ⟨rfl, B1⟩; unfold trV; rw [X.out]; replace B1 := hide (bto (bplus (Below.refl _ _) _) B1))
    go_ret
    exact ⟨ret_bool F.out.symm, B1.out⟩
  | true =>
    have F := hide (show nuB1 k n d i = (plT n d i).isSome by unfold nuB1; rw [hn]; rfl)
    have X := hide hn
    clear hn
    have Z := hide (fun s x (hp : PlR n d i s x) => plR_ok hp)
    go_enter Tryz.func104, Tryz.ntmps104
    go_wp2_with (first
      | (go_at_call 110; refine (traits_any k _ k1 k2 HK.out).mono ?_; rintro e w1 ⟨rfl, B1⟩; obtain ⟨z1, q0, q1, q2, q3, q4, q5⟩ := TB.out.below B1; unfold trV; rw [X.out]; replace B1 := hide (bto (bplus (Below.refl _ _) _) B1))
      | (go_at_call 114; refine (C.out _ B1.out).mono ?_; rintro e w2 ⟨ps, px, rfl, PP, B2⟩; have Q := hide (Z.out ps px PP); clear PP; replace B1 := hide (bto B1.out B2)))
    go_ret
    exact ⟨ret_bool (by rw [F.out, ← Q.out]), B1.out⟩
/-! ### The whole -/
set_option maxRecDepth 100000 in
set_option maxHeartbeats 2000000 in
theorem mayS_any (k : Int) (s : ByteArray) (n d : Int) (i h : Bool) (w : World) (k1 : -9223372036854775808 ≤ k) (k2 : k ≤ 9223372036854775807) (hs : s.size ≤ 140737488355328) (n1 : -9223372036854775808 ≤ n) (n2 : n ≤ 9223372036854775807) (d1 : -9223372036854775808 ≤ d) (d2 : d ≤ 9223372036854775807) (hK : KT w) (hT : Tabs w) :
    Calls Tryz.prog 86 #[tokV k s n d i h] w fun e w' => e = .returned (.bool (mayT k (bl s) n d i h)) ∧ Below w.heap.size w w' := by
  have TB := hide (Tok6.box w k s n d i h 62)
  have W1 := hide (fun (W : World) (h : Below w.heap.size w W) => hT.below h)
  have W2 := hide (fun (W : World) (h : Below w.heap.size w W) => hK.below h)
  have C1 := hide (fun (W : World) (hb : Below w.heap.size w W) => fields_any k s n d i h W k1 k2 (W2.out W hb))
  have C2 := hide (fun (W : World) (hb : Below w.heap.size w W) => text_any k s n d i h W k1 k2 hs (W2.out W hb))
  have C3 := hide (fun (W : World) (hb : Below w.heap.size w W) => number_any k s n d i h W k1 k2 n1 n2 d1 d2 (W2.out W hb) (W1.out W hb))
  have M := hide (show mayT k (bl s) n d i h = ((decide (1 ≤ k) && decide (k ≤ 24)) && ((fdB k (bl s) n d i h && txB k (bl s) h) && nuB1 k n d i)) from rfl)
  unfold tokV at *
  by_cases hk1 : k < 1
  · have F := hide (show mayT k (bl s) n d i h = false by rw [M.out]; simp; omega)
    go_enter Tryz.func86, Tryz.ntmps86
    go_wp2
    go_ret
    exact ⟨ret_bool F.out.symm, bplus (Below.refl _ _) _⟩
  by_cases hk2 : 24 < k
  · have F := hide (show mayT k (bl s) n d i h = false by rw [M.out]; simp; omega)
    have hk1' : 1 ≤ k := by omega
    go_enter Tryz.func86, Tryz.ntmps86
    go_wp2
    go_ret
    exact ⟨ret_bool F.out.symm, bplus (Below.refl _ _) _⟩
  have hk1' : 1 ≤ k := by omega
  have hk2' : k ≤ 24 := by omega
  have M2 := hide (show mayT k (bl s) n d i h = ((fdB k (bl s) n d i h && txB k (bl s) h) && nuB1 k n d i) by rw [M.out]; simp [hk1', hk2'])
  clear hk1 hk2
  cases hf : fdB k (bl s) n d i h <;> cases ht : txB k (bl s) h
  all_goals
    have HF := hide hf
    have HX := hide ht
    clear hf ht
    go_enter Tryz.func86, Tryz.ntmps86
    go_wp2_with (first
      | (go_at_call 102; refine (C1.out _ (bplus (Below.refl _ _) _)).mono ?_; rintro e w1 ⟨rfl, B1⟩; obtain ⟨z1, q0, q1, q2, q3, q4, q5⟩ := TB.out.below B1; rw [HF.out]; replace B1 := hide (bto (bplus (Below.refl _ _) _) B1))
      | (go_at_call 103; refine (C2.out _ B1.out).mono ?_; rintro e w2 ⟨rfl, B2⟩; have T2 : Tok6 w2 w.heap.size k s n d i h := (Tok6.below ⟨z1, q0, q1, q2, q3, q4, q5⟩ B2); clear q0 q1 q2 q3 q4 q5; obtain ⟨z2, q0, q1, q2, q3, q4, q5⟩ := T2; rw [HX.out]; replace B1 := hide (bto B1.out B2))
      | (go_at_call 104; refine (C3.out _ B1.out).mono ?_; rintro e w3 ⟨rfl, B3⟩; replace B1 := hide (bto B1.out B3)))
    go_ret
    exact ⟨ret_bool (by rw [M2.out, HF.out, HX.out]; rfl), B1.out⟩
end Go.Proofs.YtmkbjcoagfnegabGreatDoor
set_option linter.unusedVariables false
set_option linter.unusedSimpArgs false
namespace Go.Proofs.YtmkbjcoagfnegabGreatDoor
open Go.RowKit

/-- The cursor in block g stands at these values, which lie in the world W. -/
def Cu (W wr : World) (g : Nat) (l : List VT) : Prop := ∃ v, wr.heap[g]? = some (.cells #[v] 58) ∧ VM W v l ∧ W.heap.size ≤ g ∧ Below W.heap.size W wr
theorem Cu.low {W wr w1 : World} {g : Nat} {l : List VT} (h : Cu W wr g l) (hb : Below wr.heap.size wr w1) : Cu W w1 g l := by
  obtain ⟨v, h1, h2, h3, h4⟩ := h
  exact ⟨v, (hb.block g (Array.getElem?_eq_some_iff.1 h1).1).trans h1, h2, h3, h4.trans (hb.mono h4.size)⟩
theorem Cu.lt {W wr : World} {g : Nat} {l : List VT} (h : Cu W wr g l) : g < wr.heap.size := by
  obtain ⟨v, h1, _⟩ := h; exact (Array.getElem?_eq_some_iff.1 h1).1
theorem Cu.put {W wr : World} {g : Nat} {l l' : List VT} {v' : Value} (h : Cu W wr g l) (hv : VM W v' l') : Cu W (wr.setCell ⟨g, 0, none⟩ v') g l' := by
  obtain ⟨v, h1, h2, h3, h4⟩ := h
  exact ⟨v', by rw [setCell_blk h1]; rfl, hv, h3, h4.setCell h3 _⟩
def zV : Value := .agg #[.int .i64 0, .string ⟨#[]⟩, .int .i64 0, .int .i64 0, .bool false, .bool false, .slice none 0 0]
/-- The value at the front. -/
def Fro (W : World) (l : List VT) (v : Value) : Prop := (l = [] ∧ v = vtV (zT 0) (.slice none 0 0)) ∨ ∃ x r a n c, l = x :: r ∧ v = vtV x.t (.slice a n c) ∧ VM W (.slice a n c) x.ks
theorem done9_any (W wr : World) (g : Nat) (l : List VT) (h : Cu W wr g l) : Calls Tryz.prog 32 #[.pointer (some ⟨g, 0, none⟩)] wr fun e w' => e = .returned (.bool l.isEmpty) ∧ w' = wr := by
  obtain ⟨v, h1, h2, h3, h4⟩ := h
  obtain ⟨a, c, rfl, h9⟩ := h2.shape
  have c0 : wr.cell? ⟨g, 0, none⟩ = some (.slice a l.length c) := by rw [row_blk h1]; rfl
  have E := hide (show l.isEmpty = ((l.length : Int) == 0) by cases l with | nil => rfl | cons x r => rw [show (((x :: r).length : Int) == 0) = false by rw [beq_eq_false_iff_ne]; simp only [List.length_cons]; omega]; rfl)
  clear h1 h2
  generalize l.length = n at c0 E h9
  go_enter Tryz.func32, Tryz.ntmps32
  go_wp2
  go_ret
  exact ⟨ret_bool E.out.symm, rfl⟩
set_option maxRecDepth 100000 in
set_option maxHeartbeats 2000000 in
theorem next9_any (W wr : World) (g : Nat) (l : List VT) (h : Cu W wr g l) : Calls Tryz.prog 41 #[.pointer (some ⟨g, 0, none⟩)] wr fun e w' => ∃ v, e = .returned v ∧ Fro W l v ∧ Below wr.heap.size wr w' := by
  have C := hide (fun (W' : World) (hb : Below wr.heap.size wr W') => done9_any W W' g l (h.low hb))
  have hg := h.lt
  obtain ⟨v, h1, h2, h3, h4⟩ := h
  have c0 : wr.cell? ⟨g, 0, none⟩ = some v := by rw [row_blk h1]; rfl
  have ng : g ≠ wr.heap.size := by omega
  have B0 := hide (fun (o : Obj) => bplus (Below.refl wr.heap.size wr) o)
  cases l with
  | nil =>
    go_enter Tryz.func41, Tryz.ntmps41
    go_wp2_with (go_at_call 32; refine (C.out _ (B0.out _)).mono ?_; rintro e w1 ⟨rfl, rfl⟩)
    refine bodyPost_ret (v := vtV (zT 0) (.slice none 0 0)) (by simp [results, Tryz.results41, go_sem, vtV, zT]) rfl ?_
    exact ⟨_, rfl, .inl ⟨rfl, rfl⟩, by repeat (first | exact Below.refl _ _ | (with_reducible refine Below.setCell ?_ (by simp) _) | (with_reducible refine bplus ?_ _))⟩
  | cons x r =>
    obtain ⟨b, o, c, u, hv, hb, hc, hc9, hr9, ⟨t0, t1, t2, t3, t4, t5⟩, hu, hku, -⟩ := h2.head
    subst hv
    obtain ⟨ua, uc, hus, -⟩ := hku.shape
    have KU := hide hku
    have cW : ∀ j, wr.cell? ⟨b, j, none⟩ = W.cell? ⟨b, j, none⟩ := fun j => h4.cell (p := ⟨b, j, none⟩) hb
    have e0 := (cW _).trans t0
    have e1 := (cW _).trans t1
    have e2 := (cW _).trans t2
    have e3 := (cW _).trans t3
    have e4 := (cW _).trans t4
    have e5 := (cW _).trans t5
    have e6 := (cW _).trans hu
    have hbw : b < wr.heap.size := by have := h4.size; omega
    have nb : b ≠ wr.heap.size := by omega
    subst hus
    have hr1 : (0 : Int) < (r.length : Int) + 1 := by omega
    clear t0 t1 t2 t3 t4 t5 hu cW hku h1 h2
    go_enter Tryz.func41, Tryz.ntmps41
    go_wp2_with (go_at_call 32; refine (C.out _ (B0.out _)).mono ?_; rintro e w1 ⟨rfl, rfl⟩)
    refine bodyPost_ret (v := vtV x.t (.slice ua x.ks.length uc)) (by simp [results, Tryz.results41, go_sem, vtV]) rfl ?_
    exact ⟨_, rfl, .inr ⟨x, r, _, _, _, rfl, rfl, KU.out⟩, by repeat (first | exact Below.refl _ _ | (with_reducible refine Below.setCell ?_ (by simp) _) | (with_reducible refine bplus ?_ _))⟩
end Go.Proofs.YtmkbjcoagfnegabGreatDoor
set_option linter.unusedVariables false
set_option linter.unusedSimpArgs false
namespace Go.Proofs.YtmkbjcoagfnegabGreatDoor
open Go.RowKit

theorem setCells_grown (b : Nat) : ∀ (vs : List Value) (o : Nat) (w : World), w.grownBy (w.setCells b o vs) (some b) := by
  intro vs
  induction vs with
  | nil => intro o w; exact ⟨rfl, rfl, rfl, Nat.le_refl _, fun _ _ _ => rfl⟩
  | cons x r ih =>
    intro o w
    have h := ih (o + 1) (w.setCell ⟨b, o, none⟩ x)
    refine ⟨h.os, h.tape, h.output, ?_, fun k hk hne => ?_⟩
    · exact Nat.le_trans (by simp [World.setCell]) h.size
    · exact (h.block k (by simpa [World.setCell] using hk) hne).trans (Below.heap_setCell _ _ _ _ (fun e => hne (by rw [e])))
theorem setCells_size (b : Nat) (vs : List Value) (o : Nat) (w : World) : w.heap.size ≤ (w.setCells b o vs).heap.size := (setCells_grown b vs o w).size
theorem range_blk {w : World} {b : Nat} {cs : List Value} {T : TypeId} {q : Nat × Nat} (h : w.heap[b]? = some (.cells cs.toArray T q)) : w.rangeAt b 0 cs := fun j v hv => by
  rw [Nat.zero_add, row_blk h]; simpa using hv
theorem there_blk {w : World} {b : Nat} {cs : Array Value} {T : TypeId} {n : Nat} (h : w.heap[b]? = some (.cells cs T)) (hn : cs.size = n) : w.there b 0 n := fun j hj => by
  rw [Nat.zero_add]
  refine ⟨?_, by simp [World.frozen?, h]⟩
  rw [row_blk h, Array.getElem?_eq_getElem (by omega)]; rfl
/-- Behind a call that tells a struct, which lies in a block of its own. -/
theorem ret_cell {P : Program} {fn : Func} {R : Ending → World → Prop} {a : Act} {w : World} {t : Tmp} {ty : TypeId} {b : Nat} {cs : List Value} {d : TypeDesc} (hf : fn.results = #[.cell t ty]) (ht : a.tmps.getD t undef = .pointer (some ⟨b, 0, none⟩)) (hc : w.rangeAt b 0 cs)
    (hu : P.underlying ty = some d) (hr : d.isRow = true) (hi : (P.info? ty).map (·.size) = some cs.length) (hd : a.defers = []) (h : R (.returned (.agg cs.toArray)) w) : bodyPost P fn R .ret a w := by
  refine bodyPost_ret (v := .agg cs.toArray) ?_ hd h
  have hl := run_loadVar_mid (P := P) w b 0 ty cs d hc hu hr hi
  rw [Array.getD_eq_getD_getElem?] at ht
  simp [results, hf, ht, asAddr, hl]
theorem ret_cell2 {P : Program} {fn : Func} {R : Ending → World → Prop} {a : Act} {w : World} {t u : Tmp} {ty : TypeId} {b : Nat} {cs : List Value} {d : TypeDesc} {v : Value} (hf : fn.results = #[.cell t ty, .tmp u]) (ht : a.tmps.getD t undef = .pointer (some ⟨b, 0, none⟩)) (hv : a.tmps.getD u undef = v) (hc : w.rangeAt b 0 cs)
    (hu : P.underlying ty = some d) (hr : d.isRow = true) (hi : (P.info? ty).map (·.size) = some cs.length) (hd : a.defers = []) (h : R (.returned (.tuple #[.agg cs.toArray, v])) w) : bodyPost P fn R .ret a w := by
  refine bodyPost_ret (v := .tuple #[.agg cs.toArray, v]) ?_ hd h
  have hl := run_loadVar_mid (P := P) w b 0 ty cs d hc hu hr hi
  rw [Array.getD_eq_getD_getElem?] at ht hv
  simp [results, hf, ht, hv, asAddr, hl]
end Go.Proofs.YtmkbjcoagfnegabGreatDoor
set_option linter.unusedVariables false
set_option linter.unusedSimpArgs false
namespace Go.Proofs.YtmkbjcoagfnegabGreatDoor
open Go.RowKit

theorem VM.tail {w : World} {v : Value} {x : VT} {l : List VT} (h : VM w v (x :: l)) : ∃ b o c, v = .slice (some ⟨b, o, none⟩) (l.length + 1) c ∧ l.length + 1 ≤ c ∧ c ≤ 9223372036854775807 ∧ l.length + 1 ≤ 1000000000 ∧ VM w (.slice (some ⟨b, o + 7, none⟩) l.length (c - 1)) l := by
  obtain ⟨b, o, c, u, hv, hb, hc, hc9, hr9, _, _, _, ht⟩ := h.head
  exact ⟨b, o, c, hv, hc, hc9, hr9, ht⟩
theorem vtV_t (k : Int) (s : ByteArray) (n d : Int) (i h : Bool) (u : Value) : vtV ⟨k, s, n, d, i, h⟩ u = .agg #[.int .i64 k, .string s, .int .i64 n, .int .i64 d, .bool i, .bool h, u] := rfl
theorem next9_nil (W wr : World) (g : Nat) (h : Cu W wr g []) : Calls Tryz.prog 41 #[.pointer (some ⟨g, 0, none⟩)] wr fun e w' => e = .returned (.agg #[.int .i64 0, .string ⟨#[]⟩, .int .i64 0, .int .i64 0, .bool false, .bool false, .slice none 0 0]) ∧ Below wr.heap.size wr w' := by
  refine (next9_any W wr g [] h).mono ?_
  rintro e w' ⟨v, rfl, F, B⟩
  rcases F with ⟨-, rfl⟩ | ⟨x, r, a, n, c, h, -⟩
  · exact ⟨rfl, B⟩
  · cases h
theorem next9_cons (W wr : World) (g : Nat) (t : TS) (ks r : List VT) (h : Cu W wr g (.mk t ks :: r)) : Calls Tryz.prog 41 #[.pointer (some ⟨g, 0, none⟩)] wr fun e w' => ∃ a n c, e = .returned (.agg #[.int .i64 t.k, .string t.s, .int .i64 t.n, .int .i64 t.d, .bool t.i, .bool t.h, .slice a n c]) ∧ VM W (.slice a n c) ks ∧ Below wr.heap.size wr w' := by
  refine (next9_any W wr g _ h).mono ?_
  rintro e w' ⟨v, rfl, F, B⟩
  rcases F with ⟨h, -⟩ | ⟨x, r, a, n, c, h, rfl, V⟩
  · cases h
  · cases h; exact ⟨a, n, c, rfl, V, B⟩
theorem bxk_7 {w : World} {b : Nat} {u0 u1 u2 u3 u4 u5 u6 : Value} {T : TypeId} (h : w.heap[b]? = some (.cells #[u0, u1, u2, u3, u4, u5, u6] T)) : w.cell? ⟨b, 0, none⟩ = some u0 ∧ w.cell? ⟨b, 1, none⟩ = some u1 ∧ w.cell? ⟨b, 2, none⟩ = some u2 ∧ w.cell? ⟨b, 3, none⟩ = some u3 ∧ w.cell? ⟨b, 4, none⟩ = some u4 ∧ w.cell? ⟨b, 5, none⟩ = some u5 ∧ w.cell? ⟨b, 6, none⟩ = some u6 :=
  ⟨by rw [row_blk h]; rfl, by rw [row_blk h]; rfl, by rw [row_blk h]; rfl, by rw [row_blk h]; rfl, by rw [row_blk h]; rfl, by rw [row_blk h]; rfl, by rw [row_blk h]; rfl⟩
theorem fz_of {w : World} {b : Nat} {cs : Array Value} {T : TypeId} (h : w.heap[b]? = some (.cells cs T)) : ∀ j, w.frozen? ⟨b, j, none⟩ = false := fun j => by simp [World.frozen?, h]
theorem Cu.cell {W wr : World} {g : Nat} {l : List VT} (h : Cu W wr g l) : ∃ v, wr.cell? ⟨g, 0, none⟩ = some v ∧ wr.frozen? ⟨g, 0, none⟩ = false ∧ VM W v l := by
  obtain ⟨v, h1, h2, _⟩ := h
  exact ⟨v, by rw [row_blk h1]; rfl, by simp [World.frozen?, h1], h2⟩
theorem Cu.far {W wr : World} {g : Nat} {l : List VT} (h : Cu W wr g l) {r : Nat} (hr : r ≠ g) (hW : W.heap.size ≤ r) (j : Nat) (x : Value) : Cu W (wr.setCell ⟨r, j, none⟩ x) g l := by
  obtain ⟨v, h1, h2, h3, h4⟩ := h
  exact ⟨v, (Below.heap_setCell _ _ _ _ (Ne.symm hr)).trans h1, h2, h3, h4.setCell hW _⟩
theorem mod_far {w w' : World} {b r : Nat} (h : w.grownBy w' (some b)) (hr : w.heap.size ≤ r) (i : Nat) (x : Value) : w.grownBy (w'.setCell ⟨r, i, none⟩ x) (some b) :=
  ⟨h.os, h.tape, h.output, by simpa using h.size, fun k hk hb => (Below.heap_setCell _ _ _ _ (by simp; omega)).trans (h.block k hk hb)⟩
theorem grownBy_setC (w : World) (g j : Nat) (u : Value) : w.grownBy (w.setCell ⟨g, j, none⟩ u) (some g) := by
  refine ⟨rfl, rfl, rfl, by simp [World.setCell], fun k hk hne => ?_⟩
  have : g ≠ k := fun h => hne (by rw [h])
  simp [World.setCell, Array.getElem?_modify, this]
def V0 : Obj := .cells #[.int .i64 0, .string ⟨#[]⟩, .int .i64 0, .int .i64 0, .bool false, .bool false, .slice none 0 0] 64
theorem two_blks {wr w1 w2 : World} {cs : Array Value} {T : TypeId} (hw2 : w2 = w1.alloc (.cells cs T)) (P0 : w1.heap[wr.heap.size]? = some V0) (B0 : Below wr.heap.size wr w1) : w2.heap[wr.heap.size]? = some V0 ∧ w2.heap[w1.heap.size]? = some (.cells cs T) ∧ Below wr.heap.size wr w2 ∧ wr.heap.size < w1.heap.size := by
  subst hw2
  have hlt := (Array.getElem?_eq_some_iff.1 P0).1
  exact ⟨(Below.heap_alloc w1 _ _ hlt).trans P0, heap_alloc_new w1 _, bplus B0 _, hlt⟩
set_option maxRecDepth 100000 in
set_option maxHeartbeats 2000000 in
theorem take9_nil (W wr : World) (g : Nat) (h : Cu W wr g []) : Calls Tryz.prog 33 #[.pointer (some ⟨g, 0, none⟩)] wr fun e w' => e = .returned (.agg #[.int .i64 0, .string ⟨#[]⟩, .int .i64 0, .int .i64 0, .bool false, .bool false, .slice none 0 0]) ∧ Below wr.heap.size wr w' := by
  have hg := h.lt
  have CN := hide (fun (W' : World) (hb : Below wr.heap.size wr W') => next9_nil W W' g (h.low hb))
  have CD := hide (fun (W' : World) (hb : Below wr.heap.size wr W') => done9_any W W' g [] (h.low hb))
  have B0 := hide (bplus (Below.refl wr.heap.size wr) V0)
  have P0 := hide (show (wr.alloc V0).heap[wr.heap.size]? = some V0 from heap_alloc_new wr _)
  clear h
  go_enter Tryz.func33, Tryz.ntmps33
  go_upto_region 4 with (first
    | (go_at_call 41; refine (CN.out _ B0.out).mono ?_; rintro e w1 ⟨rfl, B1⟩; replace P0 := hide ((B1.block _ (Array.getElem?_eq_some_iff.1 P0.out).1).trans P0.out); replace B0 := hide (bto B0.out B1); clear B1)
    | (go_at_call 32; refine (CD.out _ (bplus B0.out _)).mono ?_; rintro e w2 ⟨rfl, hw2⟩; obtain ⟨Q0, Q1, B2, hlt⟩ := two_blks hw2 P0.out B0.out; replace B2 := hide B2; clear hw2 P0 B0))
  refine wp_region_list ?_
  refine wpList_load_mid rfl 64 (.tmp 3) rfl w1.heap.size 0 rfl [.int .i64 0, .string ⟨#[]⟩, .int .i64 0, .int .i64 0, .bool false, .bool false, .slice none 0 0] _ (range_blk Q1) Tryz.underlying64 rfl (by kernel_rfl) ?_
  refine wpList_store_mid rfl 64 (.tmp 2) (.tmp 17) rfl wr.heap.size 0 #[.int .i64 0, .string ⟨#[]⟩, .int .i64 0, .int .i64 0, .bool false, .bool false, .slice none 0 0] rfl rfl (there_blk Q0 rfl) (by kernel_rfl) (by simp [Value.oneCell']) ?_
  go_wp2_with fail
  refine ret_cell (b := wr.heap.size) (cs := [.int .i64 0, .string ⟨#[]⟩, .int .i64 0, .int .i64 0, .bool false, .bool false, .slice none 0 0]) Tryz.results33 rfl (World.rangeAt_setCells_same _ _ _ _ (there_blk Q0 rfl)) Tryz.underlying64 rfl (by kernel_rfl) rfl ?_
  exact ⟨rfl, B2.out.grown (setCells_grown _ _ _ _) B2.out.size (fun k hk => by cases hk; exact Nat.le_refl _)⟩
set_option maxRecDepth 100000 in
set_option maxHeartbeats 2000000 in
theorem take9_cons (W wr : World) (g : Nat) (t : TS) (ks r : List VT) (h : Cu W wr g (.mk t ks :: r)) : Calls Tryz.prog 33 #[.pointer (some ⟨g, 0, none⟩)] wr fun e w' => ∃ a n c, e = .returned (.agg #[.int .i64 t.k, .string t.s, .int .i64 t.n, .int .i64 t.d, .bool t.i, .bool t.h, .slice a n c]) ∧ VM W (.slice a n c) ks ∧ Cu W w' g r ∧ wr.grownBy w' (some g) := by
  have hg := h.lt
  have CN := hide (fun (W' : World) (hb : Below wr.heap.size wr W') => next9_cons W W' g t ks r (h.low hb))
  have CD := hide (fun (W' : World) (hb : Below wr.heap.size wr W') => done9_any W W' g _ (h.low hb))
  have B0 := hide (bplus (Below.refl wr.heap.size wr) V0)
  have P0 := hide (show (wr.alloc V0).heap[wr.heap.size]? = some V0 from heap_alloc_new wr _)
  have HC := hide h
  obtain ⟨v, hv1, _, h2⟩ := h.cell
  obtain ⟨b, o, c, hv, hc, hc9, hr9, ht⟩ := h2.tail
  rw [hv] at hv1
  have HG := hide (fun (w2 : World) (hb : Below wr.heap.size wr w2) => show w2.cell? ⟨g, 0, none⟩ = some (.slice (some ⟨b, o, none⟩) (r.length + 1) c) ∧ w2.frozen? ⟨g, 0, none⟩ = false by
    obtain ⟨v', k1, k2, _⟩ := (HC.out.low hb).cell
    exact ⟨(hb.cell (p := ⟨g, 0, none⟩) hg).trans hv1, k2⟩)
  have FIN := hide (fun (w2 : World) (hb : Below wr.heap.size wr w2) (a : Option Addr) (ha : 0 < r.length → a = some ⟨b, o + 7, none⟩) (vs : List Value) =>
    show Cu W ((w2.setCell ⟨g, 0, none⟩ (.slice a r.length (c - 1))).setCells wr.heap.size 0 vs) g r ∧ wr.grownBy ((w2.setCell ⟨g, 0, none⟩ (.slice a r.length (c - 1))).setCells wr.heap.size 0 vs) (some g) by
      have V : VM W (.slice a r.length (c - 1)) r := by
        by_cases hr : r = []
        · subst hr; exact .nil _ _
        · rw [ha (List.length_pos_iff.2 hr)]; exact ht
      have C2 := (HC.out.low hb).put V
      have G := setCells_grown wr.heap.size vs 0 (w2.setCell ⟨g, 0, none⟩ (.slice a r.length (c - 1)))
      have hne : some g ≠ some wr.heap.size := by intro e; cases e; omega
      obtain ⟨v3, q1, q2, q3, q4⟩ := C2
      refine ⟨⟨v3, (G.block g (Array.getElem?_eq_some_iff.1 q1).1 hne).trans q1, q2, q3, q4.grown G q4.size (fun k hk => by cases hk; obtain ⟨_, _, _, _, B⟩ := HC.out; exact B.size)⟩, ?_⟩
      have G1 := grownBy_setC w2 g 0 (.slice a r.length (c - 1))
      refine ⟨G.os.trans (G1.os.trans hb.os), G.tape.trans (G1.tape.trans hb.tape), G.output.trans (G1.output.trans hb.output), Nat.le_trans hb.size (Nat.le_trans G1.size G.size), fun k hk hne2 => ?_⟩
      have k2 : k < w2.heap.size := Nat.lt_of_lt_of_le hk hb.size
      exact (G.block k (Nat.lt_of_lt_of_le k2 G1.size) (by intro e; cases e; omega)).trans ((G1.block k k2 hne2).trans (hb.block k hk)))
  have hr1 : (1 : Int) ≤ (r.length : Int) + 1 := by omega
  generalize r.length = m at HG FIN hr1 hc hr9
  clear h h2 ht hv hv1
  go_enter Tryz.func33, Tryz.ntmps33
  go_upto_region 4 with (first
    | (go_at_call 41; refine (CN.out _ B0.out).mono ?_; rintro e w1 ⟨ka, kn, kc, rfl, VK, B1⟩; replace VK := hide VK; replace P0 := hide ((B1.block _ (Array.getElem?_eq_some_iff.1 P0.out).1).trans P0.out); replace B0 := hide (bto B0.out B1); clear B1)
    | (go_at_call 32; refine (CD.out _ (bplus B0.out _)).mono ?_; rintro e w2 ⟨rfl, hw2⟩; obtain ⟨R0, R1, B2, hlt⟩ := two_blks hw2 P0.out B0.out; obtain ⟨k1, k2⟩ := HG.out w2 B2; replace B2 := hide B2; clear hw2 P0 B0 HG))
  have hAD : 0 < m → (if c = 1 then some (⟨b, o, none⟩ : Addr) else some ⟨b, o + 7, none⟩) = some ⟨b, o + 7, none⟩ := fun hm => by rw [if_neg (by omega)]
  generalize (if c = 1 then some (⟨b, o, none⟩ : Addr) else some ⟨b, o + 7, none⟩) = ad at hAD ⊢
  have FF := hide (FIN.out w2 B2.out ad hAD [.int .i64 t.k, .string t.s, .int .i64 t.n, .int .i64 t.d, .bool t.i, .bool t.h, .slice ka kn kc])
  have Q0 := (Below.heap_setCell w2 ⟨g, 0, none⟩ (.slice ad m (c - 1)) wr.heap.size (by show wr.heap.size ≠ g; omega)).trans R0
  have Q1 := (Below.heap_setCell w2 ⟨g, 0, none⟩ (.slice ad m (c - 1)) w1.heap.size (by show w1.heap.size ≠ g; omega)).trans R1
  clear FIN R0 R1 B2 k1 k2 CN CD HC
  generalize w2.setCell ⟨g, 0, none⟩ (.slice ad m (c - 1)) = wx at FF Q0 Q1 ⊢
  refine wp_region_list ?_
  refine wpList_load_mid rfl 64 (.tmp 3) rfl w1.heap.size 0 rfl [.int .i64 t.k, .string t.s, .int .i64 t.n, .int .i64 t.d, .bool t.i, .bool t.h, .slice ka kn kc] _ (range_blk Q1) Tryz.underlying64 rfl (by kernel_rfl) ?_
  refine wpList_store_mid rfl 64 (.tmp 2) (.tmp 17) rfl wr.heap.size 0 #[.int .i64 t.k, .string t.s, .int .i64 t.n, .int .i64 t.d, .bool t.i, .bool t.h, .slice ka kn kc] rfl rfl (there_blk Q0 rfl) (by kernel_rfl) (by simp [Value.oneCell']) ?_
  go_wp2_with fail
  refine ret_cell (b := wr.heap.size) (cs := [.int .i64 t.k, .string t.s, .int .i64 t.n, .int .i64 t.d, .bool t.i, .bool t.h, .slice ka kn kc]) Tryz.results33 rfl (World.rangeAt_setCells_same _ _ _ _ (there_blk Q0 rfl)) Tryz.underlying64 rfl (by kernel_rfl) rfl ?_
  exact ⟨ka, kn, kc, rfl, VK.out, FF.out.1, FF.out.2⟩
end Go.Proofs.YtmkbjcoagfnegabGreatDoor
