/-
  What a kind of token has; fields, texts and numbers that may be; tokens that must stand apart: by the program.
  Tokens that must stand apart: by the program and by the reference.
-/
import Derived.Test.YtbdacepomdlcbaaGreatDoorJp
set_option linter.unusedVariables false
set_option linter.unusedSimpArgs false
namespace Go.Proofs.YtbdacepomdlcbaaGreatDoor
open Go.RowKit

/-- The table of kinds, as it is laid. -/
def KT (w : World) : Prop := 0 < w.heap.size ∧ ∀ k : Nat, k < 25 → w.cell? ⟨0, k * 6, none⟩ = some (.bool (tx k)) ∧ w.cell? ⟨0, k * 6 + 1, none⟩ = some (.bool (nm k)) ∧ w.cell? ⟨0, k * 6 + 2, none⟩ = some (.bool (nu k)) ∧ w.cell? ⟨0, k * 6 + 3, none⟩ = some (.bool (ro k)) ∧ w.cell? ⟨0, k * 6 + 4, none⟩ = some (.bool (jo k)) ∧ w.cell? ⟨0, k * 6 + 5, none⟩ = some (.string (fx k))
theorem KT.below {w w' : World} (h : KT w) (hb : Below w.heap.size w w') : KT w' := by
  refine ⟨Nat.lt_of_lt_of_le h.1 hb.size, fun k hk => ?_⟩
  obtain ⟨c0, c1, c2, c3, c4, c5⟩ := h.2 k hk
  exact ⟨(hb.cell (p := ⟨0, k * 6, none⟩) h.1).trans c0, (hb.cell (p := ⟨0, k * 6 + 1, none⟩) h.1).trans c1, (hb.cell (p := ⟨0, k * 6 + 2, none⟩) h.1).trans c2, (hb.cell (p := ⟨0, k * 6 + 3, none⟩) h.1).trans c3, (hb.cell (p := ⟨0, k * 6 + 4, none⟩) h.1).trans c4, (hb.cell (p := ⟨0, k * 6 + 5, none⟩) h.1).trans c5⟩
def trV (k : Int) : Value := .agg #[.bool (tx k), .bool (nm k), .bool (nu k), .bool (ro k), .bool (jo k), .string (fx k)]
theorem trV_out {k : Int} (h : k < 0 ∨ 25 ≤ k) : trV k = .agg #[.bool false, .bool false, .bool false, .bool false, .bool false, .string ⟨#[]⟩] := by
  unfold trV
  have e1 : tx k = false := by simp [tx]; omega
  have e2 : nm k = false := by simp [nm]; omega
  have e3 : nu k = false := by simp [nu]; omega
  have e4 : ro k = false := by simp [ro]; omega
  have e5 : jo k = false := by simp [jo]; omega
  have e6 : fx k = ⟨#[]⟩ := by
    unfold fx
    iterate 14 rw [if_neg (by omega)]
  rw [e1, e2, e3, e4, e5, e6]
set_option maxRecDepth 100000 in
set_option maxHeartbeats 1000000 in
theorem traits_any (k : Int) (w : World) (k1 : -9223372036854775808 ≤ k) (k2 : k ≤ 9223372036854775807) (hK : KT w) :
    Calls Tryz.prog 66 #[.int .i64 k] w fun e w' => e = .returned (trV k) ∧ Below w.heap.size w w' := by
  by_cases hk : k < 0 ∨ 25 ≤ k
  · have E := hide (trV_out hk)
    rcases hk with hk | hk
    all_goals
      go_enter Tryz.func66, Tryz.ntmps66
      go_wp2
      refine bodyPost_ret (v := .agg #[.bool false, .bool false, .bool false, .bool false, .bool false, .string ⟨#[]⟩]) (by simp [results, Tryz.results66, go_sem]) rfl ⟨by rw [E.out], ?_⟩
      exact bplus (Below.refl _ _) _
  · obtain ⟨j, rfl⟩ := Int.eq_ofNat_of_zero_le (show 0 ≤ k by omega)
    have hj : j < 25 := by omega
    obtain ⟨c0, c1, c2, c3, c4, c5⟩ := hK.2 j hj
    have hz := hK.1
    have i0 : (0 : Int) ≤ j := by omega
    have i1 : (j : Int) < 25 := by omega
    unfold trV
    generalize tx (j : Int) = t1 at *
    generalize nm (j : Int) = t2 at *
    generalize nu (j : Int) = t3 at *
    generalize ro (j : Int) = t4 at *
    generalize jo (j : Int) = t5 at *
    generalize fx (j : Int) = t6 at *
    clear hk hK
    go_enter Tryz.func66, Tryz.ntmps66
    go_wp2
    refine bodyPost_ret (v := .agg #[.bool t1, .bool t2, .bool t3, .bool t4, .bool t5, .string t6]) (by simp [results, Tryz.results66, go_sem]) rfl ⟨rfl, ?_⟩
    exact bplus (Below.refl _ _) _
/-! ### Fields of what a kind has -/
theorem fld0 (a0 a1 a2 a3 a4 : Bool) (a5 : ByteArray) (w : World) : (Instr.field 97 (.agg #[.bool a0, .bool a1, .bool a2, .bool a3, .bool a4, .string a5]) 0).run Tryz.prog w = .ok (.bool a0) w := by kernel_rfl
theorem fld1 (a0 a1 a2 a3 a4 : Bool) (a5 : ByteArray) (w : World) : (Instr.field 97 (.agg #[.bool a0, .bool a1, .bool a2, .bool a3, .bool a4, .string a5]) 1).run Tryz.prog w = .ok (.bool a1) w := by kernel_rfl
theorem fld2 (a0 a1 a2 a3 a4 : Bool) (a5 : ByteArray) (w : World) : (Instr.field 97 (.agg #[.bool a0, .bool a1, .bool a2, .bool a3, .bool a4, .string a5]) 2).run Tryz.prog w = .ok (.bool a2) w := by kernel_rfl
theorem fld3 (a0 a1 a2 a3 a4 : Bool) (a5 : ByteArray) (w : World) : (Instr.field 97 (.agg #[.bool a0, .bool a1, .bool a2, .bool a3, .bool a4, .string a5]) 3).run Tryz.prog w = .ok (.bool a3) w := by kernel_rfl
theorem fld4 (a0 a1 a2 a3 a4 : Bool) (a5 : ByteArray) (w : World) : (Instr.field 97 (.agg #[.bool a0, .bool a1, .bool a2, .bool a3, .bool a4, .string a5]) 4).run Tryz.prog w = .ok (.bool a4) w := by kernel_rfl
/-! ### Tokens in memory -/
def tokV (k : Int) (s : ByteArray) (n d : Int) (i h : Bool) : Value := .agg #[.int .i64 k, .string s, .int .i64 n, .int .i64 d, .bool i, .bool h]
def Tok6 (w : World) (b : Nat) (k : Int) (s : ByteArray) (n d : Int) (i h : Bool) : Prop :=
  b < w.heap.size ∧ w.cell? ⟨b, 0, none⟩ = some (.int .i64 k) ∧ w.cell? ⟨b, 1, none⟩ = some (.string s) ∧ w.cell? ⟨b, 2, none⟩ = some (.int .i64 n) ∧ w.cell? ⟨b, 3, none⟩ = some (.int .i64 d) ∧ w.cell? ⟨b, 4, none⟩ = some (.bool i) ∧ w.cell? ⟨b, 5, none⟩ = some (.bool h)
theorem Tok6.below {w w' : World} {b : Nat} {k : Int} {s : ByteArray} {n d : Int} {i h : Bool} (t : Tok6 w b k s n d i h) (hb : Below w.heap.size w w') : Tok6 w' b k s n d i h := by
  obtain ⟨z, c0, c1, c2, c3, c4, c5⟩ := t
  exact ⟨Nat.lt_of_lt_of_le z hb.size, (hb.cell (p := ⟨b, 0, none⟩) z).trans c0, (hb.cell (p := ⟨b, 1, none⟩) z).trans c1, (hb.cell (p := ⟨b, 2, none⟩) z).trans c2, (hb.cell (p := ⟨b, 3, none⟩) z).trans c3, (hb.cell (p := ⟨b, 4, none⟩) z).trans c4, (hb.cell (p := ⟨b, 5, none⟩) z).trans c5⟩
theorem Tok6.box (w : World) (k : Int) (s : ByteArray) (n d : Int) (i h : Bool) (T : TypeId) : Tok6 (w.alloc (.cells #[.int .i64 k, .string s, .int .i64 n, .int .i64 d, .bool i, .bool h] T)) w.heap.size k s n d i h :=
  ⟨by simp, by simp [go_sem], by simp [go_sem], by simp [go_sem], by simp [go_sem], by simp [go_sem], by simp [go_sem]⟩
theorem emp_iff (s : ByteArray) : (bl s).isEmpty = s.toList.isEmpty := by
  by_cases h : s.size = 0
  · rw [emp_t h, bl_nil h]; rfl
  · rw [emp_f (by omega)]
    cases hb : bl s with
    | nil => exact absurd (bl_size0.1 hb) h
    | cons c r => rfl
/-- The ways of a token's fields. -/
theorem fd_ways (k : Int) (e : Bool) (n d : Int) (i h : Bool) :
    (tx k = false ∧ e = false) ∨
    (((tx k = true) ∨ (tx k = false ∧ e = true)) ∧ ((nu k = false ∧ ((n == 0) = false ∨ ((n == 0) = true ∧ (d == 0) = false) ∨ ((n == 0) = true ∧ (d == 0) = true ∧ i = true))) ∨ ((nu k = true ∨ (nu k = false ∧ (n == 0) = true ∧ (d == 0) = true ∧ i = false)) ∧ ((k == 4) = true ∨ (k == 4) = false)))) := by
  cases tx k <;> cases e <;> cases nu k <;> cases (n == 0) <;> cases (d == 0) <;> cases i <;> cases (k == 4) <;> simp
set_option maxRecDepth 100000 in
set_option maxHeartbeats 2000000 in
theorem fields_any (k : Int) (s : ByteArray) (n d : Int) (i h : Bool) (w : World) (k1 : -9223372036854775808 ≤ k) (k2 : k ≤ 9223372036854775807) (hK : KT w) :
    Calls Tryz.prog 63 #[tokV k s n d i h] w fun e w' => e = .returned (.bool (fdB k (bl s) n d i h)) ∧ Below w.heap.size w w' := by
  have HK := hide (hK.below (bplus (Below.refl _ _) (.cells #[.int .i64 k, .string s, .int .i64 n, .int .i64 d, .bool i, .bool h] 41)))
  have TB := hide (Tok6.box w k s n d i h 41)
  have W := fd_ways k s.toList.isEmpty n d i h
  have HE := hide (show fdB k (bl s) n d i h = ((tx k || s.toList.isEmpty) && ((nu k || (((n == 0) && (d == 0)) && !i)) && ((k == 4) || !h))) by unfold fdB; rw [emp_iff])
  unfold tokV
  generalize hs : s.toList.isEmpty = se at *
  rcases W with ⟨x1, rfl⟩ | ⟨x1 | ⟨x1, rfl⟩, ⟨x3, x4 | ⟨x4, x5⟩ | ⟨x4, x5, rfl⟩⟩ | ⟨x3 | ⟨x3, x4, x5, rfl⟩, x6 | x6⟩⟩
  all_goals
    have X1 := hide x1
    try (have X3 := hide x3)
    go_enter Tryz.func63, Tryz.ntmps63
    go_wp2_with (go_at_call 66; refine (traits_any k _ k1 k2 HK.out).mono ?_; rintro e w1 ⟨rfl, B1⟩; obtain ⟨z1, q0, q1, q2, q3, q4, q5⟩ := TB.out.below B1; unfold trV; rw [X1.out]; (try rw [X3.out]); replace B1 := hide (bto (bplus (Below.refl _ _) _) B1))
    go_ret
    refine ⟨ret_bool (by rw [HE.out]; simp [*]), ?_⟩
    repeat (first | (with_reducible exact B1.out) | (with_reducible refine Below.setCell ?_ (by simp) _) | (with_reducible refine bplus ?_ _))
set_option maxRecDepth 100000 in
set_option maxHeartbeats 2000000 in
theorem text_any (k : Int) (s : ByteArray) (n d : Int) (i h : Bool) (w : World) (k1 : -9223372036854775808 ≤ k) (k2 : k ≤ 9223372036854775807) (hs : s.size ≤ 140737488355328) (hK : KT w) :
    Calls Tryz.prog 64 #[tokV k s n d i h] w fun e w' => e = .returned (.bool (txB k (bl s) h)) ∧ Below w.heap.size w w' := by
  have HK := hide (hK.below (bplus (Below.refl _ _) (.cells #[.int .i64 k, .string s, .int .i64 n, .int .i64 d, .bool i, .bool h] 41)))
  have TB := hide (Tok6.box w k s n d i h 41)
  have C1 := hide (fun W => isDelim_any s W hs)
  have C2 := hide (fun W => isNumeric_any s W hs)
  have C3 := hide (fun W => isText_any s W hs)
  have EM := hide (emp_iff s)
  have f1 := fld1
  unfold tokV
  by_cases k9 : k = 9
  · have F := hide (show txB k (bl s) h = dlB (bl s) by unfold txB; rw [if_pos k9])
    have k9' : (k == 9) = true := by simpa using k9
    clear k9
    go_enter Tryz.func64, Tryz.ntmps64
    go_wp2_with (go_at_call 91; refine (C1.out _).mono ?_; rintro e w1 ⟨rfl, rfl⟩)
    go_ret
    exact ⟨ret_bool F.out.symm, bplus (Below.refl _ _) _⟩
  have k9' : (k == 9) = false := by simpa using k9
  by_cases hx : k = 4 ∧ h = false ∧ fB (bl s) = false
  · have F := hide (show txB k (bl s) h = false by unfold txB; rw [if_neg k9, if_pos hx])
    obtain ⟨rfl, rfl, x3⟩ := hx
    have X3 := hide x3
    clear x3 k9 k9'
    go_enter Tryz.func64, Tryz.ntmps64
    go_wp2_with (go_at_call 92; refine (C2.out _).mono ?_; rintro e w1 ⟨rfl, rfl⟩; rw [X3.out])
    go_ret
    exact ⟨ret_bool F.out.symm, bplus (Below.refl _ _) _⟩
  have F0 := hide (show txB k (bl s) h = if nm k = true ∧ bl s = [] then false else chB (bl s) by unfold txB; rw [if_neg k9, if_neg hx])
  have W : ((k == 4) = false ∨ ((k == 4) = true ∧ h = true) ∨ ((k == 4) = true ∧ h = false ∧ fB (bl s) = true)) := by
    by_cases h4 : k = 4
    · cases h with
      | true => right; left; simpa using h4
      | false =>
        right; right
        refine ⟨by simpa using h4, rfl, ?_⟩
        cases hf : fB (bl s) with
        | true => rfl
        | false => exact absurd ⟨h4, rfl, hf⟩ hx
    · left; simpa using h4
  have V : (nm k = true ∧ s.toList.isEmpty = true ∧ txB k (bl s) h = false) ∨ (nm k = false ∧ txB k (bl s) h = chB (bl s)) ∨ (nm k = true ∧ s.toList.isEmpty = false ∧ txB k (bl s) h = chB (bl s)) := by
    rw [← EM.out, F0.out]
    cases nm k with
    | false => right; left; exact ⟨rfl, if_neg (by simp)⟩
    | true =>
      cases hb : bl s with
      | nil => left; exact ⟨rfl, rfl, if_pos ⟨rfl, rfl⟩⟩
      | cons c r => right; right; exact ⟨rfl, rfl, if_neg (by simp)⟩
  clear hx k9 F0
  rcases W with x4 | ⟨x4, rfl⟩ | ⟨x4, rfl, x5⟩ <;> rcases V with ⟨y1, y2, y3⟩ | ⟨y1, y3⟩ | ⟨y1, y2, y3⟩
  all_goals
    have Y1 := hide y1
    have Y3 := hide y3
    try (have X5 := hide x5)
    clear y1 y3
    try clear x5
    go_enter Tryz.func64, Tryz.ntmps64
    go_wp2_with (first
      | (go_at_call 92; refine (C2.out _).mono ?_; rintro e w1 ⟨rfl, rfl⟩; rw [X5.out])
      | (go_at_call 66; refine (traits_any k _ k1 k2 HK.out).mono ?_; rintro e w1 ⟨rfl, B1⟩; obtain ⟨z1, q0, q1, q2, q3, q4, q5⟩ := TB.out.below B1; unfold trV; rw [Y1.out]; replace B1 := hide (bto (bplus (Below.refl _ _) _) B1))
      | (go_at_call 93; refine (C3.out _).mono ?_; rintro e w2 ⟨rfl, B2⟩; replace B1 := hide (bto B1.out B2)))
    go_ret
    exact ⟨ret_bool Y3.out.symm, B1.out⟩
theorem plR_ok {n d : Int} {i : Bool} {s : ByteArray} {x : Int} (hp : PlR n d i s x) : (x == 0) = (plT n d i).isSome := by
  unfold PlR at hp
  cases hq : plT n d i with
  | none => rw [hq] at hp; rw [hp.1]; rfl
  | some t => rw [hq] at hp; rw [hp.1]; rfl
set_option maxRecDepth 100000 in
set_option maxHeartbeats 2000000 in
theorem number_any (k : Int) (s : ByteArray) (n d : Int) (i h : Bool) (w : World) (k1 : -9223372036854775808 ≤ k) (k2 : k ≤ 9223372036854775807) (n1 : -9223372036854775808 ≤ n) (n2 : n ≤ 9223372036854775807) (d1 : -9223372036854775808 ≤ d) (d2 : d ≤ 9223372036854775807) (hK : KT w) (hT : Tabs w) :
    Calls Tryz.prog 65 #[tokV k s n d i h] w fun e w' => e = .returned (.bool (nuB1 k n d i)) ∧ Below w.heap.size w w' := by
  have HK := hide (hK.below (bplus (Below.refl _ _) (.cells #[.int .i64 k, .string s, .int .i64 n, .int .i64 d, .bool i, .bool h] 41)))
  have TB := hide (Tok6.box w k s n d i h 41)
  have W1 := hide (fun (W : World) (h : Below w.heap.size w W) => hT.below h)
  have C := hide (fun (W : World) (h : Below w.heap.size w W) => plainP_any n d i W n1 n2 d1 d2 (W1.out W h))
  have f2 := fld2
  unfold tokV
  cases hn : nu k with
  | false =>
    have F := hide (show nuB1 k n d i = true by unfold nuB1; rw [hn]; rfl)
    have X := hide hn
    clear hn
    go_enter Tryz.func65, Tryz.ntmps65
    go_wp2_with (go_at_call 66; refine (traits_any k _ k1 k2 HK.out).mono ?_; rintro e w1 ⟨rfl, B1⟩; unfold trV; rw [X.out]; replace B1 := hide (bto (bplus (Below.refl _ _) _) B1))
    go_ret
    exact ⟨ret_bool F.out.symm, B1.out⟩
  | true =>
    have F := hide (show nuB1 k n d i = (plT n d i).isSome by unfold nuB1; rw [hn]; rfl)
    have X := hide hn
    clear hn
    have Z := hide (fun s x (hp : PlR n d i s x) => plR_ok hp)
    go_enter Tryz.func65, Tryz.ntmps65
    go_wp2_with (first
      | (go_at_call 66; refine (traits_any k _ k1 k2 HK.out).mono ?_; rintro e w1 ⟨rfl, B1⟩; obtain ⟨z1, q0, q1, q2, q3, q4, q5⟩ := TB.out.below B1; unfold trV; rw [X.out]; replace B1 := hide (bto (bplus (Below.refl _ _) _) B1))
      | (go_at_call 94; refine (C.out _ B1.out).mono ?_; rintro e w2 ⟨ps, px, rfl, PP, B2⟩; have Q := hide (Z.out ps px PP); clear PP; replace B1 := hide (bto B1.out B2)))
    go_ret
    exact ⟨ret_bool (by rw [F.out, ← Q.out]), B1.out⟩
/-! ### The whole -/
set_option maxRecDepth 100000 in
set_option maxHeartbeats 2000000 in
theorem mayS_any (k : Int) (s : ByteArray) (n d : Int) (i h : Bool) (w : World) (k1 : -9223372036854775808 ≤ k) (k2 : k ≤ 9223372036854775807) (hs : s.size ≤ 140737488355328) (n1 : -9223372036854775808 ≤ n) (n2 : n ≤ 9223372036854775807) (d1 : -9223372036854775808 ≤ d) (d2 : d ≤ 9223372036854775807) (hK : KT w) (hT : Tabs w) :
    Calls Tryz.prog 37 #[tokV k s n d i h] w fun e w' => e = .returned (.bool (mayT k (bl s) n d i h)) ∧ Below w.heap.size w w' := by
  have TB := hide (Tok6.box w k s n d i h 41)
  have W1 := hide (fun (W : World) (h : Below w.heap.size w W) => hT.below h)
  have W2 := hide (fun (W : World) (h : Below w.heap.size w W) => hK.below h)
  have C1 := hide (fun (W : World) (hb : Below w.heap.size w W) => fields_any k s n d i h W k1 k2 (W2.out W hb))
  have C2 := hide (fun (W : World) (hb : Below w.heap.size w W) => text_any k s n d i h W k1 k2 hs (W2.out W hb))
  have C3 := hide (fun (W : World) (hb : Below w.heap.size w W) => number_any k s n d i h W k1 k2 n1 n2 d1 d2 (W2.out W hb) (W1.out W hb))
  have M := hide (show mayT k (bl s) n d i h = ((decide (1 ≤ k) && decide (k ≤ 24)) && ((fdB k (bl s) n d i h && txB k (bl s) h) && nuB1 k n d i)) from rfl)
  unfold tokV at *
  by_cases hk1 : k < 1
  · have F := hide (show mayT k (bl s) n d i h = false by rw [M.out]; simp; omega)
    go_enter Tryz.func37, Tryz.ntmps37
    go_wp2
    go_ret
    exact ⟨ret_bool F.out.symm, bplus (Below.refl _ _) _⟩
  by_cases hk2 : 24 < k
  · have F := hide (show mayT k (bl s) n d i h = false by rw [M.out]; simp; omega)
    have hk1' : 1 ≤ k := by omega
    go_enter Tryz.func37, Tryz.ntmps37
    go_wp2
    go_ret
    exact ⟨ret_bool F.out.symm, bplus (Below.refl _ _) _⟩
  have hk1' : 1 ≤ k := by omega
  have hk2' : k ≤ 24 := by omega
  have M2 := hide (show mayT k (bl s) n d i h = ((fdB k (bl s) n d i h && txB k (bl s) h) && nuB1 k n d i) by rw [M.out]; simp [hk1', hk2'])
  clear hk1 hk2
  cases hf : fdB k (bl s) n d i h <;> cases ht : txB k (bl s) h
  all_goals
    have HF := hide hf
    have HX := hide ht
    clear hf ht
    go_enter Tryz.func37, Tryz.ntmps37
    go_wp2_with (first
      | (go_at_call 63; refine (C1.out _ (bplus (Below.refl _ _) _)).mono ?_; rintro e w1 ⟨rfl, B1⟩; obtain ⟨z1, q0, q1, q2, q3, q4, q5⟩ := TB.out.below B1; rw [HF.out]; replace B1 := hide (bto (bplus (Below.refl _ _) _) B1))
      | (go_at_call 64; refine (C2.out _ B1.out).mono ?_; rintro e w2 ⟨rfl, B2⟩; have T2 : Tok6 w2 w.heap.size k s n d i h := (Tok6.below ⟨z1, q0, q1, q2, q3, q4, q5⟩ B2); clear q0 q1 q2 q3 q4 q5; obtain ⟨z2, q0, q1, q2, q3, q4, q5⟩ := T2; rw [HX.out]; replace B1 := hide (bto B1.out B2))
      | (go_at_call 65; refine (C3.out _ B1.out).mono ?_; rintro e w3 ⟨rfl, B3⟩; replace B1 := hide (bto B1.out B3)))
    go_ret
    exact ⟨ret_bool (by rw [M2.out, HF.out, HX.out]; rfl), B1.out⟩
end Go.Proofs.YtbdacepomdlcbaaGreatDoor
set_option linter.unusedVariables false
set_option linter.unusedSimpArgs false
namespace Go.Proofs.YtbdacepomdlcbaaGreatDoor
open Go.RowKit

theorem ap_ways (a b : Int) : ((a == 13) = true ∧ (b == 13) = true ∧ apB a b = true) ∨ ((a == 13) = true ∧ (b == 13) = false ∧ ro a = false ∧ apB a b = false) ∨ ((a == 13) = false ∧ ro a = false ∧ apB a b = false) ∨ ((a == 13) = false ∧ ro a = true ∧ apB a b = jo b) := by
  unfold apB
  by_cases h : a = 13
  · subst h
    cases (b == 13)
    · right; left; exact ⟨rfl, rfl, rfl, rfl⟩
    · left; exact ⟨rfl, rfl, rfl⟩
  · have h' : (a == 13) = false := by simpa using h
    rw [h']
    cases ro a
    · right; right; left; exact ⟨rfl, rfl, rfl⟩
    · right; right; right; exact ⟨rfl, rfl, by simp⟩
set_option maxRecDepth 100000 in
set_option maxHeartbeats 2000000 in
theorem apartS_any (k : Int) (s : ByteArray) (n d : Int) (i h : Bool) (k' : Int) (s' : ByteArray) (n' d' : Int) (i' h' : Bool) (w : World) (k1 : -9223372036854775808 ≤ k) (k2 : k ≤ 9223372036854775807) (k3 : -9223372036854775808 ≤ k') (k4 : k' ≤ 9223372036854775807) (hK : KT w) :
    Calls Tryz.prog 38 #[tokV k s n d i h, tokV k' s' n' d' i' h'] w fun e w' => e = .returned (.bool (apB k k')) ∧ Below w.heap.size w w' := by
  have W2 := hide (fun (W : World) (h : Below w.heap.size w W) => hK.below h)
  have C1 := hide (fun (W : World) (hb : Below w.heap.size w W) => traits_any k W k1 k2 (W2.out W hb))
  have C2 := hide (fun (W : World) (hb : Below w.heap.size w W) => traits_any k' W k3 k4 (W2.out W hb))
  have TB := hide ((Tok6.box w k s n d i h 41).below (bplus (Below.refl _ _) (.cells #[.int .i64 k', .string s', .int .i64 n', .int .i64 d', .bool i', .bool h'] 41)))
  have TC := hide (Tok6.box (w.alloc (.cells #[.int .i64 k, .string s, .int .i64 n, .int .i64 d, .bool i, .bool h] 41)) k' s' n' d' i' h' 41)
  have e1 : (w.alloc (.cells #[.int .i64 k, .string s, .int .i64 n, .int .i64 d, .bool i, .bool h] 41)).heap.size = w.heap.size + 1 := by simp
  rw [e1] at TC
  clear e1
  have B0 := hide (bplus (bplus (Below.refl w.heap.size w) (.cells #[.int .i64 k, .string s, .int .i64 n, .int .i64 d, .bool i, .bool h] 41)) (.cells #[.int .i64 k', .string s', .int .i64 n', .int .i64 d', .bool i', .bool h'] 41))
  have f3 := fld3
  have f4 := fld4
  unfold tokV
  rcases ap_ways k k' with ⟨x1, x2, x3⟩ | ⟨x1, x2, x4, x3⟩ | ⟨x1, x4, x3⟩ | ⟨x1, x4, x3⟩
  · have F := hide x3
    clear x3 f3 f4
    go_enter Tryz.func38, Tryz.ntmps38
    go_wp2
    go_ret
    exact ⟨ret_bool F.out.symm, B0.out⟩
  all_goals
    have F := hide x3
    have X4 := hide x4
    clear x3 x4
    go_enter Tryz.func38, Tryz.ntmps38
    go_wp2_with (first
      | (go_at_call_of 66 (Value.int IntKind.i64 k); refine (C1.out _ B0.out).mono ?_; rintro e w1 ⟨rfl, B1⟩; obtain ⟨z1, q0, q1, q2, q3, q4, q5⟩ := TC.out.below B1; unfold trV; rw [X4.out]; replace B1 := hide (bto B0.out B1))
      | (go_at_call 66; refine (C2.out _ B1.out).mono ?_; rintro e w2 ⟨rfl, B2⟩; unfold trV; replace B1 := hide (bto B1.out B2)))
    go_ret
    exact ⟨ret_bool F.out.symm, B1.out⟩
theorem ro_ways (a : Int) : (ro a = false ∧ (a == 1) = false ∧ (a == 3) = false ∧ (a == 4) = false ∧ (a == 10) = false ∧ (a == 12) = false ∧ (a == 9) = false) ∨ (ro a = true ∧ (a = 1 ∨ a = 3 ∨ a = 4 ∨ a = 10 ∨ a = 12 ∨ a = 9)) := by
  by_cases h : a = 1 ∨ a = 3 ∨ a = 4 ∨ a = 10 ∨ a = 12 ∨ a = 9
  · right; refine ⟨?_, h⟩; rcases h with rfl | rfl | rfl | rfl | rfl | rfl <;> rfl
  · left; simp [ro]; omega
theorem jo_ways (a : Int) : (jo a = false ∧ (a == 1) = false ∧ (a == 2) = false ∧ (a == 7) = false ∧ (a == 8) = false ∧ (a == 10) = false ∧ (a == 11) = false ∧ (a == 12) = false ∧ (a == 15) = false ∧ (a == 21) = false ∧ (a == 9) = false) ∨ (jo a = true ∧ (a = 1 ∨ a = 2 ∨ a = 7 ∨ a = 8 ∨ a = 10 ∨ a = 11 ∨ a = 12 ∨ a = 15 ∨ a = 21 ∨ a = 9)) := by
  by_cases h : a = 1 ∨ a = 2 ∨ a = 7 ∨ a = 8 ∨ a = 10 ∨ a = 11 ∨ a = 12 ∨ a = 15 ∨ a = 21 ∨ a = 9
  · right; refine ⟨?_, h⟩; rcases h with rfl | rfl | rfl | rfl | rfl | rfl | rfl | rfl | rfl | rfl <;> rfl
  · left; simp [jo]; omega
set_option maxRecDepth 100000 in
set_option maxHeartbeats 8000000 in
theorem apartR_any (k : Int) (s : ByteArray) (n d : Int) (i h : Bool) (k' : Int) (s' : ByteArray) (n' d' : Int) (i' h' : Bool) (w : World) :
    Calls Tryz.prog 43 #[tokV k s n d i h, tokV k' s' n' d' i' h'] w fun e w' => e = .returned (.bool (apB k k')) ∧ Below w.heap.size w w' := by
  have B0 := hide (bplus (bplus (Below.refl w.heap.size w) (.cells #[.int .i64 k, .string s, .int .i64 n, .int .i64 d, .bool i, .bool h] 41)) (.cells #[.int .i64 k', .string s', .int .i64 n', .int .i64 d', .bool i', .bool h'] 41))
  unfold tokV
  have key : ∀ b, ro b = true → (b == 13) = false := fun b hb => by
    rcases ro_ways b with ⟨h1, _⟩ | ⟨_, h2⟩
    · rw [h1] at hb; cases hb
    · simp; omega
  rcases ap_ways k k' with ⟨x1, x2, x3⟩ | ⟨x1, x2, x4, x3⟩ | ⟨x1, x4, x3⟩ | ⟨x1, x4, x3⟩
  · have F := hide x3
    clear x3 key
    go_enter Tryz.func43, Tryz.ntmps43
    go_wp2
    go_ret
    exact ⟨ret_bool F.out.symm, B0.out⟩
  · have F := hide x3
    rcases ro_ways k with ⟨_, y1, y2, y3, y4, y5, y6⟩ | ⟨g, _⟩
    · clear x3 x4 key
      go_enter Tryz.func43, Tryz.ntmps43
      go_wp2
      go_ret
      exact ⟨ret_bool F.out.symm, B0.out⟩
    · rw [g] at x4; cases x4
  · have F := hide x3
    rcases ro_ways k with ⟨_, y1, y2, y3, y4, y5, y6⟩ | ⟨g, _⟩
    · clear x3 x4 key
      go_enter Tryz.func43, Tryz.ntmps43
      go_wp2
      go_ret
      exact ⟨ret_bool F.out.symm, B0.out⟩
    · rw [g] at x4; cases x4
  · rcases ro_ways k with ⟨g, _⟩ | ⟨_, y⟩
    · rw [g] at x4; cases x4
    · clear key x1
      rcases jo_ways k' with ⟨g, z1, z2, z3, z4, z5, z6, z7, z8, z9, z10⟩ | ⟨g, z⟩
      · rw [g] at x3
        have F := hide x3
        clear x3 x4 g
        rcases y with rfl | rfl | rfl | rfl | rfl | rfl
        all_goals
          go_enter Tryz.func43, Tryz.ntmps43
          go_wp2
          go_ret
          exact ⟨ret_bool F.out.symm, B0.out⟩
      · rw [g] at x3
        have F := hide x3
        clear x3 x4 g
        rcases z with rfl | rfl | rfl | rfl | rfl | rfl | rfl | rfl | rfl | rfl
        all_goals
          rcases y with rfl | rfl | rfl | rfl | rfl | rfl
          all_goals
            go_enter Tryz.func43, Tryz.ntmps43
            go_wp2
            go_ret
            exact ⟨ret_bool F.out.symm, B0.out⟩
end Go.Proofs.YtbdacepomdlcbaaGreatDoor
