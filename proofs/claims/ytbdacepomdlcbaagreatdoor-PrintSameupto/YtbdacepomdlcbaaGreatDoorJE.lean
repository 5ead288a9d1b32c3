/-
  Rules: plain, and in memory; the small tests of the writer.
  Blocks, written by the program.
  Rules, written by the program.
-/
import Derived.Test.YtbdacepomdlcbaaGreatDoorJD
set_option linter.unusedVariables false
set_option linter.unusedSimpArgs false
namespace Go.Proofs.YtbdacepomdlcbaaGreatDoor
open Go.RowKit Go.Shelf

/-- A rule. -/
inductive RT where
  | mk (k : Int) (s : ByteArray) (p : List VT) (ds : List DT) (rs : List RT)
def RT.k : RT → Int | .mk k _ _ _ _ => k
def RT.s : RT → ByteArray | .mk _ s _ _ _ => s
def RT.p : RT → List VT | .mk _ _ p _ _ => p
def RT.ds : RT → List DT | .mk _ _ _ ds _ => ds
def RT.rs : RT → List RT | .mk _ _ _ _ rs => rs
/-- The names of groups. -/
def gnB (s : ByteArray) : Bool := decide (bl s = [109, 101, 100, 105, 97] ∨ bl s = [115, 117, 112, 112, 111, 114, 116, 115] ∨ bl s = [99, 111, 110, 116, 97, 105, 110, 101, 114])
def vlB (l : List VT) : Prop := myL l 64 = true ∧ ∀ t ∈ flL l, t.may = true
def vlT (l : List VT) : List Int := spK wtA (flL l) (flL l).length
mutual
/-- A rule's text. -/
def ruT : RT → List Int
  | .mk k s p ds rs => if k = 1 then ((vlT p ++ [123]) ++ dsT ds) ++ [125] else (((64 :: (bl s ++ [32])) ++ (vlT p ++ [123])) ++ rusT rs) ++ [125]
def rusT : List RT → List Int
  | [] => []
  | r :: rs => ruT r ++ rusT rs
end
theorem rusT_nil : rusT [] = [] := by rw [rusT]
theorem rusT_cons (r : RT) (rs : List RT) : rusT (r :: rs) = ruT r ++ rusT rs := by rw [rusT]
theorem rusT_app (a b : List RT) : rusT (a ++ b) = rusT a ++ rusT b := by
  induction a with
  | nil => rw [rusT_nil]; rfl
  | cons x r ih => rw [List.cons_append, rusT_cons, rusT_cons, ih]; simp
mutual
/-- May it be written, so many groups around? -/
def okR : RT → Nat → Prop
  | .mk k s p ds rs, n => n < 64 ∧ vlB p ∧ ((k = 1 ∧ s.size = 0 ∧ rs = [] ∧ ∀ d ∈ ds, dcB d.s d.l) ∨ (k = 2 ∧ gnB s = true ∧ ds = [] ∧ okRs rs (n + 1)))
def okRs : List RT → Nat → Prop
  | [], _ => True
  | r :: rs, n => okR r n ∧ okRs rs n
end
theorem okRs_nil (n : Nat) : okRs [] n := by rw [okRs]; trivial
theorem okRs_cons (r : RT) (rs : List RT) (n : Nat) : okRs (r :: rs) n = (okR r n ∧ okRs rs n) := by rw [okRs]
theorem okRs_mem {rs : List RT} {n : Nat} : okRs rs n ↔ ∀ r ∈ rs, okR r n := by
  induction rs with
  | nil => simp [okRs_nil]
  | cons x r ih => rw [okRs_cons, ih]; simp
mutual
def zsR : RT → Nat
  | .mk _ _ _ _ rs => zsL rs + 1
def zsL : List RT → Nat
  | [] => 0
  | r :: rs => zsR r + zsL rs
end
theorem zsL_cons (r : RT) (rs : List RT) : zsL (r :: rs) = zsL r.rs + 1 + zsL rs := by cases r with | mk k s p ds rs' => rw [zsL, zsR]; rfl
theorem zs_at {l : List RT} {k : Nat} {x : RT} (h : l[k]? = some x) : zsL x.rs < zsL l := by
  induction l generalizing k with
  | nil => simp at h
  | cons y r ih =>
    rw [zsL_cons]
    cases k with
    | zero => cases h; omega
    | succ k => have := ih (k := k) h; omega
/-- A slice of rules in memory. -/
inductive RM (w : World) : Value → List RT → Prop
  | nil (a : Option Addr) (c : Nat) : RM w (.slice a 0 c) []
  | row (b o c : Nat) (l : List RT) (up ud ur : Nat → Value) (h0 : 0 < l.length) (hb : b < w.heap.size) (hc : l.length ≤ c) (hn : l.length ≤ 1000000000) (hm : c ≤ 9223372036854775807)
      (h1 : ∀ i r, l[i]? = some r → w.cell? ⟨b, o + i * 5, none⟩ = some (.int .i64 r.k) ∧ w.cell? ⟨b, o + i * 5 + 1, none⟩ = some (.string r.s) ∧ w.cell? ⟨b, o + i * 5 + 2, none⟩ = some (up i) ∧ w.cell? ⟨b, o + i * 5 + 3, none⟩ = some (ud i) ∧ w.cell? ⟨b, o + i * 5 + 4, none⟩ = some (ur i))
      (h2 : ∀ i r, l[i]? = some r → VM w (up i) r.p) (h3 : ∀ i r, l[i]? = some r → DM w (ud i) r.ds)
      (hk : ∀ i r, l[i]? = some r → RM w (ur i) r.rs) : RM w (.slice (some ⟨b, o, none⟩) l.length c) l
theorem RM.low {w w' : World} {v : Value} {l : List RT} (h : RM w v l) (hw : Below w.heap.size w w') : RM w' v l := by
  induction h with
  | nil a c => exact .nil a c
  | row b o c l up ud ur h0 hb hc hn hm h1 h2 h3 _ ih =>
    refine .row b o c l up ud ur h0 (Nat.lt_of_lt_of_le hb hw.size) hc hn hm (fun i r hi => ?_) (fun i r hi => (h2 i r hi).low hw) (fun i r hi => (h3 i r hi).low hw) ih
    obtain ⟨g0, g1, g2, g3, g4⟩ := h1 i r hi
    exact ⟨(hw.cell (p := ⟨b, o + i * 5, none⟩) hb).trans g0, (hw.cell (p := ⟨b, o + i * 5 + 1, none⟩) hb).trans g1, (hw.cell (p := ⟨b, o + i * 5 + 2, none⟩) hb).trans g2, (hw.cell (p := ⟨b, o + i * 5 + 3, none⟩) hb).trans g3, (hw.cell (p := ⟨b, o + i * 5 + 4, none⟩) hb).trans g4⟩
theorem RM.shape {w : World} {v : Value} {l : List RT} (h : RM w v l) : ∃ a c, v = .slice a l.length c ∧ l.length ≤ 1000000000 := by
  cases h with
  | nil a c => exact ⟨a, c, rfl, by simp⟩
  | row b o c l up ud ur h0 hb hc hn hm h1 h2 h3 hk => exact ⟨_, _, rfl, hn⟩
theorem RM.at {w : World} {v : Value} {l : List RT} (h : RM w v l) {i : Nat} {r : RT} (hi : l[i]? = some r) : ∃ b o c up ud ur, v = .slice (some ⟨b, o, none⟩) l.length c ∧ b < w.heap.size ∧
    (w.cell? ⟨b, o + i * 5, none⟩ = some (.int .i64 r.k) ∧ w.cell? ⟨b, o + i * 5 + 1, none⟩ = some (.string r.s) ∧ w.cell? ⟨b, o + i * 5 + 2, none⟩ = some up ∧ w.cell? ⟨b, o + i * 5 + 3, none⟩ = some ud ∧ w.cell? ⟨b, o + i * 5 + 4, none⟩ = some ur) ∧ VM w up r.p ∧ DM w ud r.ds ∧ RM w ur r.rs := by
  cases h with
  | nil a c => simp at hi
  | row b o c l up ud ur h0 hb hc hn hm h1 h2 h3 hk => exact ⟨b, o, c, _, _, _, rfl, hb, h1 i r hi, h2 i r hi, h3 i r hi, hk i r hi⟩
theorem isStyle_any (k : Int) (s : ByteArray) (up ud : Value) (ra : Option Addr) (rn rc : Nat) (w : World) (hs : s.size ≤ maxLen) (hrn : rn ≤ 1000000000) :
    Calls Tryz.prog 56 #[.agg #[.int .i64 k, .string s, up, ud, .slice ra rn rc]] w fun e w' => e = .returned (.bool (decide (k = 1) && (decide (s.size = 0) && decide (rn = 0)))) ∧ Below w.heap.size w w' := by
  by_cases hk : k = 1
  · subst hk
    by_cases h0 : s.size = 0
    · have z1 : s.toList.isEmpty = true := emp_t h0
      have z2 : s.toList = [] := by simpa using z1
      by_cases hr : rn = 0
      · subst hr
        have H0 := hide h0
        clear h0
        go_enter Tryz.func56, Tryz.ntmps56
        go_wp2
        go_ret
        exact ⟨ret_bool (by rw [H0.out]; rfl), bplus (Below.refl _ _) _⟩
      · have hr' : ¬ (rn : Int) = 0 := by omega
        have hr2 : ((rn : Int) == 0) = false := by simpa using hr'
        have HR := hide hr
        clear hr
        go_enter Tryz.func56, Tryz.ntmps56
        go_wp2
        go_ret
        exact ⟨ret_bool (by simp [HR.out]), bplus (Below.refl _ _) _⟩
    · have z1 : s.toList.isEmpty = false := emp_f (by omega)
      have z2 : ¬ s.toList = [] := by intro h; rw [h] at z1; cases z1
      have H0 := hide h0
      clear h0
      go_enter Tryz.func56, Tryz.ntmps56
      go_wp2
      go_ret
      exact ⟨ret_bool (by simp [H0.out]), bplus (Below.refl _ _) _⟩
  · have hk2 : (k == 1) = false := by simpa using hk
    have HK := hide hk
    clear hk
    go_enter Tryz.func56, Tryz.ntmps56
    go_wp2
    go_ret
    exact ⟨ret_bool (by simp [HK.out]), bplus (Below.refl _ _) _⟩
end Go.Proofs.YtbdacepomdlcbaaGreatDoor
set_option linter.unusedVariables false
set_option linter.unusedSimpArgs false
namespace Go.Proofs.YtbdacepomdlcbaaGreatDoor
open Go.RowKit Go.Shelf

theorem lit_ne {s : ByteArray} {l : List UInt8} (h : bl s ≠ bl ⟨l.toArray⟩) : (s.toList == l) = false := by
  rw [beq_eq_false_iff_ne]
  intro g
  rw [Lib.toList_data] at g
  apply h
  unfold bl
  rw [g]
theorem lit_eq {s : ByteArray} {l : List UInt8} (h : bl s = bl ⟨l.toArray⟩) : s = ⟨l.toArray⟩ := bl_inj h
theorem isGroupName_any (s : ByteArray) (w : World) (hs : s.size ≤ maxLen) : Calls Tryz.prog 87 #[.string s] w fun e w' => e = .returned (.bool (gnB s)) ∧ w' = w := by
  by_cases h1 : bl s = [109, 101, 100, 105, 97]
  · have F := hide (show gnB s = true by unfold gnB; simp [h1])
    obtain rfl := lit_eq (l := [109, 101, 100, 105, 97]) (h1.trans (by decide))
    go_enter Tryz.func87, Tryz.ntmps87
    go_wp2
    go_ret
    exact ⟨ret_bool F.out.symm, rfl⟩
  have n1 := lit_ne (l := [109, 101, 100, 105, 97]) (s := s) (by intro h; exact h1 (h.trans (by decide)))
  by_cases h2 : bl s = [115, 117, 112, 112, 111, 114, 116, 115]
  · have F := hide (show gnB s = true by unfold gnB; simp [h2])
    obtain rfl := lit_eq (l := [115, 117, 112, 112, 111, 114, 116, 115]) (h2.trans (by decide))
    clear n1 h1
    go_enter Tryz.func87, Tryz.ntmps87
    go_wp2
    go_ret
    exact ⟨ret_bool F.out.symm, rfl⟩
  have n2 := lit_ne (l := [115, 117, 112, 112, 111, 114, 116, 115]) (s := s) (by intro h; exact h2 (h.trans (by decide)))
  by_cases h3 : bl s = [99, 111, 110, 116, 97, 105, 110, 101, 114]
  · have F := hide (show gnB s = true by unfold gnB; simp [h3])
    obtain rfl := lit_eq (l := [99, 111, 110, 116, 97, 105, 110, 101, 114]) (h3.trans (by decide))
    clear n1 h1 n2 h2
    go_enter Tryz.func87, Tryz.ntmps87
    go_wp2
    go_ret
    exact ⟨ret_bool F.out.symm, rfl⟩
  have n3 := lit_ne (l := [99, 111, 110, 116, 97, 105, 110, 101, 114]) (s := s) (by intro h; exact h3 (h.trans (by decide)))
  have F := hide (show gnB s = false by unfold gnB; simp [h1, h2, h3])
  have m1 : ¬ s.toList = [109, 101, 100, 105, 97] := by simpa using n1
  have m2 : ¬ s.toList = [115, 117, 112, 112, 111, 114, 116, 115] := by simpa using n2
  have m3 : ¬ s.toList = [99, 111, 110, 116, 97, 105, 110, 101, 114] := by simpa using n3
  clear h1 h2 h3
  go_enter Tryz.func87, Tryz.ntmps87
  go_wp2
  go_ret
  exact ⟨ret_bool F.out.symm, rfl⟩
theorem isGroup_any (k : Int) (s : ByteArray) (up : Value) (da : Option Addr) (dn dc : Nat) (ur : Value) (w : World) (hs : s.size ≤ maxLen) (hdn : dn ≤ 1000000000) :
    Calls Tryz.prog 58 #[.agg #[.int .i64 k, .string s, up, .slice da dn dc, ur]] w fun e w' => e = .returned (.bool (decide (k = 2) && (gnB s && decide (dn = 0)))) ∧ Below w.heap.size w w' := by
  by_cases hk : k = 2
  · subst hk
    cases hg : gnB s
    · have G := hide hg
      clear hg
      go_enter Tryz.func58, Tryz.ntmps58
      go_wp2_with (go_at_call 87; refine (isGroupName_any _ _ hs).mono ?_; rintro e w1 ⟨rfl, rfl⟩; rw [G.out])
      go_ret
      exact ⟨ret_bool (by simp), bplus (Below.refl _ _) _⟩
    · have G := hide hg
      clear hg
      by_cases hr : dn = 0
      · subst hr
        go_enter Tryz.func58, Tryz.ntmps58
        go_wp2_with (go_at_call 87; refine (isGroupName_any _ _ hs).mono ?_; rintro e w1 ⟨rfl, rfl⟩; rw [G.out])
        go_ret
        exact ⟨ret_bool (by simp), bplus (Below.refl _ _) _⟩
      · have hr' : ¬ (dn : Int) = 0 := by omega
        have hr2 : ((dn : Int) == 0) = false := by simpa using hr'
        have HR := hide hr
        clear hr
        go_enter Tryz.func58, Tryz.ntmps58
        go_wp2_with (go_at_call 87; refine (isGroupName_any _ _ hs).mono ?_; rintro e w1 ⟨rfl, rfl⟩; rw [G.out])
        go_ret
        exact ⟨ret_bool (by simp [HR.out]), bplus (Below.refl _ _) _⟩
  · have hk2 : (k == 2) = false := by simpa using hk
    have HK := hide hk
    clear hk
    go_enter Tryz.func58, Tryz.ntmps58
    go_wp2
    go_ret
    exact ⟨ret_bool (by simp [HK.out]), bplus (Below.refl _ _) _⟩
/-- What a writing step leaves: all of it, or an error. -/
def PostW (ok : Prop) (B b : Nat) (xs ys : List Int) (n : Int) (w : World) (r : Ending) (w' : World) : Prop :=
  (ok ∧ r = .returned (.int .i64 0) ∧ PW B b (xs ++ ys) n w w') ∨ (¬ ok ∧ r = .returned (.int .i64 1) ∧ ∃ zs, PW B b zs n w w')
theorem PostW.yes {ok : Prop} {B b : Nat} {xs ys : List Int} {n : Int} {w : World} {r : Ending} {w' : World} (h : PostW ok B b xs ys n w r w') (hd : ok) : r = .returned (.int .i64 0) ∧ PW B b (xs ++ ys) n w w' := by
  rcases h with ⟨_, h⟩ | ⟨h, _⟩
  · exact h
  · exact absurd hd h
theorem PostW.no {ok : Prop} {B b : Nat} {xs ys : List Int} {n : Int} {w : World} {r : Ending} {w' : World} (h : PostW ok B b xs ys n w r w') (hd : ¬ ok) : r = .returned (.int .i64 1) ∧ ∃ zs, PW B b zs n w w' := by
  rcases h with ⟨h, _⟩ | ⟨_, h⟩
  · exact absurd h hd
  · exact h
set_option maxRecDepth 100000 in
set_option maxHeartbeats 1500000 in
theorem blockD_any (w0 : World) (b : Nat) (xs ts : List Int) (n : Int) (ok : Prop) (p : List VT) (m : Nat) (pv : Value) (da : Option Addr) (dn dc : Nat) (W : World) (hW : Below w0.heap.size w0 W) (hw : Wr w0.heap.size b xs n W) (hx : xs.length + ((vlT p).length + 1 + ts.length + 1) ≤ 35184372088000) (hv : VM w0 pv p) (hB : VB p m) (hK : KT w0) (hT : Tabs w0)
    (hE : ∀ (V : World) (ys : List Int), Below w0.heap.size w0 V → Wr w0.heap.size b ys n V → ys.length + ts.length ≤ 35184372088000 → Calls Tryz.prog 24 #[.slice da dn dc, .func (.func 25) #[.pointer (some ⟨b, 0, none⟩)] #[]] V fun r w' => PostW ok w0.heap.size b ys ts n V r w') :
    Calls Tryz.prog 57 #[.pointer (some ⟨b, 0, none⟩), pv, .slice da dn dc, .func (.func 25) #[.pointer (some ⟨b, 0, none⟩)] #[]] W fun r w' => PostW (vlB p ∧ ok) w0.heap.size b xs (((vlT p ++ [123]) ++ ts) ++ [125]) n W r w' := by
  have C2 := hide (fun (V : World) (h : Below w0.heap.size w0 V) => valuesP_any p m pv V (hv.low h) hB (hK.below h) (hT.below h))
  obtain ⟨a, c, rfl, _⟩ := hv.shape
  have CE := hide hE
  have BW := hide hW
  have XL := hide hx
  have SZ := hide (show w0.heap.size ≤ W.heap.size from hW.size)
  have P := hide (PW.refl hw)
  clear hv hB hK hT hW hw hx hE
  go_enter Tryz.func57, Tryz.ntmps57
  go_wp2_with fail
  go_at_call 8
  refine (C2.out _ BW.out).mono ?_
  rintro e w2 ⟨u4, c4, rfl, H4, B4⟩
  replace P := hide (P.out.low (P.out.size SZ.out) B4)
  clear B4
  rcases sv_cases H4 with ⟨hv, rfl, hu4⟩ | ⟨hv, rfl, rfl⟩
  case inr =>
    have L4 := hide (show xs.length + (⟨#[]⟩ : ByteArray).size ≤ 140737488355328 by show _ + 0 ≤ _; have := XL.out; omega)
    have HV := hide hv
    clear hv H4
    go_wp2_with (go_at_call 45; refine (put_any w0.heap.size b _ n _ _ _ P.out.wr L4.out (P.out.size SZ.out)).mono ?_; rintro r w3 ⟨rfl, Q⟩; replace P := hide (P.out.trans Q); clear Q)
    go_ret
    exact .inr ⟨fun h => HV.out h.1, rfl, _, P.out⟩
  have U4 := hide (show bl u4 = vlT p from hu4)
  have HV := hide (show vlB p from hv)
  have L4 := hide (show xs.length + u4.size ≤ 140737488355328 by rw [← bl_len u4, U4.out]; have := XL.out; omega)
  have L5 := hide (show (xs ++ bl u4).length + 1 ≤ 140737488355328 by rw [List.length_append, U4.out]; have := XL.out; omega)
  clear hv H4 hu4
  by_cases hok : ok
  · have HO := hide hok
    clear hok
    have L6 := hide (show (((xs ++ bl u4) ++ [123])).length + ts.length ≤ 35184372088000 by rw [List.length_append, List.length_append, U4.out, List.length_singleton]; have := XL.out; omega)
    have L7 := hide (show ((((xs ++ bl u4) ++ [123])) ++ ts).length + 1 ≤ 140737488355328 by rw [List.length_append, List.length_append, List.length_append, U4.out, List.length_singleton]; have := XL.out; omega)
    go_wp2_with (first
      | (go_at_call 45; refine (put_any w0.heap.size b _ n _ _ _ P.out.wr L4.out (P.out.size SZ.out)).mono ?_; rintro r w3 ⟨rfl, Q⟩; replace P := hide (P.out.trans Q); clear Q)
      | (go_at_call 47; refine (wrByte_any w0.heap.size b _ n _ _ P.out.wr (by first | exact L5.out | exact L7.out) (P.out.size SZ.out)).mono ?_; rintro r w4 ⟨rfl, Q⟩; replace P := hide (P.out.trans Q); clear Q)
      | (go_at_call 24; refine (CE.out _ _ (BW.out.trans P.out.bel) P.out.wr L6.out).mono ?_; intro r w5 hP; obtain ⟨rfl, Q⟩ := hP.yes HO.out; clear hP; replace P := hide (P.out.trans Q); clear Q))
    go_ret
    refine .inl ⟨⟨HV.out, HO.out⟩, rfl, ?_⟩
    have E := P.out
    rw [U4.out] at E
    simpa using E
  · have HO := hide hok
    clear hok
    have L6 := hide (show (((xs ++ bl u4) ++ [123])).length + ts.length ≤ 35184372088000 by rw [List.length_append, List.length_append, U4.out, List.length_singleton]; have := XL.out; omega)
    go_wp2_with (first
      | (go_at_call 45; refine (put_any w0.heap.size b _ n _ _ _ P.out.wr L4.out (P.out.size SZ.out)).mono ?_; rintro r w3 ⟨rfl, Q⟩; replace P := hide (P.out.trans Q); clear Q)
      | (go_at_call 47; refine (wrByte_any w0.heap.size b _ n _ _ P.out.wr L5.out (P.out.size SZ.out)).mono ?_; rintro r w4 ⟨rfl, Q⟩; replace P := hide (P.out.trans Q); clear Q)
      | (go_at_call 24; refine (CE.out _ _ (BW.out.trans P.out.bel) P.out.wr L6.out).mono ?_; intro r w5 hP; obtain ⟨rfl, zs, Q⟩ := hP.no HO.out; clear hP; replace P := hide (P.out.trans Q); clear Q))
    go_ret
    exact .inr ⟨fun h => HO.out h.2, rfl, _, P.out⟩
set_option maxRecDepth 100000 in
set_option maxHeartbeats 1500000 in
theorem blockR_any (w0 : World) (b : Nat) (xs ts : List Int) (n : Int) (ok : Prop) (p : List VT) (m : Nat) (pv : Value) (da : Option Addr) (dn dc : Nat) (W : World) (hW : Below w0.heap.size w0 W) (hw : Wr w0.heap.size b xs n W) (hx : xs.length + ((vlT p).length + 1 + ts.length + 1) ≤ 35184372088000) (hv : VM w0 pv p) (hB : VB p m) (hK : KT w0) (hT : Tabs w0)
    (hE : ∀ (V : World) (ys : List Int), Below w0.heap.size w0 V → Wr w0.heap.size b ys n V → ys.length + ts.length ≤ 35184372088000 → Calls Tryz.prog 27 #[.slice da dn dc, .func (.func 28) #[.pointer (some ⟨b, 0, none⟩)] #[]] V fun r w' => PostW ok w0.heap.size b ys ts n V r w') :
    Calls Tryz.prog 88 #[.pointer (some ⟨b, 0, none⟩), pv, .slice da dn dc, .func (.func 28) #[.pointer (some ⟨b, 0, none⟩)] #[]] W fun r w' => PostW (vlB p ∧ ok) w0.heap.size b xs (((vlT p ++ [123]) ++ ts) ++ [125]) n W r w' := by
  have C2 := hide (fun (V : World) (h : Below w0.heap.size w0 V) => valuesP_any p m pv V (hv.low h) hB (hK.below h) (hT.below h))
  obtain ⟨a, c, rfl, _⟩ := hv.shape
  have CE := hide hE
  have BW := hide hW
  have XL := hide hx
  have SZ := hide (show w0.heap.size ≤ W.heap.size from hW.size)
  have P := hide (PW.refl hw)
  clear hv hB hK hT hW hw hx hE
  go_enter Tryz.func88, Tryz.ntmps88
  go_wp2_with fail
  go_at_call 8
  refine (C2.out _ BW.out).mono ?_
  rintro e w2 ⟨u4, c4, rfl, H4, B4⟩
  replace P := hide (P.out.low (P.out.size SZ.out) B4)
  clear B4
  rcases sv_cases H4 with ⟨hv, rfl, hu4⟩ | ⟨hv, rfl, rfl⟩
  case inr =>
    have L4 := hide (show xs.length + (⟨#[]⟩ : ByteArray).size ≤ 140737488355328 by show _ + 0 ≤ _; have := XL.out; omega)
    have HV := hide hv
    clear hv H4
    go_wp2_with (go_at_call 45; refine (put_any w0.heap.size b _ n _ _ _ P.out.wr L4.out (P.out.size SZ.out)).mono ?_; rintro r w3 ⟨rfl, Q⟩; replace P := hide (P.out.trans Q); clear Q)
    go_ret
    exact .inr ⟨fun h => HV.out h.1, rfl, _, P.out⟩
  have U4 := hide (show bl u4 = vlT p from hu4)
  have HV := hide (show vlB p from hv)
  have L4 := hide (show xs.length + u4.size ≤ 140737488355328 by rw [← bl_len u4, U4.out]; have := XL.out; omega)
  have L5 := hide (show (xs ++ bl u4).length + 1 ≤ 140737488355328 by rw [List.length_append, U4.out]; have := XL.out; omega)
  clear hv H4 hu4
  by_cases hok : ok
  · have HO := hide hok
    clear hok
    have L6 := hide (show (((xs ++ bl u4) ++ [123])).length + ts.length ≤ 35184372088000 by rw [List.length_append, List.length_append, U4.out, List.length_singleton]; have := XL.out; omega)
    have L7 := hide (show ((((xs ++ bl u4) ++ [123])) ++ ts).length + 1 ≤ 140737488355328 by rw [List.length_append, List.length_append, List.length_append, U4.out, List.length_singleton]; have := XL.out; omega)
    go_wp2_with (first
      | (go_at_call 45; refine (put_any w0.heap.size b _ n _ _ _ P.out.wr L4.out (P.out.size SZ.out)).mono ?_; rintro r w3 ⟨rfl, Q⟩; replace P := hide (P.out.trans Q); clear Q)
      | (go_at_call 47; refine (wrByte_any w0.heap.size b _ n _ _ P.out.wr (by first | exact L5.out | exact L7.out) (P.out.size SZ.out)).mono ?_; rintro r w4 ⟨rfl, Q⟩; replace P := hide (P.out.trans Q); clear Q)
      | (go_at_call 27; refine (CE.out _ _ (BW.out.trans P.out.bel) P.out.wr L6.out).mono ?_; intro r w5 hP; obtain ⟨rfl, Q⟩ := hP.yes HO.out; clear hP; replace P := hide (P.out.trans Q); clear Q))
    go_ret
    refine .inl ⟨⟨HV.out, HO.out⟩, rfl, ?_⟩
    have E := P.out
    rw [U4.out] at E
    simpa using E
  · have HO := hide hok
    clear hok
    have L6 := hide (show (((xs ++ bl u4) ++ [123])).length + ts.length ≤ 35184372088000 by rw [List.length_append, List.length_append, U4.out, List.length_singleton]; have := XL.out; omega)
    go_wp2_with (first
      | (go_at_call 45; refine (put_any w0.heap.size b _ n _ _ _ P.out.wr L4.out (P.out.size SZ.out)).mono ?_; rintro r w3 ⟨rfl, Q⟩; replace P := hide (P.out.trans Q); clear Q)
      | (go_at_call 47; refine (wrByte_any w0.heap.size b _ n _ _ P.out.wr L5.out (P.out.size SZ.out)).mono ?_; rintro r w4 ⟨rfl, Q⟩; replace P := hide (P.out.trans Q); clear Q)
      | (go_at_call 27; refine (CE.out _ _ (BW.out.trans P.out.bel) P.out.wr L6.out).mono ?_; intro r w5 hP; obtain ⟨rfl, zs, Q⟩ := hP.no HO.out; clear hP; replace P := hide (P.out.trans Q); clear Q))
    go_ret
    exact .inr ⟨fun h => HO.out h.2, rfl, _, P.out⟩
end Go.Proofs.YtbdacepomdlcbaaGreatDoor
set_option linter.unusedVariables false
set_option linter.unusedSimpArgs false
namespace Go.Proofs.YtbdacepomdlcbaaGreatDoor
open Go.RowKit Go.Shelf

/-- Bounds on a rule. -/
inductive RBd (m : Nat) : RT → Prop
  | mk (k : Int) (s : ByteArray) (p : List VT) (ds : List DT) (rs : List RT) (k1 : -9223372036854775808 ≤ k) (k2 : k ≤ 9223372036854775807) (hs : s.size ≤ 1000000000000) (hp : VB p m) (hd : DB ds m) (hr : ∀ r ∈ rs, RBd m r) : RBd m (.mk k s p ds rs)
theorem RBd.s_le {m : Nat} {r : RT} (h : RBd m r) : r.s.size ≤ 1000000000000 := by cases h; assumption
theorem RBd.pb {m : Nat} {r : RT} (h : RBd m r) : VB r.p m := by cases h; assumption
theorem RBd.db {m : Nat} {r : RT} (h : RBd m r) : DB r.ds m := by cases h; assumption
theorem RBd.rb {m : Nat} {r : RT} (h : RBd m r) : ∀ x ∈ r.rs, RBd m x := by cases h; assumption
theorem RBd.kb {m : Nat} {r : RT} (h : RBd m r) : -9223372036854775808 ≤ r.k ∧ r.k ≤ 9223372036854775807 := by cases h; exact ⟨by assumption, by assumption⟩
theorem ruT_style {r : RT} (h : r.k = 1) : ruT r = ((vlT r.p ++ [123]) ++ dsT r.ds) ++ [125] := by cases r with | mk k s p ds rs => rw [ruT]; exact if_pos h
theorem ruT_group {r : RT} (h : r.k ≠ 1) : ruT r = (((64 :: (bl r.s ++ [32])) ++ (vlT r.p ++ [123])) ++ rusT r.rs) ++ [125] := by cases r with | mk k s p ds rs => rw [ruT]; exact if_neg h
theorem okR_eq (r : RT) (n : Nat) : okR r n = (n < 64 ∧ vlB r.p ∧ ((r.k = 1 ∧ r.s.size = 0 ∧ r.rs = [] ∧ ∀ d ∈ r.ds, dcB d.s d.l) ∨ (r.k = 2 ∧ gnB r.s = true ∧ r.ds = [] ∧ okRs r.rs (n + 1)))) := by cases r with | mk k s p ds rs => rw [okR]; rfl
/-- How a rule is written. -/
def RuC (N m : Nat) : Prop := ∀ (w0 : World) (b : Nat) (xs : List Int) (n : Nat) (r : RT) (up ud ur : Value) (W : World), zsL r.rs + 1 ≤ N → n ≤ 64 → Below w0.heap.size w0 W → Wr w0.heap.size b xs n W → xs.length + (ruT r).length ≤ 35184372088000 → VM w0 up r.p → DM w0 ud r.ds → RM w0 ur r.rs → RBd m r → KT w0 → Tabs w0 →
  Calls Tryz.prog 28 #[.pointer (some ⟨b, 0, none⟩), .agg #[.int .i64 r.k, .string r.s, up, ud, ur]] W fun e w' => PostW (okR r n) w0.heap.size b xs (ruT r) n W e w'
theorem rusT_step {l : List RT} {k : Nat} {d : RT} (h : l[k]? = some d) : rusT (l.take (k + 1)) = rusT (l.take k) ++ ruT d := by
  obtain ⟨hk, rfl⟩ := List.getElem?_eq_some_iff.1 h
  rw [List.take_succ_eq_append_getElem hk, rusT_app, rusT_cons, rusT_nil, List.append_nil]
theorem rusT_le (l : List RT) (k : Nat) : (rusT (l.take k)).length ≤ (rusT l).length := by
  conv => rhs; rw [← List.take_append_drop k l, rusT_app, List.length_append]
  omega
def RelEr (B b : Nat) (xs : List Int) (n : Nat) (l : List RT) (W : World) (i : Value) (wr : World) : Prop := ∃ k : Nat, i = .int .i64 k ∧ k ≤ l.length ∧ Hid (PW B b (xs ++ rusT (l.take k)) n W wr ∧ ∀ r ∈ l.take k, okR r n)
theorem RelEr.mk {B b : Nat} {xs : List Int} {n : Nat} {l : List RT} {W : World} {i : Value} {wr : World} (k : Nat) (h1 : i = .int .i64 k) (h2 : k ≤ l.length) (h3 : PW B b (xs ++ rusT (l.take k)) n W wr ∧ ∀ r ∈ l.take k, okR r n) : RelEr B b xs n l W i wr := ⟨k, h1, h2, h3⟩
set_option maxRecDepth 100000 in
set_option maxHeartbeats 1500000 in
theorem eachR_any (N m : Nat) (hR : RuC N m) (w0 : World) (b : Nat) (xs : List Int) (n : Nat) (l : List RT) (v : Value) (W : World) (hN : zsL l ≤ N) (hn : n ≤ 64) (hW : Below w0.heap.size w0 W) (hw : Wr w0.heap.size b xs n W) (hx : xs.length + (rusT l).length ≤ 35184372088000) (hv : RM w0 v l) (hB : ∀ r ∈ l, RBd m r) (hK : KT w0) (hT : Tabs w0) :
    Calls Tryz.prog 27 #[v, .func (.func 28) #[.pointer (some ⟨b, 0, none⟩)] #[]] W fun r w' => PostW (okRs l n) w0.heap.size b xs (rusT l) n W r w' := by
  obtain ⟨a, c, rfl, h9⟩ := hv.shape
  have HV := hide hv
  have HB := hide hB
  have BW := hide hW
  have HW := hide hw
  have HX := hide hx
  have HK := hide hK
  have HT := hide hT
  have HR := hide hR
  have HN := hide hN
  have SZ := hide (show w0.heap.size ≤ W.heap.size from hW.size)
  clear hv hB hW hw hx hK hT hR hN
  go_enter Tryz.func27, Tryz.ntmps27
  go_wp2
  go_loopw [10] (fun i wr => RelEr w0.heap.size b xs n l W i wr) (fun i _ => l.length - (intOf i).toNat)
  case atStart => exact .mk 0 rfl (by omega) ⟨by simpa [rusT_nil] using PW.refl HW.out, by simp⟩
  case round =>
    obtain ⟨k, rfl, hk, R⟩ := hrel
    have P := hide R.out.1
    have A := hide R.out.2
    clear R
    by_cases hlt : k < l.length
    · obtain ⟨d, hd⟩ : ∃ d, l[k]? = some d := ⟨_, List.getElem?_eq_getElem hlt⟩
      obtain ⟨bb, o, c', up, ud, ur, hv', hb, ⟨g0, g1, g2, g3, g4⟩, gp, gd, gr⟩ := HV.out.at hd
      obtain ⟨rfl, rfl⟩ : a = some ⟨bb, o, none⟩ ∧ c = c' := by cases hv'; exact ⟨rfl, rfl⟩
      obtain ⟨pa, pc, hps, _⟩ := gp.shape
      obtain ⟨da, dc, hds, _⟩ := gd.shape
      obtain ⟨ra, rc, hrs, _⟩ := gr.shape
      have hmem : d ∈ l := List.mem_of_getElem? hd
      have hlt' : (k : Int) < l.length := by omega
      have BP := hide (show Below w0.heap.size w0 wr from BW.out.trans P.out.bel)
      have e0 := (BP.out.cell (p := ⟨bb, o + k * 5, none⟩) hb).trans g0
      have e1 := (BP.out.cell (p := ⟨bb, o + k * 5 + 1, none⟩) hb).trans g1
      have e2 := (BP.out.cell (p := ⟨bb, o + k * 5 + 2, none⟩) hb).trans g2
      have e3 := (BP.out.cell (p := ⟨bb, o + k * 5 + 3, none⟩) hb).trans g3
      have e4 := (BP.out.cell (p := ⟨bb, o + k * 5 + 4, none⟩) hb).trans g4
      have hbw : bb < wr.heap.size := by have := BP.out.size; omega
      have nb : bb ≠ wr.heap.size := by omega
      have ST := hide (rusT_step hd)
      have LN := hide (show (xs ++ rusT (l.take k)).length + (ruT d).length ≤ 35184372088000 by have h := rusT_le l (k + 1); rw [rusT_step hd, List.length_append] at h; rw [List.length_append]; have := HX.out; omega)
      have TK := hide (show l.take (k + 1) = l.take k ++ [d] by obtain ⟨h, rfl⟩ := List.getElem?_eq_some_iff.1 hd; exact List.take_succ_eq_append_getElem h)
      have CD := hide (fun (V : World) (hV : Below wr.heap.size wr V) => HR.out w0 b (xs ++ rusT (l.take k)) n d up ud ur V (by have := zs_at hd; have := HN.out; omega) hn (bto BP.out hV) (P.out.wr.low hV) LN.out gp gd gr (HB.out d hmem) HK.out HT.out)
      have MM := hide hmem
      subst hps hds hrs
      clear g0 g1 g2 g3 g4 gp gd gr hv' hd hmem
      by_cases hdc : okR d n
      · have HD := hide hdc
        clear hdc
        go_wp2_with (go_at_call 28; refine (CD.out _ (bplus (Below.refl _ _) _)).mono ?_; intro r w2 hP; obtain ⟨rfl, Q⟩ := hP.yes HD.out; clear hP; replace P := hide (((P.out.low (P.out.size SZ.out) (bplus (Below.refl _ _) _)).trans Q)); clear Q)
        go_roundw
        case rel => exact .mk (k + 1) (by go_num) (by omega) ⟨by rw [ST.out, ← List.append_assoc]; exact P.out, fun e he => by rw [TK.out, List.mem_append, List.mem_singleton] at he; rcases he with he | rfl; exact A.out e he; exact HD.out⟩
        case measure => simp [intOf]; omega
      · have HD := hide hdc
        clear hdc
        go_wp2_with (go_at_call 28; refine (CD.out _ (bplus (Below.refl _ _) _)).mono ?_; intro r w2 hP; obtain ⟨rfl, ys, Q⟩ := hP.no HD.out; clear hP; replace Q := hide (((P.out.low (P.out.size SZ.out) (bplus (Below.refl _ _) _)).trans Q)))
        go_ret
        exact .inr ⟨fun h => HD.out (okRs_mem.1 h d MM.out), rfl, _, Q.out⟩
    · have hlt' : ¬ (k : Int) < l.length := by omega
      have TK := hide (show l.take k = l from List.take_of_length_le (by omega))
      go_wp2
      go_ret
      exact .inl ⟨okRs_mem.2 (fun d hd => A.out d (by rw [TK.out]; exact hd)), rfl, by have := P.out; rwa [TK.out] at this⟩
/-! ### How many groups stand around -/
theorem Wr.around {B b : Nat} {xs : List Int} {n : Int} {w : World} (h : Wr B b xs n w) : B ≤ b ∧ b < w.heap.size ∧ w.cell? ⟨b, 2, none⟩ = some (.int .i64 n) ∧ w.frozen? ⟨b, 2, none⟩ = false := by
  have K : ∀ p, WrAt B b p xs n w → B ≤ b ∧ b < w.heap.size ∧ w.cell? ⟨b, 2, none⟩ = some (.int .i64 n) ∧ w.frozen? ⟨b, 2, none⟩ = false := fun p h => by
    obtain ⟨hB, v, hk, ho⟩ := h
    exact ⟨hB, (Array.getElem?_eq_some_iff.1 hk).1, by rw [row_blk hk]; rfl, Lib.frozen_of_heap hk 2⟩
  rcases h with h | h <;> exact K _ h
theorem Wr.move {B b : Nat} {xs : List Int} {n : Int} {w : World} (h : Wr B b xs n w) (n' : Int) : PW B b xs n' w (w.setCell ⟨b, 2, none⟩ (.int .i64 n')) := by
  have hB := h.around.1
  refine ⟨?_, (Below.refl B w).setCell (p := ⟨b, 2, none⟩) hB _, (Lib.OthersKept.refl _ _ w).setCell ⟨b, 2, none⟩ rfl _⟩
  have K : ∀ p, WrAt B b p xs n w → WrAt B b p xs n' (w.setCell ⟨b, 2, none⟩ (.int .i64 n')) := fun p h => by
    obtain ⟨hB, v, hb, ho⟩ := h
    obtain ⟨hlt, he⟩ := Array.getElem?_eq_some_iff.1 hb
    refine ⟨hB, v, by simp [World.setCell, hlt, Array.getElem_modify, he], ho.kept ⟨rfl, rfl, rfl, by simp [World.setCell], fun k hk hne' => ?_⟩ (.inr (own_neW (n := 0) hb ho))⟩
    have : b ≠ k := fun h => hne' (by rw [h])
    simp [World.setCell, Array.getElem?_modify, this]
  rcases h with h | h
  · exact .inl (K _ h)
  · exact .inr (K _ h)
end Go.Proofs.YtbdacepomdlcbaaGreatDoor
