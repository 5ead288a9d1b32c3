/-
  A fraction put together; what stands behind an e, by the program.
  A number of a stylesheet taken apart, by the program.
  A number of a stylesheet taken apart, by the program: the walk.
  Plain: a decimal's digits, counted; exponents that are very great.
-/
import Derived.Test.YtlkocepoohhglaaDoorA13
import Derived.Test.YtlkocepoohhglaaDoorShelfD
import Derived.Lib.ParseIntB
set_option linter.unusedVariables false
set_option linter.unusedSimpArgs false
namespace Go.Proofs.YtlkocepoohhglaaDoor
open Go.RowKit

/-- A fraction as a value. -/
def ratV (n d : Int) : Value := .agg #[.int .i64 n, .int .i64 d]
theorem natOf_snoc (l : List Int) (c : Int) : natOf (l ++ [c]) = natOf l * 10 + (c - 48).toNat := by simp [natOf, List.foldl_append]
theorem natOf_app (l : List Int) (r : List Int) : natOf l ≤ natOf (l ++ r) := by
  induction r generalizing l with
  | nil => simp
  | cons c r ih =>
    have := ih (l ++ [c])
    rw [natOf_snoc] at this
    simp only [List.append_assoc, List.singleton_append] at this
    omega
theorem natOf_take (l : List Int) (k : Nat) : natOf (l.take k) ≤ natOf l := by
  have := natOf_app (l.take k) (l.drop k)
  rwa [List.take_append_drop] at this
/-- All of these are digits. -/
def Digs (l : List Int) : Prop := ∀ x ∈ l, isDig x = true
theorem tkd_digs (l : List Int) : Digs (tkd l) := fun x hx => by
  have h := List.all_takeWhile (p := isDig) (l := l)
  exact List.all_eq_true.1 h x hx
theorem Digs.nx {l : List Int} (h : Digs l) {k : Nat} (hk : k < l.length) : isDig (nx l k) = true := by
  simp only [Proofs.YtlkocepoohhglaaDoor.nx, List.getD_eq_getElem?_getD, List.getElem?_eq_getElem hk]
  exact h _ (List.getElem_mem hk)
theorem natOf_step {l : List Int} {k : Nat} (h : Digs l) (hk : k < l.length) : natOf (l.take (k + 1)) = natOf (l.take k) * 10 + (nx l k - 48).toNat ∧ 48 ≤ nx l k ∧ nx l k ≤ 57 := by
  have hd := h.nx hk
  rw [nx_take (isDig_ne1 hd), natOf_snoc]
  simp [isDig] at hd
  exact ⟨rfl, hd.1, hd.2⟩
/-- As great as it is, or both very great, or both very small. -/
def Near (e E : Int) : Prop := e = E ∨ (1099511627776 ≤ e ∧ e ≤ 18014398509481984 ∧ 1099511627776 ≤ E) ∨ (e ≤ -1099511627776 ∧ -18014398509481984 ≤ e ∧ E ≤ -1099511627776)
theorem Near.neg {e E : Int} (h : Near e E) : Near (-e) (-E) := by unfold Near at *; omega
theorem Near.bd {e E : Int} (h : Near e E) (hE : -1099511627776 ≤ E ∧ E ≤ 1099511627776 ∨ True) : e = E ∨ (-18014398509481984 ≤ e ∧ e ≤ 18014398509481984) := by unfold Near at h; omega
/-- The state of the loop over an exponent's digits. -/
def RelEx (ds : List Int) (e i : Value) : Prop := ∃ k m : Nat, k ≤ ds.length ∧ i = .int .i64 k ∧ e = .int .i64 m ∧ m ≤ 11258999068426249 ∧ Hid (m = natOf (ds.take k))
theorem RelEx.mk {ds : List Int} {e i : Value} (k m : Nat) (h1 : k ≤ ds.length) (h2 : i = .int .i64 k) (h3 : e = .int .i64 m) (h4 : m ≤ 11258999068426249) (h5 : m = natOf (ds.take k)) : RelEx ds e i := ⟨k, m, h1, h2, h3, h4, h5⟩
/-- What is told of an exponent. -/
def ExR (s : List Int) (e : Int) (ok : Bool) : Prop := match expo s with | none => e = 0 ∧ ok = false | some E => ok = true ∧ Near e E ∧ -18014398509481984 ≤ e ∧ e ≤ 18014398509481984
theorem expo_no {s : List Int} (h1 : nx s 0 ≠ 101) (h2 : nx s 0 ≠ 69) : expo s = none := by unfold expo; rw [if_pos ⟨h1, h2⟩]
theorem expo_no2 {s : List Int} (h1 : nx s 0 = 101 ∨ nx s 0 = 69) (h2 : tkd (sgn (s.drop 1)).2 = [] ∨ dgs (sgn (s.drop 1)).2 ≠ []) : expo s = none := by
  unfold expo; rw [if_neg (by omega), if_pos h2]
theorem expo_yes {s : List Int} (h1 : nx s 0 = 101 ∨ nx s 0 = 69) (h2 : tkd (sgn (s.drop 1)).2 ≠ []) (h3 : dgs (sgn (s.drop 1)).2 = []) :
    expo s = some (if (sgn (s.drop 1)).1 then -(natOf (tkd (sgn (s.drop 1)).2) : Int) else natOf (tkd (sgn (s.drop 1)).2)) := by
  unfold expo; rw [if_neg (by omega), if_neg (by rintro (h | h); exact h2 h; exact h h3)]
theorem sgn_len (s : List Int) : (sgn s).2.length ≤ s.length := by unfold sgn; split <;> simp
theorem tkd_len (s : List Int) : (tkd s).length ≤ s.length := (List.takeWhile_sublist _).length_le
theorem ext_size (s : ByteArray) (a : Nat) : (s.extract a s.size).size = s.size - a := by rw [← bl_len, bl_drop, List.length_drop, bl_len]
theorem near_of {m N : Nat} (h : m = N ∨ (1125899906842624 ≤ m ∧ m ≤ N)) (hm : m ≤ 11258999068426249) : Near (m : Int) (N : Int) ∧ -18014398509481984 ≤ (m : Int) ∧ (m : Int) ≤ 18014398509481984 := by
  unfold Near; omega
theorem exR_yes {s : List Int} {m : Nat} (h1 : nx s 0 = 101 ∨ nx s 0 = 69) (h2 : tkd (sgn (s.drop 1)).2 ≠ []) (h3 : dgs (sgn (s.drop 1)).2 = [])
    (h : m = natOf (tkd (sgn (s.drop 1)).2) ∨ (1125899906842624 ≤ m ∧ m ≤ natOf (tkd (sgn (s.drop 1)).2))) (hm : m ≤ 11258999068426249) :
    ((sgn (s.drop 1)).1 = true → ExR s (-(m : Int)) true) ∧ ((sgn (s.drop 1)).1 = false → ExR s (m : Int) true) := by
  obtain ⟨a, b, c⟩ := near_of h hm
  refine ⟨fun hb => ?_, fun hb => ?_⟩
  · unfold ExR; rw [expo_yes h1 h2 h3, hb]
    exact ⟨rfl, a.neg, by omega, by omega⟩
  · unfold ExR; rw [expo_yes h1 h2 h3, hb]
    exact ⟨rfl, a, by omega, by omega⟩
def PostEx (s : ByteArray) (w : World) (e : Ending) (w' : World) : Prop := ∃ (x : Int) (ok : Bool), e = .returned (.tuple #[.int .i64 x, .bool ok]) ∧ ExR (bl s) x ok ∧ ∃ q, w' = w.drewN q
theorem PostEx.mk {s : ByteArray} {w w' : World} {e : Ending} (x : Int) (ok : Bool) (h1 : e = .returned (.tuple #[.int .i64 x, .bool ok])) (h2 : ExR (bl s) x ok) (q : Nat) (h3 : w' = w.drewN q) : PostEx s w e w' := ⟨x, ok, h1, h2, q, h3⟩
end Go.Proofs.YtlkocepoohhglaaDoor
set_option linter.unusedVariables false
set_option linter.unusedSimpArgs false
namespace Go.Proofs.YtlkocepoohhglaaDoor
open Go.RowKit

theorem hasPre (t : ByteArray) : Lib.hasPrefix t.data.toList (⟨#[46]⟩ : ByteArray).data.toList = (nx (bl t) 0 == 46) := by
  show List.isPrefixOf [46] t.data.toList = _
  unfold bl nx
  cases t.data.toList with
  | nil => rfl
  | cons x r =>
    simp only [List.isPrefixOf, List.map_cons, List.getD_cons_zero, Bool.and_true]
    rw [Bool.eq_iff_iff]
    simp only [beq_iff_eq]
    constructor
    · rintro rfl; rfl
    · intro h
      have : x.toNat = 46 := by omega
      exact (UInt8.toNat_inj.1 this).symm
/-- A number, taken apart. -/
def numV (b : Bool) (x y : ByteArray) (e : Int) (h : Bool) : Value := .agg #[.bool b, .string x, .string y, .int .i64 e, .bool h]
/-- What is told of a number taken apart. -/
def TA (S : List Int) (b : Bool) (x y : ByteArray) (e : Int) (h ok : Bool) : Prop :=
  (ok = false ∧ dec S = none) ∨ (ok = true ∧ ∃ E, Near e E ∧ -18014398509481984 ≤ e ∧ e ≤ 18014398509481984 ∧ (bl x ++ bl y).length ≤ S.length ∧ Digs (bl x ++ bl y) ∧ dec S = some (valOf b (bl x ++ bl y) (E - (bl y).length), h))
def PostTA (s : ByteArray) (w : World) (e : Ending) (w' : World) : Prop :=
  ∃ b x y i h ok, e = .returned (.tuple #[numV b x y i h, .bool ok]) ∧ TA (bl s) b x y i h ok ∧ Below w.heap.size w w'
theorem PostTA.mk {s : ByteArray} {w w' : World} {e : Ending} (b : Bool) (x y : ByteArray) (i : Int) (h ok : Bool) (h1 : e = .returned (.tuple #[numV b x y i h, .bool ok])) (h2 : TA (bl s) b x y i h ok) (h3 : Below w.heap.size w w') : PostTA s w e w' := ⟨b, x, y, i, h, ok, h1, h2, h3⟩
/-! The pieces of a text -/
def p0 (S : List Int) : List Int := (sgn S).2
def p1 (S : List Int) : List Int := dgs (p0 S)
def pA (S : List Int) : List Int := tkd (p0 S)
def pB (S : List Int) : List Int := tkd ((p1 S).drop 1)
def p2 (S : List Int) : List Int := dgs ((p1 S).drop 1)
theorem dec_dot {S : List Int} (h : nx (p1 S) 0 = 46) : dec S = if pB S = [] then none else decE (sgn S).1 (pA S ++ pB S) (pB S).length false (p2 S) := by
  unfold dec
  rw [if_pos (show nx (dgs (sgn S).2) 0 = 46 from h)]
  rfl
theorem dec_nodot {S : List Int} (h : nx (p1 S) 0 ≠ 46) : dec S = decE (sgn S).1 (pA S) 0 true (p1 S) := by
  unfold dec
  rw [if_neg (show ¬ nx (dgs (sgn S).2) 0 = 46 from h)]
  rfl
theorem p_len (S : List Int) : (p0 S).length ≤ S.length ∧ (p1 S).length ≤ S.length ∧ (pA S).length + (p1 S).length ≤ S.length ∧ (pA S).length + (pB S).length ≤ S.length ∧ (p2 S).length ≤ S.length := by
  have h0 := sgn_len S
  have h1 : (pA S).length + (p1 S).length = (p0 S).length := by
    unfold pA p1 tkd dgs
    rw [← List.length_append, List.takeWhile_append_dropWhile]
  have h2 := tkd_len ((p1 S).drop 1)
  have h3 := dgs_len ((p1 S).drop 1)
  rw [List.length_drop] at h2 h3
  have h0' : (p0 S).length ≤ S.length := h0
  have h2' : (pB S).length ≤ (p1 S).length - 1 := h2
  have h3' : (p2 S).length ≤ (p1 S).length - 1 := h3
  omega
theorem digs_ab (S : List Int) : Digs (pA S ++ pB S) := by
  intro x hx
  rcases List.mem_append.1 hx with h | h
  · exact tkd_digs _ x h
  · exact tkd_digs _ x h
theorem decE_none {neg : Bool} {k : Nat} {wh : Bool} {s : List Int} : decE neg [] k wh s = none := by unfold decE; rw [if_pos rfl]
theorem decE_end {neg : Bool} {ds : List Int} {k : Nat} {wh : Bool} (h : ds ≠ []) : decE neg ds k wh [] = some (valOf neg ds (-k), wh) := by unfold decE; rw [if_neg h, if_pos rfl]
theorem decE_exp {neg : Bool} {ds : List Int} {k : Nat} {wh : Bool} {s : List Int} (h : ds ≠ []) (g : s ≠ []) : decE neg ds k wh s = (expo s).map fun e => (valOf neg ds (e - k), false) := by unfold decE; rw [if_neg h, if_neg g]
/-- From an exponent's answer to the number's. -/
theorem ta_exp {S s : List Int} {b : Bool} {x y : ByteArray} {e : Int} {ok : Bool} (h : ExR s e ok) (hd : dec S = (expo s).map fun E => (valOf b (bl x ++ bl y) (E - (bl y).length), false)) (hl : (bl x ++ bl y).length ≤ S.length) (hg : Digs (bl x ++ bl y)) : TA S b x y e false ok := by
  unfold ExR at h
  cases hx : expo s with
  | none =>
    rw [hx] at h hd
    exact .inl ⟨h.2, hd⟩
  | some E =>
    rw [hx] at h hd
    obtain ⟨h1, h2, h3, h4⟩ := h
    exact .inr ⟨h1, E, h2, h3, h4, hl, hg, hd⟩
theorem ta_end {S : List Int} {b : Bool} {x y : ByteArray} {h : Bool} (hd : dec S = some (valOf b (bl x ++ bl y) (-((bl y).length : Nat)), h)) (hl : (bl x ++ bl y).length ≤ S.length) (hg : Digs (bl x ++ bl y)) : TA S b x y 0 h true :=
  .inr ⟨rfl, 0, .inl rfl, by omega, by omega, hl, hg, by rw [hd]; congr 3; omega⟩
end Go.Proofs.YtlkocepoohhglaaDoor
set_option linter.unusedVariables false
set_option linter.unusedSimpArgs false
namespace Go.Proofs.YtlkocepoohhglaaDoor
open Go.RowKit

theorem emp_of {s : ByteArray} {l : List Int} (h : bl s = l) (hl : l = []) : s.toList.isEmpty = true := emp_t (bl_size0.1 (h.trans hl))
theorem full_of {s : ByteArray} {l : List Int} (h : bl s = l) (hl : l ≠ []) : s.toList.isEmpty = false := emp_f (Nat.pos_of_ne_zero fun g => hl (h.symm.trans (bl_size0.2 g)))
theorem pos_of {s : ByteArray} {l : List Int} (h : bl s = l) (hl : l ≠ []) : 0 < s.size := Nat.pos_of_ne_zero fun g => hl (h.symm.trans (bl_size0.2 g))
theorem size_of {s : ByteArray} {l : List Int} (h : bl s = l) {n : Nat} (hl : l.length ≤ n) : s.size ≤ n := by rw [← bl_len, h]; exact hl
theorem dot_ne {l : List Int} (h : nx l 0 = 46) : l ≠ [] := by rintro rfl; simp [nx] at h
end Go.Proofs.YtlkocepoohhglaaDoor
set_option linter.unusedVariables false
set_option linter.unusedSimpArgs false
namespace Go.Proofs.YtlkocepoohhglaaDoor
open Go.RowKit

def natF (a : Nat) (l : List Int) : Nat := l.foldl (fun n c => n * 10 + (c - 48).toNat) a
theorem natOf_F (l : List Int) : natOf l = natF 0 l := rfl
theorem natF_ge (l : List Int) : ∀ a, a ≤ natF a l := by
  induction l with
  | nil => intro a; exact Nat.le_refl _
  | cons c l ih =>
    intro a
    have := ih (a * 10 + (c - 48).toNat)
    show a ≤ natF (a * 10 + (c - 48).toNat) l
    omega
def bi (l : List UInt8) : List Int := l.map fun b => (b.toNat : Int)
theorem parse_ok (l : List UInt8) : ∀ a : Nat, Digs (bi l) → l.length ≤ 18 → a < 10 ^ (18 - l.length) → Lib.parseUintM (2 ^ 64 - 1) a l = .ok (natF a (bi l)) := by
  induction l with
  | nil => intro a _ _ _; rfl
  | cons c l ih =>
    intro a hd hl ha
    have hc : isDig (c.toNat : Int) = true := hd _ (by simp [bi])
    simp [isDig] at hc
    have hc' : 48 ≤ c.toNat ∧ c.toNat ≤ 57 := by omega
    simp only [List.length_cons] at hl ha
    have e1 : 10 ^ (18 - l.length) = 10 ^ (18 - (l.length + 1)) * 10 := by rw [← Nat.pow_succ]; congr 1; omega
    have e2 : 10 ^ (18 - (l.length + 1)) ≤ 10 ^ 17 := Nat.pow_le_pow_right (by omega) (by omega)
    have e3 : (10 : Nat) ^ 17 = 100000000000000000 := by decide
    have e4 : (2 : Nat) ^ 64 - 1 = 18446744073709551615 := by decide
    simp only [Lib.parseUintM]
    rw [if_pos hc', if_neg (by omega), if_neg (by omega)]
    rw [ih (a * 10 + (c.toNat - 48)) (fun x hx => hd x (by simp [bi] at hx ⊢; right; exact hx)) (by omega) (by omega)]
    show _ = Lib.NumEnd.ok (natF (a * 10 + ((c.toNat : Int) - 48).toNat) (bi l))
    rw [show ((c.toNat : Int) - 48).toNat = c.toNat - 48 by omega]
theorem parse_str (s : ByteArray) (h1 : bl s ≠ []) (h2 : (bl s).length ≤ 18) (h3 : Digs (bl s)) : Lib.parseUintB 64 s.data.toList = .ok (natOf (bl s)) := by
  unfold Lib.parseUintB
  have hn : s.data.toList ≠ [] := fun e => h1 (by unfold bl; rw [e]; rfl)
  have hl : s.data.toList.length ≤ 18 := by simpa [bl] using h2
  rw [if_neg hn]
  exact parse_ok s.data.toList 0 h3 hl (Nat.pow_pos (by omega))
theorem natF_lt (l : List Int) : ∀ a : Nat, Digs l → natF a l < (a + 1) * 10 ^ l.length := by
  induction l with
  | nil => intro a _; show a < (a + 1) * 1; omega
  | cons c l ih =>
    intro a hd
    have hc : isDig c = true := hd _ (by simp)
    simp [isDig] at hc
    have := ih (a * 10 + (c - 48).toNat) (fun x hx => hd x (by simp [hx]))
    show natF (a * 10 + (c - 48).toNat) l < _
    have e : (a + 1) * 10 ^ (c :: l).length = ((a + 1) * 10) * 10 ^ l.length := by rw [List.length_cons, Nat.pow_succ, Nat.mul_comm (10 ^ l.length), Nat.mul_assoc]
    rw [e]
    have h2 : (a * 10 + (c - 48).toNat + 1) * 10 ^ l.length ≤ ((a + 1) * 10) * 10 ^ l.length := Nat.mul_le_mul_right _ (by omega)
    omega
theorem natOf_lt {l : List Int} (h : Digs l) (hl : l.length ≤ 18) : natOf l < 1000000000000000000 := by
  have h1 := natF_lt l 0 h
  have h2 : 10 ^ l.length ≤ 10 ^ 18 := Nat.pow_le_pow_right (by omega) hl
  have e : (10 : Nat) ^ 18 = 1000000000000000000 := by decide
  rw [natOf_F]
  omega
theorem cutR_pre (l : List Int) : ∃ t, l = cutR l ++ t := by
  obtain ⟨t, ht⟩ := List.dropWhile_suffix (fun x : Int => x == 48) (l := l.reverse)
  refine ⟨t.reverse, ?_⟩
  unfold cutR
  rw [← List.reverse_append, ht, List.reverse_reverse]
theorem cut0_head {l : List Int} {c : Int} {r : List Int} (h : cut0 l = c :: r) : c ≠ 48 := by
  intro e
  have := List.head?_dropWhile_not (fun x : Int => x == 48) l
  rw [show l.dropWhile (fun x => x == 48) = c :: r from h] at this
  simp [e] at this
theorem cut0_suf (l : List Int) : ∃ t, l = t ++ cut0 l := by
  obtain ⟨t, ht⟩ := List.dropWhile_suffix (fun x : Int => x == 48) (l := l)
  exact ⟨t, ht.symm⟩
theorem Digs.cut {l : List Int} (h : Digs l) : Digs (cut0 l) ∧ Digs (cutR (cut0 l)) := by
  have h1 : Digs (cut0 l) := by
    obtain ⟨t, ht⟩ := cut0_suf l
    intro x hx; exact h x (by rw [ht]; simp [hx])
  refine ⟨h1, ?_⟩
  obtain ⟨t, ht⟩ := cutR_pre (cut0 l)
  intro x hx; exact h1 x (by rw [ht]; simp [hx])
theorem cut_len (l : List Int) : (cutR (cut0 l)).length ≤ (cut0 l).length ∧ (cut0 l).length ≤ l.length := by
  obtain ⟨t, ht⟩ := cutR_pre (cut0 l)
  obtain ⟨u, hu⟩ := cut0_suf l
  have h1 := congrArg List.length ht
  have h2 := congrArg List.length hu
  rw [List.length_append] at h1 h2
  omega
theorem cnt_pos {l : List Int} (h : Digs l) (hn : cutR (cut0 l) ≠ []) : 1 ≤ natOf (cutR (cut0 l)) := by
  obtain ⟨t, ht⟩ := cutR_pre (cut0 l)
  have hd := h.cut.2
  cases hc : cutR (cut0 l) with
  | nil => exact absurd hc hn
  | cons c r =>
    rw [hc] at ht hd
    have h48 := cut0_head ht
    have hc : isDig c = true := hd c (by simp)
    simp [isDig] at hc
    rw [natOf_F]
    have := natF_ge r (0 * 10 + (c - 48).toNat)
    show 1 ≤ natF (0 * 10 + (c - 48).toNat) r
    omega
/-! ### Very great exponents -/
theorem fracUp_over {n q : Nat} (hn : 1 ≤ n) (hq : 64 ≤ q) : fracUp n q = (0, 0) := by
  unfold fracUp
  have h1 : 10 ^ 64 ≤ 10 ^ q := Nat.pow_le_pow_right (by omega) hq
  have h2 : 1 * 10 ^ q ≤ n * 10 ^ q := Nat.mul_le_mul_right _ hn
  have h3 : (9223372036854775807 : Nat) < 10 ^ 64 := by decide
  rw [if_neg (by omega)]
theorem strip_pow (p : Nat) (hp : 2 ≤ p) (q : Nat) : ∀ n, 1 ≤ n → p ^ (q - (strip p n q).2) ≤ n := by
  induction q with
  | zero => intro n h; simpa [strip] using h
  | succ q ih =>
    intro n h
    simp only [strip]
    split
    · rename_i g
      have hpn : p ≤ n := Nat.le_of_dvd (by omega) (Nat.dvd_of_mod_eq_zero g)
      have h1 := ih (n / p) (Nat.div_pos hpn (by omega))
      have h2 := (strip_le p q (n / p)).2
      rw [show q + 1 - (strip p (n / p) q).2 = (q - (strip p (n / p) q).2) + 1 by omega, Nat.pow_succ]
      have h3 : n / p * p ≤ n := Nat.div_mul_le_self n p
      exact Nat.le_trans (Nat.mul_le_mul_right p h1) h3
    · simpa using h
theorem fracDn_over {n q : Nat} (hn : 1 ≤ n) (hn2 : n < 1000000000000000000) (hq : 200 ≤ q) : fracDn n q = (0, 0) := by
  unfold fracDn
  have h1 := strip_pow 2 (by omega) q n hn
  have h2 := (strip_le 2 q n).2
  have h3 : 100 ≤ (strip 2 n q).2 := by
    refine Nat.le_of_not_lt fun h => ?_
    have : 2 ^ 100 ≤ 2 ^ (q - (strip 2 n q).2) := Nat.pow_le_pow_right (by omega) (by omega)
    have : (1000000000000000000 : Nat) < 2 ^ 100 := by decide
    omega
  have h4 : 2 ^ 100 ≤ 2 ^ (strip 2 n q).2 := Nat.pow_le_pow_right (by omega) h3
  have h5 : (9223372036854775807 : Nat) < 2 ^ 100 := by decide
  have h6 : 2 ^ (strip 2 n q).2 * 1 ≤ 2 ^ (strip 2 n q).2 * 5 ^ (strip 5 (strip 2 n q).1 q).2 := Nat.mul_le_mul_left _ (Nat.pow_pos (by omega))
  rw [if_neg (by omega)]
theorem fr_near {n : Nat} {e E : Int} {a : Int} (hn : 1 ≤ n) (hn2 : n < 1000000000000000000) (h : Near e E) (ha : -1000000000000 ≤ a ∧ a ≤ 1000000000000) : fr n (e + a) = fr n (E + a) := by
  rcases h with rfl | ⟨h1, h2, h3⟩ | ⟨h1, h2, h3⟩
  · rfl
  · unfold fr
    rw [if_pos (by omega), if_pos (by omega), fracUp_over hn (by omega), fracUp_over hn (by omega)]
  · unfold fr
    rw [if_neg (by omega), if_neg (by omega), fracDn_over hn hn2 (by omega), fracDn_over hn hn2 (by omega)]
theorem val_near {neg : Bool} {ds : List Int} {e E : Int} {k : Nat} (hd : Digs ds) (hl : ds.length ≤ 1000000000) (hk : k ≤ 1000000000) (h : Near e E) : valOf neg ds (e - k) = valOf neg ds (E - k) := by
  have hc := cut_len ds
  unfold valOf
  by_cases h1 : cutR (cut0 ds) = []
  · rw [if_pos h1, if_pos h1]
  rw [if_neg h1, if_neg h1]
  by_cases h2 : 18 < (cutR (cut0 ds)).length
  · rw [if_pos h2, if_pos h2]
  rw [if_neg h2, if_neg h2]
  have := fr_near (n := natOf (cutR (cut0 ds))) (a := -(k : Int) + (((cut0 ds).length - (cutR (cut0 ds)).length : Nat) : Int)) (cnt_pos hd h1) (natOf_lt hd.cut.2 (by omega)) h (by omega)
  rw [show e - (k : Int) + (((cut0 ds).length - (cutR (cut0 ds)).length : Nat) : Int) = e + (-(k : Int) + (((cut0 ds).length - (cutR (cut0 ds)).length : Nat) : Int)) by omega, this]
  rw [show E - (k : Int) + (((cut0 ds).length - (cutR (cut0 ds)).length : Nat) : Int) = E + (-(k : Int) + (((cut0 ds).length - (cutR (cut0 ds)).length : Nat) : Int)) by omega]
theorem val_zero {b : Bool} {D : List Int} {k : Int} (h : cutR (cut0 D) = []) : valOf b D k = (0, 1) := by unfold valOf; rw [if_pos h]
theorem val_over {b : Bool} {D : List Int} {k : Int} (h : cutR (cut0 D) ≠ []) (g : 18 < (cutR (cut0 D)).length) : valOf b D k = (0, 0) := by unfold valOf; rw [if_neg h, if_pos g]
theorem val_fr {b : Bool} {D : List Int} {k : Int} (h : cutR (cut0 D) ≠ []) (g : (cutR (cut0 D)).length ≤ 18) : valOf b D k = sg b (fr (natOf (cutR (cut0 D))) (k + ((cut0 D).length - (cutR (cut0 D)).length : Nat))) := by
  unfold valOf; rw [if_neg h, if_neg (by omega)]
/-- The program's shift is the fraction. -/
theorem fr_sh {n : Nat} (p : Int) : fr n p = if shB n p then ((shN n p : Int), (shD n p : Int)) else (0, 0) := by
  unfold fr
  by_cases hp : 0 ≤ p
  · rw [if_pos hp]
    unfold fracUp shB shN shD
    rw [if_pos hp, if_pos hp, if_pos hp]
    by_cases h : n * 10 ^ p.toNat ≤ 9223372036854775807
    · rw [if_pos h, mulB_yes h, mulV_yes h]; rfl
    · rw [if_neg h, mulB_no h]; rfl
  · rw [if_neg hp]
    unfold fracDn shB shN shD
    rw [if_neg hp, if_neg hp, if_neg hp]
    generalize (-p).toNat = q
    by_cases h : 2 ^ (strip 2 n q).2 ≤ 9223372036854775807
    · rw [mulB_yes h, mulV_yes h]
      by_cases g : 2 ^ (strip 2 n q).2 * 5 ^ (strip 5 (strip 2 n q).1 q).2 ≤ 9223372036854775807
      · rw [if_pos g, mulB_yes g, mulV_yes g]; rfl
      · rw [if_neg g, mulB_no g]; rfl
    · rw [mulB_no h]
      have h6 : 2 ^ (strip 2 n q).2 * 1 ≤ 2 ^ (strip 2 n q).2 * 5 ^ (strip 5 (strip 2 n q).1 q).2 := Nat.mul_le_mul_left _ (Nat.pow_pos (by omega))
      rw [if_neg (by omega)]; rfl
theorem sh_le {n : Nat} {p : Int} (hn : n ≤ 9223372036854775807) : shN n p ≤ 9223372036854775807 ∧ shD n p ≤ 9223372036854775807 := by
  have hv : ∀ P, mulV P ≤ 9223372036854775807 := fun P => by unfold mulV; split <;> omega
  unfold shN shD
  constructor
  · split
    · exact hv _
    · split
      · have h1 := (strip_le 2 (-p).toNat n).1
        have h2 := (strip_le 5 (-p).toNat (strip 2 n (-p).toNat).1).1
        omega
      · omega
  · split
    · omega
    · split
      · exact hv _
      · omega
end Go.Proofs.YtlkocepoohhglaaDoor
