/-
  All tokens of some characters, by the program.
-/
import Derived.Test.YtckefmhleklciaaGreatDoorTokZ
import Derived.Outline
set_option linter.unusedVariables false
set_option linter.unusedSimpArgs false
namespace Go.Proofs.YtckefmhleklciaaGreatDoor
open Go.RowKit

/-- Numbers as bytes. -/
def tb (l : List Int) : ByteArray := ⟨(l.map fun x => UInt8.ofNat x.toNat).toArray⟩
theorem tb_bl (t : ByteArray) : tb (bl t) = t := by
  cases t with
  | mk d =>
    cases d with
    | mk xs =>
      unfold tb bl
      simp only [List.map_map]
      congr 2
      conv => rhs; rw [← List.map_id xs]
      refine List.map_congr_left fun x _ => ?_
      simp
/-- A token's cells. -/
def tkC (τ : Tk) : List Value := [.int .i64 τ.kind, .string (tb τ.text), .int .i64 τ.num, .int .i64 τ.den, .bool τ.whole, .bool τ.id]
def cellsT (ts : List Tk) : List Value := ts.flatMap tkC
theorem cellsT_len (ts : List Tk) : (cellsT ts).length = ts.length * 6 := by
  induction ts with
  | nil => rfl
  | cons τ r ih => unfold cellsT at *; rw [List.flatMap_cons, List.length_append, ih, List.length_cons]; simp [tkC]; omega
theorem cellsT_snoc (ts : List Tk) (τ : Tk) : cellsT (ts ++ [τ]) = cellsT ts ++ tkC τ := by simp [cellsT]
theorem cellsT_at (ts : List Tk) : ∀ (i j : Nat) (τ : Tk), ts[i]? = some τ → j < 6 → (cellsT ts)[i * 6 + j]? = (tkC τ)[j]? := by
  induction ts with
  | nil => intro i j τ h; cases h
  | cons x r ih =>
    intro i j τ h hj
    have e : cellsT (x :: r) = tkC x ++ cellsT r := rfl
    have l : (tkC x).length = 6 := rfl
    rw [e]
    cases i with
    | zero =>
      cases h
      rw [List.getElem?_append_left (by rw [l]; omega)]
      simp
    | succ i =>
      rw [List.getElem?_append_right (by rw [l]; omega), l, ← ih i j τ h hj]
      congr 1; omega
theorem Tells.cells {e : Ending} {τ : Tk} (h : Tells e τ) : e = .returned (.agg #[.int .i64 τ.kind, .string (tb τ.text), .int .i64 τ.num, .int .i64 τ.den, .bool τ.whole, .bool τ.id]) := by
  obtain ⟨t, rfl, ht⟩ := h
  rw [← ht, tb_bl]; rfl
theorem infoT : (Tryz.prog.info? 34).map (fun i => (i.zero, i.size, i.bytes)) = some (some (.agg #[.int .i64 0, .string ⟨#[]⟩, .int .i64 0, .int .i64 0, .bool false, .bool false]), 6, 48) := by kernel_rfl
/-- An own slice of tokens beside a reader in block b. -/
def OwnT (b : Nat) (w wr : World) (v : Value) (ts : List Tk) : Prop :=
  wr.ownsRow w.heap.size 34 6 v ts.length (cellsT ts) ∧ w.grownBy wr (some b)
theorem OwnT.nil (b : Nat) (w : World) : OwnT b w w (.slice none 0 0) [] := ⟨World.ownsRow_nil _ _ _ _, Mod.refl _ _⟩
theorem OwnT.mod {b : Nat} {w wr w1 : World} {v : Value} {ts : List Tk} (h : OwnT b w wr v ts) (hb : b < w.heap.size) (hg : wr.grownBy w1 (some b)) : OwnT b w w1 v ts := by
  refine ⟨⟨h.1.1, ?_⟩, Mod.trans h.2 hg⟩
  rcases h.1.2 with h1 | ⟨g, cap, cur, hv, hbg, hh, rest⟩
  · exact .inl h1
  · exact .inr ⟨g, cap, cur, hv, hbg, (hg.block g (Array.getElem?_eq_some_iff.1 hh).1 (by intro e; cases e; omega)).trans hh, rest⟩
theorem OwnT.grow {b : Nat} {w wr w1 : World} {v v' : Value} {ts : List Tk} {τ : Tk} {o : Obj} (h : OwnT b w wr v ts)
    (h1 : w1.ownsRow w.heap.size 34 6 v' (ts.length + 1) (cellsT ts ++ tkC τ)) (hg : (wr.alloc o).grownBy w1 v.ownBlock) : OwnT b w w1 v' (ts ++ [τ]) := by
  refine ⟨by rw [List.length_append, cellsT_snoc]; exact h1, ?_⟩
  have A := Mod.trans h.2 (Mod.of b (bplus (Below.refl wr.heap.size wr) o))
  exact ⟨hg.os.trans A.os, hg.tape.trans A.tape, hg.output.trans A.output, Nat.le_trans A.size hg.size, fun i hi hb' => (hg.block i (Nat.lt_of_lt_of_le hi A.size) (fun e => by have := (h.1.lt i e.symm).1; omega)).trans (A.block i hi hb')⟩
theorem At.growT {T : TypeId} {W w wr w1 : World} {b : Nat} {u v : Value} {l s : List Int} {o : Obj} {ts : List Tk} (h : At T W wr b u l s) (hb : b < w.heap.size) (ho : OwnT b w wr v ts) (hg : (wr.alloc o).grownBy w1 v.ownBlock) : At T W w1 b u l s := by
  obtain ⟨p, h1, h2, h3⟩ := h.ex
  have B := bplus (Below.refl wr.heap.size wr) o
  have hbe := h1.ge
  refine ⟨p, ⟨(bto h1.bel B).grown hg (Nat.le_trans h1.bel.size B.size) (fun k hk => by have := (ho.1.lt k hk).1; omega), h1.ge, ?_, h1.nums, h1.len, h1.le⟩, h2, h3⟩
  exact (hg.block b (Nat.lt_of_lt_of_le h1.lt B.size) (fun e => by have := (ho.1.lt b e.symm).1; omega)).trans ((B.block b h1.lt).trans h1.blk)
/-- A slice of tokens in memory. -/
def Toks (w : World) (v : Value) (ts : List Tk) : Prop :=
  (∃ a c, v = .slice a 0 c ∧ ts = []) ∨
  ∃ b o n c, v = .slice (some ⟨b, o, none⟩) n c ∧ n = ts.length ∧ 0 < n ∧ b < w.heap.size ∧ n ≤ c ∧ n ≤ 1000000000 ∧ c ≤ 9223372036854775807 ∧ ∀ i τ, ts[i]? = some τ → ∀ j, j < 6 → w.cell? ⟨b, o + i * 6 + j, none⟩ = (tkC τ)[j]?
theorem Toks.below {w w' : World} {v : Value} {ts : List Tk} (h : Toks w v ts) (hw : Below w.heap.size w w') : Toks w' v ts := by
  rcases h with h | ⟨b, o, n, c, h1, h2, h3, h4, h5, h6, h7, h8⟩
  · exact .inl h
  · exact .inr ⟨b, o, n, c, h1, h2, h3, Nat.lt_of_lt_of_le h4 hw.size, h5, h6, h7, fun i τ hi j hj => (hw.cell (p := ⟨b, o + i * 6 + j, none⟩) h4).trans (h8 i τ hi j hj)⟩
theorem OwnT.toks {b : Nat} {w wr : World} {v : Value} {ts : List Tk} (h : OwnT b w wr v ts) (hl : ts.length ≤ 1000000000) : Toks wr v ts := by
  rcases h.1.2 with ⟨rfl, h0⟩ | ⟨g, cap, cur, rfl, hb, hg, hn, hm, hs, ht⟩
  · exact .inl ⟨_, _, rfl, List.eq_nil_of_length_eq_zero h0⟩
  · by_cases h0 : ts.length = 0
    · obtain rfl : ts = [] := List.eq_nil_of_length_eq_zero h0
      exact .inl ⟨_, _, rfl, rfl⟩
    · refine .inr ⟨g, 0, ts.length, cap, rfl, rfl, by omega, (Array.getElem?_eq_some_iff.1 hg).1, hn, hl, by unfold maxLen at hm; exact hm, fun i τ hi j hj => ?_⟩
      have e := cellsT_at ts i j τ hi hj
      have hi' := (List.getElem?_eq_some_iff.1 hi).1
      rw [← e, ← ht, List.getElem?_take_of_lt (by omega), cell_blk hg, Nat.zero_add, Array.getElem?_toList]
/-- Tokens where no remark is next. -/
def tk2 (t : List Int) : List Tk := if nx t 0 = -1 then [] else (tokn t).1 :: toks (tokn t).2
theorem toks_tk2 (s : List Int) : toks s = tk2 (rmk s) := by
  unfold tk2
  by_cases h : nx (rmk s) 0 = -1
  · rw [if_pos h, toks_end h]
  · rw [if_neg h, toks_go h]
theorem tk2_end {t : List Int} (h : nx t 0 = -1) : tk2 t = [] := by unfold tk2; rw [if_pos h]
theorem tk2_go {t : List Int} (h : nx t 0 ≠ -1) : tk2 t = (tokn t).1 :: tk2 (rmk (tokn t).2) := by rw [← toks_tk2]; unfold tk2; rw [if_neg h]
def RelTk (T : TypeId) (W w0 : World) (b : Nat) (v : Value) (l s : List Int) (g : Nat) (tv : Value) (wr : World) : Prop :=
  ∃ ts t, At T W wr b v l t ∧ t.length ≤ g ∧ ts.length + t.length ≤ s.length ∧ OwnT b w0 wr tv ts ∧ Hid (toks s = ts ++ tk2 t)
theorem RelTk.mk {T : TypeId} {W w0 : World} {b : Nat} {v : Value} {l s : List Int} {g : Nat} {tv : Value} {wr : World} (ts : List Tk) (t : List Int) (h1 : At T W wr b v l t) (h2 : t.length ≤ g) (h3 : ts.length + t.length ≤ s.length) (h4 : OwnT b w0 wr tv ts) (h5 : toks s = ts ++ tk2 t) : RelTk T W w0 b v l s g tv wr := ⟨ts, t, h1, h2, h3, h4, h5⟩
theorem news6 (w : World) (u0 u1 u2 u3 u4 u5 : Value) (t : TypeId) : ∀ j x, [u0, u1, u2, u3, u4, u5][j]? = some x → (w.alloc (.cells #[u0, u1, u2, u3, u4, u5] t)).cell? ((⟨w.heap.size, 0, none⟩ : Addr).add j) = some x := fun j x hx => by
  match j, hx with
  | 0, hx => simp at hx; subst hx; simp [Addr.add]
  | 1, hx => simp at hx; subst hx; simp [Addr.add]
  | 2, hx => simp at hx; subst hx; simp [Addr.add]
  | 3, hx => simp at hx; subst hx; simp [Addr.add]
  | 4, hx => simp at hx; subst hx; simp [Addr.add]
  | 5, hx => simp at hx; subst hx; simp [Addr.add]
theorem one6 (τ : Tk) : ∀ u ∈ tkC τ, u.oneCell' = true := by
  intro u hu
  simp only [tkC, List.mem_cons, List.not_mem_nil, or_false] at hu
  rcases hu with rfl | rfl | rfl | rfl | rfl | rfl <;> rfl
theorem At.start (w : World) (v : Value) (l : List Int) (T : TypeId) (hv : Nums .i32 w v l) (hl : l.length ≤ 140737488355328) : At T w (w.alloc (.cells #[v, .int .i64 0] T)) w.heap.size v l (chs l) :=
  ⟨0, ⟨bplus (Below.refl _ _) _, Nat.le_refl _, heap_alloc_new w _, hv, hl, by omega⟩, Nat.zero_le _, rfl⟩
set_option maxRecDepth 100000 in
set_option maxHeartbeats 2000000 in
theorem toksP_any (l : List Int) (v : Value) (w : World) (hv : Nums .i32 w v l) (hL : l.length ≤ 250000000) :
    Calls Tryz.prog 9 #[v] w fun e w' => ∃ u, e = .returned u ∧ Toks w' u (toks (chs l)) ∧ Below w.heap.size w w' := by
  obtain ⟨i0, hi, hz0, hz1, hz2⟩ := info_parts infoT
  obtain ⟨a, n, c, rfl⟩ := hv.shape
  have A1 := hide (At.start w (.slice a n c) l 41 hv (by omega))
  have M := hide (Mod.refl (w.alloc (.cells #[.slice a n c, .int .i64 0] 41)) w.heap.size)
  have hcl : (chs l).length = l.length := chs_len l
  clear hv
  obtain ⟨s, hs⟩ : ∃ s, chs l = s := ⟨_, rfl⟩
  rw [hs] at A1 hcl ⊢
  clear hs
  have hsl : s.length ≤ 250000000 := by omega
  have L0 := hide hL
  clear hL hcl
  obtain ⟨s1, hs1⟩ : ∃ x, rmk s = x := ⟨_, rfl⟩
  have RS := hide hs1
  have ls1 : s1.length ≤ s.length := by rw [← hs1]; exact rmk_le s
  have E0 := hide (show toks s = [] ++ tk2 s1 by rw [← hs1]; exact toks_tk2 s)
  clear hs1
  obtain ⟨w0, hw0⟩ : ∃ x, w.alloc (.cells #[.slice a n c, .int .i64 0] 41) = x := ⟨_, rfl⟩
  have hbw : w.heap.size < w0.heap.size := by rw [← hw0]; simp
  rw [hw0] at M
  have W0 := hide hw0
  clear hw0
  go_enter Tryz.func9, Tryz.ntmps9
  go_wp2_with (go_at_call 14; refine (skipRemarks_any 41 w _ w.heap.size (.slice a n c) l s A1.out).mono ?_; rintro e w2 ⟨rfl, A2, M2⟩; rw [RS.out] at A2; rw [W0.out] at M2; replace A1 := hide A2; replace M := hide M2; clear A2 M2)
  go_loopg [4] s.length (fun g tv wr => RelTk 41 w w0 w.heap.size (.slice a n c) l s g tv wr)
  case atStart => exact .mk [] s1 A1.out ls1 (by simpa using ls1) ((OwnT.nil _ _).mod hbw M.out) E0.out
  case round =>
    clear A1 M E0
    obtain ⟨ts, t, A1, hg, hx, OW, R⟩ := hrel
    replace A1 := hide A1
    replace OW := hide OW
    obtain ⟨x, hx0⟩ : ∃ x, nx t 0 = x := ⟨_, rfl⟩
    have H0 := hide hx0
    by_cases hm : x = -1
    · subst hm
      have E := R.out
      rw [tk2_end hx0, List.append_nil] at E
      replace E := hide E
      clear hx0
      go_wp2_with (go_at_call 15; refine (nextA 41 w _ w.heap.size _ l t A1.out).mono ?_; rintro e w1 ⟨he, B1⟩; rw [H0.out] at he; subst he; replace A1 := hide (A1.out.below B1); replace OW := hide (OW.out.mod hbw (Mod.of _ B1)); clear B1)
      go_ret
      obtain ⟨p, hp, _⟩ := A1.out.ex
      exact ⟨_, rfl, by rw [E.out]; exact OW.out.toks (by omega), hp.bel⟩
    · have em : (x != -1) = true := by simpa using hm
      have hne : nx t 0 ≠ -1 := by rw [hx0]; exact hm
      have HN := hide hne
      have E := R.out
      rw [tk2_go hne] at E
      have l1 := tokn_lt hne
      have l2 := rmk_le (tokn t).2
      clear hx0 hne
      obtain ⟨⟨⟨k, tx, nu, de, wh, id⟩, r⟩, ht⟩ : ∃ z, tokn t = z := ⟨_, rfl⟩
      have TT := hide ht
      rw [ht] at E l1 l2
      clear ht
      obtain ⟨q, hq⟩ : ∃ q, rmk r = q := ⟨_, rfl⟩
      have RQ := hide hq
      simp only at E l1 l2
      rw [hq] at E l2
      clear hq
      rw [show ts ++ (⟨k, tx, nu, de, wh, id⟩ : Tk) :: tk2 q = (ts ++ [⟨k, tx, nu, de, wh, id⟩]) ++ tk2 q by simp] at E
      replace E := hide E
      go_wp2_with (first
        | (go_at_call 15; refine (nextA 41 w _ w.heap.size _ l t A1.out).mono ?_; rintro e w1 ⟨he, B1⟩; rw [H0.out] at he; subst he; replace A1 := hide (A1.out.below B1); replace OW := hide (OW.out.mod hbw (Mod.of _ B1)); clear B1)
        | (go_at_call 16; refine (token_any 41 w _ w.heap.size _ l t L0.out HN.out A1.out).mono ?_; rintro e w3 ⟨he, A2, M2⟩; replace he := he.cells; rw [TT.out] at he A2; subst he; replace A1 := hide A2; replace OW := hide (OW.out.mod hbw M2); clear A2 M2)
        | (go_at_call 14; refine (skipRemarks_any 41 w _ w.heap.size _ l r A1.out).mono ?_; rintro e w4 ⟨rfl, A2, M2⟩; rw [RQ.out] at A2; replace A1 := hide A2; replace OW := hide (OW.out.mod hbw M2); clear A2 M2)
        | (at_builtin; refine wpList_append_own _ rfl _ _ 24 rfl w0.heap.size 34 i0 _ 6 48 Tryz.underlying24 hi hz0 hz1 hz2 rfl (by decide) _ _ _ rfl (OW.out.1.alloc _) ⟨_, 0, none⟩ 1 1 (tkC ⟨k, tx, nu, de, wh, id⟩) rfl rfl (news6 _ _ _ _ _ _ _ _) (one6 _) (by unfold maxLen; omega) (by omega) (by have := OW.out.2.size; simp; omega) ?_; intro v' w5 hown' hgrow _; replace A1 := hide (A1.out.growT hbw OW.out hgrow); replace OW := hide (OW.out.grow hown' hgrow); clear hown' hgrow))
      go_roundg (gk - 1)
      case measure => omega
      case rel => exact .mk _ q A1.out (by omega) (by rw [List.length_append, List.length_singleton]; omega) OW.out E.out
end Go.Proofs.YtckefmhleklciaaGreatDoor
