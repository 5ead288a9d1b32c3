/-
  One token, by the program.
  All tokens of some characters, by the program.
  Plain: bytes below 128, decoded; tokens of bytes in parts.
  Tokens of bytes, by the program; tokens that every program must know.
  The same tokens are the same.
-/
import Derived.Test.YtcclhdiphcfdfaaGreatDoorKk
import Derived.Outline
import Derived.Test.YtcclhdiphcfdfaaGreatDoorKc
import Derived.Test.YtcclhdiphcfdfaaGreatDoorKb
import Derived.Lib.SlBytesConst
set_option linter.unusedVariables false
set_option linter.unusedSimpArgs false
namespace Go.Proofs.YtcclhdiphcfdfaaGreatDoor
open Go.RowKit

set_option maxRecDepth 100000 in
set_option maxHeartbeats 2000000 in
theorem token_anyT (T : TypeId) (W w : World) (b : Nat) (v : Value) (l s : List Int) (hL : l.length ≤ 250000000) (h1 : nx s 0 ≠ -1) (h : At T W w b v l s) :
    Calls Tryz.prog 60 #[.pointer (some ⟨b, 0, none⟩)] w fun e w' => Tells e (tokn s).1 ∧ At T W w' b v l (tokn s).2 ∧ w.grownBy w' (some b) := by
  have hb0 := h.lt
  have A1 := hide (h.below (bplus (Below.refl _ _) tok0))
  have M := hide (Mod.of b (bplus (Below.refl w.heap.size w) tok0))
  have Z := hide (tok0_alloc w)
  clear h
  have L0 := hide hL
  have L9 := hide (show l.length ≤ 35184372088832 by omega)
  clear hL
  have H1 := hide h1
  clear h1
  obtain ⟨wd, hwd⟩ : ∃ x, tokn s = x := ⟨_, rfl⟩
  rw [hwd]
  unfold tokn at hwd
  obtain ⟨x, hx⟩ : ∃ x, nx s 0 = x := ⟨_, rfl⟩
  have X0 := hide hx
  rw [hx] at hwd
  clear hx
  obtain ⟨yb, hyb⟩ : ∃ y, isBl x = y := ⟨_, rfl⟩
  have YB := hide hyb
  rw [hyb] at hwd
  obtain ⟨yq, hyq⟩ : ∃ y, isQ x = y := ⟨_, rfl⟩
  have YQ := hide hyq
  rw [hyq] at hwd
  obtain ⟨yd, hyd⟩ : ∃ y, isDig x = y := ⟨_, rfl⟩
  have YD := hide hyd
  rw [hyd] at hwd
  obtain ⟨yf, hyf⟩ : ∃ y, isFst x = y := ⟨_, rfl⟩
  have YF := hide hyf
  rw [hyf] at hwd
  clear hyb hyd hyf
  cases yb
  · rw [if_neg (by simp)] at hwd
    cases yq
    · rw [if_neg (by simp)] at hwd
      clear hyq
      cases yd
      · rw [if_neg (by simp)] at hwd
        cases yf
        · rw [if_neg (by simp)] at hwd
          obtain ⟨⟨⟨k, tx, nu, de, wh, id⟩, r2⟩, hu2⟩ : ∃ x, sgnT s = x := ⟨_, rfl⟩
          rw [hu2] at hwd
          have UU := hide hu2
          have E := hide hwd.symm
          clear hwd hu2
          go_enter Tryz.func60, Tryz.ntmps60
          go_wp2_with (first
            | (go_at_call 59; refine (nextA T W _ b v l s A1.out).mono ?_; rintro e w1 ⟨he, B1⟩; rw [X0.out] at he; subst he; replace A1 := hide (A1.out.below B1); replace M := hide (Mod.trans M.out (Mod.of b B1)); replace Z := hide (keep Z.out (Nat.ne_of_gt hb0) (Mod.of b B1)); clear B1)
            | (go_at_call 88; refine (isBlP_any _ _).mono ?_; rintro e w2 ⟨rfl, rfl⟩; rw [YB.out])
            | (go_at_call 90; refine (isQP_any _ _).mono ?_; rintro e w2 ⟨rfl, rfl⟩; rw [YQ.out])
            | (go_at_call 92; refine (isDigP_any _ _).mono ?_; rintro e w2 ⟨rfl, rfl⟩; rw [YD.out])
            | (go_at_call 94; refine (isFstP_any _ _).mono ?_; rintro e w2 ⟨rfl, rfl⟩; rw [YF.out])
            | (go_at_call 96; refine (signToken_any T W _ b v l s L0.out A1.out).mono ?_; rintro e w6 ⟨⟨z, he, hz⟩, A2, M2⟩; rw [UU.out] at he hz A2; replace he : e = .returned (.agg #[.int .i64 k, .string z, .int .i64 nu, .int .i64 de, .bool wh, .bool id]) := he; subst he; replace hz := hide hz; replace A1 := hide A2; replace M := hide (Mod.trans M.out M2); replace Z := hide (keep Z.out (Nat.ne_of_gt hb0) M2); obtain ⟨f0, f1, f2, f3, f4, f5, c0, c1, c2, c3, c4, c5⟩ := tok0_free Z.out; clear A2 M2))
          have MM := M.out
          refine bodyPost_ret (v := tkV k z nu de wh id) (by simp [results, Tryz.results60, go_sem, tkV, c0, c1, c2, c3, c4, c5]) rfl ?_
          exact ⟨by rw [E.out]; exact ⟨z, rfl, hz.out⟩, by rw [E.out]; repeat (first | (with_reducible exact A1.out) | (with_reducible refine At.put ?_ hb0 _ _)), by repeat (first | (with_reducible exact MM) | (with_reducible refine Mod.put ?_ (Nat.le_refl _) _ _))⟩
        · rw [if_pos rfl] at hwd
          obtain ⟨⟨⟨k, tx, nu, de, wh, id⟩, r2⟩, hu2⟩ : ∃ x, word s = x := ⟨_, rfl⟩
          rw [hu2] at hwd
          have UU := hide hu2
          have E := hide hwd.symm
          clear hwd hu2
          go_enter Tryz.func60, Tryz.ntmps60
          go_wp2_with (first
            | (go_at_call 59; refine (nextA T W _ b v l s A1.out).mono ?_; rintro e w1 ⟨he, B1⟩; rw [X0.out] at he; subst he; replace A1 := hide (A1.out.below B1); replace M := hide (Mod.trans M.out (Mod.of b B1)); replace Z := hide (keep Z.out (Nat.ne_of_gt hb0) (Mod.of b B1)); clear B1)
            | (go_at_call 88; refine (isBlP_any _ _).mono ?_; rintro e w2 ⟨rfl, rfl⟩; rw [YB.out])
            | (go_at_call 90; refine (isQP_any _ _).mono ?_; rintro e w2 ⟨rfl, rfl⟩; rw [YQ.out])
            | (go_at_call 92; refine (isDigP_any _ _).mono ?_; rintro e w2 ⟨rfl, rfl⟩; rw [YD.out])
            | (go_at_call 94; refine (isFstP_any _ _).mono ?_; rintro e w2 ⟨rfl, rfl⟩; rw [YF.out])
            | (go_at_call 95; refine (wordToken_any T W _ b v l s L9.out A1.out).mono ?_; rintro e w6 ⟨⟨z, he, hz⟩, A2, M2⟩; rw [UU.out] at he hz A2; replace he : e = .returned (.agg #[.int .i64 k, .string z, .int .i64 nu, .int .i64 de, .bool wh, .bool id]) := he; subst he; replace hz := hide hz; replace A1 := hide A2; replace M := hide (Mod.trans M.out M2); replace Z := hide (keep Z.out (Nat.ne_of_gt hb0) M2); obtain ⟨f0, f1, f2, f3, f4, f5, c0, c1, c2, c3, c4, c5⟩ := tok0_free Z.out; clear A2 M2))
          have MM := M.out
          refine bodyPost_ret (v := tkV k z nu de wh id) (by simp [results, Tryz.results60, go_sem, tkV, c0, c1, c2, c3, c4, c5]) rfl ?_
          exact ⟨by rw [E.out]; exact ⟨z, rfl, hz.out⟩, by rw [E.out]; repeat (first | (with_reducible exact A1.out) | (with_reducible refine At.put ?_ hb0 _ _)), by repeat (first | (with_reducible exact MM) | (with_reducible refine Mod.put ?_ (Nat.le_refl _) _ _))⟩
      · rw [if_pos rfl] at hwd
        obtain ⟨⟨⟨k, tx, nu, de, wh, id⟩, r2⟩, hu2⟩ : ∃ x, numb s = x := ⟨_, rfl⟩
        rw [hu2] at hwd
        have UU := hide hu2
        have E := hide hwd.symm
        clear hwd hu2
        go_enter Tryz.func60, Tryz.ntmps60
        go_wp2_with (first
          | (go_at_call 59; refine (nextA T W _ b v l s A1.out).mono ?_; rintro e w1 ⟨he, B1⟩; rw [X0.out] at he; subst he; replace A1 := hide (A1.out.below B1); replace M := hide (Mod.trans M.out (Mod.of b B1)); replace Z := hide (keep Z.out (Nat.ne_of_gt hb0) (Mod.of b B1)); clear B1)
          | (go_at_call 88; refine (isBlP_any _ _).mono ?_; rintro e w2 ⟨rfl, rfl⟩; rw [YB.out])
          | (go_at_call 90; refine (isQP_any _ _).mono ?_; rintro e w2 ⟨rfl, rfl⟩; rw [YQ.out])
          | (go_at_call 92; refine (isDigP_any _ _).mono ?_; rintro e w2 ⟨rfl, rfl⟩; rw [YD.out])
          | (go_at_call 93; refine (numberToken_any T W _ b v l s L0.out H1.out A1.out).mono ?_; rintro e w6 ⟨⟨z, he, hz⟩, A2, M2⟩; rw [UU.out] at he hz A2; replace he : e = .returned (.agg #[.int .i64 k, .string z, .int .i64 nu, .int .i64 de, .bool wh, .bool id]) := he; subst he; replace hz := hide hz; replace A1 := hide A2; replace M := hide (Mod.trans M.out M2); replace Z := hide (keep Z.out (Nat.ne_of_gt hb0) M2); obtain ⟨f0, f1, f2, f3, f4, f5, c0, c1, c2, c3, c4, c5⟩ := tok0_free Z.out; clear A2 M2))
        have MM := M.out
        refine bodyPost_ret (v := tkV k z nu de wh id) (by simp [results, Tryz.results60, go_sem, tkV, c0, c1, c2, c3, c4, c5]) rfl ?_
        exact ⟨by rw [E.out]; exact ⟨z, rfl, hz.out⟩, by rw [E.out]; repeat (first | (with_reducible exact A1.out) | (with_reducible refine At.put ?_ hb0 _ _)), by repeat (first | (with_reducible exact MM) | (with_reducible refine Mod.put ?_ (Nat.le_refl _) _ _))⟩
    · rw [if_pos rfl] at hwd
      have Q0 := hide (show x = 34 ∨ x = 39 by simpa [isQ] using hyq)
      clear hyq
      obtain ⟨u, hu⟩ : ∃ u, s.drop 1 = u := ⟨_, rfl⟩
      have U1 := hide hu
      rw [hu] at hwd
      clear hu
      obtain ⟨⟨⟨k, tx, nu, de, wh, id⟩, r2⟩, hu2⟩ : ∃ y, str x [] u = y := ⟨_, rfl⟩
      rw [hu2] at hwd
      have UU := hide hu2
      have E := hide hwd.symm
      clear hwd hu2
      go_enter Tryz.func60, Tryz.ntmps60
      go_wp2_with (first
        | (go_at_call 59; refine (nextA T W _ b v l s A1.out).mono ?_; rintro e w1 ⟨he, B1⟩; rw [X0.out] at he; subst he; replace A1 := hide (A1.out.below B1); replace M := hide (Mod.trans M.out (Mod.of b B1)); replace Z := hide (keep Z.out (Nat.ne_of_gt hb0) (Mod.of b B1)); clear B1)
        | (go_at_call 88; refine (isBlP_any _ _).mono ?_; rintro e w2 ⟨rfl, rfl⟩; rw [YB.out])
        | (go_at_call 90; refine (isQP_any _ _).mono ?_; rintro e w2 ⟨rfl, rfl⟩; rw [YQ.out])
        | (go_at_call 91; refine (stringToken_any T W _ b v l s u x Q0.out L9.out X0.out U1.out A1.out).mono ?_; rintro e w6 ⟨⟨z, he, hz⟩, A2, M2⟩; rw [UU.out] at he hz A2; replace he : e = .returned (.agg #[.int .i64 k, .string z, .int .i64 nu, .int .i64 de, .bool wh, .bool id]) := he; subst he; replace hz := hide hz; replace A1 := hide A2; replace M := hide (Mod.trans M.out M2); replace Z := hide (keep Z.out (Nat.ne_of_gt hb0) M2); obtain ⟨f0, f1, f2, f3, f4, f5, c0, c1, c2, c3, c4, c5⟩ := tok0_free Z.out; clear A2 M2))
      have MM := M.out
      refine bodyPost_ret (v := tkV k z nu de wh id) (by simp [results, Tryz.results60, go_sem, tkV, c0, c1, c2, c3, c4, c5]) rfl ?_
      exact ⟨by rw [E.out]; exact ⟨z, rfl, hz.out⟩, by rw [E.out]; repeat (first | (with_reducible exact A1.out) | (with_reducible refine At.put ?_ hb0 _ _)), by repeat (first | (with_reducible exact MM) | (with_reducible refine Mod.put ?_ (Nat.le_refl _) _ _))⟩
  · rw [if_pos rfl] at hwd
    obtain ⟨u, hu⟩ : ∃ u, bls s = u := ⟨_, rfl⟩
    have UB := hide hu
    rw [hu] at hwd
    have E := hide hwd.symm
    clear hwd hu hyq
    go_enter Tryz.func60, Tryz.ntmps60
    go_wp2_with (first
      | (go_at_call 59; refine (nextA T W _ b v l s A1.out).mono ?_; rintro e w1 ⟨he, B1⟩; rw [X0.out] at he; subst he; replace A1 := hide (A1.out.below B1); replace M := hide (Mod.trans M.out (Mod.of b B1)); replace Z := hide (keep Z.out (Nat.ne_of_gt hb0) (Mod.of b B1)); clear B1)
      | (go_at_call 88; refine (isBlP_any _ _).mono ?_; rintro e w2 ⟨rfl, rfl⟩; rw [YB.out])
      | (go_at_call 89; refine (skipBlanks_any T W _ b v l s A1.out).mono ?_; rintro e w3 ⟨rfl, A2, M2⟩; rw [UB.out] at A2; replace A1 := hide A2; replace M := hide (Mod.trans M.out M2); replace Z := hide (keep Z.out (Nat.ne_of_gt hb0) M2); obtain ⟨f0, f1, f2, f3, f4, f5, c0, c1, c2, c3, c4, c5⟩ := tok0_free Z.out; clear A2 M2))
    have MM := M.out
    refine bodyPost_ret (v := tkV 13 ⟨#[]⟩ 0 0 false false) (by simp [results, Tryz.results60, go_sem, tkV, c0, c1, c2, c3, c4, c5]) rfl ?_
    exact ⟨.tk (congrArg Prod.fst E.out), by rw [E.out]; repeat (first | (with_reducible exact A1.out) | (with_reducible refine At.put ?_ hb0 _ _)), by repeat (first | (with_reducible exact MM) | (with_reducible refine Mod.put ?_ (Nat.le_refl _) _ _))⟩
end Go.Proofs.YtcclhdiphcfdfaaGreatDoor
set_option linter.unusedVariables false
set_option linter.unusedSimpArgs false
namespace Go.Proofs.YtcclhdiphcfdfaaGreatDoor
open Go.RowKit

/-- Numbers as bytes. -/
def tb (l : List Int) : ByteArray := ⟨(l.map fun x => UInt8.ofNat x.toNat).toArray⟩
theorem tb_bl (t : ByteArray) : tb (bl t) = t := by
  cases t with
  | mk d =>
    cases d with
    | mk xs =>
      unfold tb bl
      simp only [List.map_map]
      congr 2
      conv => rhs; rw [← List.map_id xs]
      refine List.map_congr_left fun x _ => ?_
      simp
/-- A token's cells. -/
def tkC (τ : Tk) : List Value := [.int .i64 τ.kind, .string (tb τ.text), .int .i64 τ.num, .int .i64 τ.den, .bool τ.whole, .bool τ.id]
def cellsT (ts : List Tk) : List Value := ts.flatMap tkC
theorem cellsT_len (ts : List Tk) : (cellsT ts).length = ts.length * 6 := by
  induction ts with
  | nil => rfl
  | cons τ r ih => unfold cellsT at *; rw [List.flatMap_cons, List.length_append, ih, List.length_cons]; simp [tkC]; omega
theorem cellsT_snoc (ts : List Tk) (τ : Tk) : cellsT (ts ++ [τ]) = cellsT ts ++ tkC τ := by simp [cellsT]
theorem cellsT_at (ts : List Tk) : ∀ (i j : Nat) (τ : Tk), ts[i]? = some τ → j < 6 → (cellsT ts)[i * 6 + j]? = (tkC τ)[j]? := by
  induction ts with
  | nil => intro i j τ h; cases h
  | cons x r ih =>
    intro i j τ h hj
    have e : cellsT (x :: r) = tkC x ++ cellsT r := rfl
    have l : (tkC x).length = 6 := rfl
    rw [e]
    cases i with
    | zero =>
      cases h
      rw [List.getElem?_append_left (by rw [l]; omega)]
      simp
    | succ i =>
      rw [List.getElem?_append_right (by rw [l]; omega), l, ← ih i j τ h hj]
      congr 1; omega
theorem Tells.cells {e : Ending} {τ : Tk} (h : Tells e τ) : e = .returned (.agg #[.int .i64 τ.kind, .string (tb τ.text), .int .i64 τ.num, .int .i64 τ.den, .bool τ.whole, .bool τ.id]) := by
  obtain ⟨t, rfl, ht⟩ := h
  rw [← ht, tb_bl]; rfl
theorem infoT : (Tryz.prog.info? 25).map (fun i => (i.zero, i.size, i.bytes)) = some (some (.agg #[.int .i64 0, .string ⟨#[]⟩, .int .i64 0, .int .i64 0, .bool false, .bool false]), 6, 48) := by kernel_rfl
/-- An own slice of tokens beside a reader in block b. -/
def OwnT (b : Nat) (w wr : World) (v : Value) (ts : List Tk) : Prop :=
  wr.ownsRow w.heap.size 25 6 v ts.length (cellsT ts) ∧ w.grownBy wr (some b)
theorem OwnT.nil (b : Nat) (w : World) : OwnT b w w (.slice none 0 0) [] := ⟨World.ownsRow_nil _ _ _ _, Mod.refl _ _⟩
theorem OwnT.mod {b : Nat} {w wr w1 : World} {v : Value} {ts : List Tk} (h : OwnT b w wr v ts) (hb : b < w.heap.size) (hg : wr.grownBy w1 (some b)) : OwnT b w w1 v ts := by
  refine ⟨⟨h.1.1, ?_⟩, Mod.trans h.2 hg⟩
  rcases h.1.2 with h1 | ⟨g, cap, cur, hv, hbg, hh, rest⟩
  · exact .inl h1
  · exact .inr ⟨g, cap, cur, hv, hbg, (hg.block g (Array.getElem?_eq_some_iff.1 hh).1 (by intro e; cases e; omega)).trans hh, rest⟩
theorem OwnT.grow {b : Nat} {w wr w1 : World} {v v' : Value} {ts : List Tk} {τ : Tk} {o : Obj} (h : OwnT b w wr v ts)
    (h1 : w1.ownsRow w.heap.size 25 6 v' (ts.length + 1) (cellsT ts ++ tkC τ)) (hg : (wr.alloc o).grownBy w1 v.ownBlock) : OwnT b w w1 v' (ts ++ [τ]) := by
  refine ⟨by rw [List.length_append, cellsT_snoc]; exact h1, ?_⟩
  have A := Mod.trans h.2 (Mod.of b (bplus (Below.refl wr.heap.size wr) o))
  exact ⟨hg.os.trans A.os, hg.tape.trans A.tape, hg.output.trans A.output, Nat.le_trans A.size hg.size, fun i hi hb' => (hg.block i (Nat.lt_of_lt_of_le hi A.size) (fun e => by have := (h.1.lt i e.symm).1; omega)).trans (A.block i hi hb')⟩
theorem At.growT {T : TypeId} {W w wr w1 : World} {b : Nat} {u v : Value} {l s : List Int} {o : Obj} {ts : List Tk} (h : At T W wr b u l s) (hb : b < w.heap.size) (ho : OwnT b w wr v ts) (hg : (wr.alloc o).grownBy w1 v.ownBlock) : At T W w1 b u l s := by
  obtain ⟨p, h1, h2, h3⟩ := h.ex
  have B := bplus (Below.refl wr.heap.size wr) o
  have hbe := h1.ge
  refine ⟨p, ⟨(bto h1.bel B).grown hg (Nat.le_trans h1.bel.size B.size) (fun k hk => by have := (ho.1.lt k hk).1; omega), h1.ge, ?_, h1.nums, h1.len, h1.le⟩, h2, h3⟩
  exact (hg.block b (Nat.lt_of_lt_of_le h1.lt B.size) (fun e => by have := (ho.1.lt b e.symm).1; omega)).trans ((B.block b h1.lt).trans h1.blk)
/-- A slice of tokens in memory. -/
def Toks (w : World) (v : Value) (ts : List Tk) : Prop :=
  (∃ a c, v = .slice a 0 c ∧ ts = []) ∨
  ∃ b o n c, v = .slice (some ⟨b, o, none⟩) n c ∧ n = ts.length ∧ 0 < n ∧ b < w.heap.size ∧ n ≤ c ∧ n ≤ 1000000000 ∧ c ≤ 9223372036854775807 ∧ ∀ i τ, ts[i]? = some τ → ∀ j, j < 6 → w.cell? ⟨b, o + i * 6 + j, none⟩ = (tkC τ)[j]?
theorem Toks.below {w w' : World} {v : Value} {ts : List Tk} (h : Toks w v ts) (hw : Below w.heap.size w w') : Toks w' v ts := by
  rcases h with h | ⟨b, o, n, c, h1, h2, h3, h4, h5, h6, h7, h8⟩
  · exact .inl h
  · exact .inr ⟨b, o, n, c, h1, h2, h3, Nat.lt_of_lt_of_le h4 hw.size, h5, h6, h7, fun i τ hi j hj => (hw.cell (p := ⟨b, o + i * 6 + j, none⟩) h4).trans (h8 i τ hi j hj)⟩
theorem OwnT.toks {b : Nat} {w wr : World} {v : Value} {ts : List Tk} (h : OwnT b w wr v ts) (hl : ts.length ≤ 1000000000) : Toks wr v ts := by
  rcases h.1.2 with ⟨rfl, h0⟩ | ⟨g, cap, cur, rfl, hb, hg, hn, hm, hs, ht⟩
  · exact .inl ⟨_, _, rfl, List.eq_nil_of_length_eq_zero h0⟩
  · by_cases h0 : ts.length = 0
    · obtain rfl : ts = [] := List.eq_nil_of_length_eq_zero h0
      exact .inl ⟨_, _, rfl, rfl⟩
    · refine .inr ⟨g, 0, ts.length, cap, rfl, rfl, by omega, (Array.getElem?_eq_some_iff.1 hg).1, hn, hl, by unfold maxLen at hm; exact hm, fun i τ hi j hj => ?_⟩
      have e := cellsT_at ts i j τ hi hj
      have hi' := (List.getElem?_eq_some_iff.1 hi).1
      rw [← e, ← ht, List.getElem?_take_of_lt (by omega), cell_blk hg, Nat.zero_add, Array.getElem?_toList]
/-- Tokens where no remark is next. -/
def tk2 (t : List Int) : List Tk := if nx t 0 = -1 then [] else (tokn t).1 :: toks (tokn t).2
theorem toks_tk2 (s : List Int) : toks s = tk2 (rmk s) := by
  unfold tk2
  by_cases h : nx (rmk s) 0 = -1
  · rw [if_pos h, toks_end h]
  · rw [if_neg h, toks_go h]
theorem tk2_end {t : List Int} (h : nx t 0 = -1) : tk2 t = [] := by unfold tk2; rw [if_pos h]
theorem tk2_go {t : List Int} (h : nx t 0 ≠ -1) : tk2 t = (tokn t).1 :: tk2 (rmk (tokn t).2) := by rw [← toks_tk2]; unfold tk2; rw [if_neg h]
def RelTkT (T : TypeId) (W w0 : World) (b : Nat) (v : Value) (l s : List Int) (g : Nat) (tv : Value) (wr : World) : Prop :=
  ∃ ts t, At T W wr b v l t ∧ t.length ≤ g ∧ ts.length + t.length ≤ s.length ∧ OwnT b w0 wr tv ts ∧ Hid (toks s = ts ++ tk2 t)
theorem RelTkT.mk {T : TypeId} {W w0 : World} {b : Nat} {v : Value} {l s : List Int} {g : Nat} {tv : Value} {wr : World} (ts : List Tk) (t : List Int) (h1 : At T W wr b v l t) (h2 : t.length ≤ g) (h3 : ts.length + t.length ≤ s.length) (h4 : OwnT b w0 wr tv ts) (h5 : toks s = ts ++ tk2 t) : RelTkT T W w0 b v l s g tv wr := ⟨ts, t, h1, h2, h3, h4, h5⟩
theorem news6 (w : World) (u0 u1 u2 u3 u4 u5 : Value) (t : TypeId) : ∀ j x, [u0, u1, u2, u3, u4, u5][j]? = some x → (w.alloc (.cells #[u0, u1, u2, u3, u4, u5] t)).cell? ((⟨w.heap.size, 0, none⟩ : Addr).add j) = some x := fun j x hx => by
  match j, hx with
  | 0, hx => simp at hx; subst hx; simp [Addr.add]
  | 1, hx => simp at hx; subst hx; simp [Addr.add]
  | 2, hx => simp at hx; subst hx; simp [Addr.add]
  | 3, hx => simp at hx; subst hx; simp [Addr.add]
  | 4, hx => simp at hx; subst hx; simp [Addr.add]
  | 5, hx => simp at hx; subst hx; simp [Addr.add]
theorem one6 (τ : Tk) : ∀ u ∈ tkC τ, u.oneCell' = true := by
  intro u hu
  simp only [tkC, List.mem_cons, List.not_mem_nil, or_false] at hu
  rcases hu with rfl | rfl | rfl | rfl | rfl | rfl <;> rfl
theorem At.start (w : World) (v : Value) (l : List Int) (T : TypeId) (hv : Nums .i32 w v l) (hl : l.length ≤ 140737488355328) : At T w (w.alloc (.cells #[v, .int .i64 0] T)) w.heap.size v l (chs l) :=
  ⟨0, ⟨bplus (Below.refl _ _) _, Nat.le_refl _, heap_alloc_new w _, hv, hl, by omega⟩, Nat.zero_le _, rfl⟩
set_option maxRecDepth 100000 in
set_option maxHeartbeats 2000000 in
theorem toksP_any (l : List Int) (v : Value) (w : World) (hv : Nums .i32 w v l) (hL : l.length ≤ 250000000) :
    Calls Tryz.prog 31 #[v] w fun e w' => ∃ u, e = .returned u ∧ Toks w' u (toks (chs l)) ∧ Below w.heap.size w w' := by
  obtain ⟨i0, hi, hz0, hz1, hz2⟩ := info_parts infoT
  obtain ⟨a, n, c, rfl⟩ := hv.shape
  have A1 := hide (At.start w (.slice a n c) l 75 hv (by omega))
  have M := hide (Mod.refl (w.alloc (.cells #[.slice a n c, .int .i64 0] 75)) w.heap.size)
  have hcl : (chs l).length = l.length := chs_len l
  clear hv
  obtain ⟨s, hs⟩ : ∃ s, chs l = s := ⟨_, rfl⟩
  rw [hs] at A1 hcl ⊢
  clear hs
  have hsl : s.length ≤ 250000000 := by omega
  have L0 := hide hL
  clear hL hcl
  obtain ⟨s1, hs1⟩ : ∃ x, rmk s = x := ⟨_, rfl⟩
  have RS := hide hs1
  have ls1 : s1.length ≤ s.length := by rw [← hs1]; exact rmk_le s
  have E0 := hide (show toks s = [] ++ tk2 s1 by rw [← hs1]; exact toks_tk2 s)
  clear hs1
  obtain ⟨w0, hw0⟩ : ∃ x, w.alloc (.cells #[.slice a n c, .int .i64 0] 75) = x := ⟨_, rfl⟩
  have hbw : w.heap.size < w0.heap.size := by rw [← hw0]; simp
  rw [hw0] at M
  have W0 := hide hw0
  clear hw0
  go_enter Tryz.func31, Tryz.ntmps31
  go_wp2_with (go_at_call 58; refine (skipRemarks_any 75 w _ w.heap.size (.slice a n c) l s A1.out).mono ?_; rintro e w2 ⟨rfl, A2, M2⟩; rw [RS.out] at A2; rw [W0.out] at M2; replace A1 := hide A2; replace M := hide M2; clear A2 M2)
  go_loopg [4] s.length (fun g tv wr => RelTkT 75 w w0 w.heap.size (.slice a n c) l s g tv wr)
  case atStart => exact .mk [] s1 A1.out ls1 (by simpa using ls1) ((OwnT.nil _ _).mod hbw M.out) E0.out
  case round =>
    clear A1 M E0
    obtain ⟨ts, t, A1, hg, hx, OW, R⟩ := hrel
    replace A1 := hide A1
    replace OW := hide OW
    obtain ⟨x, hx0⟩ : ∃ x, nx t 0 = x := ⟨_, rfl⟩
    have H0 := hide hx0
    by_cases hm : x = -1
    · subst hm
      have E := R.out
      rw [tk2_end hx0, List.append_nil] at E
      replace E := hide E
      clear hx0
      go_wp2_with (go_at_call 59; refine (nextA 75 w _ w.heap.size _ l t A1.out).mono ?_; rintro e w1 ⟨he, B1⟩; rw [H0.out] at he; subst he; replace A1 := hide (A1.out.below B1); replace OW := hide (OW.out.mod hbw (Mod.of _ B1)); clear B1)
      go_ret
      obtain ⟨p, hp, _⟩ := A1.out.ex
      exact ⟨_, rfl, by rw [E.out]; exact OW.out.toks (by omega), hp.bel⟩
    · have em : (x != -1) = true := by simpa using hm
      have hne : nx t 0 ≠ -1 := by rw [hx0]; exact hm
      have HN := hide hne
      have E := R.out
      rw [tk2_go hne] at E
      have l1 := tokn_lt hne
      have l2 := rmk_le (tokn t).2
      clear hx0 hne
      obtain ⟨⟨⟨k, tx, nu, de, wh, id⟩, r⟩, ht⟩ : ∃ z, tokn t = z := ⟨_, rfl⟩
      have TT := hide ht
      rw [ht] at E l1 l2
      clear ht
      obtain ⟨q, hq⟩ : ∃ q, rmk r = q := ⟨_, rfl⟩
      have RQ := hide hq
      simp only at E l1 l2
      rw [hq] at E l2
      clear hq
      rw [show ts ++ (⟨k, tx, nu, de, wh, id⟩ : Tk) :: tk2 q = (ts ++ [⟨k, tx, nu, de, wh, id⟩]) ++ tk2 q by simp] at E
      replace E := hide E
      go_wp2_with (first
        | (go_at_call 59; refine (nextA 75 w _ w.heap.size _ l t A1.out).mono ?_; rintro e w1 ⟨he, B1⟩; rw [H0.out] at he; subst he; replace A1 := hide (A1.out.below B1); replace OW := hide (OW.out.mod hbw (Mod.of _ B1)); clear B1)
        | (go_at_call 60; refine (token_anyT 75 w _ w.heap.size _ l t L0.out HN.out A1.out).mono ?_; rintro e w3 ⟨he, A2, M2⟩; replace he := he.cells; rw [TT.out] at he A2; subst he; replace A1 := hide A2; replace OW := hide (OW.out.mod hbw M2); clear A2 M2)
        | (go_at_call 58; refine (skipRemarks_any 75 w _ w.heap.size _ l r A1.out).mono ?_; rintro e w4 ⟨rfl, A2, M2⟩; rw [RQ.out] at A2; replace A1 := hide A2; replace OW := hide (OW.out.mod hbw M2); clear A2 M2)
        | (at_builtin; refine wpList_append_own _ rfl _ _ 31 rfl w0.heap.size 25 i0 _ 6 48 Tryz.underlying31 hi hz0 hz1 hz2 rfl (by decide) _ _ _ rfl (OW.out.1.alloc _) ⟨_, 0, none⟩ 1 1 (tkC ⟨k, tx, nu, de, wh, id⟩) rfl rfl (news6 _ _ _ _ _ _ _ _) (one6 _) (by unfold maxLen; omega) (by omega) (by have := OW.out.2.size; simp; omega) ?_; intro v' w5 hown' hgrow _; replace A1 := hide (A1.out.growT hbw OW.out hgrow); replace OW := hide (OW.out.grow hown' hgrow); clear hown' hgrow))
      go_roundg (gk - 1)
      case measure => omega
      case rel => exact .mk _ q A1.out (by omega) (by rw [List.length_append, List.length_singleton]; omega) OW.out E.out
end Go.Proofs.YtcclhdiphcfdfaaGreatDoor
set_option linter.unusedVariables false
namespace Go.Proofs.YtcclhdiphcfdfaaGreatDoor
open Go.RowKit
/-! ### Bytes below 128 -/
def Asc (a : List Int) : Prop := ∀ c ∈ a, 0 ≤ c ∧ c < 128
theorem Asc.cons {c : Int} {s : List Int} (h : Asc (c :: s)) : Asc s := fun x hx => h x (List.mem_cons_of_mem _ hx)
theorem raw_asc1 (x : Int) (r : List Int) (h : x < 128) : raw (x :: r) = x :: raw r := by
  have hs : szOf x = 1 := by unfold szOf; rw [if_pos (by omega)]
  have hl : ldOf x = x := by unfold ldOf; rw [if_pos (by omega)]
  have e : stp (x :: r) = (x, 1, true) := by
    show (if szOf x = 0 then (65533, 1, false) else fol (szOf x - 1) (ldOf x) (loOf x) (hiOf x) 1 r) = _
    rw [hs, if_neg (by decide), hl]; rfl
  rw [raw_cut (List.cons_ne_nil _ _), e]; rfl
theorem raw_asc (b : List Int) : ∀ a : List Int, Asc a → raw (a ++ b) = a ++ raw b := by
  intro a
  induction a with
  | nil => intro _; rfl
  | cons x r ih =>
    intro h
    rw [List.cons_append, raw_asc1 x _ (h x (List.mem_cons_self ..)).2, ih h.cons]; rfl
theorem lin_free {l m : Int} (hl : l ≠ 13) (hm : m ≠ 13) (b : List Int) : lin l b = lin m b := by
  cases b with
  | nil => rfl
  | cons x r => simp [lin, hl, hm]
theorem lin_app (x : Int) (hx : x ≠ 10) (b : List Int) : ∀ (a : List Int) (l : Int), lin l (a ++ x :: b) = lin l a ++ tr x :: lin x b := by
  intro a
  induction a with
  | nil => intro l; simp [lin, hx]
  | cons y r ih => intro l; simp only [List.cons_append, lin]; rw [ih]; simp
theorem mark_asc {a : List Int} (h : ∀ c, a.head? = some c → c < 128) : mark a = false := by
  cases a with
  | nil => rfl
  | cons x r =>
    have := h x rfl
    unfold mark gt
    have e : (x :: r).getD 0 0 = x := rfl
    rw [e, decide_eq_false (p := x = 239) (by omega), Bool.false_and, Bool.and_false]
theorem cut_asc {a : List Int} (h : ∀ c, a.head? = some c → c < 128) : cut a = a := by unfold cut; rw [mark_asc h]; rfl
theorem Asc.head {a : List Int} (h : Asc a) : ∀ c, a.head? = some c → c < 128 := fun c hc => (h c (List.mem_of_mem_head? hc)).2
theorem Asc.head_app {a : List Int} (h : Asc a) {x : Int} (hx : x < 128) (b : List Int) : ∀ c, (a ++ x :: b).head? = some c → c < 128 := by
  intro c hc
  cases a with
  | nil => cases hc; exact hx
  | cons y r => cases hc; exact (h _ (List.mem_cons_self ..)).2
theorem dcd_asc {a : List Int} (h : Asc a) : dcd a = lin 0 a := by
  unfold dcd
  rw [cut_asc h.head]
  have := raw_asc [] a h
  rw [List.append_nil, raw_nil, List.append_nil] at this
  rw [this]
theorem dcd_none {b : List Int} (h : mark b = false) : dcd b = lin 0 (raw b) := by unfold dcd cut; rw [h]; rfl
theorem dcd_semi {a b : List Int} (h : Asc a) (hb : mark b = false) : dcd (a ++ 59 :: b) = dcd a ++ 59 :: dcd b := by
  rw [dcd_asc h, dcd_none hb]
  unfold dcd
  rw [cut_asc (h.head_app (by decide) b), raw_asc _ a h, raw_asc1 59 b (by decide), lin_app 59 (by decide), lin_free (l := 59) (m := 0) (by decide) (by decide)]
  rfl
theorem dcd_blank {a : List Int} (h : Asc a) : dcd (a ++ [32]) = dcd a ++ [32] := by
  have h' : Asc (a ++ [32]) := fun c hc => by
    rcases List.mem_append.1 hc with hc | hc
    · exact h c hc
    · simp at hc; omega
  rw [dcd_asc h, dcd_asc h', lin_app 32 (by decide)]; rfl
theorem dcd_remark {a i b : List Int} (h : Asc a) (hi : Asc i) (hb : mark b = false) : dcd (a ++ 32 :: 47 :: 42 :: (i ++ 42 :: 47 :: b)) = (dcd a ++ [32]) ++ 47 :: 42 :: (dcd i ++ 42 :: 47 :: dcd b) := by
  rw [dcd_asc h, dcd_asc hi, dcd_none hb]
  unfold dcd
  rw [cut_asc (h.head_app (by decide) _), raw_asc _ a h, raw_asc1 32 _ (by decide), raw_asc1 47 _ (by decide), raw_asc1 42 _ (by decide), raw_asc _ i hi, raw_asc1 42 _ (by decide), raw_asc1 47 _ (by decide), lin_app 32 (by decide)]
  have e1 : ∀ r, lin 32 (47 :: 42 :: r) = 47 :: 42 :: lin 42 r := fun r => rfl
  rw [e1, lin_app 42 (by decide), lin_free (l := 42) (m := 0) (by decide) (by decide)]
  have e2 : ∀ r, lin 42 (47 :: r) = 47 :: lin 47 r := fun r => rfl
  rw [e2, lin_free (l := 47) (m := 0) (by decide) (by decide)]
  simp [tr]
theorem lin_mem {c : Int} : ∀ (a : List Int) (l : Int), c ∈ lin l a → ∃ x ∈ a, c = tr x := by
  intro a
  induction a with
  | nil => intro l h; cases h
  | cons y r ih =>
    intro l h
    simp only [lin, List.mem_append] at h
    rcases h with h | h
    · split at h
      · cases h
      · simp at h; exact ⟨y, List.mem_cons_self .., h⟩
    · obtain ⟨x, hx, e⟩ := ih _ h
      exact ⟨x, List.mem_cons_of_mem _ hx, e⟩
theorem tr_back {x c : Int} (h : tr x = c) (hc : c ≠ 10) (hd : c ≠ 65533) : x = c := by
  unfold tr at h
  split at h
  · omega
  · split at h
    · omega
    · exact h
theorem lin_not {c : Int} {a : List Int} {l : Int} (h : ∀ x ∈ a, x ≠ c) (hc : c ≠ 10) (hd : c ≠ 65533) : ∀ x ∈ lin l a, x ≠ c := by
  intro x hx e
  obtain ⟨y, hy, e'⟩ := lin_mem a l hx
  exact h y hy (tr_back (e'.symm.trans e) hc hd)
theorem Cln.lin {a : List Int} (h : Cln a) (l : Int) : Cln (lin l a) := by
  intro c hc
  exact ⟨lin_not (fun x hx => (h x hx).1) (by decide) (by decide) c hc, lin_not (fun x hx => (h x hx).2.1) (by decide) (by decide) c hc, lin_not (fun x hx => (h x hx).2.2.1) (by decide) (by decide) c hc, lin_not (fun x hx => (h x hx).2.2.2.1) (by decide) (by decide) c hc, lin_not (fun x hx => (h x hx).2.2.2.2) (by decide) (by decide) c hc⟩
theorem NoR.cons {x : Int} {r : List Int} (h : NoR (x :: r)) : NoR r := h.suf (List.suffix_cons _ _)
theorem NoR.mk {x : Int} {r : List Int} (h0 : ¬ (x = 47 ∧ nx r 0 = 42)) (h : NoR r) : NoR (x :: r) := by
  intro k
  cases k with
  | zero => exact h0
  | succ k => exact h k
theorem lin_nx {r : List Int} (h : nx r 0 ≠ 42) : nx (lin 47 r) 0 ≠ 42 := by
  cases r with
  | nil => exact h
  | cons y q =>
    have e : lin 47 (y :: q) = tr y :: lin y q := by simp [lin]
    rw [e]
    intro g
    exact h (tr_back (show tr y = 42 from g) (by decide) (by decide))
theorem NoR.lin : ∀ (a : List Int) (l : Int), NoR a → NoR (lin l a) := by
  intro a
  induction a with
  | nil => intro l h; exact h
  | cons y r ih =>
    intro l h
    have hr := ih y h.cons
    simp only [Go.Proofs.YtcclhdiphcfdfaaGreatDoor.lin]
    split
    · exact hr
    · refine NoR.mk ?_ hr
      intro ⟨g1, g2⟩
      have hy : y = 47 := tr_back g1 (by decide) (by decide)
      subst hy
      refine lin_nx ?_ g2
      intro e
      exact h 0 ⟨rfl, e⟩
theorem toks_parts {a b : List Int} (h : Asc a) (hc : Cln a) (hn : NoR a) (hb : mark b = false) : toks (dcd (a ++ 59 :: b)) = toks (dcd a) ++ tk 17 :: toks (dcd b) := by
  rw [dcd_semi h hb, toks_app (t := 59 :: dcd b) (.inl rfl) _ _ (Nat.le_refl _) (by rw [dcd_asc h]; exact hc.lin 0) (by rw [dcd_asc h]; exact hn.lin _ _), toks_semi]
theorem Cln.blank {s : List Int} (h : Cln s) : Cln (s ++ [32]) := by
  intro c hc
  rcases List.mem_append.1 hc with hc | hc
  · exact h c hc
  · simp at hc; omega
theorem NoR.not {s : List Int} (h : ∀ c ∈ s, c ≠ 47) : NoR s := by
  intro k ⟨h1, _⟩
  have hk := nx_len (s := s) (k := k) (by omega)
  have : nx s k = s[k] := by simp [nx, List.getD_eq_getElem?_getD, hk]
  exact h _ (List.getElem_mem hk) (this.symm.trans h1)
theorem toks_remarks {a i b : List Int} (h : Asc a) (hc : Cln a) (hn : ∀ c ∈ a, c ≠ 47) (hi : Asc i) (hi2 : ∀ c ∈ i, c ≠ 42) (hb : mark b = false) : toks (dcd (a ++ 32 :: 47 :: 42 :: (i ++ 42 :: 47 :: b))) = toks (dcd (a ++ [32])) ++ toks (dcd b) := by
  have n47 : ∀ c ∈ dcd a ++ [32], c ≠ 47 := by
    intro c hc
    rcases List.mem_append.1 hc with hc | hc
    · rw [dcd_asc h] at hc; exact lin_not hn (by decide) (by decide) c hc
    · simp at hc; omega
  rw [dcd_remark h hi hb, dcd_blank h, toks_app (t := 47 :: 42 :: (dcd i ++ 42 :: 47 :: dcd b)) (.inr rfl) _ _ (Nat.le_refl _) (by rw [dcd_asc h]; exact (hc.lin 0).blank) (NoR.not n47), toks_remark]
  rw [dcd_asc hi]
  exact lin_not hi2 (by decide) (by decide)
end Go.Proofs.YtcclhdiphcfdfaaGreatDoor
set_option linter.unusedVariables false
set_option linter.unusedSimpArgs false
namespace Go.Proofs.YtcclhdiphcfdfaaGreatDoor
open Go.RowKit

theorem lin_len : ∀ (a : List Int) (l : Int), (lin l a).length ≤ a.length := by
  intro a
  induction a with
  | nil => intro l; simp [lin]
  | cons x r ih =>
    intro l
    have := ih x
    simp only [lin, List.length_append, List.length_cons]
    split <;> simp <;> omega
theorem dcd_len (bs : List Int) : (dcd bs).length ≤ bs.length := by
  unfold dcd
  have h1 := lin_len (raw (cut bs)) 0
  have h2 := (raw_le (cut bs)).1
  have h3 := cutm_len bs
  omega
set_option maxRecDepth 100000 in
set_option maxHeartbeats 1000000 in
theorem tbytesP_any (bs : List Int) (v : Value) (w : World) (hb : By bs) (hv : Nums .u8 w v bs) (hl : bs.length ≤ 250000000) :
    Calls Tryz.prog 14 #[v] w fun e w' => ∃ u, e = .returned u ∧ Toks w' u (toks (chs (dcd bs))) ∧ Below w.heap.size w w' := by
  have hd := dcd_len bs
  have L := hide (show (dcd bs).length ≤ 250000000 by omega)
  have HV := hide hv
  have HB := hide hb
  have H9 := hide (show bs.length ≤ 1099511627776 by omega)
  clear hv hb hl hd
  go_enter Tryz.func14, Tryz.ntmps14
  go_wp2_with (first
    | (go_at_call 32; refine (dcdP_any bs v _ HB.out HV.out H9.out).mono ?_; rintro e w1 ⟨u, rfl, N, B1⟩; replace N := hide N; replace B1 := hide B1)
    | (go_at_call 31; refine (toksP_any (dcd bs) _ _ N.out L.out).mono ?_; rintro e w2 ⟨u2, rfl, N2, B2⟩; replace N2 := hide N2; replace B1 := hide (bto B1.out B2); clear B2))
  go_ret
  exact ⟨_, rfl, N2.out, B1.out⟩
theorem nam_a : nam [] [97, 58, 49] = ([97], [58, 49]) := by
  rw [nam_let (by decide)]
  show nam [97] [58, 49] = _
  rw [nam_end (by decide) (by decide)]
theorem word_a : word [97, 58, 49] = (tkt 1 [97], [58, 49]) := by
  unfold word
  rw [nam_a, if_pos (by decide)]
theorem tokn_1 : tokn [49] = (⟨10, [], 1, 1, true, false⟩, []) := by
  have d : dcT (enc (nmT [49])) = ((1, 1), true) := by decide
  show numb [49] = _
  unfold numb
  rw [d]
  rfl
theorem toks_a : toks (chs (dcd [97, 58, 49])) = [tkt 1 [97], tk 16, ⟨10, [], 1, 1, true, false⟩] := by
  have e : chs (dcd [97, 58, 49]) = [97, 58, 49] := by
    rw [dcd_asc (by intro c hc; simp at hc; omega)]
    decide
  rw [e]
  have r1 : rmk [97, 58, 49] = [97, 58, 49] := rmk_end (by decide)
  have t1 : tokn [97, 58, 49] = (tkt 1 [97], [58, 49]) := (show tokn [97, 58, 49] = word [97, 58, 49] from rfl).trans word_a
  have r2 : rmk [58, 49] = [58, 49] := rmk_end (by decide)
  have t2 : tokn [58, 49] = (tk 16, [49]) := rfl
  have r3 : rmk [49] = [49] := rmk_end (by decide)
  have r4 : rmk [] = [] := rmk_end (by decide)
  rw [toks_go (by rw [r1]; decide), r1, t1]
  show _ :: toks [58, 49] = _
  rw [toks_go (by rw [r2]; decide), r2, t2]
  show _ :: _ :: toks [49] = _
  rw [toks_go (by rw [r3]; decide), r3, tokn_1]
  show _ :: _ :: _ :: toks [] = _
  rw [toks_end (by rw [r4]; decide)]
theorem Nums.litq {k : IntKind} (w : World) (t : TypeId) (bs : List Int) (n : Nat) (q : Nat × Nat) (hn : n = bs.length) (h0 : 0 < n) (hl : n ≤ 1000) :
    Nums k (w.alloc (.cells (bs.map (Value.int k)).toArray t q)) (.slice (some ⟨w.heap.size, 0, none⟩) n n) bs :=
  .inr ⟨w.heap.size, 0, n, n, rfl, hn, h0, by simp, Nat.le_refl _, by omega, by omega, fun i hi => by
    rw [cell_of_row _ w.heap.size (0 + i) _ t q (heap_alloc_new w _)]
    simp [gt, List.getD_eq_getElem?_getD, List.getElem?_eq_getElem (show i < bs.length by omega)]⟩
theorem By.a : By [97, 58, 49] := by intro x hx; simp at hx; omega
end Go.Proofs.YtcclhdiphcfdfaaGreatDoor
set_option linter.unusedVariables false
set_option linter.unusedSimpArgs false
namespace Go.Proofs.YtcclhdiphcfdfaaGreatDoor
open Go.RowKit

def RelSm (n : Nat) (i : Value) : Prop := ∃ k : Nat, k ≤ n ∧ i = .int .i64 k
theorem RelSm.mk {n : Nat} (k : Nat) {i : Value} (h1 : k ≤ n) (h2 : i = .int .i64 k) : RelSm n i := ⟨k, h1, h2⟩
structure Six (w : World) (b o : Nat) (k : Int) (t : ByteArray) (n d : Int) (wh i : Bool) : Prop where
  c0 : w.cell? ⟨b, o, none⟩ = some (.int .i64 k)
  c1 : w.cell? ⟨b, o + 1, none⟩ = some (.string t)
  c2 : w.cell? ⟨b, o + 2, none⟩ = some (.int .i64 n)
  c3 : w.cell? ⟨b, o + 3, none⟩ = some (.int .i64 d)
  c4 : w.cell? ⟨b, o + 4, none⟩ = some (.bool wh)
  c5 : w.cell? ⟨b, o + 5, none⟩ = some (.bool i)
theorem Six.of {w : World} {b o : Nat} {τ : Tk} (h : ∀ j, j < 6 → w.cell? ⟨b, o + j, none⟩ = (tkC τ)[j]?) : Six w b o τ.kind (tb τ.text) τ.num τ.den τ.whole τ.id :=
  ⟨h 0 (by decide), h 1 (by decide), h 2 (by decide), h 3 (by decide), h 4 (by decide), h 5 (by decide)⟩
set_option maxRecDepth 100000 in
set_option maxHeartbeats 1000000 in
theorem sameT_any (ts : List Tk) (v u : Value) (w : World) (ha : Toks w v ts) (hb : Toks w u ts) :
    Calls Tryz.prog 15 #[v, u] w fun e w' => e = .returned (.bool true) ∧ Below w.heap.size w w' := by
  rcases ha with ⟨a, c, rfl, rfl⟩ | ⟨b, o, n, c, rfl, hn, h0, hbw, hl, hn9, hc9, hc⟩
  · rcases hb with ⟨a', c', rfl, _⟩ | ⟨b', o', n', c', rfl, hn', h0', hbw', hl', hn9', hc9', hc'⟩
    · go_enter Tryz.func15, Tryz.ntmps15
      go_wp2
      refine wp_loop_rounds 1 ?_
      rw [rounds_succ]
      go_wp2
      go_ret
      exact ⟨rfl, Below.refl _ _⟩
    · simp at hn'; omega
  · rcases hb with ⟨a', c', rfl, rfl⟩ | ⟨b', o', n', c', rfl, hn', h0', hbw', hl', hn9', hc9', hc'⟩
    · simp at hn; omega
    · obtain rfl : n = n' := hn.trans hn'.symm
      have HN := hide hn
      have HC := hide hc
      have HC' := hide hc'
      clear hc hc' hn hn'
      go_enter Tryz.func15, Tryz.ntmps15
      go_wp2
      go_loopw [13] (fun i wr => RelSm n i ∧ ∃ q, wr = w.drewN q) (fun i _ => n - (intOf i).toNat)
      case atStart => exact ⟨.mk 0 (by omega) rfl, 0, rfl⟩
      case round =>
        obtain ⟨⟨k, hk, rfl⟩, q, rfl⟩ := hrel
        by_cases hlt : k < n
        · obtain ⟨τ, hτ⟩ : ∃ τ, ts[k]? = some τ := ⟨_, List.getElem?_eq_getElem (by rw [← HN.out]; exact hlt)⟩
          obtain ⟨p0, p1, p2, p3, p4, p5⟩ := Six.of (HC.out k τ hτ)
          obtain ⟨r0, r1, r2, r3, r4, r5⟩ := Six.of (HC'.out k τ hτ)
          clear hτ
          obtain ⟨kk, tx, nu, de, wh, id⟩ := τ
          simp only at p0 p1 p2 p3 p4 p5 r0 r1 r2 r3 r4 r5
          generalize tb tx = tt at p1 r1
          go_wp2
          go_quiet (fail)
          go_wp2
          exact ⟨⟨.mk (k + 1) (by omega) (by go_num), q + nq, rfl⟩, by simp [intOf]; omega⟩
        · go_wp2
          go_ret
          exact ⟨rfl, below_drewN (Below.refl _ _) _⟩
end Go.Proofs.YtcclhdiphcfdfaaGreatDoor
