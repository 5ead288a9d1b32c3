/-
  The leaves of a condition: by the reference.
-/
import Derived.Test.YtpcdhdllclenaaaDoorCdT
import Derived.Test.YtpcdhdllclenaaaDoorUtfG
import Derived.Laws.AppendOwn
set_option linter.unusedVariables false
set_option linter.unusedSimpArgs false
namespace Go.Proofs.YtpcdhdllclenaaaDoor.cd
open Go.RowKit

mutual
/-- Its leaves, from the left. -/
def lvs : Cn → List Lf
  | .mk k lf ks => if k = 4 then [lf] else lvss ks
def lvss : List Cn → List Lf
  | [] => []
  | e :: es => lvs e ++ lvss es
end
theorem lvs_eq (x : Cn) : lvs x = if x.k = 4 then [x.lf] else lvss x.ks := by cases x with | mk k lf ks => rw [lvs]; rfl
theorem lvss_nil : lvss [] = [] := by rw [lvss]
theorem lvss_cons (e : Cn) (es : List Cn) : lvss (e :: es) = lvs e ++ lvss es := by rw [lvss]
theorem lvss_app : ∀ (a b : List Cn), lvss (a ++ b) = lvss a ++ lvss b
  | [], b => by rw [lvss_nil]; rfl
  | e :: es, b => by rw [List.cons_append, lvss_cons, lvss_app es b, lvss_cons, List.append_assoc]
theorem lvs_len (N : Nat) : ∀ x : Cn, szC x ≤ N → (lvs x).length ≤ szC x := by
  induction N with
  | zero => intro x hx; rw [szC_ks] at hx; omega
  | succ N ih =>
    intro x hx
    rw [szC_ks] at hx ⊢
    have key : ∀ l : List Cn, szCs l ≤ N → (lvss l).length ≤ szCs l := by
      intro l
      induction l with
      | nil => intro _; rw [lvss_nil]; simp
      | cons y r ihl =>
        intro h
        rw [szCs_cons] at h ⊢
        rw [lvss_cons, List.length_append]
        have h1 := ih y (by rw [szC_ks]; omega)
        rw [szC_ks] at h1
        have h2 := ihl (by omega)
        omega
    rw [lvs_eq]
    split
    · simp
    · have := key x.ks (by omega); omega
theorem lvss_take (l : List Cn) (m : Nat) : (lvss (l.take m)).length ≤ (lvss l).length := by
  have h : lvss l = lvss (l.take m) ++ lvss (l.drop m) := by rw [← lvss_app, List.take_append_drop]
  rw [h, List.length_append]; omega
theorem lvss_len (l : List Cn) : (lvss l).length ≤ szCs l := by
  induction l with
  | nil => rw [lvss_nil]; simp
  | cons y r ih =>
    rw [lvss_cons, List.length_append, szCs_cons]
    have := lvs_len (szC y) y (Nat.le_refl _)
    rw [szC_ks] at this
    omega
theorem lvs_pos (N : Nat) : ∀ (x : Cn) (j : Nat), szC x ≤ N → cnM x j = true → 0 < (lvs x).length := by
  induction N with
  | zero => intro x j hx; rw [szC_ks] at hx; omega
  | succ N ih =>
    intro x j hx hm
    rw [szC_ks] at hx
    obtain ⟨h1, h2⟩ := cn_kid hm
    rw [lvs_eq]
    split
    · simp
    · rename_i hk
      cases hks : x.ks with
      | nil =>
        exfalso
        rw [hks] at h1
        rcases cnt4 h1 hk with h | h | ⟨h, h'⟩
        · rw [h] at h1; simp [cntC] at h1
        · rw [h] at h1; simp [cntC] at h1
        · have : (([] : List Cn).length = 1) := h'
          simp at this
      | cons y r =>
        rw [lvss_cons, List.length_append]
        have := ih y (j - 1) (by rw [hks, szCs_cons] at hx; rw [szC_ks]; omega) (h2 0 y (by rw [hks]; rfl))
        omega
/-- The twelve values of a leaf. -/
def lfL (x : Lf) (z : Value) : List Value := [.int .i64 x.k, .int .i64 x.t, .string x.nm, .int .i64 x.op, .int .i64 x.e.k, .int .i64 x.e.n, .int .i64 x.e.d, .int .i64 x.e.u, z, .string x.wd, .string x.vl, .bool x.an]
/-- The cells of leaves. -/
inductive LfC (M : World) : List Lf → List Value → Prop
  | nil : LfC M [] []
  | cons (x : Lf) (l : List Lf) (xs : List Value) (z : Value) (hz : EM M z x.e.ks) (g : LfC M l xs) : LfC M (x :: l) (lfL x z ++ xs)
theorem LfC.len {M : World} {l : List Lf} {xs : List Value} (h : LfC M l xs) : xs.length = l.length * 12 := by
  induction h with
  | nil => rfl
  | cons x l xs z hz g ih => rw [List.length_append, ih, List.length_cons, show (lfL x z).length = 12 from rfl]; omega
theorem LfC.app {M : World} {l1 l2 : List Lf} {xs1 xs2 : List Value} (h : LfC M l1 xs1) (k : LfC M l2 xs2) : LfC M (l1 ++ l2) (xs1 ++ xs2) := by
  induction h with
  | nil => exact k
  | cons x l xs z hz g ih => rw [List.append_assoc]; exact .cons x _ _ z hz ih
theorem lfL_one (x : Lf) {z : Value} (hz : z.oneCell' = true) : ∀ y ∈ lfL x z, y.oneCell' = true := by
  intro y hy
  simp only [lfL, List.mem_cons, List.not_mem_nil, or_false] at hy
  rcases hy with rfl | rfl | rfl | rfl | rfl | rfl | rfl | rfl | rfl | rfl | rfl | rfl <;> first | rfl | exact hz
theorem LfC.one {M : World} {l : List Lf} {xs : List Value} (h : LfC M l xs) : ∀ y ∈ xs, y.oneCell' = true := by
  induction h with
  | nil => intro y hy; simp at hy
  | cons x l xs z hz g ih =>
    intro y hy
    rcases List.mem_append.1 hy with h | h
    · obtain ⟨a, c, rfl, -⟩ := hz.shape
      exact lfL_one x rfl y h
    · exact ih y h
theorem LfC.at {M : World} {l : List Lf} {xs : List Value} (h : LfC M l xs) : ∀ {i : Nat} {x : Lf}, l[i]? = some x → ∃ z, EM M z x.e.ks ∧ ∀ j, j < 12 → xs[i * 12 + j]? = (lfL x z)[j]? := by
  induction h with
  | nil => intro i x h; simp at h
  | cons y l xs z hz g ih =>
    intro i x hi
    cases i with
    | zero =>
      simp at hi
      subst hi
      refine ⟨z, hz, fun j hj => ?_⟩
      rw [Nat.zero_mul, Nat.zero_add, List.getElem?_append_left (by show j < 12; omega)]
    | succ i =>
      obtain ⟨z', hz', hc⟩ := ih (i := i) (x := x) (by simpa using hi)
      refine ⟨z', hz', fun j hj => ?_⟩
      rw [List.getElem?_append_right (by show 12 ≤ (i + 1) * 12 + j; omega), show (i + 1) * 12 + j - (lfL y z).length = i * 12 + j by show (i + 1) * 12 + j - 12 = _; omega]
      exact hc j hj
/-- A slice of leaves, some. -/
def LR (M w : World) (v : Value) (ls : List Lf) : Prop := ∃ b c xs, v = .slice (some ⟨b, 0, none⟩) ls.length c ∧ b < w.heap.size ∧ ls.length ≤ c ∧ c ≤ 9223372036854775807 ∧ LfC M ls xs ∧ ∀ j u, xs[j]? = some u → w.cell? ⟨b, j, none⟩ = some u
theorem infoL : (Tryd.prog.info? 37).map (fun i => (i.zero, i.size, i.bytes)) = some (some (.agg #[.int .i64 0, .int .i64 0, .string ⟨#[]⟩, .int .i64 0, .int .i64 0, .int .i64 0, .int .i64 0, .int .i64 0, .slice none 0 0, .string ⟨#[]⟩, .string ⟨#[]⟩, .bool false]), 12, 136) := by kernel_rfl
theorem own_low {w w' : World} {base : Nat} {e : TypeId} {sz n : Nat} {v : Value} {xs : List Value} (h : w.ownsRow base e sz v n xs) (hw : Below w.heap.size w w') : w'.ownsRow base e sz v n xs :=
  ⟨h.1, h.2.imp id (fun ⟨g, cap, cur, hv, hb, hg, r⟩ => ⟨g, cap, cur, hv, hb, (hw.block g (Array.getElem?_eq_some_iff.1 hg).1).trans hg, r⟩)⟩
theorem wpList_append_leaves {wr : World} {B : Nat} {ops : Array Oper} {rest : List Oper} {o : Oper} {a : Act} {Q : Exit → Act → World → Prop} (hgd : o.guard = none) (s x : Operand)
    (ho : o.op = .call { callee := .builtin .append, args := #[s, x], argTypes := #[42, 42] })
    (v : Value) (n : Nat) (xs : List Value) (hs : a.eval s = v) (hown : wr.ownsRow B 37 12 v n xs) (hB : B ≤ wr.heap.size) (lb m c : Nat) (lxs : List Value) (hx : a.eval x = .slice (some ⟨lb, 0, none⟩) m c) (hl : lxs.length = m * 12) (hcell : ∀ j u, lxs[j]? = some u → wr.cell? ⟨lb, j, none⟩ = some u) (h1 : ∀ u ∈ lxs, u.oneCell' = true) (hnm : n + m ≤ 1000000000)
    (h : ∀ v' w', w'.ownsRow B 37 12 v' (n + m) (xs ++ lxs) → Below B wr w' → wpList Tryd.prog ops Q rest (a.put o.dst v') w') : wpList Tryd.prog ops Q (o :: rest) a wr := by
  obtain ⟨i1, hj, hy0, hy1, hy2⟩ := info_parts infoL
  refine wpList_append_own wr hgd s x 42 ho B 37 i1 _ 12 136 Tryd.underlying42 hj hy0 hy1 hy2 rfl (by decide) v n xs hs hown ⟨lb, 0, none⟩ m c lxs hx hl (fun j u hj => by rw [Addr.add_lit, Nat.zero_add]; exact hcell j u hj) h1 (by unfold maxLen; omega) (by omega) hB ?_
  intro v' w' h2 h3 _
  exact h v' w' h2 ((Below.refl B wr).grown h3 hB (fun k hk => (hown.lt k hk).1))
def RelLv (M W : World) (ks : List Cn) (l i : Value) (wr : World) : Prop := ∃ (m : Nat) (xs : List Value), i = .int .i64 m ∧ m ≤ ks.length ∧ Hid (LfC M (lvss (ks.take m)) xs) ∧ Hid (wr.ownsRow W.heap.size 37 12 l (lvss (ks.take m)).length xs ∧ Below W.heap.size W wr)
theorem RelLv.mk {M W : World} {ks : List Cn} {l i : Value} {wr : World} (m : Nat) (xs : List Value) (h1 : i = .int .i64 m) (h2 : m ≤ ks.length) (h3 : LfC M (lvss (ks.take m)) xs) (h4 : wr.ownsRow W.heap.size 37 12 l (lvss (ks.take m)).length xs) (h5 : Below W.heap.size W wr) : RelLv M W ks l i wr := ⟨m, xs, h1, h2, h3, h4, h5⟩
set_option maxRecDepth 100000 in
set_option maxHeartbeats 8000000 in
theorem leavesR_any (M : World) (N : Nat) (hN9 : N ≤ 1000000000) : ∀ (x : Cn) (u z : Value) (w : World) (j : Nat), szC x ≤ N → CM M u x.ks → EM M z x.lf.e.ks → cnM x j = true → Below M.heap.size M w →
    Calls Tryd.prog 36 #[cnV x u z] w fun e w' => ∃ v, e = .returned v ∧ LR M w' v (lvs x) ∧ Below w.heap.size w w' := by
  induction N with
  | zero => intro x u z w j hN; rw [szC_ks] at hN; omega
  | succ N ih =>
    intro x u z w j hN hu hz hm hMw
    obtain ⟨hct, hkid⟩ := cn_kid hm
    have E := hide (lvs_eq x)
    have PO := hide (lvs_pos (szC x) x j (Nat.le_refl _) hm)
    obtain ⟨a, c, rfl, hl9⟩ := hu.shape
    obtain ⟨za, zc, rfl, hz9⟩ := hz.shape
    rw [szC_ks] at hN
    obtain ⟨k, ⟨lk, lt, nm, op, ⟨ek, en, ed, eu, eks⟩, wd, vl, an⟩, ks⟩ := x
    simp only [Cn.k, Cn.lf, Cn.ks] at hN hl9 E hct hkid
    replace hu : CM M (.slice a ks.length c) ks := hu
    replace hz : EM M (.slice za eks.length zc) eks := hz
    show Calls Tryd.prog 36 #[.agg #[.int .i64 k, .slice a ks.length c, .int .i64 lk, .int .i64 lt, .string nm, .int .i64 op, .int .i64 ek, .int .i64 en, .int .i64 ed, .int .i64 eu, .slice za eks.length zc, .string wd, .string vl, .bool an]] w _
    clear hz9
    generalize hzm : eks.length = zm at *
    have HU := hide hu
    have HZ := hide hz
    have IH := hide (ih (by omega))
    have HK := hide hkid
    have HMW := hide hMw
    obtain ⟨w0, hw0⟩ : ∃ w0, w.alloc (.cells #[.int .i64 k, .slice a ks.length c, .int .i64 lk, .int .i64 lt, .string nm, .int .i64 op, .int .i64 ek, .int .i64 en, .int .i64 ed, .int .i64 eu, .slice za zm zc, .string wd, .string vl, .bool an] 39) = w0 := ⟨_, rfl⟩
    have B0 : Below w.heap.size w w0 := by rw [← hw0]; exact bplus (Below.refl _ _) _
    have P0 : w0.heap[w.heap.size]? = some (.cells #[.int .i64 k, .slice a ks.length c, .int .i64 lk, .int .i64 lt, .string nm, .int .i64 op, .int .i64 ek, .int .i64 en, .int .i64 ed, .int .i64 eu, .slice za zm zc, .string wd, .string vl, .bool an] 39) := by rw [← hw0]; exact heap_alloc_new w _
    have HB0 := hide B0
    have HW0 := hide hw0
    obtain ⟨y0, y1, y2, y3, y4, y5, y6, y7, y8, y9, ya, yb, yc, yd⟩ := keep14 (Below.refl w0.heap.size w0) P0
    have hcnt := hide hct
    clear hu hz ih hkid hm hw0 B0 P0 hMw hct
    by_cases hk4 : k = 4
    · subst hk4
      have E2 := hide (E.out.trans (if_pos rfl))
      have F := hide (show LR M (w0.alloc (.cells #[.int .i64 lk, .int .i64 lt, .string nm, .int .i64 op, .int .i64 ek, .int .i64 en, .int .i64 ed, .int .i64 eu, .slice za zm zc, .string wd, .string vl, .bool an] 37)) (.slice (some ⟨w0.heap.size, 0, none⟩) 1 1) (lvs (.mk 4 ⟨lk, lt, nm, op, .mk ek en ed eu eks, wd, vl, an⟩ ks)) from by
        rw [E2.out]
        refine ⟨w0.heap.size, 1, [.int .i64 lk, .int .i64 lt, .string nm, .int .i64 op, .int .i64 ek, .int .i64 en, .int .i64 ed, .int .i64 eu, .slice za zm zc, .string wd, .string vl, .bool an], rfl, by simp, by simp, by omega, ?_, fun j u hj => ?_⟩
        · exact .cons ⟨lk, lt, nm, op, .mk ek en ed eu eks, wd, vl, an⟩ [] [] (.slice za zm zc) HZ.out .nil
        · rw [row_blk (heap_alloc_new w0 _)]; simpa using hj)
      clear E E2 hzm
      go_enter Tryd.func36, Tryd.ntmps36
      go_upto_region 1 with fail
      rw [HW0.out]
      go_wp2
      go_ret
      exact ⟨_, rfl, F.out, bto HB0.out (bplus (Below.refl _ _) _)⟩
    have hk4' : (k == 4) = false := by simpa using hk4
    have E2 := hide (E.out.trans (if_neg hk4))
    have SZL := hide (show ∀ m, (lvss (ks.take m)).length ≤ 1000000000 from fun m => by have := lvss_take ks m; have := lvss_len ks; omega)
    obtain ⟨i0, hi, hz0, hz1, hz2⟩ := info_parts infoL
    clear E hcnt
    go_enter Tryd.func36, Tryd.ntmps36
    go_upto_region 1 with fail
    rw [HW0.out]
    go_wp2_with fail
    go_loopw [3, 15] (fun l i wr => RelLv M w0 ks l i wr) (fun _ i _ => ks.length - (intOf i).toNat)
    case atStart => exact .mk 0 [] rfl (by omega) .nil (World.ownsRow_nil _ _ _ _) (Below.refl _ _)
    case round =>
      obtain ⟨m, xs, rfl, hm, LC, OB⟩ := hrel
      have OW := hide OB.out.1
      have BE := hide OB.out.2
      clear OB HW0 y0 y1 y2 y3 y4 y5 y6 y7 y8 y9 ya yb yc yd
      have BM := hide (bto HMW.out (bto HB0.out BE.out))
      by_cases hlt : m < ks.length
      · obtain ⟨x, hx⟩ : ∃ x, ks[m]? = some x := ⟨_, List.getElem?_eq_getElem hlt⟩
        obtain ⟨b, o, c', xu, xz, hv', hb, -, -, xo, t14, hzz, hku⟩ := HU.out.at hx
        obtain ⟨rfl, rfl⟩ : a = some ⟨b, o, none⟩ ∧ c = c' := by cases hv'; exact ⟨rfl, rfl⟩
        obtain ⟨ua, uc, rfl, hks9⟩ := hku.shape
        obtain ⟨va, vc, rfl, hzs9⟩ := hzz.shape
        have SZ : szC x ≤ N := by have := szCs_at hx; omega
        have CI := hide (fun (W : World) (h : Below M.heap.size M W) => IH.out x (.slice ua x.ks.length uc) (.slice va x.lf.e.ks.length vc) W (j - 1) SZ hku hzz (HK.out m x hx) h)
        have TK := hide (show lvss (ks.take (m + 1)) = lvss (ks.take m) ++ lvs x by rw [List.take_add_one, hx, lvss_app]; show _ ++ lvss [x] = _; rw [lvss_cons, lvss_nil, List.append_nil])
        have hlt' : (m : Int) < ks.length := by omega
        obtain ⟨c0, c1, c2, c3, c4, c5, c6, c7, c8, c9, ca, cb, cc, cd⟩ := t14.below BM.out hb
        have hbw : b < wr.heap.size := by have := BM.out.size; omega
        have nb : b ≠ wr.heap.size := by omega
        have S1 := SZL.out m
        have S2 := SZL.out (m + 1)
        rw [TK.out, List.length_append] at S2
        clear hx hv' t14 hzz hku SZ
        unfold cnV at CI
        clear IH
        generalize lvs x = lx at *
        generalize x.lf.e.ks.length = xem at *
        generalize x.ks.length = xm at *
        generalize x.k = xk at *
        generalize x.lf.k = xlk at *
        generalize x.lf.t = xlt at *
        generalize x.lf.nm = xnm at *
        generalize x.lf.op = xop at *
        generalize x.lf.e.k = xek at *
        generalize x.lf.e.n = xen at *
        generalize x.lf.e.d = xed at *
        generalize x.lf.e.u = xeu at *
        generalize x.lf.wd = xwd at *
        generalize x.lf.vl = xvl at *
        generalize x.lf.an = xan at *
        have OM := hide (fun (W : World) (h : Below wr.heap.size wr W) => own_low OW.out h)
        go_wp2_with (first
          | (go_at_call 36; refine (CI.out _ (bto BM.out (bplus (Below.refl _ _) _))).mono ?_; rintro e w5 ⟨v, rfl, ⟨lb, lc, lxs, rfl, hlb, hlc, hlc9, LX, hcell⟩, B5⟩; replace B5 := hide (bto (bplus (Below.refl wr.heap.size wr) _) B5); have O5 := hide (OM.out w5 B5.out); replace LX := hide LX; replace hcell := hide hcell)
          | (at_builtin; refine wpList_append_leaves rfl (.tmp 19) (.tmp 21) rfl _ _ xs rfl O5.out (by have := BE.out.size; have := B5.out.size; omega) lb lx.length lc lxs rfl LX.out.len hcell.out LX.out.one (by omega) ?_; intro v' w6 HO6 HB6; replace HO6 := hide HO6; replace HB6 := hide HB6))
        go_roundw
        case rel => exact .mk (m + 1) (xs ++ lxs) (by go_num) (by omega) (by rw [TK.out]; exact LC.out.app LX.out) (by rw [TK.out, List.length_append]; exact HO6.out) ((BE.out.trans (B5.out.mono BE.out.size)).trans HB6.out)
        case measure => simp [intOf]; omega
      · obtain rfl : m = ks.length := by omega
        have hlt' : ¬ ((ks.length : Nat) : Int) < ks.length := by omega
        have LC' := LC.out
        have OW' := OW.out
        rw [List.take_length] at LC' OW'
        rw [E2.out] at PO
        have hpos : 0 < (lvss ks).length := PO.out
        have h9 : (lvss ks).length ≤ 1000000000 := by have := SZL.out ks.length; rwa [List.take_length] at this
        obtain ⟨g, cap, cur, hv, hb, hg, hn, hm9, hs, ht⟩ := ownsRow_blk OW' hpos
        subst hv
        have F := hide (show LR M wr (.slice (some ⟨g, 0, none⟩) (lvss ks).length cap) (lvs (.mk k ⟨lk, lt, nm, op, .mk ek en ed eu eks, wd, vl, an⟩ ks)) from by
          rw [E2.out]
          refine ⟨g, cap, xs, rfl, (Array.getElem?_eq_some_iff.1 hg).1, hn, by unfold maxLen at hm9; exact hm9, LC', fun j u hj => ?_⟩
          rw [row_blk hg]
          have hj2 := (List.getElem?_eq_some_iff.1 hj).1
          rw [← ht, List.getElem?_take, if_pos (by rw [← ht, List.length_take] at hj2; omega)] at hj
          simpa using hj)
        clear LC' OW' LC OW PO hs ht hg hm9
        go_wp2
        go_ret
        exact ⟨_, rfl, F.out, bto HB0.out BE.out⟩
end Go.Proofs.YtpcdhdllclenaaaDoor.cd
