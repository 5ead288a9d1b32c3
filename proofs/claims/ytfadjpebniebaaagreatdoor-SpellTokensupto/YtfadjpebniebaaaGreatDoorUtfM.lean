/-
  The law: what goes on behind whole bytes.
-/
import Derived.Test.YtfadjpebniebaaaGreatDoorUtfK
import Derived.Laws.AppendOwnNone
set_option linter.unusedVariables false
set_option linter.unusedSimpArgs false
namespace Go.Proofs.YtfadjpebniebaaaGreatDoor
open Go.RowKit

/-- A slice without an address is nil. -/
def Nil0 (v : Value) : Prop := ∀ n c, v = .slice none n c → n = 0 ∧ c = 0
theorem Nil0.some (a : Addr) (n c : Nat) : Nil0 (.slice (some a) n c) := fun n c h => by simp at h
theorem Own.nil0 {W wr : World} {k : IntKind} {e : TypeId} {v : Value} {xs : List Int} (h : Own W k e wr v xs) : Nil0 v := by
  rcases h.1.2 with ⟨rfl, h0⟩ | ⟨g, cap, cur, rfl, _⟩
  · intro n c h; simp at h; omega
  · exact Nil0.some _ _ _
theorem Own.fresh (W : World) (k : IntKind) (e : TypeId) : Own W k e (W.alloc (.cells #[] e)) (.slice (some ⟨W.heap.size, 0, none⟩) 0 0) [] :=
  ⟨World.ownsRow_lit W #[] 0 (Nat.le_refl _) (by unfold maxLen; omega) rfl, (Below.refl _ _).alloc (Nat.le_refl _) _⟩
theorem Own.grow' {W wr w1 : World} {k : IntKind} {e : TypeId} {v v' : Value} {xs ys : List Int} (h : Own W k e wr v xs)
    (h1 : w1.ownsRow W.heap.size e 1 v' (xs.length + ys.length) (xs.map (Value.int k) ++ ys.map (Value.int k))) (hg : wr.grownBy w1 v.ownBlock) : Own W k e w1 v' (xs ++ ys) := by
  refine ⟨by rw [List.length_append, List.map_append]; exact h1, ?_⟩
  exact h.2.grown hg h.2.size (fun k hk => (h.1.lt k hk).1)
theorem wpList_append_nums {W wr : World} {ops : Array Oper} {rest : List Oper} {o : Oper} {a : Act} {Q : Exit → Act → World → Prop} (hgd : o.guard = none) (s x : Operand) (t : TypeId)
    (ho : o.op = .call { callee := .builtin .append, args := #[s, x], argTypes := #[t, t] })
    (k : IntKind) (e : TypeId) (i : TypeInfo) (bytes : Nat) (ht : Tryz.prog.underlying t = some (.slice e)) (hi : Tryz.prog.info? e = some i) (hz : i.zero = some (.int k 0)) (hsize : i.size = 1) (hby : i.bytes = bytes)
    (v : Value) (xs : List Int) (hs : a.eval s = v) (hown : Own W k e wr v xs) (u : Value) (ys : List Int) (hx : a.eval x = u) (hN : Nums k wr u ys) (hnil : Nil0 u)
    (h63 : xs.length + ys.length ≤ 9223372036854775807) (hb : (xs.length + ys.length) * bytes ≤ 140737488355328)
    (h : ∀ v' w', Own W k e w' v' (xs ++ ys) → wpList Tryz.prog ops Q rest (a.put o.dst v') w') : wpList Tryz.prog ops Q (o :: rest) a wr := by
  rcases hN with ⟨ao, c, rfl, rfl⟩ | ⟨b, of, n, c, rfl, hn, h0, hbw, hl, hn9, hc9, hc⟩
  · cases ao with
    | none =>
      obtain ⟨_, rfl⟩ := hnil _ _ rfl
      exact wpList_append_own_none hgd s x t ho W.heap.size e i 1 ht hi v xs.length (xs.map (Value.int k)) hs hown.1 hx (h v wr (by simpa using hown))
    | some ad =>
      refine wpList_append_own wr hgd s x t ho W.heap.size e i (.int k 0) 1 bytes ht hi hz hsize hby rfl (by decide) v xs.length (xs.map (Value.int k)) hs hown.1 ad 0 c [] hx rfl (by intro j u h; simp at h) (by intro u h; simp at h) (by unfold maxLen; simp at h63; omega) (by simpa using hb) hown.2.size ?_
      intro v' w' h1 h2 _
      exact h v' w' (hown.grow' (ys := []) h1 h2)
  · subst hn
    refine wpList_append_own wr hgd s x t ho W.heap.size e i (.int k 0) 1 bytes ht hi hz hsize hby rfl (by decide) v xs.length (xs.map (Value.int k)) hs hown.1 ⟨b, of, none⟩ ys.length c (ys.map (Value.int k)) hx (by simp) (fun j u hu => ?_) (ints_oneCell k ys) (by unfold maxLen; exact h63) hb hown.2.size ?_
    · have hj : j < ys.length := by have := (List.getElem?_eq_some_iff.1 hu).1; simpa using this
      rw [Addr.add_lit, hc j hj]
      rw [← hu]
      simp [gt, List.getD_eq_getElem?_getD, List.getElem?_eq_getElem hj]
    · intro v' w' h1 h2 _
      exact h v' w' (hown.grow' (ys := ys) h1 h2)
set_option maxRecDepth 100000 in
set_option maxHeartbeats 1000000 in
theorem rawPN_any (bs : List Int) (v : Value) (w : World) (hb : By bs) (hv : Nums .u8 w v bs) (hl9 : bs.length ≤ 1099511627776) :
    Calls Tryz.prog 63 #[v] w fun e w' => ∃ u, e = .returned u ∧ Nums .i32 w' u (raw bs) ∧ Below w.heap.size w w' ∧ Nil0 u := by
  obtain ⟨i0, hi, hz0, hz1, hz2⟩ := info_parts info32
  rcases hv with ⟨a, c, rfl, rfl⟩ | ⟨b, o, n, c, rfl, hn, h0, hbw, hl, hn9, hc9, hc⟩
  · go_enter Tryz.func63, Tryz.ntmps63
    go_wp2_with (at_make; refine wpList_make_own _ rfl _ _ 43 rfl w.heap.size 21 i0 (.int .i32 0) 1 Tryz.underlying43 hi hz0 hz1 _ _ _ 0 rfl rfl (by omega) (by omega) (by unfold maxLen; omega) (Nat.le_refl _) ?_; intro w1 hown hgrow)
    refine wp_loop_rounds 1 ?_
    rw [rounds_succ]
    go_wp2
    go_ret
    exact ⟨_, rfl, by rw [raw_nil]; exact .inl ⟨_, _, rfl, rfl⟩, (Own.made (k := .i32) hown hgrow).2, Nil0.some _ _ _⟩
  · have HN : Hid (n = bs.length) := hn
    have HC := hide hc
    have hnb : n ≤ 1099511627776 := by omega
    clear hc hn hl9
    go_enter Tryz.func63, Tryz.ntmps63
    go_wp2_with (at_make; refine wpList_make_own _ rfl _ _ 43 rfl w.heap.size 21 i0 (.int .i32 0) 1 Tryz.underlying43 hi hz0 hz1 _ _ _ n rfl rfl (by omega) (by rw [hz2]; omega) (by unfold maxLen; omega) (Nat.le_refl _) ?_; intro w1 hown hgrow)
    have HO := hide (Own.made (k := .i32) hown hgrow)
    clear hown hgrow
    go_loopw [3, 4] (fun l a wr => RelRaw w n bs l a wr) (fun _ a _ => n - (intOf a).toNat)
    case atStart => exact .mk 0 [] (by omega) rfl (by simp) HO.out rfl
    case round =>
      clear HO
      obtain ⟨i, xs, hin, rfl, hxs, HO, R⟩ := hrel
      replace HO := hide HO
      by_cases hlt : i < n
      · obtain ⟨s1, s2, s3⟩ := stp_drop (bs := bs) (i := i) (by rw [← HN.out]; exact hlt)
        rw [← HN.out] at s3
        have R' : Hid _ := raw_go R.out (by rw [← HN.out]; exact hlt)
        have hci : ¬ c = i := by omega
        have F2 := front_any (bs.drop i) (n - i) b (o + i) (c - i) wr (by rw [List.length_drop, ← HN.out]) (hb.drop i) (by omega) (by omega) (by omega)
          (fun j hj => by rw [gt_drop, Nat.add_assoc]; exact (HO.out.2.cell (p := ⟨b, o + (i + j), none⟩) hbw).trans (HC.out (i + j) (by omega)))
        have FH := hide F2
        clear F2
        generalize hr : stp (bs.drop i) = r at *
        obtain ⟨x, g, t⟩ := r
        replace FH := FH.out; dsimp only at s1 s2 s3 R'
        clear hr
        go_wp2_with (first
          | (go_at_call 97; refine FH.mono ?_; rintro e w' ⟨rfl, rfl⟩; clear FH)
          | (at_builtin; refine wpList_append_own _ rfl _ _ 43 rfl w.heap.size 21 i0 (.int .i32 0) 1 4 Tryz.underlying43 hi hz0 hz1 hz2 rfl (by decide) _ _ _ rfl (HO.out.1.alloc _) ⟨_, 0, none⟩ 1 1 [.int .i32 x] rfl rfl (news1 _ _ _) (by intro u hu; simp at hu; subst hu; rfl) (by unfold maxLen; omega) (by omega) (by have := HO.out.2.size; simp; omega) ?_; intro v' w1 hown' hgrow _; replace HO := hide (HO.out.grow (ys := [x]) hown' hgrow); clear hown' hgrow))
        go_roundw
        case rel => exact .mk (i + g) (xs ++ [x]) (by omega) (by go_num) (by simp; omega) HO.out R'.out
        case measure => simp [intOf]; omega
      · have R' : Hid _ := raw_end R.out (by rw [← HN.out]; omega)
        have N := hide (HO.out.nums (by omega))
        go_wp2
        go_ret
        exact ⟨_, rfl, by rw [R'.out]; exact N.out, HO.out.2, HO.out.nil0⟩
end Go.Proofs.YtfadjpebniebaaaGreatDoor
