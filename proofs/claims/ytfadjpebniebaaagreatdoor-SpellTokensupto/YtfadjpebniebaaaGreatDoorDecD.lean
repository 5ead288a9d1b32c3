/-
  A fraction put together; what stands behind an e, by the program.
-/
import Derived.Test.YtfadjpebniebaaaGreatDoorDecC
set_option linter.unusedVariables false
set_option linter.unusedSimpArgs false
namespace Go.Proofs.YtfadjpebniebaaaGreatDoor
open Go.RowKit

/-- A fraction as a value. -/
def ratV (n d : Int) : Value := .agg #[.int .i64 n, .int .i64 d]
theorem made_any (b : Bool) (n d : Nat) (w : World) (hn : n ≤ 9223372036854775807) (hd : d ≤ 9223372036854775807) :
    Calls Tryz.prog 194 #[.bool b, .int .u64 n, .int .u64 d] w fun e w' => e = .returned (ratV (if b then -(n : Int) else n) d) ∧ Below w.heap.size w w' := by
  have hn' : ¬ 9223372036854775807 < (n : Int) := by omega
  have hd' : ¬ 9223372036854775807 < (d : Int) := by omega
  cases b
  · go_enter Tryz.func194, Tryz.ntmps194
    go_wp2
    refine bodyPost_ret (v := .agg #[.int .i64 n, .int .i64 d]) (by simp [results, Tryz.results194, go_sem]) rfl ⟨rfl, ?_⟩
    exact bplus (Below.refl _ _) _
  · go_enter Tryz.func194, Tryz.ntmps194
    go_wp2
    refine bodyPost_ret (v := .agg #[.int .i64 (-(n : Int)), .int .i64 d]) (by simp [results, Tryz.results194, go_sem]) rfl ⟨rfl, ?_⟩
    exact bplus (Below.refl _ _) _
theorem natOf_snoc (l : List Int) (c : Int) : natOf (l ++ [c]) = natOf l * 10 + (c - 48).toNat := by simp [natOf, List.foldl_append]
theorem natOf_app (l : List Int) (r : List Int) : natOf l ≤ natOf (l ++ r) := by
  induction r generalizing l with
  | nil => simp
  | cons c r ih =>
    have := ih (l ++ [c])
    rw [natOf_snoc] at this
    simp only [List.append_assoc, List.singleton_append] at this
    omega
theorem natOf_take (l : List Int) (k : Nat) : natOf (l.take k) ≤ natOf l := by
  have := natOf_app (l.take k) (l.drop k)
  rwa [List.take_append_drop] at this
/-- All of these are digits. -/
def Digs (l : List Int) : Prop := ∀ x ∈ l, isDig x = true
theorem tkd_digs (l : List Int) : Digs (tkd l) := fun x hx => by
  have h := List.all_takeWhile (p := isDig) (l := l)
  exact List.all_eq_true.1 h x hx
theorem Digs.nx {l : List Int} (h : Digs l) {k : Nat} (hk : k < l.length) : isDig (nx l k) = true := by
  simp only [Proofs.YtfadjpebniebaaaGreatDoor.nx, List.getD_eq_getElem?_getD, List.getElem?_eq_getElem hk]
  exact h _ (List.getElem_mem hk)
theorem natOf_step {l : List Int} {k : Nat} (h : Digs l) (hk : k < l.length) : natOf (l.take (k + 1)) = natOf (l.take k) * 10 + (nx l k - 48).toNat ∧ 48 ≤ nx l k ∧ nx l k ≤ 57 := by
  have hd := h.nx hk
  rw [nx_take (isDig_ne1 hd), natOf_snoc]
  simp [isDig] at hd
  exact ⟨rfl, hd.1, hd.2⟩
/-- As great as it is, or both very great, or both very small. -/
def Near (e E : Int) : Prop := e = E ∨ (1099511627776 ≤ e ∧ e ≤ 18014398509481984 ∧ 1099511627776 ≤ E) ∨ (e ≤ -1099511627776 ∧ -18014398509481984 ≤ e ∧ E ≤ -1099511627776)
theorem Near.neg {e E : Int} (h : Near e E) : Near (-e) (-E) := by unfold Near at *; omega
theorem Near.bd {e E : Int} (h : Near e E) (hE : -1099511627776 ≤ E ∧ E ≤ 1099511627776 ∨ True) : e = E ∨ (-18014398509481984 ≤ e ∧ e ≤ 18014398509481984) := by unfold Near at h; omega
/-- The state of the loop over an exponent's digits. -/
def RelEx (ds : List Int) (e i : Value) : Prop := ∃ k m : Nat, k ≤ ds.length ∧ i = .int .i64 k ∧ e = .int .i64 m ∧ m ≤ 11258999068426249 ∧ Hid (m = natOf (ds.take k))
theorem RelEx.mk {ds : List Int} {e i : Value} (k m : Nat) (h1 : k ≤ ds.length) (h2 : i = .int .i64 k) (h3 : e = .int .i64 m) (h4 : m ≤ 11258999068426249) (h5 : m = natOf (ds.take k)) : RelEx ds e i := ⟨k, m, h1, h2, h3, h4, h5⟩
/-- What is told of an exponent. -/
def ExR (s : List Int) (e : Int) (ok : Bool) : Prop := match expo s with | none => e = 0 ∧ ok = false | some E => ok = true ∧ Near e E ∧ -18014398509481984 ≤ e ∧ e ≤ 18014398509481984
theorem expo_no {s : List Int} (h1 : nx s 0 ≠ 101) (h2 : nx s 0 ≠ 69) : expo s = none := by unfold expo; rw [if_pos ⟨h1, h2⟩]
theorem expo_no2 {s : List Int} (h1 : nx s 0 = 101 ∨ nx s 0 = 69) (h2 : tkd (sgn (s.drop 1)).2 = [] ∨ dgs (sgn (s.drop 1)).2 ≠ []) : expo s = none := by
  unfold expo; rw [if_neg (by omega), if_pos h2]
theorem expo_yes {s : List Int} (h1 : nx s 0 = 101 ∨ nx s 0 = 69) (h2 : tkd (sgn (s.drop 1)).2 ≠ []) (h3 : dgs (sgn (s.drop 1)).2 = []) :
    expo s = some (if (sgn (s.drop 1)).1 then -(natOf (tkd (sgn (s.drop 1)).2) : Int) else natOf (tkd (sgn (s.drop 1)).2)) := by
  unfold expo; rw [if_neg (by omega), if_neg (by rintro (h | h); exact h2 h; exact h h3)]
theorem sgn_len (s : List Int) : (sgn s).2.length ≤ s.length := by unfold sgn; split <;> simp
theorem tkd_len (s : List Int) : (tkd s).length ≤ s.length := (List.takeWhile_sublist _).length_le
theorem ext_size (s : ByteArray) (a : Nat) : (s.extract a s.size).size = s.size - a := by rw [← bl_len, bl_drop, List.length_drop, bl_len]
theorem near_of {m N : Nat} (h : m = N ∨ (1125899906842624 ≤ m ∧ m ≤ N)) (hm : m ≤ 11258999068426249) : Near (m : Int) (N : Int) ∧ -18014398509481984 ≤ (m : Int) ∧ (m : Int) ≤ 18014398509481984 := by
  unfold Near; omega
theorem exR_yes {s : List Int} {m : Nat} (h1 : nx s 0 = 101 ∨ nx s 0 = 69) (h2 : tkd (sgn (s.drop 1)).2 ≠ []) (h3 : dgs (sgn (s.drop 1)).2 = [])
    (h : m = natOf (tkd (sgn (s.drop 1)).2) ∨ (1125899906842624 ≤ m ∧ m ≤ natOf (tkd (sgn (s.drop 1)).2))) (hm : m ≤ 11258999068426249) :
    ((sgn (s.drop 1)).1 = true → ExR s (-(m : Int)) true) ∧ ((sgn (s.drop 1)).1 = false → ExR s (m : Int) true) := by
  obtain ⟨a, b, c⟩ := near_of h hm
  refine ⟨fun hb => ?_, fun hb => ?_⟩
  · unfold ExR; rw [expo_yes h1 h2 h3, hb]
    exact ⟨rfl, a.neg, by omega, by omega⟩
  · unfold ExR; rw [expo_yes h1 h2 h3, hb]
    exact ⟨rfl, a, by omega, by omega⟩
def PostEx (s : ByteArray) (w : World) (e : Ending) (w' : World) : Prop := ∃ (x : Int) (ok : Bool), e = .returned (.tuple #[.int .i64 x, .bool ok]) ∧ ExR (bl s) x ok ∧ ∃ q, w' = w.drewN q
theorem PostEx.mk {s : ByteArray} {w w' : World} {e : Ending} (x : Int) (ok : Bool) (h1 : e = .returned (.tuple #[.int .i64 x, .bool ok])) (h2 : ExR (bl s) x ok) (q : Nat) (h3 : w' = w.drewN q) : PostEx s w e w' := ⟨x, ok, h1, h2, q, h3⟩
set_option maxRecDepth 100000 in
set_option maxHeartbeats 2000000 in
theorem readEx_any (s : ByteArray) (w : World) (hs : s.size ≤ 1099511627776) (h0 : 0 < s.size) :
    Calls Tryz.prog 190 #[.string s] w fun e w' => PostEx s w e w' := by
  have cx := bl_nx s 0 h0
  have h1 : 1 ≤ s.size := h0
  by_cases he : nx (bl s) 0 = 101 ∨ nx (bl s) 0 = 69
  · have HE := hide he
    have C1 := hide (cutSign_any (s.extract 1 s.size) w (by rw [ext_size]; omega))
    have E1 := hide (bl_drop s 1)
    have L1 := hide (show (sgn ((bl s).drop 1)).2.length ≤ 140737488355328 by
      have h1 := sgn_len ((bl s).drop 1)
      rw [List.length_drop, bl_len] at h1; omega)
    have L2 := hide (show (tkd (sgn ((bl s).drop 1)).2).length ≤ 1099511627776 by
      have h1 := sgn_len ((bl s).drop 1)
      have h2 := tkd_len (sgn ((bl s).drop 1)).2
      rw [List.length_drop, bl_len] at h1; omega)
    by_cases g1 : tkd (sgn ((bl s).drop 1)).2 = []
    · have G := hide g1
      have X := hide (expo_no2 he (.inl g1))
      clear g1
      rw [cx] at he
      clear cx
      rcases he with he | he
      all_goals
        go_enter Tryz.func190, Tryz.ntmps190
        go_wp2_with (first
          | (go_at_call 188; refine C1.out.mono ?_; rintro e w1 ⟨b, rfl, hb, q1, rfl⟩; rw [E1.out] at hb ⊢; replace hb := hide hb; have hbs := hide (show b.size ≤ 140737488355328 by rw [← bl_len, hb.out]; exact L1.out))
          | (go_at_call 189; refine (cutDigits_any b _ hbs.out).mono ?_; rintro e w2 ⟨d, r, rfl, hd, hr, q2, rfl⟩; rw [hb.out] at hd hr; have n1 := emp_t (bl_size0.1 (hd.trans G.out)); replace hd := hide hd; replace hr := hide hr))
        go_ret2
        exact .mk _ _ rfl (by unfold ExR; rw [X.out]; exact ⟨rfl, rfl⟩) _ rfl
    · by_cases g2 : dgs (sgn ((bl s).drop 1)).2 = []
      · have G1 := hide g1
        have G2 := hide g2
        clear g1 g2
        rw [cx] at he
        clear cx
        have Y := hide fun m h hm => exR_yes (s := bl s) (m := m) HE.out G1.out G2.out h hm
        have DG := hide (tkd_digs (sgn ((bl s).drop 1)).2)
        obtain ⟨sg, hsg⟩ : ∃ sg, (sgn ((bl s).drop 1)).1 = sg := ⟨_, rfl⟩
        rw [hsg] at Y
        have HSG := hide hsg
        clear hsg
        obtain ⟨ds, hds⟩ : ∃ ds, tkd (sgn ((bl s).drop 1)).2 = ds := ⟨_, rfl⟩
        rw [hds] at G1 Y DG L2
        have HDS := hide hds
        clear hds
        rcases he with he | he
        all_goals
          go_enter Tryz.func190, Tryz.ntmps190
          go_wp2_with (first
            | (go_at_call 188; refine C1.out.mono ?_; rintro e w1 ⟨b, rfl, hb, q1, rfl⟩; rw [E1.out] at hb ⊢; rw [HSG.out]; replace hb := hide hb; have hbs := hide (show b.size ≤ 140737488355328 by rw [← bl_len, hb.out]; exact L1.out))
            | (go_at_call 189; refine (cutDigits_any b _ hbs.out).mono ?_; rintro e w2 ⟨d, r, rfl, hd, hr, q2, rfl⟩; rw [hb.out] at hd hr; rw [HDS.out] at hd; have n1 := emp_f (Nat.pos_of_ne_zero fun h => G1.out (hd.symm.trans (bl_size0.2 h))); have n2 := emp_t (bl_size0.1 (hr.trans G2.out)); replace hd := hide hd; replace hr := hide hr))
          go_loop [6, 7] (fun e i => RelEx ds e i) (fun _ i => ds.length - (intOf i).toNat)
          case atStart => exact .mk 0 0 (by omega) rfl rfl (by omega) (by simp [natOf])
          case round =>
            obtain ⟨k, m, hk, rfl, rfl, hm, R⟩ := hrel
            have hdl : d.size = ds.length := by rw [← bl_len, hd.out]
            have hk9 : k ≤ 1099511627776 := Nat.le_trans hk L2.out
            have HK := hide hk
            clear hk
            by_cases hlt : k < ds.length
            · have hkd : k < d.size := by omega
              have HL := hide hlt
              have HD := hide hdl
              clear hdl hlt
              by_cases hm2 : m < 1125899906842624
              · obtain ⟨s1, s2, s3⟩ := natOf_step DG.out HL.out
                have cy := bl_nx d k hkd
                rw [hd.out] at cy
                rw [cy] at s1 s2 s3
                have S := hide s1
                clear s1 cy
                have hm3 : (m : Int) < 1125899906842624 := by omega
                have hkd2 : (k : Int) < d.size := by omega
                go_wp2
                go_round
                case rel => exact .mk (k + 1) (m * 10 + ((d[k].toNat : Int) - 48).toNat) HL.out (by go_num) (by congr 1; omega) (by omega) (by rw [S.out, ← R.out])
                case measure => have := HL.out; simp [intOf]; omega
              · have F := hide (Y.out m (.inr ⟨by omega, by rw [R.out]; exact natOf_take ds k⟩) hm)
                have hm3 : (1125899906842624 : Int) ≤ m := by omega
                have hm4 : (m : Int) ≤ 11258999068426249 := by omega
                have hkd2 : (k : Int) < d.size := by omega
                clear hm2 hm R
                generalize (m : Int) = x at *
                cases sg
                · replace F := hide (F.out.2 rfl)
                  go_wp2
                  go_ret2
                  exact .mk _ _ rfl F.out _ rfl
                · replace F := hide (F.out.1 rfl)
                  go_wp2
                  go_ret2
                  exact .mk _ _ rfl F.out _ rfl
            · have F := hide (Y.out m (.inl (by rw [R.out, List.take_of_length_le (by omega)])) hm)
              have hkd2 : ¬ (k : Int) < d.size := by omega
              clear hdl hlt
              cases sg
              · replace F := hide (F.out.2 rfl)
                go_wp2
                go_ret2
                exact .mk _ _ rfl F.out _ rfl
              · replace F := hide (F.out.1 rfl)
                go_wp2
                go_ret2
                exact .mk _ _ rfl F.out _ rfl
      · have G := hide g2
        have X := hide (expo_no2 he (.inr g2))
        have G1 := hide g1
        clear g1 g2
        rw [cx] at he
        clear cx
        rcases he with he | he
        all_goals
          go_enter Tryz.func190, Tryz.ntmps190
          go_wp2_with (first
            | (go_at_call 188; refine C1.out.mono ?_; rintro e w1 ⟨b, rfl, hb, q1, rfl⟩; rw [E1.out] at hb ⊢; replace hb := hide hb; have hbs := hide (show b.size ≤ 140737488355328 by rw [← bl_len, hb.out]; exact L1.out))
            | (go_at_call 189; refine (cutDigits_any b _ hbs.out).mono ?_; rintro e w2 ⟨d, r, rfl, hd, hr, q2, rfl⟩; rw [hb.out] at hd hr; have n1 := emp_f (Nat.pos_of_ne_zero fun h => G1.out (hd.symm.trans (bl_size0.2 h))); have n2 := emp_f (Nat.pos_of_ne_zero fun h => G.out (hr.symm.trans (bl_size0.2 h))); replace hd := hide hd; replace hr := hide hr))
          go_ret2
          exact .mk _ _ rfl (by unfold ExR; rw [X.out]; exact ⟨rfl, rfl⟩) _ rfl
  · have HE := hide (expo_no (fun h => he (.inl h)) (fun h => he (.inr h)))
    rw [cx] at he
    have e1 : ((s[0].toNat : Int) == 101) = false := by simp; omega
    have e2 : ((s[0].toNat : Int) == 69) = false := by simp; omega
    have e3 : ((s[0].toNat : Int) != 101) = true := by simp; omega
    have e4 : ((s[0].toNat : Int) != 69) = true := by simp; omega
    clear he cx
    go_enter Tryz.func190, Tryz.ntmps190
    go_wp2
    go_ret2
    exact .mk _ _ rfl (by unfold ExR; rw [HE.out]; exact ⟨rfl, rfl⟩) 0 rfl
end Go.Proofs.YtfadjpebniebaaaGreatDoor
