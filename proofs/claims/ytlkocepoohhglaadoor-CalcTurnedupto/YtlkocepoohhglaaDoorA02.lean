/-
  Contracts: what stands at the front of some bytes, by the program and by the reference; whole bytes.
  Contracts: what stands at the front of some bytes, by the program and by the reference.
  The reference's reading of one character; whole bytes, by the program and by the reference.
  Whole bytes, by the program and by the reference.
-/
import Derived.Test.YtlkocepoohhglaaDoorA01
import Derived.WalkKit
import Derived.WalkSpells
import Derived.WalkLawsBesides
import Derived.Deep.QuietTactic
import Derived.BigQuiet
import Derived.Deep.LoopGhost
set_option linter.unusedVariables false
namespace Go.Proofs.YtlkocepoohhglaaDoor
open Go.RowKit

def gt (bs : List Int) (i : Nat) : Int := bs.getD i 0
theorem gt_eq {bs : List Int} {i : Nat} (h : i < bs.length) : gt bs i = bs[i] := by simp [gt, List.getD_eq_getElem?_getD, List.getElem?_eq_getElem h]
theorem drop_gt {bs : List Int} {i : Nat} (h : i < bs.length) : bs.drop i = gt bs i :: bs.drop (i + 1) := by rw [gt_eq h]; exact List.drop_eq_getElem_cons h
theorem By.gt {bs : List Int} (h : By bs) {i : Nat} (hi : i < bs.length) : 0 ≤ gt bs i ∧ gt bs i ≤ 255 := h.at hi
theorem stp_gt {bs : List Int} (h : 0 < bs.length) : stp bs = if szOf (gt bs 0) = 0 then (65533, 1, false) else fol (szOf (gt bs 0) - 1) (ldOf (gt bs 0)) (loOf (gt bs 0)) (hiOf (gt bs 0)) 1 (bs.drop 1) := by
  cases bs with
  | nil => simp at h
  | cons a r => rfl
def bd (k : Nat) : Int := 128 * 64 ^ k
theorem bd_succ (k : Nat) : bd (k + 1) = 64 * bd k := by unfold bd; rw [Int.pow_succ]; omega
theorem bd_le {k : Nat} (h : k ≤ 2) : bd k ≤ 524288 := by
  obtain rfl | rfl | rfl : k = 0 ∨ k = 1 ∨ k = 2 := by omega
  all_goals decide

theorem tup3 {a a' : Int} {b b' : Int} {c c' : Bool} (h1 : a = a') (h2 : b = b') (h3 : c = c') : Ending.returned (.tuple #[.int .i32 a, .int .i64 b, .bool c]) = .returned (.tuple #[.int .i32 a', .int .i64 b', .bool c']) := by rw [h1, h2, h3]
theorem tup3' {a a' : Int} {b b' : Int} {c c' : Int} (h1 : a = a') (h2 : b = b') (h3 : c = c') : Ending.returned (.tuple #[.int .i64 a, .int .u8 b, .int .u8 c]) = .returned (.tuple #[.int .i64 a', .int .u8 b', .int .u8 c']) := by rw [h1, h2, h3]
theorem ret_int {k : IntKind} {a b : Int} (h : a = b) : Ending.returned (.int k a) = .returned (.int k b) := by rw [h]

theorem firsts (a : Int) (h0 : 0 ≤ a) (h1 : a ≤ 255) : (a ≤ 127) ∨ (128 ≤ a ∧ a ≤ 193) ∨ (194 ≤ a ∧ a ≤ 223) ∨ a = 224 ∨ (225 ≤ a ∧ a ≤ 236) ∨ a = 237 ∨ (238 ≤ a ∧ a ≤ 239) ∨ a = 240 ∨ (241 ≤ a ∧ a ≤ 243) ∨ a = 244 ∨ (245 ≤ a ∧ a ≤ 255) := by omega
/-- The reference's: how many MORE come. -/
def ndOf (a : Int) : Nat := szOf a - 1
set_option maxHeartbeats 1000000 in
theorem need_any (a : Int) (w : World) (h0 : 128 ≤ a) (h1 : a ≤ 255) :
    Calls Tryd.prog 81 #[.int .u8 a] w fun e w' => e = .returned (.tuple #[.int .i64 (ndOf a), .int .u8 (loOf a), .int .u8 (hiOf a)]) ∧ w' = w := by
  rcases firsts a (by omega) h1 with h | ⟨h, g⟩ | ⟨h, g⟩ | rfl | ⟨h, g⟩ | rfl | ⟨h, g⟩ | rfl | ⟨h, g⟩ | rfl | ⟨h, g⟩
  · omega
  all_goals
    go_enter Tryd.func81, Tryd.ntmps81
    go_wp2
    go_ret3
    refine ⟨tup3' ?_ ?_ ?_, rfl⟩
    · unfold ndOf szOf; repeat (first | rfl | rw [if_pos (by omega)] | rw [if_neg (by omega)])
    · unfold loOf; repeat (first | rfl | rw [if_pos (by omega)] | rw [if_neg (by omega)])
    · unfold hiOf; repeat (first | rfl | rw [if_pos (by omega)] | rw [if_neg (by omega)])
theorem sz_cases (a : Int) (h0 : 0 ≤ a) (h1 : a ≤ 255) : (a ≤ 127 ∧ szOf a = 1 ∧ ldOf a = a) ∨ (194 ≤ a ∧ a ≤ 223 ∧ szOf a = 2 ∧ ldOf a = a % 32) ∨ (224 ≤ a ∧ a ≤ 239 ∧ szOf a = 3 ∧ ldOf a = a % 16) ∨ (240 ≤ a ∧ a ≤ 244 ∧ szOf a = 4 ∧ ldOf a = a % 8) ∨ (128 ≤ a ∧ szOf a = 0) := by
  unfold szOf ldOf
  rcases firsts a h0 h1 with h | ⟨h, g⟩ | ⟨h, g⟩ | rfl | ⟨h, g⟩ | rfl | ⟨h, g⟩ | rfl | ⟨h, g⟩ | rfl | ⟨h, g⟩
  all_goals (try simp)
  all_goals (repeat (first | rw [if_pos (by omega)] | rw [if_neg (by omega)]))
  all_goals omega
end Go.Proofs.YtlkocepoohhglaaDoor
set_option linter.unusedVariables false
set_option linter.unusedSimpArgs false
namespace Go.Proofs.YtlkocepoohhglaaDoor
open Go.RowKit

theorem lo_bd (a : Int) : 0 ≤ loOf a ∧ loOf a ≤ 255 ∧ 0 ≤ hiOf a ∧ hiOf a ≤ 255 := by
  unfold loOf hiOf
  refine ⟨?_, ?_, ?_, ?_⟩ <;> (repeat' split) <;> omega
theorem ld_bd (a : Int) (h0 : 0 ≤ a) (hz : szOf a ≠ 0) : 0 ≤ ldOf a ∧ ldOf a < 128 := by
  unfold ldOf
  (repeat' split) <;> omega
/-- One follower more. -/
theorem fol_in {s k : Nat} {C L H : Int} {bs : List Int} {r : Int × Nat × Bool} (h : r = fol (s - 1 - k) C L H (k + 1) (bs.drop (k + 1))) (hk : k + 1 < s) (hn : k + 1 < bs.length) (h1 : L ≤ gt bs (k + 1)) (h2 : gt bs (k + 1) ≤ H) :
    r = fol (s - 1 - (k + 1)) (C * 64 + gt bs (k + 1) % 64) 128 191 (k + 1 + 1) (bs.drop (k + 1 + 1)) := by
  rw [h, drop_gt hn, show s - 1 - k = (s - 1 - (k + 1)) + 1 by omega]
  simp only [fol]
  rw [if_neg (by omega)]
theorem fol_out {s k : Nat} {C L H : Int} {bs : List Int} {r : Int × Nat × Bool} (h : r = fol (s - 1 - k) C L H (k + 1) (bs.drop (k + 1))) (hk : k + 1 < s) (hn : k + 1 < bs.length) (h1 : gt bs (k + 1) < L ∨ H < gt bs (k + 1)) :
    r = (65533, k + 1, false) := by
  rw [h, drop_gt hn, show s - 1 - k = (s - 1 - (k + 1)) + 1 by omega]
  simp only [fol]
  rw [if_pos h1]
theorem fol_end {s k : Nat} {C L H : Int} {bs : List Int} {r : Int × Nat × Bool} (h : r = fol (s - 1 - k) C L H (k + 1) (bs.drop (k + 1))) (hk : k + 1 < s) (hn : bs.length ≤ k + 1) :
    r = (65533, k + 1, false) := by
  rw [h, List.drop_of_length_le hn, show s - 1 - k = (s - 1 - (k + 1)) + 1 by omega]
  simp only [fol]
theorem fol_all {s k : Nat} {C L H : Int} {bs : List Int} {r : Int × Nat × Bool} (h : r = fol (s - 1 - k) C L H (k + 1) (bs.drop (k + 1))) (hk : s = k + 1) :
    r = (C, s, true) := by
  rw [h, show s - 1 - k = 0 by omega, hk]
  simp only [fol]
theorem wrap64' (c : Int) (h0 : 0 ≤ c) (h1 : c < 524288) : IntKind.i32.wrap (c * 64) = c * 64 := wrap_i32_small _ (by omega) (by omega)

end Go.Proofs.YtlkocepoohhglaaDoor
set_option linter.unusedVariables false
set_option linter.unusedSimpArgs false
namespace Go.Proofs.YtlkocepoohhglaaDoor
open Go.RowKit

theorem gt_drop (bs : List Int) (i j : Nat) : gt (bs.drop i) j = gt bs (i + j) := by simp [gt, List.getD_eq_getElem?_getD]
/-- The state of the reference's loop over followers. -/
def RelOne (m i n : Nat) (D : List Int) (lo hi cc i' : Value) : Prop := ∃ (k : Nat) (C L H : Int), k ≤ m ∧ i + k + 1 ≤ n ∧ i' = .int .i64 (k + 1) ∧ cc = .int .i32 C ∧ lo = .int .u8 L ∧ hi = .int .u8 H ∧ 0 ≤ C ∧ Hid (C < bd k) ∧ Hid (stp D = fol (m + 1 - 1 - k) C L H (k + 1) (D.drop (k + 1)))
theorem RelOne.mk {m i n : Nat} {D : List Int} (k : Nat) (C L H : Int) {lo hi cc i' : Value} (h1 : k ≤ m) (h2 : i + k + 1 ≤ n) (h3 : i' = .int .i64 (k + 1)) (h4 : cc = .int .i32 C) (h5 : lo = .int .u8 L) (h6 : hi = .int .u8 H) (h7 : 0 ≤ C) (h8 : C < bd k) (h9 : stp D = fol (m + 1 - 1 - k) C L H (k + 1) (D.drop (k + 1))) : RelOne m i n D lo hi cc i' :=
  ⟨k, C, L, H, h1, h2, h3, h4, h5, h6, h7, h8, h9⟩
set_option maxHeartbeats 1000000 in
theorem one_any (bs : List Int) (n b o c i : Nat) (w : World) (hn : n = bs.length) (hb : By bs) (hl : n ≤ c) (hn9 : n ≤ 4611686018427387904) (hc9 : c ≤ 9223372036854775807) (h0 : i < n) (hc : ∀ i, i < n → w.cell? ⟨b, o + i, none⟩ = some (.int .u8 (gt bs i))) :
    Calls Tryd.prog 72 #[.slice (some ⟨b, o, none⟩) n c, .int .i64 i] w fun e w' => e = .returned (.tuple #[.int .i32 (stp (bs.drop i)).1, .int .i64 (stp (bs.drop i)).2.1, .bool (stp (bs.drop i)).2.2]) ∧ w' = w := by
  have c0 : w.cell? ⟨b, o + i, none⟩ = some (.int .u8 (gt bs i)) := hc i h0
  obtain ⟨a0, a1⟩ := hb.gt (i := i) (by omega)
  obtain ⟨D, hD⟩ : ∃ D, D = bs.drop i := ⟨_, rfl⟩
  have hDl : D.length = n - i := by rw [hD, List.length_drop, hn]
  have hc2 : ∀ j, i + j < n → w.cell? ⟨b, o + (i + j), none⟩ = some (.int .u8 (gt D j)) := fun j hj => by rw [hD, gt_drop]; exact hc _ hj
  have hbD : By D := hD ▸ hb.drop i
  have e0 : gt D 0 = gt bs i := by rw [hD, gt_drop]; rfl
  have S : Hid (stp D = _) := stp_gt (bs := D) (by omega)
  rw [← hD]
  rw [e0] at S
  have HL : Hid (D.length = n - i) := hDl
  clear hDl hD hc hb hn e0
  generalize ha : gt bs i = a at *
  clear ha bs
  obtain ⟨l1, l2, l3, l4⟩ := lo_bd a
  by_cases hlow : a ≤ 127
  · have e1 : szOf a = 1 := by unfold szOf; rw [if_pos hlow]
    have e2 : ldOf a = a := by unfold ldOf; rw [if_pos hlow]
    rw [e1, e2] at S
    have S' : Hid (stp D = (a, 1, true)) := S
    clear hc2 e1 e2
    go_enter Tryd.func72, Tryd.ntmps72
    go_wp2
    go_ret3
    rw [S'.out]
    exact ⟨tup3 (by simp) (by simp) (by simp), rfl⟩
  · obtain ⟨s, hs⟩ : ∃ s, s = szOf a := ⟨_, rfl⟩
    have s4 : s ≤ 4 := hs ▸ szOf_le _
    have HS : Hid (s = szOf a) := hs
    have hnd : ndOf a = s - 1 := by unfold ndOf; rw [hs]
    have hs1 : s ≠ 1 := by
      rcases sz_cases a a0 a1 with ⟨g, _⟩ | ⟨_, _, g, _⟩ | ⟨_, _, g, _⟩ | ⟨_, _, g, _⟩ | ⟨_, g⟩ <;> omega
    have HD : Hid (ndOf a = s - 1) := hnd
    clear hs hnd
    by_cases hz : s = 0
    · rw [← HS.out, if_pos hz] at S
      clear hc2
      go_enter Tryd.func72, Tryd.ntmps72
      go_wp2_with (go_at_call 81; refine (need_any a _ (by omega) a1).mono ?_; rintro e w' ⟨rfl, rfl⟩; rw [HD.out]; subst hz)
      go_ret3
      rw [S.out]
      exact ⟨tup3 (by simp) (by simp) (by simp), rfl⟩
    · obtain ⟨d1, d2⟩ := ld_bd a a0 (by rw [← HS.out]; exact hz)
      rw [← HS.out, if_neg hz] at S
      have S2 : Hid (stp D = fol (s - 1 - 0) (ldOf a) (loOf a) (hiOf a) (0 + 1) (D.drop (0 + 1))) := S
      clear S
      obtain ⟨m, hm⟩ : ∃ m, s = m + 1 := ⟨s - 1, by omega⟩
      subst hm
      have hm3 : m = 1 ∨ m = 2 ∨ m = 3 := by omega
      have hbits : bits .and .i32 a (63 / 2 ^ min ((m : Int)).toNat 32) = ldOf a := by
        rcases sz_cases a a0 a1 with ⟨g, _⟩ | ⟨_, _, g, q⟩ | ⟨_, _, g, q⟩ | ⟨_, _, g, q⟩ | ⟨_, g⟩
        · omega
        · have : m = 1 := by have := HS.out; omega
          subst this; rw [q]; exact i32_and31 a (by omega) (by omega)
        · have : m = 2 := by have := HS.out; omega
          subst this; rw [q]; exact i32_and15 a (by omega) (by omega)
        · have : m = 3 := by have := HS.out; omega
          subst this; rw [q]; exact i32_and7 a (by omega) (by omega)
        · have := HS.out; omega
      have hbits' : bits .and .i32 a (63 / 2 ^ min m 32) = ldOf a := by simpa using hbits
      have hbits2 : bits .and .i32 a (63 / 2 ^ m) = ldOf a := by rw [show min m 32 = m by omega] at hbits'; exact hbits'
      clear hm3
      go_enter Tryd.func72, Tryd.ntmps72
      go_wp2_with (go_at_call 81; refine (need_any a _ (by omega) a1).mono ?_; rintro e w' ⟨rfl, rfl⟩; rw [HD.out, Nat.add_sub_cancel])
      go_loop [9, 10, 11, 12] (fun lo hi cc i' => RelOne m i n D lo hi cc i') (fun _ _ _ i' => m + 1 - (intOf i').toNat)
      case atStart => exact .mk 0 _ _ _ (by omega) (by omega) (by simp) rfl rfl rfl d1 d2 S2.out
      case round =>
        clear S2 hbits hbits' hbits2
        obtain ⟨k, C, L, H, hk, hkn0, rfl, rfl, rfl, rfl, C0, C1, R⟩ := hrel
        by_cases hlt : k < m
        · have hb2 := bd_le (k := k) (by omega)
          have C2 : C < 524288 := by have := C1.out; omega
          by_cases hend : i + (k + 1) < n
          · have cx := hc2 (k + 1) hend
            have hDk : k + 1 < D.length := by rw [HL.out]; omega
            obtain ⟨x0, x1⟩ := hbD.gt (i := k + 1) hDk
            clear hc2
            have R1' : Hid _ := fol_in (s := m + 1) R.out (by omega) hDk
            have R2' : Hid _ := fol_out (s := m + 1) R.out (by omega) hDk
            generalize gt D (k + 1) = x at *
            by_cases q : x < L ∨ H < x
            · have r := R2'.out q
              have HR : Hid (stp D = (65533, k + 1, false)) := r
              clear r R1' R2' hDk
              rcases (show x < L ∨ (L ≤ x ∧ H < x) by omega) with q1 | ⟨q1, q2⟩
              all_goals
                clear q
                go_wp2
                go_ret3
                rw [HR.out]
                exact ⟨tup3 rfl (by simp) rfl, rfl⟩
            · have q1 : L ≤ x := by omega
              have q2 : x ≤ H := by omega
              have r := R1'.out q1 q2
              have HR : Hid (stp D = _) := r
              have e1 := u8_and63 x x0 x1
              have e2 := wrap64' C C0 C2
              have e3 := i32_or64 C (x % 64) C0 (by omega) (by omega) (by omega)
              have m0 : 0 ≤ x % 64 := by omega
              have m1 : x % 64 < 64 := by omega
              clear r R1' R2' q hDk
              go_wp2
              go_round
              case rel => exact ⟨_, _, _, _, _, _, _, .mk (k + 1) (C * 64 + x % 64) 128 191 (by omega) (by omega) (by go_num) rfl rfl rfl (by omega) (by have := C1.out; have := bd_succ k; omega) HR.out, rfl, rfl, rfl, rfl, rfl, rfl, rfl⟩
              case measure => simp [intOf]; omega
          · have HR : Hid (stp D = (65533, k + 1, false)) := fol_end (s := m + 1) R.out (by omega) (by rw [HL.out]; omega)
            clear hc2
            go_wp2
            go_ret3
            rw [HR.out]
            exact ⟨tup3 rfl (by simp) rfl, rfl⟩
        · have hks : m = k := by omega
          have HR : Hid (stp D = (C, m + 1, true)) := fol_all (s := m + 1) R.out (by omega)
          subst hks
          clear hc2
          go_wp2
          go_ret3
          rw [HR.out]
          exact ⟨tup3 rfl (by simp) rfl, rfl⟩
end Go.Proofs.YtlkocepoohhglaaDoor
set_option linter.unusedVariables false
set_option linter.unusedSimpArgs false
namespace Go.Proofs.YtlkocepoohhglaaDoor
open Go.RowKit

theorem hide {p : Prop} (h : p) : Hid p := h
theorem row_blk {w : World} {b : Nat} {cs : Array Value} {t : TypeId} {q : Nat × Nat} (h : w.heap[b]? = some (.cells cs t q)) (i : Nat) : w.cell? ⟨b, i, none⟩ = cs[i]? := by
  simp [World.cell?, h]
theorem bto {w w1 w2 : World} (h : Below w.heap.size w w1) (k : Below w1.heap.size w1 w2) : Below w.heap.size w w2 := h.trans (k.mono h.size)
theorem bplus {w w1 : World} (h : Below w.heap.size w w1) (o : Obj) : Below w.heap.size w (w1.alloc o) := h.alloc h.size o
/-- A slice of numbers in memory. -/
def Nums (k : IntKind) (w : World) (v : Value) (bs : List Int) : Prop :=
  (∃ a c, v = .slice a 0 c ∧ bs = []) ∨
  ∃ b o n c, v = .slice (some ⟨b, o, none⟩) n c ∧ n = bs.length ∧ 0 < n ∧ b < w.heap.size ∧ n ≤ c ∧ n ≤ 4611686018427387904 ∧ c ≤ 9223372036854775807 ∧ ∀ i, i < n → w.cell? ⟨b, o + i, none⟩ = some (.int k (gt bs i))
theorem Nums.below {k : IntKind} {w w' : World} {v : Value} {bs : List Int} (h : Nums k w v bs) (hw : Below w.heap.size w w') : Nums k w' v bs := by
  rcases h with h | ⟨b, o, n, c, h1, h2, h3, h4, h5, h6, h6', h7⟩
  · exact .inl h
  · exact .inr ⟨b, o, n, c, h1, h2, h3, Nat.lt_of_lt_of_le h4 hw.size, h5, h6, h6', fun i hi => (hw.cell (p := ⟨b, o + i, none⟩) h4).trans (h7 i hi)⟩
/-- The state of a loop over bytes. -/
def RelWh (n : Nat) (bs : List Int) (a : Value) : Prop := ∃ i : Nat, i ≤ n ∧ a = .int .i64 i ∧ Hid (whole bs = whole (bs.drop i))
theorem RelWh.mk {n : Nat} {bs : List Int} (i : Nat) {a : Value} (h1 : i ≤ n) (h2 : a = .int .i64 i) (h3 : whole bs = whole (bs.drop i)) : RelWh n bs a := ⟨i, h1, h2, h3⟩
theorem wh_stop {bs : List Int} {i : Nat} (h : whole bs = whole (bs.drop i)) (hi : i < bs.length) (hs : (stp (bs.drop i)).2.2 = false) : whole bs = false := by
  have hne : bs.drop i ≠ [] := by intro e; have := congrArg List.length e; simp at this; omega
  rw [h, whole_cut hne, hs]; rfl
theorem wh_go {bs : List Int} {i : Nat} (h : whole bs = whole (bs.drop i)) (hi : i < bs.length) (hs : (stp (bs.drop i)).2.2 = true) : whole bs = whole (bs.drop (i + (stp (bs.drop i)).2.1)) := by
  have hne : bs.drop i ≠ [] := by intro e; have := congrArg List.length e; simp at this; omega
  rw [h, whole_cut hne, hs, List.drop_drop]; simp
theorem stp_drop {bs : List Int} {i : Nat} (hi : i < bs.length) : 1 ≤ (stp (bs.drop i)).2.1 ∧ (stp (bs.drop i)).2.1 ≤ 4 ∧ i + (stp (bs.drop i)).2.1 ≤ bs.length := by
  have hne : bs.drop i ≠ [] := by intro e; have := congrArg List.length e; simp at this; omega
  have := stp_len _ hne
  rw [List.length_drop] at this
  omega
theorem ret_bool {a b : Bool} (h : a = b) : Ending.returned (.bool a) = .returned (.bool b) := by rw [h]
end Go.Proofs.YtlkocepoohhglaaDoor
