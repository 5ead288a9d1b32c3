/-
  The reference's names by letters alike.
-/
import Derived.Test.YtckefmhleklciaaGreatDoorLRefF
import Derived.Laws.IdiomStrings
set_option linter.unusedVariables false
set_option linter.unusedSimpArgs false
namespace Go.Proofs.YtckefmhleklciaaGreatDoor
open Go.RowKit

def low1 (c : Int) : Int := if 65 ≤ c ∧ c ≤ 90 then c + 32 else c
/-- Bytes in a block of the call's own, as far as they have been made lower. -/
structure LowW (w wr : World) (m n k : Nat) (bs : List Int) : Prop where
  bel : Below w.heap.size w wr
  lt : m < wr.heap.size
  ge : w.heap.size ≤ m
  cell : ∀ i, i < n → wr.cell? ⟨m, i, none⟩ = some (.int .u8 (if i < k then low1 (gt bs i) else gt bs i))
  free : ∀ i, i < n → wr.frozen? ⟨m, i, none⟩ = false
theorem LowW.skip {w wr : World} {m n k : Nat} {bs : List Int} (h : LowW w wr m n k bs) (e : low1 (gt bs k) = gt bs k) : LowW w wr m n (k + 1) bs :=
  ⟨h.bel, h.lt, h.ge, fun i hi => by
    rw [h.cell i hi]
    by_cases h1 : i < k
    · rw [if_pos h1, if_pos (by omega)]
    · by_cases h2 : i = k
      · subst h2; rw [if_neg h1, if_pos (by omega), e]
      · rw [if_neg h1, if_neg (by omega)], h.free⟩
theorem LowW.set {w wr : World} {m n k : Nat} {bs : List Int} (h : LowW w wr m n k bs) (hk : k < n) (x : Int) (hx : x = low1 (gt bs k)) : LowW w (wr.setCell ⟨m, k, none⟩ (.int .u8 x)) m n (k + 1) bs := by
  have hm := h.ge
  refine ⟨h.bel.setCell (p := ⟨m, k, none⟩) hm _, by simpa using h.lt, h.ge, fun i hi => ?_, fun i hi => ?_⟩
  · by_cases h2 : i = k
    · subst h2
      rw [if_pos (by omega), ← hx]
      have c := h.cell i hi
      exact World.cell?_setCell_same wr ⟨m, i, none⟩ _ (by rw [c])
    · rw [World.cell?_setCell_other wr ⟨m, k, none⟩ ⟨m, i, none⟩ _ (by simp; try omega), h.cell i hi]
      by_cases h1 : i < k
      · rw [if_pos h1, if_pos (by omega)]
      · rw [if_neg h1, if_neg (by omega)]
  · have := h.free i hi
    simpa using this
def RelLw (w : World) (m n : Nat) (bs : List Int) (i : Value) (wr : World) : Prop := ∃ k : Nat, k ≤ n ∧ i = .int .i64 k ∧ Hid (LowW w wr m n k bs)
theorem RelLw.mk {w : World} {m n : Nat} {bs : List Int} (k : Nat) {i : Value} {wr : World} (h1 : k ≤ n) (h2 : i = .int .i64 k) (h3 : LowW w wr m n k bs) : RelLw w m n bs i wr := ⟨k, h1, h2, h3⟩
theorem low_start (w : World) (s : ByteArray) (c : Nat) (q : Nat × Nat) (hq : s.size ≤ q.1) : LowW w (w.drew.alloc (.cells (bytesRow s c) 5 q)) w.heap.size s.size 0 (bl s) := by
  have hb : (w.drew.alloc (.cells (bytesRow s c) 5 q)).heap[w.heap.size]? = some (.cells (bytesRow s c) 5 q) := heap_alloc_new w.drew _
  refine ⟨bplus (Below.refl _ _).drew _, (Array.getElem?_eq_some_iff.1 hb).1, Nat.le_refl _, fun i hi => ?_, fun i hi => ?_⟩
  · rw [cell_blk hb, bytesRow_at s c i hi, if_neg (by omega)]
    have := bl_at s i hi
    rw [← this]; rfl
  · obtain ⟨lo, hi'⟩ := q
    unfold World.frozen?
    rw [hb]
    simp only at hq
    simp; omega
theorem LowW.nums {w wr : World} {m n c : Nat} {bs : List Int} (h : LowW w wr m n n bs) (hn : n = bs.length) (h0 : 0 < n) (h9 : n ≤ 1000000000) (hc : n ≤ c) (hc9 : c ≤ 9223372036854775807) : Nums .u8 wr (.slice (some ⟨m, 0, none⟩) n c) (bs.map low1) :=
  .inr ⟨m, 0, n, c, rfl, by rw [List.length_map]; exact hn, h0, h.lt, hc, by omega, hc9, fun i hi => by
    rw [Nat.zero_add, h.cell i hi, if_pos hi]
    simp [gt, List.getD_eq_getElem?_getD, List.getElem?_eq_getElem (show i < bs.length by omega)]⟩
theorem by_low {bs : List Int} (h : By bs) : By (bs.map low1) := fun x hx => by
  obtain ⟨y, hy, rfl⟩ := List.mem_map.1 hx
  have := h y hy
  unfold low1
  split <;> omega
theorem conv_low {w wr : World} {m n : Nat} {bs : List Int} (h : LowW w wr m n n bs) (hn : n = bs.length) (hb : By bs) (c : Nat) : ∃ t, bl t = bs.map low1 ∧ (convert 28 9 (.slice (some ⟨m, 0, none⟩) n c)).run Tryz.prog wr = .ok (.string t) wr := by
  refine ⟨⟨(l8 (bs.map low1)).toArray⟩, by unfold bl; simpa using l8_back (by_low hb), ?_⟩
  have hl : n = (l8 (bs.map low1)).length := by unfold l8; rw [List.length_map, List.length_map]; exact hn
  have k := run_convert_bytes_back (P := Tryz.prog) wr 28 9 5 ⟨m, 0, none⟩ c (l8 (bs.map low1)) Tryz.underlying28 Tryz.underlying5 Tryz.underlying9 (fun j hj => by
    rw [Addr.add_lit, Nat.zero_add, h.cell j (by omega), if_pos (by omega)]
    congr 2
    have e := l8_back (by_low hb)
    have : low1 (gt bs j) = ((l8 (bs.map low1)).map (fun b => (b.toNat : Int))).getD j 0 := by
      rw [e]
      simp [gt, List.getD_eq_getElem?_getD, List.getElem?_map, List.getElem?_eq_getElem (show j < bs.length by omega)]
    rw [this]
    simp [List.getD_eq_getElem?_getD, List.getElem?_map, List.getElem?_eq_getElem hj])
  rw [← hl] at k
  exact k
theorem low_id {c : Int} (h : ¬ (65 ≤ c ∧ c ≤ 90)) : low1 c = c := by unfold low1; rw [if_neg h]
theorem low_up {c : Int} (h : 65 ≤ c ∧ c ≤ 90) : low1 c = c + 32 := by unfold low1; rw [if_pos h]
theorem cap_ge (w : World) (n : Nat) (e : TypeId) : n ≤ grownCap w n 0 e := by
  unfold grownCap
  simp only [Question.cut]
  omega
set_option maxRecDepth 100000 in
set_option maxHeartbeats 1000000 in
theorem lowerR_any (s : ByteArray) (w : World) (hs : s.size ≤ 1000000000) :
    Calls Tryz.prog 97 #[.string s] w fun e w' => ∃ t, e = .returned (.string t) ∧ bl t = (bl s).map low1 ∧ Below w.heap.size w w' := by
  have kc := fun (w : World) (s : ByteArray) => run_bytes_of_string (P := Tryz.prog) w 9 28 5 s Tryz.underlying9 Tryz.underlying28 Tryz.underlying5
  obtain ⟨c, hc⟩ : ∃ c, grownCap w s.size 0 5 = c := ⟨_, rfl⟩
  have hnc := cap_ge w s.size 5
  rw [hc] at hnc
  have L0 := hide (low_start w s c ((bytesRow s c).size, (bytesRow s c).size + 1) (by simp [bytesRow]))
  have HS := hide (bl_len s)
  have BY := hide (bl_by s)
  generalize hn : s.size = n at *
  generalize bl s = bs at *
  obtain ⟨w1, hw1⟩ : ∃ x, w.drew.alloc (.cells (bytesRow s c) 5 ((bytesRow s c).size, (bytesRow s c).size + 1)) = x := ⟨_, rfl⟩
  rw [hw1] at L0
  have kc1 : (convert 9 28 (.string s)).run Tryz.prog w = .ok (.slice (some ⟨w.heap.size, 0, none⟩) n c) w1 := by
    rw [kc w s, hn, hc, hw1]
  clear kc hw1 hc hn
  go_enter Tryz.func97, Tryz.ntmps97
  go_wp2
  clear kc1
  go_loopw [10] (fun i wr => RelLw w w.heap.size n bs i wr) (fun i _ => n - (intOf i).toNat)
  case atStart => exact .mk 0 (by omega) rfl L0.out
  case round =>
    clear L0
    obtain ⟨k, hk, rfl, LW⟩ := hrel
    by_cases hlt : k < n
    · have p0 := LW.out.cell k hlt
      rw [if_neg (by omega)] at p0
      have f0 := LW.out.free k hlt
      have bx := BY.out.at (show k < bs.length by rw [HS.out]; exact hlt)
      obtain ⟨x, hx⟩ : ∃ x, gt bs k = x := ⟨_, rfl⟩
      have hx' : bs.getD k 0 = x := hx
      rw [hx'] at bx
      rw [hx] at p0
      have X := hide hx
      clear hx hx'
      by_cases hu : 65 ≤ x ∧ x ≤ 90
      · obtain ⟨u1, u2⟩ := hu
        have u3 : ¬ 90 < x := by omega
        go_wp2
        exact ⟨.mk (k + 1) (by omega) (by go_num) (LW.out.set hlt _ (by rw [X.out, low_up ⟨u1, u2⟩])), by simp [intOf]; omega⟩
      · have S := hide (LW.out.skip (by rw [X.out]; exact low_id hu))
        by_cases u1 : 65 ≤ x
        · have u2 : ¬ x ≤ 90 := fun h => hu ⟨u1, h⟩
          go_wp2
          exact ⟨.mk (k + 1) (by omega) (by go_num) S.out, by simp [intOf]; omega⟩
        · go_wp2
          exact ⟨.mk (k + 1) (by omega) (by go_num) S.out, by simp [intOf]; omega⟩
    · obtain rfl : k = n := by omega
      obtain ⟨t, ht, hcv⟩ := conv_low LW.out HS.out.symm BY.out c
      replace ht := hide ht
      go_wp2
      go_ret
      exact ⟨_, rfl, ht.out, LW.out.bel⟩
theorem low_117 (c : Int) : low1 c = 117 ↔ c = 117 ∨ c = 85 := by unfold low1; split <;> omega
theorem low_114 (c : Int) : low1 c = 114 ↔ c = 114 ∨ c = 82 := by unfold low1; split <;> omega
theorem low_108 (c : Int) : low1 c = 108 ↔ c = 108 ∨ c = 76 := by unfold low1; split <;> omega
theorem like_url (b : List Int) : (b.map low1 = [117, 114, 108]) ↔ isUrlB b = true := by
  match b with
  | [] => simp [isUrlB]
  | [_] => simp [isUrlB]
  | [_, _] => simp [isUrlB]
  | [x, y, z] =>
    have e0 : nx [x, y, z] 0 = x := rfl
    have e1 : nx [x, y, z] 1 = y := rfl
    have e2 : nx [x, y, z] 2 = z := rfl
    unfold isUrlB
    rw [e0, e1, e2]
    simp [low_117, low_114, low_108, and_assoc]
  | _ :: _ :: _ :: _ :: r => simp [isUrlB]
theorem low_url : List.map low1 (bl ⟨#[117, 114, 108]⟩) = [117, 114, 108] := by decide
theorem like_no {bs : List Int} {t1 t2 : ByteArray} (h : ¬ bs.map low1 = [117, 114, 108]) (h1 : bl t1 = bs.map low1) (h2 : bl t2 = List.map low1 (bl ⟨#[117, 114, 108]⟩)) : ¬ t1 = t2 := fun e => by
  subst e
  exact h (h1.symm.trans (h2.trans low_url))
theorem tl_ne {t1 t2 : ByteArray} (h : ¬ t1 = t2) : ¬ t1.toList = t2.toList := fun e => by
  rw [Lib.toList_data, Lib.toList_data] at e
  refine h ?_
  cases t1; cases t2
  simpa using Array.toList_inj.1 e
theorem like_yes {bs : List Int} {t1 t2 : ByteArray} (h : bs.map low1 = [117, 114, 108]) (h1 : bl t1 = bs.map low1) (h2 : bl t2 = List.map low1 (bl ⟨#[117, 114, 108]⟩)) : t1 = t2 :=
  bl_inj (h1.trans (h.trans (h2.trans low_url).symm))
set_option maxRecDepth 100000 in
set_option maxHeartbeats 1000000 in
theorem likeR_any (s : ByteArray) (w : World) (hs : s.size ≤ 1000000000) :
    Calls Tryz.prog 73 #[.string s, .string ⟨#[117, 114, 108]⟩] w fun e w' => e = .returned (.bool (isUrlB (bl s))) ∧ Below w.heap.size w w' := by
  have CS := hide (fun W => lowerR_any s W hs)
  have CU := hide (fun W => lowerR_any ⟨#[117, 114, 108]⟩ W (by decide))
  have LU := like_url (bl s)
  clear hs
  generalize bl s = bs at *
  cases hu : isUrlB bs
  · replace LU := hide (show ¬ bs.map low1 = [117, 114, 108] from fun e => by rw [LU.1 e] at hu; cases hu)
    go_enter Tryz.func73, Tryz.ntmps73
    go_wp2_with (first
      | (go_at_call_of 97 (Value.string s); refine (CS.out _).mono ?_; rintro e w1 ⟨t1, rfl, h1, B1⟩; replace h1 := hide h1; replace B1 := hide B1)
      | (go_at_call 97; refine (CU.out _).mono ?_; rintro e w2 ⟨t2, rfl, h2, B2⟩; replace B1 := hide (bto B1.out B2); have ne := like_no LU.out h1.out h2; clear h2 B2))
    go_ret
    exact ⟨ret_bool (by simp [tl_ne ne]), B1.out⟩
  · replace LU := hide (LU.2 hu)
    go_enter Tryz.func73, Tryz.ntmps73
    go_wp2_with (first
      | (go_at_call_of 97 (Value.string s); refine (CS.out _).mono ?_; rintro e w1 ⟨t1, rfl, h1, B1⟩; replace h1 := hide h1; replace B1 := hide B1)
      | (go_at_call 97; refine (CU.out _).mono ?_; rintro e w2 ⟨t2, rfl, h2, B2⟩; replace B1 := hide (bto B1.out B2); have eq := like_yes LU.out h1.out h2; clear h2 B2; subst eq))
    go_ret
    exact ⟨ret_bool (by simp), B1.out⟩
end Go.Proofs.YtckefmhleklciaaGreatDoor
