/-
  The names by letters alike, by the reference.
  Each token that may be, written, is read as it alone: the law.
  Each token that may be, written, is read as it alone: the kinds that are asked for their text.
-/
import Derived.Test.YtcclhdiphcfdfaaGreatDoorKl
import Derived.Test.YtcclhdiphcfdfaaGreatDoorKw
import Derived.Test.YtcclhdiphcfdfaaGreatDoorKx
import Derived.Laws.IdiomStrings
import Derived.Deep.RegionHeld3
set_option linter.unusedVariables false
set_option linter.unusedSimpArgs false
namespace Go.Proofs.YtcclhdiphcfdfaaGreatDoor
open Go.RowKit

def low1 (c : Int) : Int := if 65 ≤ c ∧ c ≤ 90 then c + 32 else c
/-- Bytes in a block of the call's own, as far as they have been made lower. -/
structure LowW (w wr : World) (m n k : Nat) (bs : List Int) : Prop where
  bel : Below w.heap.size w wr
  lt : m < wr.heap.size
  ge : w.heap.size ≤ m
  cell : ∀ i, i < n → wr.cell? ⟨m, i, none⟩ = some (.int .u8 (if i < k then low1 (gt bs i) else gt bs i))
  free : ∀ i, i < n → wr.frozen? ⟨m, i, none⟩ = false
theorem LowW.skip {w wr : World} {m n k : Nat} {bs : List Int} (h : LowW w wr m n k bs) (e : low1 (gt bs k) = gt bs k) : LowW w wr m n (k + 1) bs :=
  ⟨h.bel, h.lt, h.ge, fun i hi => by
    rw [h.cell i hi]
    by_cases h1 : i < k
    · rw [if_pos h1, if_pos (by omega)]
    · by_cases h2 : i = k
      · subst h2; rw [if_neg h1, if_pos (by omega), e]
      · rw [if_neg h1, if_neg (by omega)], h.free⟩
theorem LowW.set {w wr : World} {m n k : Nat} {bs : List Int} (h : LowW w wr m n k bs) (hk : k < n) (x : Int) (hx : x = low1 (gt bs k)) : LowW w (wr.setCell ⟨m, k, none⟩ (.int .u8 x)) m n (k + 1) bs := by
  have hm := h.ge
  refine ⟨h.bel.setCell (p := ⟨m, k, none⟩) hm _, by simpa using h.lt, h.ge, fun i hi => ?_, fun i hi => ?_⟩
  · by_cases h2 : i = k
    · subst h2
      rw [if_pos (by omega), ← hx]
      have c := h.cell i hi
      exact World.cell?_setCell_same wr ⟨m, i, none⟩ _ (by rw [c])
    · rw [World.cell?_setCell_other wr ⟨m, k, none⟩ ⟨m, i, none⟩ _ (by simp; try omega), h.cell i hi]
      by_cases h1 : i < k
      · rw [if_pos h1, if_pos (by omega)]
      · rw [if_neg h1, if_neg (by omega)]
  · have := h.free i hi
    simpa using this
def RelLw (w : World) (m n : Nat) (bs : List Int) (i : Value) (wr : World) : Prop := ∃ k : Nat, k ≤ n ∧ i = .int .i64 k ∧ Hid (LowW w wr m n k bs)
theorem RelLw.mk {w : World} {m n : Nat} {bs : List Int} (k : Nat) {i : Value} {wr : World} (h1 : k ≤ n) (h2 : i = .int .i64 k) (h3 : LowW w wr m n k bs) : RelLw w m n bs i wr := ⟨k, h1, h2, h3⟩
theorem low_start (w : World) (s : ByteArray) (c : Nat) (q : Nat × Nat) (hq : s.size ≤ q.1) : LowW w (w.drew.alloc (.cells (bytesRow s c) 5 q)) w.heap.size s.size 0 (bl s) := by
  have hb : (w.drew.alloc (.cells (bytesRow s c) 5 q)).heap[w.heap.size]? = some (.cells (bytesRow s c) 5 q) := heap_alloc_new w.drew _
  refine ⟨bplus (Below.refl _ _).drew _, (Array.getElem?_eq_some_iff.1 hb).1, Nat.le_refl _, fun i hi => ?_, fun i hi => ?_⟩
  · rw [cell_blk hb, bytesRow_at s c i hi, if_neg (by omega)]
    have := bl_at s i hi
    rw [← this]; rfl
  · obtain ⟨lo, hi'⟩ := q
    unfold World.frozen?
    rw [hb]
    simp only at hq
    simp; omega
theorem LowW.nums {w wr : World} {m n c : Nat} {bs : List Int} (h : LowW w wr m n n bs) (hn : n = bs.length) (h0 : 0 < n) (h9 : n ≤ 1000000000) (hc : n ≤ c) (hc9 : c ≤ 9223372036854775807) : Nums .u8 wr (.slice (some ⟨m, 0, none⟩) n c) (bs.map low1) :=
  .inr ⟨m, 0, n, c, rfl, by rw [List.length_map]; exact hn, h0, h.lt, hc, by omega, hc9, fun i hi => by
    rw [Nat.zero_add, h.cell i hi, if_pos hi]
    simp [gt, List.getD_eq_getElem?_getD, List.getElem?_eq_getElem (show i < bs.length by omega)]⟩
theorem by_low {bs : List Int} (h : By bs) : By (bs.map low1) := fun x hx => by
  obtain ⟨y, hy, rfl⟩ := List.mem_map.1 hx
  have := h y hy
  unfold low1
  split <;> omega
theorem conv_low {w wr : World} {m n : Nat} {bs : List Int} (h : LowW w wr m n n bs) (hn : n = bs.length) (hb : By bs) (c : Nat) : ∃ t, bl t = bs.map low1 ∧ (convert 36 9 (.slice (some ⟨m, 0, none⟩) n c)).run Tryz.prog wr = .ok (.string t) wr := by
  refine ⟨⟨(l8 (bs.map low1)).toArray⟩, by unfold bl; simpa using l8_back (by_low hb), ?_⟩
  have hl : n = (l8 (bs.map low1)).length := by unfold l8; rw [List.length_map, List.length_map]; exact hn
  have k := run_convert_bytes_back (P := Tryz.prog) wr 36 9 5 ⟨m, 0, none⟩ c (l8 (bs.map low1)) Tryz.underlying36 Tryz.underlying5 Tryz.underlying9 (fun j hj => by
    rw [Addr.add_lit, Nat.zero_add, h.cell j (by omega), if_pos (by omega)]
    congr 2
    have e := l8_back (by_low hb)
    have : low1 (gt bs j) = ((l8 (bs.map low1)).map (fun b => (b.toNat : Int))).getD j 0 := by
      rw [e]
      simp [gt, List.getD_eq_getElem?_getD, List.getElem?_map, List.getElem?_eq_getElem (show j < bs.length by omega)]
    rw [this]
    simp [List.getD_eq_getElem?_getD, List.getElem?_map, List.getElem?_eq_getElem hj])
  rw [← hl] at k
  exact k
theorem low_id {c : Int} (h : ¬ (65 ≤ c ∧ c ≤ 90)) : low1 c = c := by unfold low1; rw [if_neg h]
theorem low_up {c : Int} (h : 65 ≤ c ∧ c ≤ 90) : low1 c = c + 32 := by unfold low1; rw [if_pos h]
theorem cap_ge (w : World) (n : Nat) (e : TypeId) : n ≤ grownCap w n 0 e := by
  unfold grownCap
  simp only [Question.cut]
  omega
set_option maxRecDepth 100000 in
set_option maxHeartbeats 1000000 in
theorem lowerR_any (s : ByteArray) (w : World) (hs : s.size ≤ 1000000000) :
    Calls Tryz.prog 36 #[.string s] w fun e w' => ∃ t, e = .returned (.string t) ∧ bl t = (bl s).map low1 ∧ Below w.heap.size w w' := by
  have kc := fun (w : World) (s : ByteArray) => run_bytes_of_string (P := Tryz.prog) w 9 36 5 s Tryz.underlying9 Tryz.underlying36 Tryz.underlying5
  obtain ⟨c, hc⟩ : ∃ c, grownCap w s.size 0 5 = c := ⟨_, rfl⟩
  have hnc := cap_ge w s.size 5
  rw [hc] at hnc
  have L0 := hide (low_start w s c ((bytesRow s c).size, (bytesRow s c).size + 1) (by simp [bytesRow]))
  have HS := hide (bl_len s)
  have BY := hide (bl_by s)
  generalize hn : s.size = n at *
  generalize bl s = bs at *
  obtain ⟨w1, hw1⟩ : ∃ x, w.drew.alloc (.cells (bytesRow s c) 5 ((bytesRow s c).size, (bytesRow s c).size + 1)) = x := ⟨_, rfl⟩
  rw [hw1] at L0
  have kc1 : (convert 9 36 (.string s)).run Tryz.prog w = .ok (.slice (some ⟨w.heap.size, 0, none⟩) n c) w1 := by
    rw [kc w s, hn, hc, hw1]
  clear kc hw1 hc hn
  go_enter Tryz.func36, Tryz.ntmps36
  go_wp2
  clear kc1
  go_loopw [10] (fun i wr => RelLw w w.heap.size n bs i wr) (fun i _ => n - (intOf i).toNat)
  case atStart => exact .mk 0 (by omega) rfl L0.out
  case round =>
    clear L0
    obtain ⟨k, hk, rfl, LW⟩ := hrel
    by_cases hlt : k < n
    · have p0 := LW.out.cell k hlt
      rw [if_neg (by omega)] at p0
      have f0 := LW.out.free k hlt
      have bx := BY.out.at (show k < bs.length by rw [HS.out]; exact hlt)
      obtain ⟨x, hx⟩ : ∃ x, gt bs k = x := ⟨_, rfl⟩
      have hx' : bs.getD k 0 = x := hx
      rw [hx'] at bx
      rw [hx] at p0
      have X := hide hx
      clear hx hx'
      by_cases hu : 65 ≤ x ∧ x ≤ 90
      · obtain ⟨u1, u2⟩ := hu
        have u3 : ¬ 90 < x := by omega
        go_wp2
        exact ⟨.mk (k + 1) (by omega) (by go_num) (LW.out.set hlt _ (by rw [X.out, low_up ⟨u1, u2⟩])), by simp [intOf]; omega⟩
      · have S := hide (LW.out.skip (by rw [X.out]; exact low_id hu))
        by_cases u1 : 65 ≤ x
        · have u2 : ¬ x ≤ 90 := fun h => hu ⟨u1, h⟩
          go_wp2
          exact ⟨.mk (k + 1) (by omega) (by go_num) S.out, by simp [intOf]; omega⟩
        · go_wp2
          exact ⟨.mk (k + 1) (by omega) (by go_num) S.out, by simp [intOf]; omega⟩
    · obtain rfl : k = n := by omega
      obtain ⟨t, ht, hcv⟩ := conv_low LW.out HS.out.symm BY.out c
      replace ht := hide ht
      go_wp2
      go_ret
      exact ⟨_, rfl, ht.out, LW.out.bel⟩
theorem low_117 (c : Int) : low1 c = 117 ↔ c = 117 ∨ c = 85 := by unfold low1; split <;> omega
theorem low_114 (c : Int) : low1 c = 114 ↔ c = 114 ∨ c = 82 := by unfold low1; split <;> omega
theorem low_108 (c : Int) : low1 c = 108 ↔ c = 108 ∨ c = 76 := by unfold low1; split <;> omega
theorem like_url (b : List Int) : (b.map low1 = [117, 114, 108]) ↔ isUrlB b = true := by
  match b with
  | [] => simp [isUrlB]
  | [_] => simp [isUrlB]
  | [_, _] => simp [isUrlB]
  | [x, y, z] =>
    have e0 : nx [x, y, z] 0 = x := rfl
    have e1 : nx [x, y, z] 1 = y := rfl
    have e2 : nx [x, y, z] 2 = z := rfl
    unfold isUrlB
    rw [e0, e1, e2]
    simp [low_117, low_114, low_108, and_assoc]
  | _ :: _ :: _ :: _ :: r => simp [isUrlB]
theorem low_url : List.map low1 (bl ⟨#[117, 114, 108]⟩) = [117, 114, 108] := by decide
theorem like_no {bs : List Int} {t1 t2 : ByteArray} (h : ¬ bs.map low1 = [117, 114, 108]) (h1 : bl t1 = bs.map low1) (h2 : bl t2 = List.map low1 (bl ⟨#[117, 114, 108]⟩)) : ¬ t1 = t2 := fun e => by
  subst e
  exact h (h1.symm.trans (h2.trans low_url))
theorem tl_ne {t1 t2 : ByteArray} (h : ¬ t1 = t2) : ¬ t1.toList = t2.toList := fun e => by
  rw [Lib.toList_data, Lib.toList_data] at e
  refine h ?_
  cases t1; cases t2
  simpa using Array.toList_inj.1 e
theorem like_yes {bs : List Int} {t1 t2 : ByteArray} (h : bs.map low1 = [117, 114, 108]) (h1 : bl t1 = bs.map low1) (h2 : bl t2 = List.map low1 (bl ⟨#[117, 114, 108]⟩)) : t1 = t2 :=
  bl_inj (h1.trans (h.trans (h2.trans low_url).symm))
set_option maxRecDepth 100000 in
set_option maxHeartbeats 1000000 in
theorem likeR_any (s : ByteArray) (w : World) (hs : s.size ≤ 1000000000) :
    Calls Tryz.prog 17 #[.string s, .string ⟨#[117, 114, 108]⟩] w fun e w' => e = .returned (.bool (isUrlB (bl s))) ∧ Below w.heap.size w w' := by
  have CS := hide (fun W => lowerR_any s W hs)
  have CU := hide (fun W => lowerR_any ⟨#[117, 114, 108]⟩ W (by decide))
  have LU := like_url (bl s)
  clear hs
  generalize bl s = bs at *
  cases hu : isUrlB bs
  · replace LU := hide (show ¬ bs.map low1 = [117, 114, 108] from fun e => by rw [LU.1 e] at hu; cases hu)
    go_enter Tryz.func17, Tryz.ntmps17
    go_wp2_with (first
      | (go_at_call_of 36 (Value.string s); refine (CS.out _).mono ?_; rintro e w1 ⟨t1, rfl, h1, B1⟩; replace h1 := hide h1; replace B1 := hide B1)
      | (go_at_call 36; refine (CU.out _).mono ?_; rintro e w2 ⟨t2, rfl, h2, B2⟩; replace B1 := hide (bto B1.out B2); have ne := like_no LU.out h1.out h2; clear h2 B2))
    go_ret
    exact ⟨ret_bool (by simp [tl_ne ne]), B1.out⟩
  · replace LU := hide (LU.2 hu)
    go_enter Tryz.func17, Tryz.ntmps17
    go_wp2_with (first
      | (go_at_call_of 36 (Value.string s); refine (CS.out _).mono ?_; rintro e w1 ⟨t1, rfl, h1, B1⟩; replace h1 := hide h1; replace B1 := hide B1)
      | (go_at_call 36; refine (CU.out _).mono ?_; rintro e w2 ⟨t2, rfl, h2, B2⟩; replace B1 := hide (bto B1.out B2); have eq := like_yes LU.out h1.out h2; clear h2 B2; subst eq))
    go_ret
    exact ⟨ret_bool (by simp), B1.out⟩
end Go.Proofs.YtcclhdiphcfdfaaGreatDoor
set_option linter.unusedVariables false
set_option linter.unusedSimpArgs false
namespace Go.Proofs.YtcclhdiphcfdfaaGreatDoor
open Go.RowKit Go.Shelf

theorem sp2_no {t : TS} {u : ByteArray} {c : Int} (hm : t.may = false) (H : Sp2 wtA [t] u c) : c = 1 ∧ u = ⟨#[]⟩ := by
  rcases H with ⟨h, _⟩ | ⟨_, h⟩
  · rw [h t (by simp)] at hm; cases hm
  · exact h
theorem sp2_yes {t : TS} {u : ByteArray} {c : Int} (hm : t.may = true) (H : Sp2 wtA [t] u c) : c = 0 ∧ bl u = wtA t := by
  rcases H with ⟨_, h, hu⟩ | ⟨⟨x, hx, h⟩, _⟩
  · exact ⟨h, hu.trans (spK_one wtA t)⟩
  · rw [List.mem_singleton.1 hx, hm] at h; cases h
theorem chs_dcdS {bs : List Int} (h : By bs) : chs (dcd bs) = dcd bs := by
  unfold chs
  conv => rhs; rw [← List.map_id (dcd bs)]
  refine List.map_congr_left fun x hx => ?_
  have := (dec_good bs h x hx).1
  unfold chr
  rw [if_pos this]; rfl
theorem one_toks {t : TS} (ho : t.Ok) (hm : t.may = true) (h6 : t.k ≠ 6) (h9 : ¬ (t.k = 9 ∧ bl t.s = [92])) (h2 : ¬ (t.k = 2 ∧ isUrlB (bl t.s) = true)) {u : ByteArray} (hu : bl u = wtA t) : toks (chs (dcd (bl u))) = [⟨t.k, bl t.s, t.n, t.d, t.i, t.h⟩] := by
  rw [hu, chs_dcdS (wtA_by t)]
  exact back_all t ho hm h6 h9 h2
theorem toks_oneS {w : World} {v : Value} {τ : Tk} (h : Toks w v [τ]) : ∃ b o c, v = .slice (some ⟨b, o, none⟩) 1 c ∧ b < w.heap.size ∧ 1 ≤ c ∧ c ≤ 9223372036854775807 ∧ Six w b o τ.kind (tb τ.text) τ.num τ.den τ.whole τ.id := by
  rcases h with ⟨a, c, _, h⟩ | ⟨b, o, n, c, rfl, hn, _, hb, hc, _, hc9, hcell⟩
  · cases h
  · obtain rfl : n = 1 := hn
    refine ⟨b, o, c, rfl, hb, hc, hc9, Six.of fun j hj => ?_⟩
    have := hcell 0 τ rfl j hj
    rwa [Nat.zero_mul, Nat.add_zero] at this
theorem Six.below {w w' : World} {b o : Nat} {k : Int} {t : ByteArray} {n d : Int} {wh i : Bool} (h : Six w b o k t n d wh i) (hb : b < w.heap.size) (hw : Below w.heap.size w w') : Six w' b o k t n d wh i :=
  ⟨(hw.cell (p := ⟨b, o, none⟩) hb).trans h.c0, (hw.cell (p := ⟨b, o + 1, none⟩) hb).trans h.c1, (hw.cell (p := ⟨b, o + 2, none⟩) hb).trans h.c2, (hw.cell (p := ⟨b, o + 3, none⟩) hb).trans h.c3, (hw.cell (p := ⟨b, o + 4, none⟩) hb).trans h.c4, (hw.cell (p := ⟨b, o + 5, none⟩) hb).trans h.c5⟩
theorem keepO {w0 W : World} {b c o : Nat} {k : Int} {s : ByteArray} {n d : Int} {i h : Bool} (hb : Below w0.heap.size w0 W) (t : Tok6 w0 b k s n d i h) (hc : c < w0.heap.size) (u : Six w0 c o k s n d i h) :
    W.cell? ⟨b, 0, none⟩ = some (.int .i64 k) ∧ W.cell? ⟨b, 1, none⟩ = some (.string s) ∧ W.cell? ⟨b, 2, none⟩ = some (.int .i64 n) ∧ W.cell? ⟨b, 3, none⟩ = some (.int .i64 d) ∧ W.cell? ⟨b, 4, none⟩ = some (.bool i) ∧ W.cell? ⟨b, 5, none⟩ = some (.bool h) ∧
    W.cell? ⟨c, o, none⟩ = some (.int .i64 k) ∧ W.cell? ⟨c, o + 1, none⟩ = some (.string s) ∧ W.cell? ⟨c, o + 2, none⟩ = some (.int .i64 n) ∧ W.cell? ⟨c, o + 3, none⟩ = some (.int .i64 d) ∧ W.cell? ⟨c, o + 4, none⟩ = some (.bool i) ∧ W.cell? ⟨c, o + 5, none⟩ = some (.bool h) := by
  obtain ⟨_, a0, a1, a2, a3, a4, a5⟩ := t.below hb
  obtain ⟨c0, c1, c2, c3, c4, c5⟩ := u.below hc hb
  exact ⟨a0, a1, a2, a3, a4, a5, c0, c1, c2, c3, c4, c5⟩
theorem len_of {t : TS} (ho : t.Ok) (hs : t.s.size ≤ 1048576) {u : ByteArray} (hu : bl u = wtA t) : u.size ≤ 250000000 := by
  have h1 := wtA_len t ho
  have h2 := bl_len u
  rw [hu] at h2
  omega
set_option maxRecDepth 100000 in
set_option maxHeartbeats 4000000 in
/-- Not one that may be. -/
theorem one_no (k : Int) (s : ByteArray) (n d : Int) (i h : Bool) (w : World) (ho : (⟨k, s, n, d, i, h⟩ : TS).Ok) (hm : (⟨k, s, n, d, i, h⟩ : TS).may = false) (hK : KT w) (hT : Tabs w) :
    Calls Tryz.prog 7 #[tokV k s n d i h] w fun e w' => e = .returned (.bool true) ∧ Below w.heap.size w w' := by
  have B0 := hide (bplus (Below.refl w.heap.size w) (boxT ⟨k, s, n, d, i, h⟩))
  have TX := hide (tok_box (heap_alloc_new w (boxT ⟨k, s, n, d, i, h⟩)))
  have C1 := hide (tokenA_any ⟨k, s, n, d, i, h⟩ (w.alloc (boxT ⟨k, s, n, d, i, h⟩)) ho (hK.below B0.out) (hT.below B0.out))
  have hs := ho.hs
  have CM := hide (fun (W : World) (hb : Below w.heap.size w W) => mayS_any k s n d i h W ho.k1 ho.k2 (by simp only at hs; omega) ho.n1 ho.n2 ho.d1 ho.d2 (hK.below hb) (hT.below hb))
  have CA := hide (fun (W : World) (h : Below w.heap.size w W) => awake4_any W (hK.below h) (hT.below h))
  have EM := hide (show mayT k (bl s) n d i h = false from hm)
  have HM := hide hm
  clear hK hT hs ho hm
  unfold TS.v at C1
  unfold tokV at *
  unfold boxT at *
  go_enter Tryz.func7, Tryz.ntmps7
  go_wp2_with (first
    | (go_at_call 8; refine C1.out.mono ?_; intro e w1 hP; obtain ⟨B1, u, c, rfl, H⟩ := hP.uni; clear hP; obtain ⟨rfl, rfl⟩ := sp2_no HM.out H.out; clear H; obtain ⟨z1, q0, q1, q2, q3, q4, q5⟩ := TX.out.below B1; replace B1 := hide (show Below w.heap.size w w1 from bto B0.out B1))
    | (go_at_call 16; refine (CM.out _ B1.out).mono ?_; rintro e w2 ⟨rfl, B2⟩; rw [EM.out]; replace B1 := hide (bto B1.out B2); clear B2)
    | (go_at_call 10; refine (CA.out _ B1.out).mono ?_; rintro e w3 ⟨rfl, B3⟩; replace B1 := hide (bto B1.out B3)))
  go_ret
  exact ⟨rfl, B1.out⟩
set_option maxRecDepth 100000 in
set_option maxHeartbeats 8000000 in
/-- One that may be, of a kind that is not asked for its text. -/
theorem one_yes (k : Int) (s : ByteArray) (n d : Int) (i h : Bool) (w : World) (ho : (⟨k, s, n, d, i, h⟩ : TS).Ok) (hs : s.size ≤ 1048576) (hm : (⟨k, s, n, d, i, h⟩ : TS).may = true) (h6 : k ≠ 6) (h9 : k ≠ 9) (h2 : k ≠ 2) (hK : KT w) (hT : Tabs w) :
    Calls Tryz.prog 7 #[tokV k s n d i h] w fun e w' => e = .returned (.bool true) ∧ Below w.heap.size w w' := by
  have B0 := hide (bplus (Below.refl w.heap.size w) (boxT ⟨k, s, n, d, i, h⟩))
  have TX := hide (tok_box (heap_alloc_new w (boxT ⟨k, s, n, d, i, h⟩)))
  have C1 := hide (tokenA_any ⟨k, s, n, d, i, h⟩ (w.alloc (boxT ⟨k, s, n, d, i, h⟩)) ho (hK.below B0.out) (hT.below B0.out))
  have CM := hide (fun (W : World) (hb : Below w.heap.size w W) => mayS_any k s n d i h W ho.k1 ho.k2 (by omega) ho.n1 ho.n2 ho.d1 ho.d2 (hK.below hb) (hT.below hb))
  have CA := hide (fun (W : World) (h : Below w.heap.size w W) => awake4_any W (hK.below h) (hT.below h))
  have EM := hide (show mayT k (bl s) n d i h = true from hm)
  have HM := hide hm
  have LEN := hide (fun (u : ByteArray) (hu : bl u = wtA ⟨k, s, n, d, i, h⟩) => len_of ho hs hu)
  have ONE := hide (fun (u : ByteArray) (hu : bl u = wtA ⟨k, s, n, d, i, h⟩) => one_toks ho hm h6 (fun g => h9 g.1) (fun g => h2 g.1) hu)
  have e6 : (k == 6) = false := by simpa using h6
  have e9 : (k == 9) = false := by simpa using h9
  have e2 : (k == 2) = false := by simpa using h2
  clear hK hT hs ho hm h6 h9 h2
  unfold TS.v at C1
  unfold tokV at *
  unfold boxT at *
  go_enter Tryz.func7, Tryz.ntmps7
  go_wp2_with (first
    | (go_at_call 8; refine C1.out.mono ?_; intro e w1 hP; obtain ⟨B1, u, c, rfl, H⟩ := hP.uni; clear hP; obtain ⟨rfl, hu⟩ := sp2_yes HM.out H.out; clear H; replace hu := hide hu; have T1 := TX.out.below B1; obtain ⟨z1, q0, q1, q2, q3, q4, q5⟩ := id T1; replace T1 := hide T1; replace B1 := hide (show Below w.heap.size w w1 from bto B0.out B1))
    | (go_at_call 16; refine (CM.out _ B1.out).mono ?_; rintro e w2 ⟨rfl, B2⟩; rw [EM.out]; replace T1 := T1.out.below B2; clear q0 q1 q2 q3 q4 q5 z1; obtain ⟨z1, q0, q1, q2, q3, q4, q5⟩ := id T1; replace T1 := hide T1; replace B1 := hide (bto B1.out B2); clear B2; obtain ⟨cv, w9, kcv, NV, BV⟩ := conv_any u w2 (Nat.le_trans (LEN.out u hu.out) (by omega)); replace NV := hide NV; replace BV := hide BV)
    | (go_at_call 14; refine (tbytesP_any (bl u) _ _ (bl_by u) NV.out (by rw [bl_len]; exact LEN.out u hu.out)).mono ?_; rintro e w3 ⟨lv, rfl, N, B3⟩; rw [ONE.out u hu.out] at N; obtain ⟨lb, lo, lc, rfl, hlb, hc1, hc9, S3⟩ := toks_oneS N; clear N; simp only [tb_bl] at S3; replace T1 := hide ((T1.out.below BV.out).below B3); replace B1 := hide (bto (bto B1.out BV.out) B3); clear B3 q0 q1 q2 q3 q4 q5 z1; replace S3 := hide S3))
  go_region_held3 (fun w' => w'.cell? ⟨w.heap.size, 0, none⟩ = some (.int .i64 k) ∧ w'.cell? ⟨w.heap.size, 1, none⟩ = some (.string s) ∧ w'.cell? ⟨w.heap.size, 2, none⟩ = some (.int .i64 n) ∧ w'.cell? ⟨w.heap.size, 3, none⟩ = some (.int .i64 d) ∧ w'.cell? ⟨w.heap.size, 4, none⟩ = some (.bool i) ∧ w'.cell? ⟨w.heap.size, 5, none⟩ = some (.bool h) ∧
    w'.cell? ⟨lb, lo, none⟩ = some (.int .i64 k) ∧ w'.cell? ⟨lb, lo + 1, none⟩ = some (.string s) ∧ w'.cell? ⟨lb, lo + 2, none⟩ = some (.int .i64 n) ∧ w'.cell? ⟨lb, lo + 3, none⟩ = some (.int .i64 d) ∧ w'.cell? ⟨lb, lo + 4, none⟩ = some (.bool i) ∧ w'.cell? ⟨lb, lo + 5, none⟩ = some (.bool h))
    ((refine keepO ?_ T1.out hlb S3.out; (repeat (first | exact Below.refl _ _ | (with_reducible refine Below.drew ?_) | (with_reducible refine below_drewN ?_ _) | (refine bto ?_ (by assumption)))); done))
    (first
      | (go_at_call 10; refine (CA.out _ (by refine bto B1.out ?_; repeat (first | exact Below.refl _ _ | (with_reducible refine Below.drew ?_) | (with_reducible refine below_drewN ?_ _) | (refine bto ?_ (by assumption))))).mono ?_; rintro _ wl ⟨rfl, hl⟩))
  all_goals
    go_wp2
    go_ret
    refine ⟨rfl, bto B1.out ?_⟩
    repeat (first | exact Below.refl _ _ | (with_reducible refine Below.drew ?_) | (with_reducible refine below_drewN ?_ _) | (refine bto ?_ (by assumption)))
end Go.Proofs.YtcclhdiphcfdfaaGreatDoor
set_option linter.unusedVariables false
set_option linter.unusedSimpArgs false
namespace Go.Proofs.YtcclhdiphcfdfaaGreatDoor
open Go.RowKit Go.Shelf

theorem bl_92 : bl ⟨#[92]⟩ = [92] := by decide
theorem bl_92t : (⟨#[92]⟩ : ByteArray).toList = [92] := by rw [Lib.toList_data]
set_option maxRecDepth 100000 in
set_option maxHeartbeats 8000000 in
/-- A delimiter, but a lone backslash. -/
theorem one_nine (k : Int) (s : ByteArray) (n d : Int) (i h : Bool) (w : World) (ho : (⟨k, s, n, d, i, h⟩ : TS).Ok) (hs : s.size ≤ 1048576) (hm : (⟨k, s, n, d, i, h⟩ : TS).may = true) (hk : k = 9) (hb : ¬ s = ⟨#[92]⟩) (hK : KT w) (hT : Tabs w) :
    Calls Tryz.prog 7 #[tokV k s n d i h] w fun e w' => e = .returned (.bool true) ∧ Below w.heap.size w w' := by
  have B0 := hide (bplus (Below.refl w.heap.size w) (boxT ⟨k, s, n, d, i, h⟩))
  have TX := hide (tok_box (heap_alloc_new w (boxT ⟨k, s, n, d, i, h⟩)))
  have C1 := hide (tokenA_any ⟨k, s, n, d, i, h⟩ (w.alloc (boxT ⟨k, s, n, d, i, h⟩)) ho (hK.below B0.out) (hT.below B0.out))
  have CM := hide (fun (W : World) (hb : Below w.heap.size w W) => mayS_any k s n d i h W ho.k1 ho.k2 (by omega) ho.n1 ho.n2 ho.d1 ho.d2 (hK.below hb) (hT.below hb))
  have CA := hide (fun (W : World) (h : Below w.heap.size w W) => awake4_any W (hK.below h) (hT.below h))
  have EM := hide (show mayT k (bl s) n d i h = true from hm)
  have HM := hide hm
  have LEN := hide (fun (u : ByteArray) (hu : bl u = wtA ⟨k, s, n, d, i, h⟩) => len_of ho hs hu)
  have ONE := hide (fun (u : ByteArray) (hu : bl u = wtA ⟨k, s, n, d, i, h⟩) => one_toks ho hm (by show k ≠ 6; omega) (fun g => hb (bl_inj (g.2.trans bl_92.symm))) (fun g => by have : k = 2 := g.1; omega) hu)
  have eb := tl_ne hb
  have eb' : (s.toList == [92]) = false := by simpa using fun e => eb (e.trans bl_92t.symm)
  subst hk
  clear hK hT hs ho hm hb eb
  unfold TS.v at C1
  unfold tokV at *
  unfold boxT at *
  go_enter Tryz.func7, Tryz.ntmps7
  go_wp2_with (first
    | (go_at_call 8; refine C1.out.mono ?_; intro e w1 hP; obtain ⟨B1, u, c, rfl, H⟩ := hP.uni; clear hP; obtain ⟨rfl, hu⟩ := sp2_yes HM.out H.out; clear H; replace hu := hide hu; have T1 := TX.out.below B1; obtain ⟨z1, q0, q1, q2, q3, q4, q5⟩ := id T1; replace T1 := hide T1; replace B1 := hide (show Below w.heap.size w w1 from bto B0.out B1))
    | (go_at_call 16; refine (CM.out _ B1.out).mono ?_; rintro e w2 ⟨rfl, B2⟩; rw [EM.out]; replace T1 := T1.out.below B2; clear q0 q1 q2 q3 q4 q5 z1; obtain ⟨z1, q0, q1, q2, q3, q4, q5⟩ := id T1; replace T1 := hide T1; replace B1 := hide (bto B1.out B2); clear B2; obtain ⟨cv, w9, kcv, NV, BV⟩ := conv_any u w2 (Nat.le_trans (LEN.out u hu.out) (by omega)); replace NV := hide NV; replace BV := hide BV)
    | (go_at_call 14; refine (tbytesP_any (bl u) _ _ (bl_by u) NV.out (by rw [bl_len]; exact LEN.out u hu.out)).mono ?_; rintro e w3 ⟨lv, rfl, N, B3⟩; rw [ONE.out u hu.out] at N; obtain ⟨lb, lo, lc, rfl, hlb, hc1, hc9, S3⟩ := toks_oneS N; clear N; simp only [tb_bl] at S3; replace T1 := hide ((T1.out.below BV.out).below B3); replace B1 := hide (bto (bto B1.out BV.out) B3); clear B3 q0 q1 q2 q3 q4 q5 z1; replace S3 := hide S3))
  go_region_held3 (fun w' => w'.cell? ⟨w.heap.size, 0, none⟩ = some (.int .i64 9) ∧ w'.cell? ⟨w.heap.size, 1, none⟩ = some (.string s) ∧ w'.cell? ⟨w.heap.size, 2, none⟩ = some (.int .i64 n) ∧ w'.cell? ⟨w.heap.size, 3, none⟩ = some (.int .i64 d) ∧ w'.cell? ⟨w.heap.size, 4, none⟩ = some (.bool i) ∧ w'.cell? ⟨w.heap.size, 5, none⟩ = some (.bool h) ∧
    w'.cell? ⟨lb, lo, none⟩ = some (.int .i64 9) ∧ w'.cell? ⟨lb, lo + 1, none⟩ = some (.string s) ∧ w'.cell? ⟨lb, lo + 2, none⟩ = some (.int .i64 n) ∧ w'.cell? ⟨lb, lo + 3, none⟩ = some (.int .i64 d) ∧ w'.cell? ⟨lb, lo + 4, none⟩ = some (.bool i) ∧ w'.cell? ⟨lb, lo + 5, none⟩ = some (.bool h))
    ((refine keepO ?_ T1.out hlb S3.out; (repeat (first | exact Below.refl _ _ | (with_reducible refine Below.drew ?_) | (with_reducible refine below_drewN ?_ _) | (refine bto ?_ (by assumption)))); done))
    (first
      | (go_at_call 10; refine (CA.out _ (by refine bto B1.out ?_; repeat (first | exact Below.refl _ _ | (with_reducible refine Below.drew ?_) | (with_reducible refine below_drewN ?_ _) | (refine bto ?_ (by assumption))))).mono ?_; rintro _ wl ⟨rfl, hl⟩))
  all_goals
    go_wp2
    go_ret
    refine ⟨rfl, bto B1.out ?_⟩
    repeat (first | exact Below.refl _ _ | (with_reducible refine Below.drew ?_) | (with_reducible refine below_drewN ?_ _) | (refine bto ?_ (by assumption)))
set_option maxRecDepth 100000 in
set_option maxHeartbeats 8000000 in
/-- A function, but url. -/
theorem one_two (k : Int) (s : ByteArray) (n d : Int) (i h : Bool) (w : World) (ho : (⟨k, s, n, d, i, h⟩ : TS).Ok) (hs : s.size ≤ 1048576) (hm : (⟨k, s, n, d, i, h⟩ : TS).may = true) (hk : k = 2) (hb : isUrlB (bl s) = false) (hK : KT w) (hT : Tabs w) :
    Calls Tryz.prog 7 #[tokV k s n d i h] w fun e w' => e = .returned (.bool true) ∧ Below w.heap.size w w' := by
  have B0 := hide (bplus (Below.refl w.heap.size w) (boxT ⟨k, s, n, d, i, h⟩))
  have TX := hide (tok_box (heap_alloc_new w (boxT ⟨k, s, n, d, i, h⟩)))
  have C1 := hide (tokenA_any ⟨k, s, n, d, i, h⟩ (w.alloc (boxT ⟨k, s, n, d, i, h⟩)) ho (hK.below B0.out) (hT.below B0.out))
  have CM := hide (fun (W : World) (hb : Below w.heap.size w W) => mayS_any k s n d i h W ho.k1 ho.k2 (by omega) ho.n1 ho.n2 ho.d1 ho.d2 (hK.below hb) (hT.below hb))
  have CA := hide (fun (W : World) (h : Below w.heap.size w W) => awake4_any W (hK.below h) (hT.below h))
  have EM := hide (show mayT k (bl s) n d i h = true from hm)
  have HM := hide hm
  have LEN := hide (fun (u : ByteArray) (hu : bl u = wtA ⟨k, s, n, d, i, h⟩) => len_of ho hs hu)
  have ONE := hide (fun (u : ByteArray) (hu : bl u = wtA ⟨k, s, n, d, i, h⟩) => one_toks ho hm (by show k ≠ 6; omega) (fun g => by have : k = 9 := g.1; omega) (fun g => by have h : isUrlB (bl s) = true := g.2; rw [hb] at h; cases h) hu)
  have CL := hide (fun W => likeR_any s W (by omega))
  rw [hb] at CL
  subst hk
  clear hK hT hs ho hm hb
  unfold TS.v at C1
  unfold tokV at *
  unfold boxT at *
  go_enter Tryz.func7, Tryz.ntmps7
  go_wp2_with (first
    | (go_at_call 8; refine C1.out.mono ?_; intro e w1 hP; obtain ⟨B1, u, c, rfl, H⟩ := hP.uni; clear hP; obtain ⟨rfl, hu⟩ := sp2_yes HM.out H.out; clear H; replace hu := hide hu; have T1 := TX.out.below B1; obtain ⟨z1, q0, q1, q2, q3, q4, q5⟩ := id T1; replace T1 := hide T1; replace B1 := hide (show Below w.heap.size w w1 from bto B0.out B1))
    | (go_at_call 16; refine (CM.out _ B1.out).mono ?_; rintro e w2 ⟨rfl, B2⟩; rw [EM.out]; replace T1 := T1.out.below B2; clear q0 q1 q2 q3 q4 q5 z1; obtain ⟨z1, q0, q1, q2, q3, q4, q5⟩ := id T1; replace T1 := hide T1; replace B1 := hide (bto B1.out B2); clear B2; obtain ⟨cv, w9, kcv, NV, BV⟩ := conv_any u w2 (Nat.le_trans (LEN.out u hu.out) (by omega)); replace NV := hide NV; replace BV := hide BV)
    | (go_at_call 17; refine (CL.out _).mono ?_; rintro e w2 ⟨rfl, B2⟩; clear kcv NV BV; replace T1 := T1.out.below B2; clear q0 q1 q2 q3 q4 q5 z1; obtain ⟨z1, q0, q1, q2, q3, q4, q5⟩ := id T1; replace T1 := hide T1; replace B1 := hide (bto B1.out B2); clear B2; obtain ⟨cv, w9, kcv, NV, BV⟩ := conv_any u w2 (Nat.le_trans (LEN.out u hu.out) (by omega)); replace NV := hide NV; replace BV := hide BV)
    | (go_at_call 14; refine (tbytesP_any (bl u) _ _ (bl_by u) NV.out (by rw [bl_len]; exact LEN.out u hu.out)).mono ?_; rintro e w3 ⟨lv, rfl, N, B3⟩; rw [ONE.out u hu.out] at N; obtain ⟨lb, lo, lc, rfl, hlb, hc1, hc9, S3⟩ := toks_oneS N; clear N; simp only [tb_bl] at S3; replace T1 := hide ((T1.out.below BV.out).below B3); replace B1 := hide (bto (bto B1.out BV.out) B3); clear B3 q0 q1 q2 q3 q4 q5 z1; replace S3 := hide S3))
  go_region_held3 (fun w' => w'.cell? ⟨w.heap.size, 0, none⟩ = some (.int .i64 2) ∧ w'.cell? ⟨w.heap.size, 1, none⟩ = some (.string s) ∧ w'.cell? ⟨w.heap.size, 2, none⟩ = some (.int .i64 n) ∧ w'.cell? ⟨w.heap.size, 3, none⟩ = some (.int .i64 d) ∧ w'.cell? ⟨w.heap.size, 4, none⟩ = some (.bool i) ∧ w'.cell? ⟨w.heap.size, 5, none⟩ = some (.bool h) ∧
    w'.cell? ⟨lb, lo, none⟩ = some (.int .i64 2) ∧ w'.cell? ⟨lb, lo + 1, none⟩ = some (.string s) ∧ w'.cell? ⟨lb, lo + 2, none⟩ = some (.int .i64 n) ∧ w'.cell? ⟨lb, lo + 3, none⟩ = some (.int .i64 d) ∧ w'.cell? ⟨lb, lo + 4, none⟩ = some (.bool i) ∧ w'.cell? ⟨lb, lo + 5, none⟩ = some (.bool h))
    ((refine keepO ?_ T1.out hlb S3.out; (repeat (first | exact Below.refl _ _ | (with_reducible refine Below.drew ?_) | (with_reducible refine below_drewN ?_ _) | (refine bto ?_ (by assumption)))); done))
    (first
      | (go_at_call 10; refine (CA.out _ (by refine bto B1.out ?_; repeat (first | exact Below.refl _ _ | (with_reducible refine Below.drew ?_) | (with_reducible refine below_drewN ?_ _) | (refine bto ?_ (by assumption))))).mono ?_; rintro _ wl ⟨rfl, hl⟩))
  all_goals
    go_wp2
    go_ret
    refine ⟨rfl, bto B1.out ?_⟩
    repeat (first | exact Below.refl _ _ | (with_reducible refine Below.drew ?_) | (with_reducible refine below_drewN ?_ _) | (refine bto ?_ (by assumption)))
set_option maxRecDepth 100000 in
set_option maxHeartbeats 4000000 in
/-- A bad text. -/
theorem one_six (k : Int) (s : ByteArray) (n d : Int) (i h : Bool) (w : World) (ho : (⟨k, s, n, d, i, h⟩ : TS).Ok) (hs : s.size ≤ 1048576) (hm : (⟨k, s, n, d, i, h⟩ : TS).may = true) (hk : k = 6) (hK : KT w) (hT : Tabs w) :
    Calls Tryz.prog 7 #[tokV k s n d i h] w fun e w' => e = .returned (.bool true) ∧ Below w.heap.size w w' := by
  have B0 := hide (bplus (Below.refl w.heap.size w) (boxT ⟨k, s, n, d, i, h⟩))
  have TX := hide (tok_box (heap_alloc_new w (boxT ⟨k, s, n, d, i, h⟩)))
  have C1 := hide (tokenA_any ⟨k, s, n, d, i, h⟩ (w.alloc (boxT ⟨k, s, n, d, i, h⟩)) ho (hK.below B0.out) (hT.below B0.out))
  have CM := hide (fun (W : World) (hb : Below w.heap.size w W) => mayS_any k s n d i h W ho.k1 ho.k2 (by omega) ho.n1 ho.n2 ho.d1 ho.d2 (hK.below hb) (hT.below hb))
  have CA := hide (fun (W : World) (h : Below w.heap.size w W) => awake4_any W (hK.below h) (hT.below h))
  have EM := hide (show mayT k (bl s) n d i h = true from hm)
  have HM := hide hm
  subst hk
  clear hK hT hs ho hm
  unfold TS.v at C1
  unfold tokV at *
  unfold boxT at *
  go_enter Tryz.func7, Tryz.ntmps7
  go_wp2_with (first
    | (go_at_call 8; refine C1.out.mono ?_; intro e w1 hP; obtain ⟨B1, u, c, rfl, H⟩ := hP.uni; clear hP; obtain ⟨rfl, hu⟩ := sp2_yes HM.out H.out; clear H; replace hu := hide hu; have T1 := TX.out.below B1; obtain ⟨z1, q0, q1, q2, q3, q4, q5⟩ := id T1; replace T1 := hide T1; replace B1 := hide (show Below w.heap.size w w1 from bto B0.out B1))
    | (go_at_call 16; refine (CM.out _ B1.out).mono ?_; rintro e w2 ⟨rfl, B2⟩; rw [EM.out]; replace T1 := T1.out.below B2; clear q0 q1 q2 q3 q4 q5 z1; obtain ⟨z1, q0, q1, q2, q3, q4, q5⟩ := id T1; replace T1 := hide T1; replace B1 := hide (bto B1.out B2); clear B2)
    | (go_at_call 17; refine (CL.out _).mono ?_; rintro e w2 ⟨rfl, B2⟩; replace B1 := hide (bto B1.out B2); clear B2)
    | (go_at_call 10; refine (CA.out _ B1.out).mono ?_; rintro e w3 ⟨rfl, B3⟩; replace B1 := hide (bto B1.out B3)))
  go_ret
  exact ⟨rfl, B1.out⟩
set_option maxRecDepth 100000 in
set_option maxHeartbeats 4000000 in
/-- A lone backslash. -/
theorem one_back (k : Int) (s : ByteArray) (n d : Int) (i h : Bool) (w : World) (ho : (⟨k, s, n, d, i, h⟩ : TS).Ok) (hs : s.size ≤ 1048576) (hm : (⟨k, s, n, d, i, h⟩ : TS).may = true) (hk : k = 9) (hb : s = ⟨#[92]⟩) (hK : KT w) (hT : Tabs w) :
    Calls Tryz.prog 7 #[tokV k s n d i h] w fun e w' => e = .returned (.bool true) ∧ Below w.heap.size w w' := by
  have B0 := hide (bplus (Below.refl w.heap.size w) (boxT ⟨k, s, n, d, i, h⟩))
  have TX := hide (tok_box (heap_alloc_new w (boxT ⟨k, s, n, d, i, h⟩)))
  have C1 := hide (tokenA_any ⟨k, s, n, d, i, h⟩ (w.alloc (boxT ⟨k, s, n, d, i, h⟩)) ho (hK.below B0.out) (hT.below B0.out))
  have CM := hide (fun (W : World) (hb : Below w.heap.size w W) => mayS_any k s n d i h W ho.k1 ho.k2 (by omega) ho.n1 ho.n2 ho.d1 ho.d2 (hK.below hb) (hT.below hb))
  have CA := hide (fun (W : World) (h : Below w.heap.size w W) => awake4_any W (hK.below h) (hT.below h))
  have EM := hide (show mayT k (bl s) n d i h = true from hm)
  have HM := hide hm
  subst hk hb
  clear hK hT hs ho hm
  unfold TS.v at C1
  unfold tokV at *
  unfold boxT at *
  go_enter Tryz.func7, Tryz.ntmps7
  go_wp2_with (first
    | (go_at_call 8; refine C1.out.mono ?_; intro e w1 hP; obtain ⟨B1, u, c, rfl, H⟩ := hP.uni; clear hP; obtain ⟨rfl, hu⟩ := sp2_yes HM.out H.out; clear H; replace hu := hide hu; have T1 := TX.out.below B1; obtain ⟨z1, q0, q1, q2, q3, q4, q5⟩ := id T1; replace T1 := hide T1; replace B1 := hide (show Below w.heap.size w w1 from bto B0.out B1))
    | (go_at_call 16; refine (CM.out _ B1.out).mono ?_; rintro e w2 ⟨rfl, B2⟩; rw [EM.out]; replace T1 := T1.out.below B2; clear q0 q1 q2 q3 q4 q5 z1; obtain ⟨z1, q0, q1, q2, q3, q4, q5⟩ := id T1; replace T1 := hide T1; replace B1 := hide (bto B1.out B2); clear B2)
    | (go_at_call 17; refine (CL.out _).mono ?_; rintro e w2 ⟨rfl, B2⟩; replace B1 := hide (bto B1.out B2); clear B2)
    | (go_at_call 10; refine (CA.out _ B1.out).mono ?_; rintro e w3 ⟨rfl, B3⟩; replace B1 := hide (bto B1.out B3)))
  go_ret
  exact ⟨rfl, B1.out⟩
set_option maxRecDepth 100000 in
set_option maxHeartbeats 4000000 in
/-- A function url. -/
theorem one_url (k : Int) (s : ByteArray) (n d : Int) (i h : Bool) (w : World) (ho : (⟨k, s, n, d, i, h⟩ : TS).Ok) (hs : s.size ≤ 1048576) (hm : (⟨k, s, n, d, i, h⟩ : TS).may = true) (hk : k = 2) (hb : isUrlB (bl s) = true) (hK : KT w) (hT : Tabs w) :
    Calls Tryz.prog 7 #[tokV k s n d i h] w fun e w' => e = .returned (.bool true) ∧ Below w.heap.size w w' := by
  have B0 := hide (bplus (Below.refl w.heap.size w) (boxT ⟨k, s, n, d, i, h⟩))
  have TX := hide (tok_box (heap_alloc_new w (boxT ⟨k, s, n, d, i, h⟩)))
  have C1 := hide (tokenA_any ⟨k, s, n, d, i, h⟩ (w.alloc (boxT ⟨k, s, n, d, i, h⟩)) ho (hK.below B0.out) (hT.below B0.out))
  have CM := hide (fun (W : World) (hb : Below w.heap.size w W) => mayS_any k s n d i h W ho.k1 ho.k2 (by omega) ho.n1 ho.n2 ho.d1 ho.d2 (hK.below hb) (hT.below hb))
  have CA := hide (fun (W : World) (h : Below w.heap.size w W) => awake4_any W (hK.below h) (hT.below h))
  have EM := hide (show mayT k (bl s) n d i h = true from hm)
  have HM := hide hm
  have CL := hide (fun W => likeR_any s W (by omega))
  rw [hb] at CL
  subst hk
  clear hK hT hs ho hm
  unfold TS.v at C1
  unfold tokV at *
  unfold boxT at *
  go_enter Tryz.func7, Tryz.ntmps7
  go_wp2_with (first
    | (go_at_call 8; refine C1.out.mono ?_; intro e w1 hP; obtain ⟨B1, u, c, rfl, H⟩ := hP.uni; clear hP; obtain ⟨rfl, hu⟩ := sp2_yes HM.out H.out; clear H; replace hu := hide hu; have T1 := TX.out.below B1; obtain ⟨z1, q0, q1, q2, q3, q4, q5⟩ := id T1; replace T1 := hide T1; replace B1 := hide (show Below w.heap.size w w1 from bto B0.out B1))
    | (go_at_call 16; refine (CM.out _ B1.out).mono ?_; rintro e w2 ⟨rfl, B2⟩; rw [EM.out]; replace T1 := T1.out.below B2; clear q0 q1 q2 q3 q4 q5 z1; obtain ⟨z1, q0, q1, q2, q3, q4, q5⟩ := id T1; replace T1 := hide T1; replace B1 := hide (bto B1.out B2); clear B2)
    | (go_at_call 17; refine (CL.out _).mono ?_; rintro e w2 ⟨rfl, B2⟩; replace B1 := hide (bto B1.out B2); clear B2)
    | (go_at_call 10; refine (CA.out _ B1.out).mono ?_; rintro e w3 ⟨rfl, B3⟩; replace B1 := hide (bto B1.out B3)))
  go_ret
  exact ⟨rfl, B1.out⟩
/-- The law of one token, read again. -/
theorem law_one (t : TS) (w : World) (ho : t.Ok) (hs : t.s.size ≤ 1048576) (hK : KT w) (hT : Tabs w) :
    Calls Tryz.prog 7 #[t.v] w fun e w' => e = .returned (.bool true) ∧ Below w.heap.size w w' := by
  obtain ⟨k, s, n, d, i, h⟩ := t
  cases hm : (⟨k, s, n, d, i, h⟩ : TS).may with
  | false => exact one_no k s n d i h w ho hm hK hT
  | true =>
    by_cases e6 : k = 6
    · exact one_six k s n d i h w ho hs hm e6 hK hT
    by_cases e9 : k = 9
    · by_cases hb : s = ⟨#[92]⟩
      · exact one_back k s n d i h w ho hs hm e9 hb hK hT
      · exact one_nine k s n d i h w ho hs hm e9 hb hK hT
    by_cases e2 : k = 2
    · cases hb : isUrlB (bl s) with
      | true => exact one_url k s n d i h w ho hs hm e2 hb hK hT
      | false => exact one_two k s n d i h w ho hs hm e2 hb hK hT
    exact one_yes k s n d i h w ho hs hm e6 e9 e2 hK hT
end Go.Proofs.YtcclhdiphcfdfaaGreatDoor
