/-
  Numbers to the base 16, by the library; which characters are hidden, which are a name's.
-/
import Derived.Test.YticboondiojofaaGreatDoorSpwA
set_option linter.unusedVariables false
set_option linter.unusedSimpArgs false
namespace Go.Proofs.YticboondiojofaaGreatDoor
open Go.RowKit

def isHid (c : Int) : Bool := (decide (1 ≤ c) && decide (c ≤ 31)) || (c == 127) || (c == 65279)
theorem hid_cases (c : Int) : c < 1 ∨ (1 ≤ c ∧ c ≤ 31) ∨ (31 < c ∧ c < 127) ∨ c = 127 ∨ (127 < c ∧ c < 65279) ∨ c = 65279 ∨ 65279 < c := by omega
set_option maxHeartbeats 1000000 in
theorem isHidden_any (c : Int) (w : World) : Calls Tryz.prog 81 #[.int .i32 c] w fun e w' => e = .returned (.bool (isHid c)) ∧ w' = w := by
  rcases hid_cases c with h | ⟨h, g⟩ | ⟨h, g⟩ | rfl | ⟨h, g⟩ | rfl | h
  case inr.inr.inr.inl =>
    go_enter Tryz.func81, Tryz.ntmps81
    go_wp2
    go_ret
    exact ⟨rfl, rfl⟩
  case inr.inr.inr.inr.inr.inl =>
    go_enter Tryz.func81, Tryz.ntmps81
    go_wp2
    go_ret
    exact ⟨rfl, rfl⟩
  all_goals
    have n1 : (c == 127) = false := by simp; omega
    have n2 : (c == 65279) = false := by simp; omega
    go_enter Tryz.func81, Tryz.ntmps81
    go_wp2
    go_ret
    exact ⟨ret_bool (by rw [Bool.eq_iff_iff]; simp [isHid]; try omega), rfl⟩
set_option maxHeartbeats 1000000 in
theorem hiddenR_any (c : Int) (w : World) : Calls Tryz.prog 45 #[.int .i32 c] w fun e w' => e = .returned (.bool (isHid c)) ∧ w' = w := by
  rcases hid_cases c with h | ⟨h, g⟩ | ⟨h, g⟩ | rfl | ⟨h, g⟩ | rfl | h
  case inr.inr.inr.inl =>
    go_enter Tryz.func45, Tryz.ntmps45
    go_wp2
    go_ret
    exact ⟨rfl, rfl⟩
  case inr.inr.inr.inr.inr.inl =>
    go_enter Tryz.func45, Tryz.ntmps45
    go_wp2
    go_ret
    exact ⟨rfl, rfl⟩
  all_goals
    have n1 : (c == 127) = false := by simp; omega
    have n2 : (c == 65279) = false := by simp; omega
    go_enter Tryz.func45, Tryz.ntmps45
    go_wp2
    go_ret
    exact ⟨ret_bool (by rw [Bool.eq_iff_iff]; simp [isHid]; try omega), rfl⟩
/-! ### To the base 16 -/
theorem pow2_16 (w : World) : Calls Tryz.prog 152 #[.int .i64 16] w fun e w' => e = .returned (.bool true) ∧ w' = w := by
  have k : bits .and .i64 16 15 = 0 := by kernel_rfl
  go_enter Tryz.func152, Tryz.ntmps152
  go_wp2
  go_ret
  exact ⟨rfl, rfl⟩
theorem tz16 (w : World) (hT : Tabs w) : Calls Tryz.prog 153 #[.int .u64 16] w fun e w' => e = .returned (.int .i64 4) ∧ w' = w := by
  have C := hide (tz_any 16 w (by omega) (by omega) hT)
  have E := hide (show Lib.ctz 64 16 = 4 by rfl)
  go_enter Tryz.func153, Tryz.ntmps153
  go_wp2_with (go_at_call 142; refine C.out.mono ?_; rintro e w' ⟨rfl, rfl⟩; rw [E.out])
  go_ret
  exact ⟨rfl, rfl⟩
theorem and15 (x : Nat) (h : x < 18446744073709551616) : bits .and .u64 (x : Int) 15 = ((x % 16 : Nat) : Int) := by
  have := bits_and_u64_nat x 15 h (by omega)
  rw [show ((15 : Nat) : Int) = 15 by rfl] at this
  rw [this, show (15 : Nat) = 2 ^ 4 - 1 by rfl, Nat.and_two_pow_sub_one_eq_mod]
def hd (n : Nat) : Int := if n < 10 then 48 + n else 87 + n
/-- A number to the base 16. -/
def hxL (n : Nat) : List Int := if h : n < 16 then [hd n] else hxL (n / 16) ++ [hd (n % 16)]
termination_by n
decreasing_by omega
theorem hxL_one {n : Nat} (h : n < 16) : hxL n = [hd n] := by rw [hxL, dif_pos h]
theorem hxL_big {n : Nat} (h : ¬ n < 16) : hxL n = hxL (n / 16) ++ [hd (n % 16)] := by rw [hxL, dif_neg h]
def DG : ByteArray := ⟨#[48, 49, 50, 51, 52, 53, 54, 55, 56, 57, 97, 98, 99, 100, 101, 102, 103, 104, 105, 106, 107, 108, 109, 110, 111, 112, 113, 114, 115, 116, 117, 118, 119, 120, 121, 122]⟩
theorem DG_at : ∀ n : Fin 16, ((DG.data[n.val]?).getD 0).toNat = (hd n.val).toNat ∧ 48 ≤ hd n.val ∧ hd n.val ≤ 102 := by decide
theorem DG_hd (n : Nat) (h : n < 16) (h2 : n < DG.size) : ((DG[n]'h2).toNat : Int) = hd n := by
  have := DG_at ⟨n, h⟩
  have e : (DG.data[n]?).getD 0 = DG[n] := by
    have h3 : n < DG.data.size := h2
    rw [Array.getElem?_eq_getElem h3]; rfl
  simp only [e] at this
  omega
/-- The bytes of a row, as far as they are laid from its end. -/
structure HB (w wr : World) (k : Nat) (ds : List Int) : Prop where
  bel : Below w.heap.size w wr
  lt : w.heap.size < wr.heap.size
  len : ds.length = k
  le : k ≤ 65
  fr : ∀ j, wr.frozen? ⟨w.heap.size, j, none⟩ = false
  all : ∀ j, j < 65 → ∃ v, wr.cell? ⟨w.heap.size, j, none⟩ = some v
  at_ : ∀ t, t < k → wr.cell? ⟨w.heap.size, 65 - k + t, none⟩ = some (.int .u8 (gt ds t))
theorem HB.set {w wr : World} {k : Nat} {ds : List Int} (h : HB w wr k ds) (hk : k < 65) (x : Int) : HB w (wr.setCell ⟨w.heap.size, 64 - k, none⟩ (.int .u8 x)) (k + 1) (x :: ds) := by
  obtain ⟨v0, hv0⟩ := h.all (64 - k) (by omega)
  refine ⟨h.bel.setCell (p := ⟨w.heap.size, 64 - k, none⟩) (Nat.le_refl _) _, by simpa using h.lt, by simp [h.len], by omega, fun j => ?_, fun j hj => ?_, fun t ht => ?_⟩
  · rw [World.frozen?_setCell]; exact h.fr j
  · by_cases e : j = 64 - k
    · subst e; exact ⟨_, World.cell?_setCell_same wr ⟨w.heap.size, 64 - k, none⟩ _ hv0⟩
    · obtain ⟨v, hv⟩ := h.all j hj
      exact ⟨v, by rw [World.cell?_setCell_other wr ⟨w.heap.size, 64 - k, none⟩ ⟨w.heap.size, j, none⟩ _ (by simp; try exact e)]; exact hv⟩
  · cases t with
    | zero =>
      rw [show 65 - (k + 1) + 0 = 64 - k by omega]
      exact World.cell?_setCell_same wr ⟨w.heap.size, 64 - k, none⟩ _ hv0
    | succ t =>
      rw [show 65 - (k + 1) + (t + 1) = 65 - k + t by omega, World.cell?_setCell_other wr ⟨w.heap.size, 64 - k, none⟩ ⟨w.heap.size, 65 - k + t, none⟩ _ (by simp; try omega), h.at_ t (by omega)]
      simp [gt]
theorem HB.start (w : World) (cs : Array Value) (T : TypeId) (hs : cs.size = 65) : HB w (w.alloc (.cells cs T)) 0 [] := by
  have hb := heap_alloc_new w (.cells cs T)
  refine ⟨bplus (Below.refl _ _) _, by simp, rfl, by omega, fun j => World.frozen?_alloc_new _ _ _ _, fun j hj => ?_, fun t ht => by omega⟩
  rw [row_blk hb]
  exact ⟨cs[j]'(by omega), Array.getElem?_eq_getElem (by omega)⟩
theorem HB.conv {w wr : World} {k : Nat} {ds : List Int} (h : HB w wr k ds) (hb : By ds) (c : Nat) : ∃ s, bl s = ds ∧ (convert 36 9 (.slice (some ⟨w.heap.size, 65 - k, none⟩) k c)).run Tryz.prog wr = .ok (.string s) wr := by
  have e : ∀ j, j < ds.length → (((ds.map fun x => UInt8.ofNat x.toNat).getD j 0).toNat : Int) = gt ds j := fun j hj => by
    have := hb (ds[j]) (List.getElem_mem hj)
    rw [gt_eq hj]
    simp [List.getD_eq_getElem?_getD, List.getElem?_map, List.getElem?_eq_getElem hj]
    omega
  refine ⟨⟨(ds.map fun x => UInt8.ofNat x.toNat).toArray⟩, ?_, ?_⟩
  · unfold bl
    rw [List.toList_toArray, List.map_map]
    conv => rhs; rw [← List.map_id ds]
    refine List.map_congr_left fun x hx => ?_
    have := hb x hx
    simp
    omega
  · have k' := run_convert_bytes_back (P := Tryz.prog) wr 36 9 5 ⟨w.heap.size, 65 - k, none⟩ c (ds.map fun x => UInt8.ofNat x.toNat) Tryz.underlying36 Tryz.underlying5 Tryz.underlying9 (fun j hj => by
      have hj' : j < ds.length := by simpa using hj
      have e2 := e j hj'
      rw [List.getD_eq_getElem?_getD, List.getElem?_eq_getElem hj] at e2
      rw [Lib.add_plain, h.at_ j (by rw [← h.len]; exact hj'), ← e2]
      rfl)
    rw [List.length_map, h.len] at k'
    exact k'
/-- The state of the loop over digits. -/
def RelHx (w : World) (c : Nat) (u i : Value) (wr : World) : Prop := ∃ k ds, k ≤ 3 ∧ u = .int .u64 ((c / 16 ^ k : Nat) : Int) ∧ i = .int .i64 ((65 - k : Nat) : Int) ∧ Hid (HB w wr k ds ∧ hxL c = hxL (c / 16 ^ k) ++ ds ∧ By ds)
theorem RelHx.mk {w : World} {c : Nat} {u i : Value} {wr : World} (k : Nat) (ds : List Int) (h1 : k ≤ 3) (h2 : u = .int .u64 ((c / 16 ^ k : Nat) : Int)) (h3 : i = .int .i64 ((65 - k : Nat) : Int)) (h4 : HB w wr k ds ∧ hxL c = hxL (c / 16 ^ k) ++ ds ∧ By ds) : RelHx w c u i wr := ⟨k, ds, h1, h2, h3, h4⟩
theorem hd_by (n : Nat) (h : n < 16) : 0 ≤ hd n ∧ hd n ≤ 255 := by unfold hd; split <;> omega
theorem hx_step {w wr : World} {c k : Nat} {ds : List Int} (h : HB w wr k ds ∧ hxL c = hxL (c / 16 ^ k) ++ ds ∧ By ds) (hk : k < 65) (hc : ¬ c / 16 ^ k < 16) {x : Int} (hx : x = hd (c / 16 ^ k % 16)) :
    HB w (wr.setCell ⟨w.heap.size, 64 - k, none⟩ (.int .u8 x)) (k + 1) (x :: ds) ∧ hxL c = hxL (c / 16 ^ (k + 1)) ++ (x :: ds) ∧ By (x :: ds) := by
  refine ⟨h.1.set hk x, ?_, fun y hy => ?_⟩
  · rw [h.2.1, hxL_big hc, Nat.div_div_eq_div_mul, ← Nat.pow_succ, List.append_assoc, hx]; rfl
  · rcases List.mem_cons.1 hy with rfl | hy
    · rw [hx]; exact hd_by _ (Nat.mod_lt _ (by omega))
    · exact h.2.2 y hy
theorem hx_last {w wr : World} {c k : Nat} {ds : List Int} (h : HB w wr k ds ∧ hxL c = hxL (c / 16 ^ k) ++ ds ∧ By ds) (hk : k < 65) (hc : c / 16 ^ k < 16) {x : Int} (hx : x = hd (c / 16 ^ k)) :
    HB w (wr.setCell ⟨w.heap.size, 64 - k, none⟩ (.int .u8 x)) (k + 1) (x :: ds) ∧ hxL c = x :: ds ∧ By (x :: ds) := by
  refine ⟨h.1.set hk x, ?_, fun y hy => ?_⟩
  · rw [h.2.1, hxL_one hc, hx]; rfl
  · rcases List.mem_cons.1 hy with rfl | hy
    · rw [hx]; exact hd_by _ hc
    · exact h.2.2 y hy
set_option maxRecDepth 100000 in
set_option maxHeartbeats 4000000 in
theorem fb16 (c : Nat) (w : World) (hc : c < 65536) (hT : Tabs w) :
    Calls Tryz.prog 111 #[.slice none 0 0, .int .u64 (c : Int), .int .i64 16, .bool false, .bool false] w fun e w' => ∃ a s, e = .returned (.tuple #[a, .string s]) ∧ bl s = hxL c ∧ Below w.heap.size w w' := by
  have W1 := hide (fun (W : World) (h : Below w.heap.size w W) => hT.below h)
  have HS := hide (HB.start w Tryz.zeroCells135 135 (by kernel_rfl))
  clear hT
  go_enter Tryz.func111, Tryz.ntmps111
  go_wp2_with (first
    | (go_at_call 152; refine (pow2_16 _).mono ?_; rintro e w' ⟨rfl, rfl⟩)
    | (go_at_call 153; refine (tz16 _ (W1.out _ (bplus (Below.refl _ _) _))).mono ?_; rintro e w' ⟨rfl, rfl⟩))
  go_loopw [1, 13] (fun u i wr => RelHx w c u i wr) (fun u _ _ => (intOf u).toNat)
  case atStart => exact .mk 0 [] (by omega) (by simp) rfl ⟨HS.out, by simp, fun x hx => by simp at hx⟩
  case round =>
    clear HS W1
    obtain ⟨k, ds, hk, rfl, rfl, R⟩ := hrel
    have u9 : c / 16 ^ k < 65536 := Nat.lt_of_le_of_lt (Nat.div_le_self _ _) hc
    by_cases hu : c / 16 ^ k < 16
    · have k3 : k = 0 ∨ k = 1 ∨ k = 2 ∨ k = 3 := by omega
      rcases k3 with rfl | rfl | rfl | rfl
      · obtain ⟨v, hv⟩ := R.out.1.all 64 (by omega)
        have fr := R.out.1.fr 64
        obtain ⟨u, hu9⟩ : ∃ u, c / 16 ^ 0 = u := ⟨_, rfl⟩
        have ST := hx_last (x := hd u) R.out (by omega) hu (by rw [hu9])
        rw [hu9] at hu u9
        rw [hu9]
        rw [← DG_hd u hu (by show u < 36; omega)] at ST
        have hx' : (u : Int) < 16 := by omega
        have i1 : (0 : Int) ≤ (u : Int) := by omega
        have u36 : u < 36 := by omega
        obtain ⟨s, hs, hcv⟩ := ST.1.conv ST.2.2 1
        have kcv : (convert 36 9 (.slice (some ⟨w.heap.size, 64, none⟩) 1 1)).run Tryz.prog (wr.setCell ⟨w.heap.size, 64, none⟩ (.int .u8 ((((⟨#[48, 49, 50, 51, 52, 53, 54, 55, 56, 57, 97, 98, 99, 100, 101, 102, 103, 104, 105, 106, 107, 108, 109, 110, 111, 112, 113, 114, 115, 116, 117, 118, 119, 120, 121, 122]⟩ : ByteArray)[u]'(by show u < 36; exact u36)).toNat : Int)))) = .ok (.string s) (wr.setCell ⟨w.heap.size, 64, none⟩ (.int .u8 ((((⟨#[48, 49, 50, 51, 52, 53, 54, 55, 56, 57, 97, 98, 99, 100, 101, 102, 103, 104, 105, 106, 107, 108, 109, 110, 111, 112, 113, 114, 115, 116, 117, 118, 119, 120, 121, 122]⟩ : ByteArray)[u]'(by show u < 36; exact u36)).toNat : Int)))) := hcv
        have BB := hide (show Below w.heap.size w (wr.setCell ⟨w.heap.size, 64, none⟩ (.int .u8 ((((⟨#[48, 49, 50, 51, 52, 53, 54, 55, 56, 57, 97, 98, 99, 100, 101, 102, 103, 104, 105, 106, 107, 108, 109, 110, 111, 112, 113, 114, 115, 116, 117, 118, 119, 120, 121, 122]⟩ : ByteArray)[u]'(by show u < 36; exact u36)).toNat : Int)))) from ST.1.bel)
        have HS := hide (hs.trans ST.2.1.symm)
        clear R ST hs hcv
        replace hu9 := hide hu9
        go_wp2
        go_ret2
        exact ⟨_, s, rfl, HS.out, BB.out⟩
      · obtain ⟨v, hv⟩ := R.out.1.all 63 (by omega)
        have fr := R.out.1.fr 63
        obtain ⟨u, hu9⟩ : ∃ u, c / 16 ^ 1 = u := ⟨_, rfl⟩
        have ST := hx_last (x := hd u) R.out (by omega) hu (by rw [hu9])
        rw [hu9] at hu u9
        rw [hu9]
        rw [← DG_hd u hu (by show u < 36; omega)] at ST
        have hx' : (u : Int) < 16 := by omega
        have i1 : (0 : Int) ≤ (u : Int) := by omega
        have u36 : u < 36 := by omega
        obtain ⟨s, hs, hcv⟩ := ST.1.conv ST.2.2 2
        have kcv : (convert 36 9 (.slice (some ⟨w.heap.size, 63, none⟩) 2 2)).run Tryz.prog (wr.setCell ⟨w.heap.size, 63, none⟩ (.int .u8 ((((⟨#[48, 49, 50, 51, 52, 53, 54, 55, 56, 57, 97, 98, 99, 100, 101, 102, 103, 104, 105, 106, 107, 108, 109, 110, 111, 112, 113, 114, 115, 116, 117, 118, 119, 120, 121, 122]⟩ : ByteArray)[u]'(by show u < 36; exact u36)).toNat : Int)))) = .ok (.string s) (wr.setCell ⟨w.heap.size, 63, none⟩ (.int .u8 ((((⟨#[48, 49, 50, 51, 52, 53, 54, 55, 56, 57, 97, 98, 99, 100, 101, 102, 103, 104, 105, 106, 107, 108, 109, 110, 111, 112, 113, 114, 115, 116, 117, 118, 119, 120, 121, 122]⟩ : ByteArray)[u]'(by show u < 36; exact u36)).toNat : Int)))) := hcv
        have BB := hide (show Below w.heap.size w (wr.setCell ⟨w.heap.size, 63, none⟩ (.int .u8 ((((⟨#[48, 49, 50, 51, 52, 53, 54, 55, 56, 57, 97, 98, 99, 100, 101, 102, 103, 104, 105, 106, 107, 108, 109, 110, 111, 112, 113, 114, 115, 116, 117, 118, 119, 120, 121, 122]⟩ : ByteArray)[u]'(by show u < 36; exact u36)).toNat : Int)))) from ST.1.bel)
        have HS := hide (hs.trans ST.2.1.symm)
        clear R ST hs hcv
        replace hu9 := hide hu9
        go_wp2
        go_ret2
        exact ⟨_, s, rfl, HS.out, BB.out⟩
      · obtain ⟨v, hv⟩ := R.out.1.all 62 (by omega)
        have fr := R.out.1.fr 62
        obtain ⟨u, hu9⟩ : ∃ u, c / 16 ^ 2 = u := ⟨_, rfl⟩
        have ST := hx_last (x := hd u) R.out (by omega) hu (by rw [hu9])
        rw [hu9] at hu u9
        rw [hu9]
        rw [← DG_hd u hu (by show u < 36; omega)] at ST
        have hx' : (u : Int) < 16 := by omega
        have i1 : (0 : Int) ≤ (u : Int) := by omega
        have u36 : u < 36 := by omega
        obtain ⟨s, hs, hcv⟩ := ST.1.conv ST.2.2 3
        have kcv : (convert 36 9 (.slice (some ⟨w.heap.size, 62, none⟩) 3 3)).run Tryz.prog (wr.setCell ⟨w.heap.size, 62, none⟩ (.int .u8 ((((⟨#[48, 49, 50, 51, 52, 53, 54, 55, 56, 57, 97, 98, 99, 100, 101, 102, 103, 104, 105, 106, 107, 108, 109, 110, 111, 112, 113, 114, 115, 116, 117, 118, 119, 120, 121, 122]⟩ : ByteArray)[u]'(by show u < 36; exact u36)).toNat : Int)))) = .ok (.string s) (wr.setCell ⟨w.heap.size, 62, none⟩ (.int .u8 ((((⟨#[48, 49, 50, 51, 52, 53, 54, 55, 56, 57, 97, 98, 99, 100, 101, 102, 103, 104, 105, 106, 107, 108, 109, 110, 111, 112, 113, 114, 115, 116, 117, 118, 119, 120, 121, 122]⟩ : ByteArray)[u]'(by show u < 36; exact u36)).toNat : Int)))) := hcv
        have BB := hide (show Below w.heap.size w (wr.setCell ⟨w.heap.size, 62, none⟩ (.int .u8 ((((⟨#[48, 49, 50, 51, 52, 53, 54, 55, 56, 57, 97, 98, 99, 100, 101, 102, 103, 104, 105, 106, 107, 108, 109, 110, 111, 112, 113, 114, 115, 116, 117, 118, 119, 120, 121, 122]⟩ : ByteArray)[u]'(by show u < 36; exact u36)).toNat : Int)))) from ST.1.bel)
        have HS := hide (hs.trans ST.2.1.symm)
        clear R ST hs hcv
        replace hu9 := hide hu9
        go_wp2
        go_ret2
        exact ⟨_, s, rfl, HS.out, BB.out⟩
      · obtain ⟨v, hv⟩ := R.out.1.all 61 (by omega)
        have fr := R.out.1.fr 61
        obtain ⟨u, hu9⟩ : ∃ u, c / 16 ^ 3 = u := ⟨_, rfl⟩
        have ST := hx_last (x := hd u) R.out (by omega) hu (by rw [hu9])
        rw [hu9] at hu u9
        rw [hu9]
        rw [← DG_hd u hu (by show u < 36; omega)] at ST
        have hx' : (u : Int) < 16 := by omega
        have i1 : (0 : Int) ≤ (u : Int) := by omega
        have u36 : u < 36 := by omega
        obtain ⟨s, hs, hcv⟩ := ST.1.conv ST.2.2 4
        have kcv : (convert 36 9 (.slice (some ⟨w.heap.size, 61, none⟩) 4 4)).run Tryz.prog (wr.setCell ⟨w.heap.size, 61, none⟩ (.int .u8 ((((⟨#[48, 49, 50, 51, 52, 53, 54, 55, 56, 57, 97, 98, 99, 100, 101, 102, 103, 104, 105, 106, 107, 108, 109, 110, 111, 112, 113, 114, 115, 116, 117, 118, 119, 120, 121, 122]⟩ : ByteArray)[u]'(by show u < 36; exact u36)).toNat : Int)))) = .ok (.string s) (wr.setCell ⟨w.heap.size, 61, none⟩ (.int .u8 ((((⟨#[48, 49, 50, 51, 52, 53, 54, 55, 56, 57, 97, 98, 99, 100, 101, 102, 103, 104, 105, 106, 107, 108, 109, 110, 111, 112, 113, 114, 115, 116, 117, 118, 119, 120, 121, 122]⟩ : ByteArray)[u]'(by show u < 36; exact u36)).toNat : Int)))) := hcv
        have BB := hide (show Below w.heap.size w (wr.setCell ⟨w.heap.size, 61, none⟩ (.int .u8 ((((⟨#[48, 49, 50, 51, 52, 53, 54, 55, 56, 57, 97, 98, 99, 100, 101, 102, 103, 104, 105, 106, 107, 108, 109, 110, 111, 112, 113, 114, 115, 116, 117, 118, 119, 120, 121, 122]⟩ : ByteArray)[u]'(by show u < 36; exact u36)).toNat : Int)))) from ST.1.bel)
        have HS := hide (hs.trans ST.2.1.symm)
        clear R ST hs hcv
        replace hu9 := hide hu9
        go_wp2
        go_ret2
        exact ⟨_, s, rfl, HS.out, BB.out⟩
    · have k2 : k = 0 ∨ k = 1 ∨ k = 2 := by
        have : k ≠ 3 := fun h => hu (by rw [h]; omega)
        omega
      rcases k2 with rfl | rfl | rfl
      · obtain ⟨v, hv⟩ := R.out.1.all 64 (by omega)
        have fr := R.out.1.fr 64
        have hx' : ¬ ((c / 16 ^ 0 : Nat) : Int) < 16 := by omega
        have an := and15 (c / 16 ^ 0) (by omega)
        have xm : c / 16 ^ 0 % 16 < 16 := Nat.mod_lt _ (by omega)
        obtain ⟨u, hu9⟩ : ∃ u, c / 16 ^ 0 = u := ⟨_, rfl⟩
        have ST := hide (fun x hx => hx_step (x := x) R.out (by omega) hu hx)
        have NX := hide (show c / 16 ^ (0 + 1) = u / 16 by rw [← hu9, Nat.div_div_eq_div_mul, ← Nat.pow_succ])
        rw [hu9] at hx' an xm hu u9 ST
        rw [hu9]
        obtain ⟨y, hy9⟩ : ∃ y, u % 16 = y := ⟨_, rfl⟩
        rw [hy9] at an xm ST
        have i1 : (0 : Int) ≤ (y : Int) := by omega
        have i2 : (y : Int) < 36 := by omega
        have y36 : y < 36 := by omega
        clear hu hu9 hy9 R
        go_wp2
        go_roundw
        case rel =>
          refine .mk 1 (hd y :: ds) (by omega) (by rw [NX.out]; congr 1) rfl ?_
          have := ST.out (hd y) rfl
          rw [← DG_hd y (by omega) (by show y < 36; omega)] at this ⊢
          exact this
        case measure => simp [intOf]; omega
      · obtain ⟨v, hv⟩ := R.out.1.all 63 (by omega)
        have fr := R.out.1.fr 63
        have hx' : ¬ ((c / 16 ^ 1 : Nat) : Int) < 16 := by omega
        have an := and15 (c / 16 ^ 1) (by omega)
        have xm : c / 16 ^ 1 % 16 < 16 := Nat.mod_lt _ (by omega)
        obtain ⟨u, hu9⟩ : ∃ u, c / 16 ^ 1 = u := ⟨_, rfl⟩
        have ST := hide (fun x hx => hx_step (x := x) R.out (by omega) hu hx)
        have NX := hide (show c / 16 ^ (1 + 1) = u / 16 by rw [← hu9, Nat.div_div_eq_div_mul, ← Nat.pow_succ])
        rw [hu9] at hx' an xm hu u9 ST
        rw [hu9]
        obtain ⟨y, hy9⟩ : ∃ y, u % 16 = y := ⟨_, rfl⟩
        rw [hy9] at an xm ST
        have i1 : (0 : Int) ≤ (y : Int) := by omega
        have i2 : (y : Int) < 36 := by omega
        have y36 : y < 36 := by omega
        clear hu hu9 hy9 R
        go_wp2
        go_roundw
        case rel =>
          refine .mk 2 (hd y :: ds) (by omega) (by rw [NX.out]; congr 1) rfl ?_
          have := ST.out (hd y) rfl
          rw [← DG_hd y (by omega) (by show y < 36; omega)] at this ⊢
          exact this
        case measure => simp [intOf]; omega
      · obtain ⟨v, hv⟩ := R.out.1.all 62 (by omega)
        have fr := R.out.1.fr 62
        have hx' : ¬ ((c / 16 ^ 2 : Nat) : Int) < 16 := by omega
        have an := and15 (c / 16 ^ 2) (by omega)
        have xm : c / 16 ^ 2 % 16 < 16 := Nat.mod_lt _ (by omega)
        obtain ⟨u, hu9⟩ : ∃ u, c / 16 ^ 2 = u := ⟨_, rfl⟩
        have ST := hide (fun x hx => hx_step (x := x) R.out (by omega) hu hx)
        have NX := hide (show c / 16 ^ (2 + 1) = u / 16 by rw [← hu9, Nat.div_div_eq_div_mul, ← Nat.pow_succ])
        rw [hu9] at hx' an xm hu u9 ST
        rw [hu9]
        obtain ⟨y, hy9⟩ : ∃ y, u % 16 = y := ⟨_, rfl⟩
        rw [hy9] at an xm ST
        have i1 : (0 : Int) ≤ (y : Int) := by omega
        have i2 : (y : Int) < 36 := by omega
        have y36 : y < 36 := by omega
        clear hu hu9 hy9 R
        go_wp2
        go_roundw
        case rel =>
          refine .mk 3 (hd y :: ds) (by omega) (by rw [NX.out]; congr 1) rfl ?_
          have := ST.out (hd y) rfl
          rw [← DG_hd y (by omega) (by show y < 36; omega)] at this ⊢
          exact this
        case measure => simp [intOf]; omega
theorem ifmt16 (c : Nat) (w : World) (hc : c < 65536) (hT : Tabs w) :
    Calls Tryz.prog 112 #[.int .i64 (c : Int), .int .i64 16] w fun e w' => ∃ s, e = .returned (.string s) ∧ bl s = hxL c ∧ Below w.heap.size w w' := by
  have C := hide (fb16 c w hc hT)
  have c0 : (0 : Int) ≤ c := by omega
  have c1 : (c : Int) < 65536 := by omega
  go_enter Tryz.func112, Tryz.ntmps112
  go_wp2_with (go_at_call 111; refine C.out.mono ?_; rintro e w' ⟨a, s, rfl, hs, hb⟩; replace hs := hide hs; replace hb := hide hb)
  go_ret
  exact ⟨s, rfl, hs.out, hb.out⟩
theorem fmt16 (c : Int) (w : World) (c0 : 0 ≤ c) (hc : c < 65536) (hT : Tabs w) :
    Calls Tryz.prog 70 #[.int .i64 c, .int .i64 16] w fun e w' => ∃ s, e = .returned (.string s) ∧ bl s = hxL c.toNat ∧ Below w.heap.size w w' := by
  obtain ⟨n, rfl⟩ := Int.eq_ofNat_of_zero_le c0
  have C := hide (ifmt16 n w (by omega) hT)
  go_enter Tryz.func70, Tryz.ntmps70
  go_wp2_with (go_at_call 112; refine C.out.mono ?_; rintro e w' ⟨s, rfl, hs, hb⟩; replace hs := hide hs; replace hb := hide hb)
  go_ret
  exact ⟨s, rfl, hs.out, hb.out⟩
end Go.Proofs.YticboondiojofaaGreatDoor
