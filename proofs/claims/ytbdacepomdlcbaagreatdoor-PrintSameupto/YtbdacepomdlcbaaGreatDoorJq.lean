/-
  The writer of texts: its methods, as lists of numbers; plain: what is written.
  Numbers to the base 16, by the library; which characters are hidden, which are a name's.
  Characters of a name, written: by the program.
  An identifier, written: by the program.
  An identifier, written: the program's loop.
  The reference's texts of characters.
  The reference's names.
  The reference's identifiers.
-/
import Derived.Test.YtbdacepomdlcbaaGreatDoorJp
import Derived.Test.YtbdacepomdlcbaaGreatDoorShelfW
import Derived.Lib.OthersKept
import Derived.Lib.DecodeN
import Derived.Test.YtbdacepomdlcbaaGreatDoorJb
set_option linter.unusedVariables false
set_option linter.unusedSimpArgs false
namespace Go.Proofs.YtbdacepomdlcbaaGreatDoor
open Go.RowKit Go.Shelf

def cI8 (xs : List Int) : List Value := xs.map fun x => Value.int .u8 x
/-- A builder that holds these bytes. -/
def Bd (B b : Nat) (xs : List Int) (w : World) : Prop := Lib.IsBuilderF 49 5 B b (cI8 xs) w
/-- What a writer leaves. -/
structure PB (B b : Nat) (xs : List Int) (w w' : World) : Prop where
  bd : Bd B b xs w'
  bel : Below B w w'
  oth : Lib.OthersKept 5 (some b) w w'
theorem PB.trans {B b : Nat} {xs ys : List Int} {w w1 w2 : World} (h : PB B b xs w w1) (k : PB B b ys w1 w2) : PB B b ys w w2 := ⟨k.bd, h.bel.trans k.bel, h.oth.trans k.oth⟩
theorem PB.size {B b : Nat} {xs : List Int} {w w1 : World} (h : PB B b xs w w1) (hB : B ≤ w.heap.size) : B ≤ w1.heap.size := Nat.le_trans hB h.bel.size
theorem cI8_app (xs ys : List Int) : cI8 (xs ++ ys) = cI8 xs ++ cI8 ys := by unfold cI8; rw [List.map_append]
theorem cI8_len (xs : List Int) : (cI8 xs).length = xs.length := by unfold cI8; rw [List.length_map]
theorem wbyte_any (B b : Nat) (xs : List Int) (c : Int) (w : World) (h : Bd B b xs w) (hl : xs.length + 1 ≤ 140737488355328) (hB : B ≤ w.heap.size) :
    Calls Tryz.prog 47 #[.pointer (some ⟨b, 0, none⟩), .int .u8 c] w fun e w' => e = .returned .nilIface ∧ PB B b (xs ++ [c]) w w' :=
  (Any.Builder_WriteByte_k wr_lays167 wr_extra B b (cI8 xs) c w h (by rw [cI8_len]; exact hl) hB).mono fun e w' ⟨h1, h2, h3, h4⟩ => ⟨h1, ⟨by unfold Bd; rw [cI8_app]; exact Or.inr h2, h3, h4⟩⟩
theorem strCells_bl (s : ByteArray) : Lib.strCells s = cI8 (bl s) := by
  unfold Lib.strCells cI8 bl
  simp [List.map_map, Function.comp_def]
theorem wstr_any (B b : Nat) (xs : List Int) (s : ByteArray) (w : World) (h : Bd B b xs w) (hl : xs.length + s.size ≤ 140737488355328) (hB : B ≤ w.heap.size) :
    Calls Tryz.prog 39 #[.pointer (some ⟨b, 0, none⟩), .string s] w fun e w' => e = .returned (.tuple #[.int .i64 s.size, .nilIface]) ∧ PB B b (xs ++ bl s) w w' :=
  (Any.Builder_WriteString_k wr_lays166 wr_extra B b (cI8 xs) s w h (by rw [cI8_len]; exact hl) hB).mono fun e w' ⟨h1, h2, h3, h4⟩ => ⟨h1, ⟨by unfold Bd; rw [cI8_app, ← strCells_bl]; exact Or.inr h2, h3, h4⟩⟩
theorem rune_enc {c : Int} (h : isC c = true) : Lib.runeCells c = cI8 (enc1 c) := by
  rw [isC_iff] at h
  unfold Lib.runeCells cI8
  congr 1
  unfold enc1
  split
  · exact Lib.encodeRuneZ_one h.1 (by omega)
  split
  · exact Lib.encodeRuneZ_two (by omega) (by omega)
  split
  · exact Lib.encodeRuneZ_three (by omega)
  · unfold Lib.encodeRuneZ
    rw [if_neg (by omega), if_neg (by omega), if_neg (by omega), if_pos (by omega)]
theorem wrune_any (B b : Nat) (xs : List Int) (c : Int) (w : World) (hc : isC c = true) (h : Bd B b xs w) (hl : xs.length + 4 ≤ 140737488355328) (hB : B ≤ w.heap.size) :
    Calls Tryz.prog 102 #[.pointer (some ⟨b, 0, none⟩), .int .i32 c] w fun e w' => e = .returned (.tuple #[.int .i64 (enc1 c).length, .nilIface]) ∧ PB B b (xs ++ enc1 c) w w' := by
  have hi := (isC_iff c).1 hc
  refine (Any.Builder_WriteRune_k wr_lays168 wr_extra B b (cI8 xs) c (by omega) (by omega) w h (by rw [cI8_len]; exact hl) hB).mono fun e w' ⟨h1, h2, h3, h4⟩ => ⟨?_, ⟨by unfold Bd; rw [cI8_app, ← rune_enc hc]; exact Or.inr h2, h3, h4⟩⟩
  rw [h1, rune_enc hc, cI8_len]
theorem bstr_any (B b : Nat) (xs : List Int) (w : World) (hb : By xs) (h : Bd B b xs w) (hB : B ≤ w.heap.size) :
    Calls Tryz.prog 41 #[.pointer (some ⟨b, 0, none⟩)] w fun e w' => ∃ s, e = .returned (.string s) ∧ bl s = xs ∧ Below B w w' := by
  have e : cI8 xs = Lib.byteCells (xs.map fun x => UInt8.ofNat x.toNat) := by
    unfold cI8 Lib.byteCells
    rw [List.map_map]
    refine List.map_congr_left fun x hx => ?_
    have := hb x hx
    simp only [Function.comp_def]
    congr 1
    simp
    omega
  have h' := h
  unfold Bd at h'
  rw [e] at h'
  refine (Any.Builder_String_any_k wr_lays169 wr_extra B b _ w h' hB).mono fun e' w' ⟨h1, h2, h3, h4⟩ => ⟨_, h1, ?_, h3⟩
  unfold bl
  rw [List.toList_toArray, List.map_map]
  conv => rhs; rw [← List.map_id xs]
  refine List.map_congr_left fun x hx => ?_
  have := hb x hx
  simp only [Function.comp_def, id]
  simp
  omega
end Go.Proofs.YtbdacepomdlcbaaGreatDoor
set_option linter.unusedVariables false
set_option linter.unusedSimpArgs false
namespace Go.Proofs.YtbdacepomdlcbaaGreatDoor
open Go.RowKit

def isHid (c : Int) : Bool := (decide (1 ≤ c) && decide (c ≤ 31)) || (c == 127) || (c == 65279)
theorem hid_cases (c : Int) : c < 1 ∨ (1 ≤ c ∧ c ≤ 31) ∨ (31 < c ∧ c < 127) ∨ c = 127 ∨ (127 < c ∧ c < 65279) ∨ c = 65279 ∨ 65279 < c := by omega
set_option maxHeartbeats 1000000 in
theorem isHidden_any (c : Int) (w : World) : Calls Tryz.prog 101 #[.int .i32 c] w fun e w' => e = .returned (.bool (isHid c)) ∧ w' = w := by
  rcases hid_cases c with h | ⟨h, g⟩ | ⟨h, g⟩ | rfl | ⟨h, g⟩ | rfl | h
  case inr.inr.inr.inl =>
    go_enter Tryz.func101, Tryz.ntmps101
    go_wp2
    go_ret
    exact ⟨rfl, rfl⟩
  case inr.inr.inr.inr.inr.inl =>
    go_enter Tryz.func101, Tryz.ntmps101
    go_wp2
    go_ret
    exact ⟨rfl, rfl⟩
  all_goals
    have n1 : (c == 127) = false := by simp; omega
    have n2 : (c == 65279) = false := by simp; omega
    go_enter Tryz.func101, Tryz.ntmps101
    go_wp2
    go_ret
    exact ⟨ret_bool (by rw [Bool.eq_iff_iff]; simp [isHid]; try omega), rfl⟩
set_option maxHeartbeats 1000000 in
theorem hiddenR_any (c : Int) (w : World) : Calls Tryz.prog 84 #[.int .i32 c] w fun e w' => e = .returned (.bool (isHid c)) ∧ w' = w := by
  rcases hid_cases c with h | ⟨h, g⟩ | ⟨h, g⟩ | rfl | ⟨h, g⟩ | rfl | h
  case inr.inr.inr.inl =>
    go_enter Tryz.func84, Tryz.ntmps84
    go_wp2
    go_ret
    exact ⟨rfl, rfl⟩
  case inr.inr.inr.inr.inr.inl =>
    go_enter Tryz.func84, Tryz.ntmps84
    go_wp2
    go_ret
    exact ⟨rfl, rfl⟩
  all_goals
    have n1 : (c == 127) = false := by simp; omega
    have n2 : (c == 65279) = false := by simp; omega
    go_enter Tryz.func84, Tryz.ntmps84
    go_wp2
    go_ret
    exact ⟨ret_bool (by rw [Bool.eq_iff_iff]; simp [isHid]; try omega), rfl⟩
/-! ### To the base 16 -/
theorem pow2_16 (w : World) : Calls Tryz.prog 152 #[.int .i64 16] w fun e w' => e = .returned (.bool true) ∧ w' = w := by
  have k : bits .and .i64 16 15 = 0 := by kernel_rfl
  go_enter Tryz.func152, Tryz.ntmps152
  go_wp2
  go_ret
  exact ⟨rfl, rfl⟩
theorem tz16 (w : World) (hT : Tabs w) : Calls Tryz.prog 153 #[.int .u64 16] w fun e w' => e = .returned (.int .i64 4) ∧ w' = w := by
  have C := hide (tz_any 16 w (by omega) (by omega) hT)
  have E := hide (show Lib.ctz 64 16 = 4 by rfl)
  go_enter Tryz.func153, Tryz.ntmps153
  go_wp2_with (go_at_call 137; refine C.out.mono ?_; rintro e w' ⟨rfl, rfl⟩; rw [E.out])
  go_ret
  exact ⟨rfl, rfl⟩
theorem and15 (x : Nat) (h : x < 18446744073709551616) : bits .and .u64 (x : Int) 15 = ((x % 16 : Nat) : Int) := by
  have := bits_and_u64_nat x 15 h (by omega)
  rw [show ((15 : Nat) : Int) = 15 by rfl] at this
  rw [this, show (15 : Nat) = 2 ^ 4 - 1 by rfl, Nat.and_two_pow_sub_one_eq_mod]
def hd (n : Nat) : Int := if n < 10 then 48 + n else 87 + n
/-- A number to the base 16. -/
def hxL (n : Nat) : List Int := if h : n < 16 then [hd n] else hxL (n / 16) ++ [hd (n % 16)]
termination_by n
decreasing_by omega
theorem hxL_one {n : Nat} (h : n < 16) : hxL n = [hd n] := by rw [hxL, dif_pos h]
theorem hxL_big {n : Nat} (h : ¬ n < 16) : hxL n = hxL (n / 16) ++ [hd (n % 16)] := by rw [hxL, dif_neg h]
def DG : ByteArray := ⟨#[48, 49, 50, 51, 52, 53, 54, 55, 56, 57, 97, 98, 99, 100, 101, 102, 103, 104, 105, 106, 107, 108, 109, 110, 111, 112, 113, 114, 115, 116, 117, 118, 119, 120, 121, 122]⟩
theorem DG_at : ∀ n : Fin 16, ((DG.data[n.val]?).getD 0).toNat = (hd n.val).toNat ∧ 48 ≤ hd n.val ∧ hd n.val ≤ 102 := by decide
theorem DG_hd (n : Nat) (h : n < 16) (h2 : n < DG.size) : ((DG[n]'h2).toNat : Int) = hd n := by
  have := DG_at ⟨n, h⟩
  have e : (DG.data[n]?).getD 0 = DG[n] := by
    have h3 : n < DG.data.size := h2
    rw [Array.getElem?_eq_getElem h3]; rfl
  simp only [e] at this
  omega
/-- The bytes of a row, as far as they are laid from its end. -/
structure HB (w wr : World) (k : Nat) (ds : List Int) : Prop where
  bel : Below w.heap.size w wr
  lt : w.heap.size < wr.heap.size
  len : ds.length = k
  le : k ≤ 65
  fr : ∀ j, wr.frozen? ⟨w.heap.size, j, none⟩ = false
  all : ∀ j, j < 65 → ∃ v, wr.cell? ⟨w.heap.size, j, none⟩ = some v
  at_ : ∀ t, t < k → wr.cell? ⟨w.heap.size, 65 - k + t, none⟩ = some (.int .u8 (gt ds t))
theorem HB.set {w wr : World} {k : Nat} {ds : List Int} (h : HB w wr k ds) (hk : k < 65) (x : Int) : HB w (wr.setCell ⟨w.heap.size, 64 - k, none⟩ (.int .u8 x)) (k + 1) (x :: ds) := by
  obtain ⟨v0, hv0⟩ := h.all (64 - k) (by omega)
  refine ⟨h.bel.setCell (p := ⟨w.heap.size, 64 - k, none⟩) (Nat.le_refl _) _, by simpa using h.lt, by simp [h.len], by omega, fun j => ?_, fun j hj => ?_, fun t ht => ?_⟩
  · rw [World.frozen?_setCell]; exact h.fr j
  · by_cases e : j = 64 - k
    · subst e; exact ⟨_, World.cell?_setCell_same wr ⟨w.heap.size, 64 - k, none⟩ _ hv0⟩
    · obtain ⟨v, hv⟩ := h.all j hj
      exact ⟨v, by rw [World.cell?_setCell_other wr ⟨w.heap.size, 64 - k, none⟩ ⟨w.heap.size, j, none⟩ _ (by simp; try exact e)]; exact hv⟩
  · cases t with
    | zero =>
      rw [show 65 - (k + 1) + 0 = 64 - k by omega]
      exact World.cell?_setCell_same wr ⟨w.heap.size, 64 - k, none⟩ _ hv0
    | succ t =>
      rw [show 65 - (k + 1) + (t + 1) = 65 - k + t by omega, World.cell?_setCell_other wr ⟨w.heap.size, 64 - k, none⟩ ⟨w.heap.size, 65 - k + t, none⟩ _ (by simp; try omega), h.at_ t (by omega)]
      simp [gt]
theorem HB.start (w : World) (cs : Array Value) (T : TypeId) (hs : cs.size = 65) : HB w (w.alloc (.cells cs T)) 0 [] := by
  have hb := heap_alloc_new w (.cells cs T)
  refine ⟨bplus (Below.refl _ _) _, by simp, rfl, by omega, fun j => World.frozen?_alloc_new _ _ _ _, fun j hj => ?_, fun t ht => by omega⟩
  rw [row_blk hb]
  exact ⟨cs[j]'(by omega), Array.getElem?_eq_getElem (by omega)⟩
theorem HB.conv {w wr : World} {k : Nat} {ds : List Int} (h : HB w wr k ds) (hb : By ds) (c : Nat) : ∃ s, bl s = ds ∧ (convert 47 9 (.slice (some ⟨w.heap.size, 65 - k, none⟩) k c)).run Tryz.prog wr = .ok (.string s) wr := by
  have e : ∀ j, j < ds.length → (((ds.map fun x => UInt8.ofNat x.toNat).getD j 0).toNat : Int) = gt ds j := fun j hj => by
    have := hb (ds[j]) (List.getElem_mem hj)
    rw [gt_eq hj]
    simp [List.getD_eq_getElem?_getD, List.getElem?_map, List.getElem?_eq_getElem hj]
    omega
  refine ⟨⟨(ds.map fun x => UInt8.ofNat x.toNat).toArray⟩, ?_, ?_⟩
  · unfold bl
    rw [List.toList_toArray, List.map_map]
    conv => rhs; rw [← List.map_id ds]
    refine List.map_congr_left fun x hx => ?_
    have := hb x hx
    simp
    omega
  · have k' := run_convert_bytes_back (P := Tryz.prog) wr 47 9 5 ⟨w.heap.size, 65 - k, none⟩ c (ds.map fun x => UInt8.ofNat x.toNat) Tryz.underlying47 Tryz.underlying5 Tryz.underlying9 (fun j hj => by
      have hj' : j < ds.length := by simpa using hj
      have e2 := e j hj'
      rw [List.getD_eq_getElem?_getD, List.getElem?_eq_getElem hj] at e2
      rw [Lib.add_plain, h.at_ j (by rw [← h.len]; exact hj'), ← e2]
      rfl)
    rw [List.length_map, h.len] at k'
    exact k'
/-- The state of the loop over digits. -/
def RelHx (w : World) (c : Nat) (u i : Value) (wr : World) : Prop := ∃ k ds, k ≤ 3 ∧ u = .int .u64 ((c / 16 ^ k : Nat) : Int) ∧ i = .int .i64 ((65 - k : Nat) : Int) ∧ Hid (HB w wr k ds ∧ hxL c = hxL (c / 16 ^ k) ++ ds ∧ By ds)
theorem RelHx.mk {w : World} {c : Nat} {u i : Value} {wr : World} (k : Nat) (ds : List Int) (h1 : k ≤ 3) (h2 : u = .int .u64 ((c / 16 ^ k : Nat) : Int)) (h3 : i = .int .i64 ((65 - k : Nat) : Int)) (h4 : HB w wr k ds ∧ hxL c = hxL (c / 16 ^ k) ++ ds ∧ By ds) : RelHx w c u i wr := ⟨k, ds, h1, h2, h3, h4⟩
theorem hd_by (n : Nat) (h : n < 16) : 0 ≤ hd n ∧ hd n ≤ 255 := by unfold hd; split <;> omega
theorem hx_step {w wr : World} {c k : Nat} {ds : List Int} (h : HB w wr k ds ∧ hxL c = hxL (c / 16 ^ k) ++ ds ∧ By ds) (hk : k < 65) (hc : ¬ c / 16 ^ k < 16) {x : Int} (hx : x = hd (c / 16 ^ k % 16)) :
    HB w (wr.setCell ⟨w.heap.size, 64 - k, none⟩ (.int .u8 x)) (k + 1) (x :: ds) ∧ hxL c = hxL (c / 16 ^ (k + 1)) ++ (x :: ds) ∧ By (x :: ds) := by
  refine ⟨h.1.set hk x, ?_, fun y hy => ?_⟩
  · rw [h.2.1, hxL_big hc, Nat.div_div_eq_div_mul, ← Nat.pow_succ, List.append_assoc, hx]; rfl
  · rcases List.mem_cons.1 hy with rfl | hy
    · rw [hx]; exact hd_by _ (Nat.mod_lt _ (by omega))
    · exact h.2.2 y hy
theorem hx_last {w wr : World} {c k : Nat} {ds : List Int} (h : HB w wr k ds ∧ hxL c = hxL (c / 16 ^ k) ++ ds ∧ By ds) (hk : k < 65) (hc : c / 16 ^ k < 16) {x : Int} (hx : x = hd (c / 16 ^ k)) :
    HB w (wr.setCell ⟨w.heap.size, 64 - k, none⟩ (.int .u8 x)) (k + 1) (x :: ds) ∧ hxL c = x :: ds ∧ By (x :: ds) := by
  refine ⟨h.1.set hk x, ?_, fun y hy => ?_⟩
  · rw [h.2.1, hxL_one hc, hx]; rfl
  · rcases List.mem_cons.1 hy with rfl | hy
    · rw [hx]; exact hd_by _ hc
    · exact h.2.2 y hy
set_option maxRecDepth 100000 in
set_option maxHeartbeats 4000000 in
theorem fb16 (c : Nat) (w : World) (hc : c < 65536) (hT : Tabs w) :
    Calls Tryz.prog 128 #[.slice none 0 0, .int .u64 (c : Int), .int .i64 16, .bool false, .bool false] w fun e w' => ∃ a s, e = .returned (.tuple #[a, .string s]) ∧ bl s = hxL c ∧ Below w.heap.size w w' := by
  have W1 := hide (fun (W : World) (h : Below w.heap.size w W) => hT.below h)
  have HS := hide (HB.start w Tryz.zeroCells157 157 (by kernel_rfl))
  clear hT
  go_enter Tryz.func128, Tryz.ntmps128
  go_wp2_with (first
    | (go_at_call 152; refine (pow2_16 _).mono ?_; rintro e w' ⟨rfl, rfl⟩)
    | (go_at_call 153; refine (tz16 _ (W1.out _ (bplus (Below.refl _ _) _))).mono ?_; rintro e w' ⟨rfl, rfl⟩))
  go_loopw [1, 13] (fun u i wr => RelHx w c u i wr) (fun u _ _ => (intOf u).toNat)
  case atStart => exact .mk 0 [] (by omega) (by simp) rfl ⟨HS.out, by simp, fun x hx => by simp at hx⟩
  case round =>
    clear HS W1
    obtain ⟨k, ds, hk, rfl, rfl, R⟩ := hrel
    have u9 : c / 16 ^ k < 65536 := Nat.lt_of_le_of_lt (Nat.div_le_self _ _) hc
    by_cases hu : c / 16 ^ k < 16
    · have k3 : k = 0 ∨ k = 1 ∨ k = 2 ∨ k = 3 := by omega
      rcases k3 with rfl | rfl | rfl | rfl
      · obtain ⟨v, hv⟩ := R.out.1.all 64 (by omega)
        have fr := R.out.1.fr 64
        obtain ⟨u, hu9⟩ : ∃ u, c / 16 ^ 0 = u := ⟨_, rfl⟩
        have ST := hx_last (x := hd u) R.out (by omega) hu (by rw [hu9])
        rw [hu9] at hu u9
        rw [hu9]
        rw [← DG_hd u hu (by show u < 36; omega)] at ST
        have hx' : (u : Int) < 16 := by omega
        have i1 : (0 : Int) ≤ (u : Int) := by omega
        have u36 : u < 36 := by omega
        obtain ⟨s, hs, hcv⟩ := ST.1.conv ST.2.2 1
        have kcv : (convert 47 9 (.slice (some ⟨w.heap.size, 64, none⟩) 1 1)).run Tryz.prog (wr.setCell ⟨w.heap.size, 64, none⟩ (.int .u8 ((((⟨#[48, 49, 50, 51, 52, 53, 54, 55, 56, 57, 97, 98, 99, 100, 101, 102, 103, 104, 105, 106, 107, 108, 109, 110, 111, 112, 113, 114, 115, 116, 117, 118, 119, 120, 121, 122]⟩ : ByteArray)[u]'(by show u < 36; exact u36)).toNat : Int)))) = .ok (.string s) (wr.setCell ⟨w.heap.size, 64, none⟩ (.int .u8 ((((⟨#[48, 49, 50, 51, 52, 53, 54, 55, 56, 57, 97, 98, 99, 100, 101, 102, 103, 104, 105, 106, 107, 108, 109, 110, 111, 112, 113, 114, 115, 116, 117, 118, 119, 120, 121, 122]⟩ : ByteArray)[u]'(by show u < 36; exact u36)).toNat : Int)))) := hcv
        have BB := hide (show Below w.heap.size w (wr.setCell ⟨w.heap.size, 64, none⟩ (.int .u8 ((((⟨#[48, 49, 50, 51, 52, 53, 54, 55, 56, 57, 97, 98, 99, 100, 101, 102, 103, 104, 105, 106, 107, 108, 109, 110, 111, 112, 113, 114, 115, 116, 117, 118, 119, 120, 121, 122]⟩ : ByteArray)[u]'(by show u < 36; exact u36)).toNat : Int)))) from ST.1.bel)
        have HS := hide (hs.trans ST.2.1.symm)
        clear R ST hs hcv
        replace hu9 := hide hu9
        go_wp2
        go_ret2
        exact ⟨_, s, rfl, HS.out, BB.out⟩
      · obtain ⟨v, hv⟩ := R.out.1.all 63 (by omega)
        have fr := R.out.1.fr 63
        obtain ⟨u, hu9⟩ : ∃ u, c / 16 ^ 1 = u := ⟨_, rfl⟩
        have ST := hx_last (x := hd u) R.out (by omega) hu (by rw [hu9])
        rw [hu9] at hu u9
        rw [hu9]
        rw [← DG_hd u hu (by show u < 36; omega)] at ST
        have hx' : (u : Int) < 16 := by omega
        have i1 : (0 : Int) ≤ (u : Int) := by omega
        have u36 : u < 36 := by omega
        obtain ⟨s, hs, hcv⟩ := ST.1.conv ST.2.2 2
        have kcv : (convert 47 9 (.slice (some ⟨w.heap.size, 63, none⟩) 2 2)).run Tryz.prog (wr.setCell ⟨w.heap.size, 63, none⟩ (.int .u8 ((((⟨#[48, 49, 50, 51, 52, 53, 54, 55, 56, 57, 97, 98, 99, 100, 101, 102, 103, 104, 105, 106, 107, 108, 109, 110, 111, 112, 113, 114, 115, 116, 117, 118, 119, 120, 121, 122]⟩ : ByteArray)[u]'(by show u < 36; exact u36)).toNat : Int)))) = .ok (.string s) (wr.setCell ⟨w.heap.size, 63, none⟩ (.int .u8 ((((⟨#[48, 49, 50, 51, 52, 53, 54, 55, 56, 57, 97, 98, 99, 100, 101, 102, 103, 104, 105, 106, 107, 108, 109, 110, 111, 112, 113, 114, 115, 116, 117, 118, 119, 120, 121, 122]⟩ : ByteArray)[u]'(by show u < 36; exact u36)).toNat : Int)))) := hcv
        have BB := hide (show Below w.heap.size w (wr.setCell ⟨w.heap.size, 63, none⟩ (.int .u8 ((((⟨#[48, 49, 50, 51, 52, 53, 54, 55, 56, 57, 97, 98, 99, 100, 101, 102, 103, 104, 105, 106, 107, 108, 109, 110, 111, 112, 113, 114, 115, 116, 117, 118, 119, 120, 121, 122]⟩ : ByteArray)[u]'(by show u < 36; exact u36)).toNat : Int)))) from ST.1.bel)
        have HS := hide (hs.trans ST.2.1.symm)
        clear R ST hs hcv
        replace hu9 := hide hu9
        go_wp2
        go_ret2
        exact ⟨_, s, rfl, HS.out, BB.out⟩
      · obtain ⟨v, hv⟩ := R.out.1.all 62 (by omega)
        have fr := R.out.1.fr 62
        obtain ⟨u, hu9⟩ : ∃ u, c / 16 ^ 2 = u := ⟨_, rfl⟩
        have ST := hx_last (x := hd u) R.out (by omega) hu (by rw [hu9])
        rw [hu9] at hu u9
        rw [hu9]
        rw [← DG_hd u hu (by show u < 36; omega)] at ST
        have hx' : (u : Int) < 16 := by omega
        have i1 : (0 : Int) ≤ (u : Int) := by omega
        have u36 : u < 36 := by omega
        obtain ⟨s, hs, hcv⟩ := ST.1.conv ST.2.2 3
        have kcv : (convert 47 9 (.slice (some ⟨w.heap.size, 62, none⟩) 3 3)).run Tryz.prog (wr.setCell ⟨w.heap.size, 62, none⟩ (.int .u8 ((((⟨#[48, 49, 50, 51, 52, 53, 54, 55, 56, 57, 97, 98, 99, 100, 101, 102, 103, 104, 105, 106, 107, 108, 109, 110, 111, 112, 113, 114, 115, 116, 117, 118, 119, 120, 121, 122]⟩ : ByteArray)[u]'(by show u < 36; exact u36)).toNat : Int)))) = .ok (.string s) (wr.setCell ⟨w.heap.size, 62, none⟩ (.int .u8 ((((⟨#[48, 49, 50, 51, 52, 53, 54, 55, 56, 57, 97, 98, 99, 100, 101, 102, 103, 104, 105, 106, 107, 108, 109, 110, 111, 112, 113, 114, 115, 116, 117, 118, 119, 120, 121, 122]⟩ : ByteArray)[u]'(by show u < 36; exact u36)).toNat : Int)))) := hcv
        have BB := hide (show Below w.heap.size w (wr.setCell ⟨w.heap.size, 62, none⟩ (.int .u8 ((((⟨#[48, 49, 50, 51, 52, 53, 54, 55, 56, 57, 97, 98, 99, 100, 101, 102, 103, 104, 105, 106, 107, 108, 109, 110, 111, 112, 113, 114, 115, 116, 117, 118, 119, 120, 121, 122]⟩ : ByteArray)[u]'(by show u < 36; exact u36)).toNat : Int)))) from ST.1.bel)
        have HS := hide (hs.trans ST.2.1.symm)
        clear R ST hs hcv
        replace hu9 := hide hu9
        go_wp2
        go_ret2
        exact ⟨_, s, rfl, HS.out, BB.out⟩
      · obtain ⟨v, hv⟩ := R.out.1.all 61 (by omega)
        have fr := R.out.1.fr 61
        obtain ⟨u, hu9⟩ : ∃ u, c / 16 ^ 3 = u := ⟨_, rfl⟩
        have ST := hx_last (x := hd u) R.out (by omega) hu (by rw [hu9])
        rw [hu9] at hu u9
        rw [hu9]
        rw [← DG_hd u hu (by show u < 36; omega)] at ST
        have hx' : (u : Int) < 16 := by omega
        have i1 : (0 : Int) ≤ (u : Int) := by omega
        have u36 : u < 36 := by omega
        obtain ⟨s, hs, hcv⟩ := ST.1.conv ST.2.2 4
        have kcv : (convert 47 9 (.slice (some ⟨w.heap.size, 61, none⟩) 4 4)).run Tryz.prog (wr.setCell ⟨w.heap.size, 61, none⟩ (.int .u8 ((((⟨#[48, 49, 50, 51, 52, 53, 54, 55, 56, 57, 97, 98, 99, 100, 101, 102, 103, 104, 105, 106, 107, 108, 109, 110, 111, 112, 113, 114, 115, 116, 117, 118, 119, 120, 121, 122]⟩ : ByteArray)[u]'(by show u < 36; exact u36)).toNat : Int)))) = .ok (.string s) (wr.setCell ⟨w.heap.size, 61, none⟩ (.int .u8 ((((⟨#[48, 49, 50, 51, 52, 53, 54, 55, 56, 57, 97, 98, 99, 100, 101, 102, 103, 104, 105, 106, 107, 108, 109, 110, 111, 112, 113, 114, 115, 116, 117, 118, 119, 120, 121, 122]⟩ : ByteArray)[u]'(by show u < 36; exact u36)).toNat : Int)))) := hcv
        have BB := hide (show Below w.heap.size w (wr.setCell ⟨w.heap.size, 61, none⟩ (.int .u8 ((((⟨#[48, 49, 50, 51, 52, 53, 54, 55, 56, 57, 97, 98, 99, 100, 101, 102, 103, 104, 105, 106, 107, 108, 109, 110, 111, 112, 113, 114, 115, 116, 117, 118, 119, 120, 121, 122]⟩ : ByteArray)[u]'(by show u < 36; exact u36)).toNat : Int)))) from ST.1.bel)
        have HS := hide (hs.trans ST.2.1.symm)
        clear R ST hs hcv
        replace hu9 := hide hu9
        go_wp2
        go_ret2
        exact ⟨_, s, rfl, HS.out, BB.out⟩
    · have k2 : k = 0 ∨ k = 1 ∨ k = 2 := by
        have : k ≠ 3 := fun h => hu (by rw [h]; omega)
        omega
      rcases k2 with rfl | rfl | rfl
      · obtain ⟨v, hv⟩ := R.out.1.all 64 (by omega)
        have fr := R.out.1.fr 64
        have hx' : ¬ ((c / 16 ^ 0 : Nat) : Int) < 16 := by omega
        have an := and15 (c / 16 ^ 0) (by omega)
        have xm : c / 16 ^ 0 % 16 < 16 := Nat.mod_lt _ (by omega)
        obtain ⟨u, hu9⟩ : ∃ u, c / 16 ^ 0 = u := ⟨_, rfl⟩
        have ST := hide (fun x hx => hx_step (x := x) R.out (by omega) hu hx)
        have NX := hide (show c / 16 ^ (0 + 1) = u / 16 by rw [← hu9, Nat.div_div_eq_div_mul, ← Nat.pow_succ])
        rw [hu9] at hx' an xm hu u9 ST
        rw [hu9]
        obtain ⟨y, hy9⟩ : ∃ y, u % 16 = y := ⟨_, rfl⟩
        rw [hy9] at an xm ST
        have i1 : (0 : Int) ≤ (y : Int) := by omega
        have i2 : (y : Int) < 36 := by omega
        have y36 : y < 36 := by omega
        clear hu hu9 hy9 R
        go_wp2
        go_roundw
        case rel =>
          refine .mk 1 (hd y :: ds) (by omega) (by rw [NX.out]; congr 1) rfl ?_
          have := ST.out (hd y) rfl
          rw [← DG_hd y (by omega) (by show y < 36; omega)] at this ⊢
          exact this
        case measure => simp [intOf]; omega
      · obtain ⟨v, hv⟩ := R.out.1.all 63 (by omega)
        have fr := R.out.1.fr 63
        have hx' : ¬ ((c / 16 ^ 1 : Nat) : Int) < 16 := by omega
        have an := and15 (c / 16 ^ 1) (by omega)
        have xm : c / 16 ^ 1 % 16 < 16 := Nat.mod_lt _ (by omega)
        obtain ⟨u, hu9⟩ : ∃ u, c / 16 ^ 1 = u := ⟨_, rfl⟩
        have ST := hide (fun x hx => hx_step (x := x) R.out (by omega) hu hx)
        have NX := hide (show c / 16 ^ (1 + 1) = u / 16 by rw [← hu9, Nat.div_div_eq_div_mul, ← Nat.pow_succ])
        rw [hu9] at hx' an xm hu u9 ST
        rw [hu9]
        obtain ⟨y, hy9⟩ : ∃ y, u % 16 = y := ⟨_, rfl⟩
        rw [hy9] at an xm ST
        have i1 : (0 : Int) ≤ (y : Int) := by omega
        have i2 : (y : Int) < 36 := by omega
        have y36 : y < 36 := by omega
        clear hu hu9 hy9 R
        go_wp2
        go_roundw
        case rel =>
          refine .mk 2 (hd y :: ds) (by omega) (by rw [NX.out]; congr 1) rfl ?_
          have := ST.out (hd y) rfl
          rw [← DG_hd y (by omega) (by show y < 36; omega)] at this ⊢
          exact this
        case measure => simp [intOf]; omega
      · obtain ⟨v, hv⟩ := R.out.1.all 62 (by omega)
        have fr := R.out.1.fr 62
        have hx' : ¬ ((c / 16 ^ 2 : Nat) : Int) < 16 := by omega
        have an := and15 (c / 16 ^ 2) (by omega)
        have xm : c / 16 ^ 2 % 16 < 16 := Nat.mod_lt _ (by omega)
        obtain ⟨u, hu9⟩ : ∃ u, c / 16 ^ 2 = u := ⟨_, rfl⟩
        have ST := hide (fun x hx => hx_step (x := x) R.out (by omega) hu hx)
        have NX := hide (show c / 16 ^ (2 + 1) = u / 16 by rw [← hu9, Nat.div_div_eq_div_mul, ← Nat.pow_succ])
        rw [hu9] at hx' an xm hu u9 ST
        rw [hu9]
        obtain ⟨y, hy9⟩ : ∃ y, u % 16 = y := ⟨_, rfl⟩
        rw [hy9] at an xm ST
        have i1 : (0 : Int) ≤ (y : Int) := by omega
        have i2 : (y : Int) < 36 := by omega
        have y36 : y < 36 := by omega
        clear hu hu9 hy9 R
        go_wp2
        go_roundw
        case rel =>
          refine .mk 3 (hd y :: ds) (by omega) (by rw [NX.out]; congr 1) rfl ?_
          have := ST.out (hd y) rfl
          rw [← DG_hd y (by omega) (by show y < 36; omega)] at this ⊢
          exact this
        case measure => simp [intOf]; omega
theorem ifmt16 (c : Nat) (w : World) (hc : c < 65536) (hT : Tabs w) :
    Calls Tryz.prog 129 #[.int .i64 (c : Int), .int .i64 16] w fun e w' => ∃ s, e = .returned (.string s) ∧ bl s = hxL c ∧ Below w.heap.size w w' := by
  have C := hide (fb16 c w hc hT)
  have c0 : (0 : Int) ≤ c := by omega
  have c1 : (c : Int) < 65536 := by omega
  go_enter Tryz.func129, Tryz.ntmps129
  go_wp2_with (go_at_call 128; refine C.out.mono ?_; rintro e w' ⟨a, s, rfl, hs, hb⟩; replace hs := hide hs; replace hb := hide hb)
  go_ret
  exact ⟨s, rfl, hs.out, hb.out⟩
theorem fmt16 (c : Int) (w : World) (c0 : 0 ≤ c) (hc : c < 65536) (hT : Tabs w) :
    Calls Tryz.prog 107 #[.int .i64 c, .int .i64 16] w fun e w' => ∃ s, e = .returned (.string s) ∧ bl s = hxL c.toNat ∧ Below w.heap.size w w' := by
  obtain ⟨n, rfl⟩ := Int.eq_ofNat_of_zero_le c0
  have C := hide (ifmt16 n w (by omega) hT)
  go_enter Tryz.func107, Tryz.ntmps107
  go_wp2_with (go_at_call 129; refine C.out.mono ?_; rintro e w' ⟨s, rfl, hs, hb⟩; replace hs := hide hs; replace hb := hide hb)
  go_ret
  exact ⟨s, rfl, hs.out, hb.out⟩
end Go.Proofs.YtbdacepomdlcbaaGreatDoor
set_option linter.unusedVariables false
set_option linter.unusedSimpArgs false
namespace Go.Proofs.YtbdacepomdlcbaaGreatDoor
open Go.RowKit Go.Shelf

theorem bd_below {B b : Nat} {xs : List Int} {w w' : World} (h : Bd B b xs w) (hb : Below w.heap.size w w') : Bd B b xs w' := by
  have hg : w.grownBy w' none := ⟨hb.os, hb.tape, hb.output, hb.size, fun k hk _ => hb.block k hk⟩
  have key : ∀ p, Lib.BuilderAtF 49 5 B b p (cI8 xs) w → Lib.BuilderAtF 49 5 B b p (cI8 xs) w' := fun p ⟨h1, v, h2, h3, h4⟩ =>
    ⟨h1, v, (hb.block b (Array.getElem?_eq_some_iff.1 h2).1).trans h2, h3.kept hg (by cases hv : v.ownBlock; exact .inl rfl; exact .inr (by simp)), h4⟩
  exact h.elim (fun x => .inl (key _ x)) (fun x => .inr (key _ x))
theorem oth_below {e : TypeId} {b : Option Nat} {w w' : World} (hb : Below w.heap.size w w') : Lib.OthersKept e b w w' := fun k o hk _ _ => (hb.block k (Array.getElem?_eq_some_iff.1 hk).1).trans hk
theorem PB.start {B b : Nat} {xs : List Int} {w : World} (h : Bd B b xs w) : PB B b xs w w := ⟨h, Below.refl _ _, Lib.OthersKept.refl _ _ _⟩
theorem PB.grow {B b : Nat} {xs : List Int} {w w1 w2 : World} (h : PB B b xs w w1) (hB : B ≤ w.heap.size) (hb : Below w1.heap.size w1 w2) : PB B b xs w w2 :=
  ⟨bd_below h.bd hb, h.bel.trans (hb.mono (h.size hB)), h.oth.trans (oth_below hb)⟩
/-- The tables stand, whatever is written. -/
def TB (B : Nat) (w : World) : Prop := ∀ W, Below B w W → Tabs W
theorem TB.on {B : Nat} {w w1 : World} (h : TB B w) (hb : Below B w w1) : TB B w1 := fun W hW => h W (hb.trans hW)
theorem TB.here {B : Nat} {w : World} (h : TB B w) : Tabs w := h w (Below.refl _ _)
/-! ### Names -/
def esc (c : Int) : List Int := 92 :: (hxL c.toNat ++ [32])
theorem isLet_cases (c : Int) : c < 45 ∨ c = 45 ∨ (45 < c ∧ c < 48) ∨ (48 ≤ c ∧ c ≤ 57) ∨ (57 < c ∧ c < 65) ∨ (65 ≤ c ∧ c ≤ 90) ∨ (90 < c ∧ c < 95) ∨ c = 95 ∨ c = 96 ∨ (97 ≤ c ∧ c ≤ 122) ∨ (122 < c ∧ c < 128) ∨ 128 ≤ c := by omega
set_option maxHeartbeats 2000000 in
theorem isNameS_any (c : Int) (w : World) : Calls Tryz.prog 122 #[.int .i32 c] w fun e w' => e = .returned (.bool (isLet c)) ∧ w' = w := by
  rcases isLet_cases c with h | rfl | ⟨h, g⟩ | ⟨h, g⟩ | ⟨h, g⟩ | ⟨h, g⟩ | ⟨h, g⟩ | rfl | rfl | ⟨h, g⟩ | ⟨h, g⟩ | h
  · have n1 : (c == 95) = false := by simp; omega
    have n2 : (c == 45) = false := by simp; omega
    have DG := hide (show isDig c = false by simp [isDig]; omega)
    go_enter Tryz.func122, Tryz.ntmps122
    go_wp2_with (go_at_call 96; refine (isDigitS_any _ _).mono ?_; rintro e w1 ⟨rfl, rfl⟩; rw [DG.out])
    go_ret
    exact ⟨ret_bool (by rw [Bool.eq_iff_iff]; simp [isLet, isFst, isDig]; try omega), rfl⟩
  · go_enter Tryz.func122, Tryz.ntmps122
    go_wp2_with (go_at_call 96; refine (isDigitS_any _ _).mono ?_; rintro e w1 ⟨rfl, rfl⟩; rw [show isDig 45 = false from rfl])
    go_ret
    exact ⟨rfl, rfl⟩
  · have n1 : (c == 95) = false := by simp; omega
    have n2 : (c == 45) = false := by simp; omega
    have DG := hide (show isDig c = false by simp [isDig]; omega)
    go_enter Tryz.func122, Tryz.ntmps122
    go_wp2_with (go_at_call 96; refine (isDigitS_any _ _).mono ?_; rintro e w1 ⟨rfl, rfl⟩; rw [DG.out])
    go_ret
    exact ⟨ret_bool (by rw [Bool.eq_iff_iff]; simp [isLet, isFst, isDig]; try omega), rfl⟩
  · have n1 : (c == 95) = false := by simp; omega
    have n2 : (c == 45) = false := by simp; omega
    have DG := hide (show isDig c = true by simp [isDig]; omega)
    go_enter Tryz.func122, Tryz.ntmps122
    go_wp2_with (go_at_call 96; refine (isDigitS_any _ _).mono ?_; rintro e w1 ⟨rfl, rfl⟩; rw [DG.out])
    go_ret
    exact ⟨ret_bool (by rw [Bool.eq_iff_iff]; simp [isLet, isFst, isDig]; try omega), rfl⟩
  · have n1 : (c == 95) = false := by simp; omega
    have n2 : (c == 45) = false := by simp; omega
    have DG := hide (show isDig c = false by simp [isDig]; omega)
    go_enter Tryz.func122, Tryz.ntmps122
    go_wp2_with (go_at_call 96; refine (isDigitS_any _ _).mono ?_; rintro e w1 ⟨rfl, rfl⟩; rw [DG.out])
    go_ret
    exact ⟨ret_bool (by rw [Bool.eq_iff_iff]; simp [isLet, isFst, isDig]; try omega), rfl⟩
  · have n1 : (c == 95) = false := by simp; omega
    have n2 : (c == 45) = false := by simp; omega
    have DG := hide (show isDig c = false by simp [isDig]; omega)
    go_enter Tryz.func122, Tryz.ntmps122
    go_wp2_with (go_at_call 96; refine (isDigitS_any _ _).mono ?_; rintro e w1 ⟨rfl, rfl⟩; rw [DG.out])
    go_ret
    exact ⟨ret_bool (by rw [Bool.eq_iff_iff]; simp [isLet, isFst, isDig]; try omega), rfl⟩
  · have n1 : (c == 95) = false := by simp; omega
    have n2 : (c == 45) = false := by simp; omega
    have DG := hide (show isDig c = false by simp [isDig]; omega)
    go_enter Tryz.func122, Tryz.ntmps122
    go_wp2_with (go_at_call 96; refine (isDigitS_any _ _).mono ?_; rintro e w1 ⟨rfl, rfl⟩; rw [DG.out])
    go_ret
    exact ⟨ret_bool (by rw [Bool.eq_iff_iff]; simp [isLet, isFst, isDig]; try omega), rfl⟩
  · go_enter Tryz.func122, Tryz.ntmps122
    go_wp2_with (go_at_call 96; refine (isDigitS_any _ _).mono ?_; rintro e w1 ⟨rfl, rfl⟩; rw [show isDig 95 = false from rfl])
    go_ret
    exact ⟨rfl, rfl⟩
  · go_enter Tryz.func122, Tryz.ntmps122
    go_wp2_with (go_at_call 96; refine (isDigitS_any _ _).mono ?_; rintro e w1 ⟨rfl, rfl⟩; rw [show isDig 96 = false from rfl])
    go_ret
    exact ⟨rfl, rfl⟩
  · have n1 : (c == 95) = false := by simp; omega
    have n2 : (c == 45) = false := by simp; omega
    have DG := hide (show isDig c = false by simp [isDig]; omega)
    go_enter Tryz.func122, Tryz.ntmps122
    go_wp2_with (go_at_call 96; refine (isDigitS_any _ _).mono ?_; rintro e w1 ⟨rfl, rfl⟩; rw [DG.out])
    go_ret
    exact ⟨ret_bool (by rw [Bool.eq_iff_iff]; simp [isLet, isFst, isDig]; try omega), rfl⟩
  · have n1 : (c == 95) = false := by simp; omega
    have n2 : (c == 45) = false := by simp; omega
    have DG := hide (show isDig c = false by simp [isDig]; omega)
    go_enter Tryz.func122, Tryz.ntmps122
    go_wp2_with (go_at_call 96; refine (isDigitS_any _ _).mono ?_; rintro e w1 ⟨rfl, rfl⟩; rw [DG.out])
    go_ret
    exact ⟨ret_bool (by rw [Bool.eq_iff_iff]; simp [isLet, isFst, isDig]; try omega), rfl⟩
  · have n1 : (c == 95) = false := by simp; omega
    have n2 : (c == 45) = false := by simp; omega
    have DG := hide (show isDig c = false by simp [isDig]; omega)
    go_enter Tryz.func122, Tryz.ntmps122
    go_wp2_with (go_at_call 96; refine (isDigitS_any _ _).mono ?_; rintro e w1 ⟨rfl, rfl⟩; rw [DG.out])
    go_ret
    exact ⟨ret_bool (by rw [Bool.eq_iff_iff]; simp [isLet, isFst, isDig]; try omega), rfl⟩
set_option maxHeartbeats 1000000 in
theorem wEsc_any (B b : Nat) (xs : List Int) (c : Int) (w : World) (c0 : 0 ≤ c) (hc : c < 65536) (h : Bd B b xs w) (hl : xs.length ≤ 70368744177664) (hB : B ≤ w.heap.size) (hT : TB B w) :
    Calls Tryz.prog 97 #[.pointer (some ⟨b, 0, none⟩), .int .i32 c] w fun e w' => e = .returned (.tuple #[]) ∧ PB B b (xs ++ esc c) w w' := by
  have C1 := hide (wbyte_any B b xs 92 w h (by omega) hB)
  have HT := hide hT
  have LN := hide (show ∀ s : ByteArray, bl s = hxL c.toNat → s.size ≤ 65536 from fun s hs => by
    rw [← bl_len, hs]
    have key : ∀ n, (hxL n).length ≤ n + 1 := by
      intro n
      induction n using Nat.strongRecOn with
      | _ n ih =>
        by_cases h : n < 16
        · rw [hxL_one h]; simp
        · rw [hxL_big h, List.length_append]
          have := ih (n / 16) (by omega)
          simp; omega
    have := key c.toNat
    omega)
  have P0 := hide (PB.start h)
  clear h hT
  go_enter Tryz.func97, Tryz.ntmps97
  go_wp2_with (first
    | (go_at_call_of 47 (Value.int IntKind.u8 92); refine C1.out.mono ?_; rintro e w1 ⟨rfl, P1⟩; replace P1 := hide P1)
    | (go_at_call 107; refine (fmt16 c _ c0 hc (HT.out.on P1.out.bel).here).mono ?_; rintro e w2 ⟨s, rfl, hs, b2⟩; have hz := LN.out s hs; replace hs := hide hs; replace P1 := hide (P1.out.grow hB b2); clear b2)
    | (go_at_call 39; refine (wstr_any B b _ s _ P1.out.bd (by simp; omega) (P1.out.size hB)).mono ?_; rintro e w3 ⟨rfl, P3⟩; rw [hs.out] at P3; replace P1 := hide (P1.out.trans P3); clear P3)
    | (go_at_call 47; refine (wbyte_any B b _ 32 _ P1.out.bd (by rw [← hs.out]; simp [bl_len]; omega) (P1.out.size hB)).mono ?_; rintro e w4 ⟨rfl, P4⟩; replace P1 := hide (P1.out.trans P4)))
  go_end0
  refine ⟨rfl, ?_⟩
  have := P1.out
  simp only [List.append_assoc, List.singleton_append, List.cons_append, List.nil_append] at this
  exact this
set_option maxHeartbeats 1000000 in
theorem wSl_any (B b : Nat) (xs : List Int) (c : Int) (w : World) (hc : isC c = true) (h : Bd B b xs w) (hl : xs.length ≤ 70368744177664) (hB : B ≤ w.heap.size) :
    Calls Tryz.prog 100 #[.pointer (some ⟨b, 0, none⟩), .int .i32 c] w fun e w' => e = .returned (.tuple #[]) ∧ PB B b (xs ++ (92 :: enc1 c)) w w' := by
  have C1 := hide (wbyte_any B b xs 92 w h (by omega) hB)
  go_enter Tryz.func100, Tryz.ntmps100
  go_wp2_with (first
    | (go_at_call 47; refine C1.out.mono ?_; rintro e w1 ⟨rfl, P1⟩; replace P1 := hide P1)
    | (go_at_call 102; refine (wrune_any B b _ c _ hc P1.out.bd (by simp; omega) (P1.out.size hB)).mono ?_; rintro e w3 ⟨rfl, P3⟩; replace P1 := hide (P1.out.trans P3); clear P3))
  go_end0
  refine ⟨rfl, ?_⟩
  have := P1.out
  simp only [List.append_assoc, List.singleton_append, List.cons_append, List.nil_append] at this
  exact this
/-- A letter of a name, written. -/
def wLt (c : Int) : List Int := if isHid c = true then esc c else if isLet c = true then enc1 c else 92 :: enc1 c
theorem hid_bd {c : Int} (h : isHid c = true) : 0 ≤ c ∧ c < 65536 := by simp [isHid] at h; omega
set_option maxHeartbeats 1000000 in
theorem wLt_any (B b : Nat) (xs : List Int) (c : Int) (w : World) (hc : isC c = true) (h : Bd B b xs w) (hl : xs.length ≤ 70368744177664) (hB : B ≤ w.heap.size) (hT : TB B w) :
    Calls Tryz.prog 98 #[.pointer (some ⟨b, 0, none⟩), .int .i32 c] w fun e w' => e = .returned (.tuple #[]) ∧ PB B b (xs ++ wLt c) w w' := by
  cases hh : isHid c with
  | true =>
    obtain ⟨g1, g2⟩ := hid_bd hh
    have C := hide (wEsc_any B b xs c w g1 g2 h hl hB hT)
    have E := hide (show wLt c = esc c by unfold wLt; rw [if_pos hh])
    have HH := hide hh
    clear hh h hT
    go_enter Tryz.func98, Tryz.ntmps98
    go_wp2_with (first
      | (go_at_call 101; refine (isHidden_any _ _).mono ?_; rintro e w1 ⟨rfl, rfl⟩; rw [HH.out])
      | (go_at_call 97; refine C.out.mono ?_; rintro e w1 ⟨rfl, P1⟩; replace P1 := hide P1))
    go_end0
    refine ⟨rfl, ?_⟩
    rw [E.out]; exact P1.out
  | false =>
    cases hn : isLet c with
    | true =>
      have C := hide (wrune_any B b xs c w hc h (by omega) hB)
      have E := hide (show wLt c = enc1 c by unfold wLt; rw [if_neg (by rw [hh]; decide), if_pos hn])
      have HH := hide hh
      have HN := hide hn
      clear hh hn h hT
      go_enter Tryz.func98, Tryz.ntmps98
      go_wp2_with (first
        | (go_at_call 101; refine (isHidden_any _ _).mono ?_; rintro e w1 ⟨rfl, rfl⟩; rw [HH.out])
        | (go_at_call 122; refine (isNameS_any _ _).mono ?_; rintro e w1 ⟨rfl, rfl⟩; rw [HN.out])
        | (go_at_call 102; refine C.out.mono ?_; rintro e w1 ⟨rfl, P1⟩; replace P1 := hide P1))
      go_end0
      refine ⟨rfl, ?_⟩
      rw [E.out]; exact P1.out
    | false =>
      have C := hide (wSl_any B b xs c w hc h hl hB)
      have E := hide (show wLt c = 92 :: enc1 c by unfold wLt; rw [if_neg (by rw [hh]; decide), if_neg (by rw [hn]; decide)])
      have HH := hide hh
      have HN := hide hn
      clear hh hn h hT
      go_enter Tryz.func98, Tryz.ntmps98
      go_wp2_with (first
        | (go_at_call 101; refine (isHidden_any _ _).mono ?_; rintro e w1 ⟨rfl, rfl⟩; rw [HH.out])
        | (go_at_call 122; refine (isNameS_any _ _).mono ?_; rintro e w1 ⟨rfl, rfl⟩; rw [HN.out])
        | (go_at_call 100; refine C.out.mono ?_; rintro e w1 ⟨rfl, P1⟩; replace P1 := hide P1))
      go_end0
      refine ⟨rfl, ?_⟩
      rw [E.out]; exact P1.out
end Go.Proofs.YtbdacepomdlcbaaGreatDoor
set_option linter.unusedVariables false
set_option linter.unusedSimpArgs false
namespace Go.Proofs.YtbdacepomdlcbaaGreatDoor
open Go.RowKit Go.Shelf

theorem getb (s : ByteArray) (i : Nat) (h : i < s.size) : ((s.get! i).toNat : Int) = gt (bl s) i := by
  rw [← bl_at s i h]
  have h' : i < s.data.size := h
  show ((s.data[i]!).toNat : Int) = _
  rw [getElem!_pos s.data i h']
  rfl
/-- What a range over whole bytes meets. -/
theorem dec_enc (s : ByteArray) (p : Nat) (c : Int) (r : List Int) (hc : isC c = true) (h : (bl s).drop p = enc1 c ++ r) : Utf8.decode s p = (c.toNat, (enc1 c).length) := by
  have hl : s.size - p = (enc1 c).length + r.length := by
    have := congrArg List.length h
    rw [List.length_drop, bl_len, List.length_append] at this
    exact this
  have g : ∀ j, j < (enc1 c).length → ((s.get! (p + j)).toNat : Int) = gt (enc1 c) j := fun j hj => by
    rw [getb s (p + j) (by omega)]
    have e : gt (bl s) (p + j) = gt ((bl s).drop p) j := by simp [gt, List.getD_eq_getElem?_getD, List.getElem?_drop]
    rw [e, h]
    simp [gt, List.getD_eq_getElem?_getD, List.getElem?_append_left hj]
  rw [isC_iff] at hc
  rw [Lib.decode_at]
  unfold enc1 at g hl ⊢
  split at g
  · rename_i h1
    have g0 := g 0 (by simp)
    rw [if_pos h1] at hl ⊢
    simp [gt] at g0
    unfold Lib.decodeN
    rw [if_pos (by omega)]
    simp; omega
  · rename_i h1
    rw [if_neg h1] at hl ⊢
    split at g
    · rename_i h2
      have g0 := g 0 (by simp)
      have g1 := g 1 (by simp)
      rw [if_pos h2] at hl ⊢
      simp [gt] at g0 g1 hl
      unfold Lib.decodeN
      rw [if_neg (by omega), if_pos (by omega), if_pos (by omega)]
      simp; omega
    · rename_i h2
      rw [if_neg h2] at hl ⊢
      split at g
      · rename_i h3
        have g0 := g 0 (by simp)
        have g1 := g 1 (by simp)
        have g2 := g 2 (by simp)
        rw [if_pos h3] at hl ⊢
        simp [gt] at g0 g1 g2 hl
        unfold Lib.decodeN
        rw [if_neg (by omega), if_neg (by omega), if_pos (by omega), if_pos (by omega)]
        simp; omega
      · rename_i h3
        have g0 := g 0 (by simp)
        have g1 := g 1 (by simp)
        have g2 := g 2 (by simp)
        have g3 := g 3 (by simp)
        rw [if_neg h3] at hl ⊢
        simp [gt] at g0 g1 g2 g3 hl
        unfold Lib.decodeN
        rw [if_neg (by omega), if_neg (by omega), if_neg (by omega), if_pos (by omega), if_pos (by omega)]
        simp; omega
theorem dec_whole_at (s : ByteArray) (p : Nat) (hp : p < s.size) (hw : whole ((bl s).drop p) = true) :
    ∃ c k, isC c = true ∧ 1 ≤ k ∧ k ≤ 4 ∧ p + k ≤ s.size ∧ Utf8.decode s p = (c.toNat, k) ∧ raw ((bl s).drop p) = c :: raw ((bl s).drop (p + k)) ∧ whole ((bl s).drop (p + k)) = true ∧ (c ≤ 127 → k = 1 ∧ nx (bl s) p = c) ∧ (127 < c → 2 ≤ k ∧ 128 ≤ nx (bl s) p) := by
  have hn : (bl s).drop p ≠ [] := by
    intro h
    have := congrArg List.length h
    rw [List.length_drop, bl_len] at this
    simp at this; omega
  have hb := (bl_by s).drop p
  have hl := stp_len _ hn
  have hw2 := hw
  rw [whole_cut hn, Bool.and_eq_true] at hw2
  obtain ⟨h1, h2⟩ := stp_back _ hb hn hw2.1
  have hd := dec_enc s p _ _ h1 h2
  have hlen : (enc1 (stp ((bl s).drop p)).1).length = (stp ((bl s).drop p)).2.1 := by
    have h3 := congrArg List.length h2
    rw [List.length_append] at h3
    have h4 : (((bl s).drop p).drop (stp ((bl s).drop p)).2.1).length = ((bl s).drop p).length - (stp ((bl s).drop p)).2.1 := List.length_drop ..
    omega
  have hx : nx (bl s) p = nx ((bl s).drop p) 0 := by rw [nx_drop]; rfl
  refine ⟨(stp ((bl s).drop p)).1, (stp ((bl s).drop p)).2.1, h1, hl.1, hl.2.1, ?_, ?_, ?_, ?_, ?_, ?_⟩
  · have := hl.2.2; rw [List.length_drop, bl_len] at this; omega
  · rw [hd, hlen]
  · rw [raw_cut hn, List.drop_drop]
  · rw [List.drop_drop] at hw2; exact hw2.2
  · intro hc
    have e1 : enc1 (stp ((bl s).drop p)).1 = [(stp ((bl s).drop p)).1] := by unfold enc1; rw [if_pos hc]
    refine ⟨by rw [← hlen, e1]; rfl, ?_⟩
    rw [hx]
    have := congrArg (fun l => nx l 0) h2
    simp only [e1] at this
    rw [this]; rfl
  · intro hc
    have h9 := (isC_iff _).1 h1
    have h0 := congrArg (fun l => nx l 0) h2
    refine ⟨?_, ?_⟩
    · rw [← hlen]
      unfold enc1
      rw [if_neg (by omega)]
      split
      · simp
      split <;> simp
    · rw [hx]
      have h0' : nx ((bl s).drop p) 0 = nx (enc1 (stp ((bl s).drop p)).1 ++ ((bl s).drop p).drop (stp ((bl s).drop p)).2.1) 0 := h0
      rw [h0']
      generalize (stp ((bl s).drop p)).1 = c at *
      unfold enc1
      rw [if_neg (by omega)]
      split
      · show 128 ≤ 192 + c / 64; omega
      split
      · show 128 ≤ 224 + c / 4096; omega
      · show 128 ≤ 240 + c / 262144; omega
/-! ### An identifier -/
def wNm (cs : List Int) : List Int := cs.flatMap wLt
def hdT (c : Int) : List Int := if isDig c = true then esc c else wLt c
def wId1 : List Int → List Int
  | [] => []
  | c :: r => hdT c ++ wNm r
def wId0 : List Int → List Int
  | [] => []
  | c :: r => hdT c ++ if c = 45 then wId1 r else wNm r
def wId (bs : List Int) : List Int := if bs = [45] then [92, 45] else wId0 (raw bs)
def restT (bs : List Int) (p : Nat) : List Int := if p = 0 then wId0 (raw bs) else if p = 1 ∧ nx bs 0 = 45 then wId1 (raw (bs.drop 1)) else wNm (raw (bs.drop p))
def dgT (bs : List Int) (p : Nat) (c : Int) : Bool := isDig c && ((p == 0) || ((p == 1) && (nx bs 0 == 45)))
theorem wNm_cons (c : Int) (r : List Int) : wNm (c :: r) = wLt c ++ wNm r := by unfold wNm; rw [List.flatMap_cons]
theorem restT_0 (bs : List Int) : restT bs 0 = wId0 (raw bs) := by unfold restT; rw [if_pos rfl]
theorem restT_1 {bs : List Int} (h : nx bs 0 = 45) : restT bs 1 = wId1 (raw (bs.drop 1)) := by unfold restT; rw [if_neg (by omega), if_pos ⟨rfl, h⟩]
theorem restT_k {bs : List Int} {p : Nat} (h0 : p ≠ 0) (h : ¬ (p = 1 ∧ nx bs 0 = 45)) : restT bs p = wNm (raw (bs.drop p)) := by unfold restT; rw [if_neg h0, if_neg h]
theorem rest_step {bs : List Int} {p k : Nat} {c : Int} (hr : raw (bs.drop p) = c :: raw (bs.drop (p + k))) (hk : 1 ≤ k) (h1 : c ≤ 127 → k = 1 ∧ nx bs p = c) (h2 : 127 < c → 2 ≤ k ∧ 128 ≤ nx bs p) :
    restT bs p = (if dgT bs p c = true then esc c else wLt c) ++ restT bs (p + k) := by
  by_cases h0 : p = 0
  · subst h0
    rw [Nat.zero_add] at hr ⊢
    rw [List.drop_zero] at hr
    have e : dgT bs 0 c = isDig c := by simp [dgT]
    rw [e, restT_0, hr]
    show hdT c ++ _ = hdT c ++ _
    congr 1
    by_cases h45 : c = 45
    · obtain ⟨hk1, hn⟩ := h1 (by omega)
      rw [if_pos h45, hk1, restT_1 (by omega)]
    · rw [if_neg h45, restT_k (by omega)]
      rintro ⟨hk1, hn⟩
      by_cases hc : c ≤ 127
      · have := (h1 hc).2; omega
      · have := (h2 (by omega)).1; omega
  · by_cases h1' : p = 1 ∧ nx bs 0 = 45
    · obtain ⟨rfl, h45⟩ := h1'
      have e : dgT bs 1 c = isDig c := by simp [dgT, h45]
      rw [e, restT_1 h45, restT_k (by omega) (by omega), hr]
      rfl
    · have e : dgT bs p c = false := by
        unfold dgT
        have z0 : (p == 0) = false := by simpa using h0
        rw [z0]
        by_cases hp1 : p = 1
        · have : (nx bs 0 == 45) = false := by simp; exact fun h => h1' ⟨hp1, h⟩
          rw [this]; simp
        · have : (p == 1) = false := by simpa using hp1
          rw [this]; simp
      rw [e, restT_k h0 h1', restT_k (by omega) (by omega), hr, wNm_cons]
      rfl
theorem rest_end {bs : List Int} {p : Nat} (h : bs.length ≤ p) : restT bs p = [] := by
  unfold restT
  have hd : bs.drop p = [] := List.drop_of_length_le h
  split
  · rename_i h0
    subst h0
    rw [List.drop_zero] at hd
    rw [hd, raw_nil]; rfl
  split
  · rename_i h1
    rw [h1.1] at hd
    rw [hd, raw_nil]; rfl
  · rw [hd, raw_nil]; rfl
end Go.Proofs.YtbdacepomdlcbaaGreatDoor
set_option linter.unusedVariables false
set_option linter.unusedSimpArgs false
namespace Go.Proofs.YtbdacepomdlcbaaGreatDoor
open Go.RowKit Go.Shelf

theorem hxL_len {n : Nat} (h : n < 65536) : 1 ≤ (hxL n).length ∧ (hxL n).length ≤ 4 := by
  by_cases h1 : n < 16
  · rw [hxL_one h1]; simp
  rw [hxL_big h1]
  by_cases h2 : n / 16 < 16
  · rw [hxL_one h2]; simp
  rw [hxL_big h2]
  by_cases h3 : n / 16 / 16 < 16
  · rw [hxL_one h3]; simp
  rw [hxL_big h3, hxL_one (by omega)]; simp
theorem esc_len {c : Int} (h0 : 0 ≤ c) (h : c < 65536) : (esc c).length ≤ 6 := by
  unfold esc
  have := hxL_len (n := c.toNat) (by omega)
  simp; omega
theorem wLt_len (c : Int) : (wLt c).length ≤ 6 := by
  have := enc1_len c
  unfold wLt
  split
  · rename_i h; obtain ⟨a, b⟩ := hid_bd h; exact esc_len a b
  split
  · omega
  · simp; omega
theorem dig_bd {c : Int} (h : isDig c = true) : 0 ≤ c ∧ c < 65536 := by simp [isDig] at h; omega
def oneT (bs : List Int) (p : Nat) (c : Int) : List Int := if dgT bs p c = true then esc c else wLt c
theorem oneT_len (bs : List Int) (p : Nat) (c : Int) : (oneT bs p c).length ≤ 6 := by
  unfold oneT
  split
  · rename_i h
    unfold dgT at h
    rw [Bool.and_eq_true] at h
    obtain ⟨a, b⟩ := dig_bd h.1
    exact esc_len a b
  · exact wLt_len c
theorem Bd.lt {B b : Nat} {xs : List Int} {w : World} (h : Bd B b xs w) : b < w.heap.size := by
  rcases h with ⟨_, v, h, _⟩ | ⟨_, v, h, _⟩ <;> exact (Array.getElem?_eq_some_iff.1 h).1
/-- The iterator moved on. -/
theorem PB.iter {B b : Nat} {xs : List Int} {w wr : World} (h : PB B b xs w wr) (hB : B ≤ w.heap.size) {s : ByteArray} {p : Nat} (hit : wr.heap[w.heap.size]? = some (.stringIter s p)) (p' : Nat) : PB B b xs w (wr.iterAt w.heap.size s p') := by
  refine ⟨Lib.IsBuilderF.iterAt h.bd hit p', Lib.below_iterAt h.bel hB s p', fun k o hk hb ho => ?_⟩
  have hlt := (Array.getElem?_eq_some_iff.1 hk).1
  rw [Lib.iterAt_other wr w.heap.size k s p' (by omega)]
  exact h.oth k o hk hb ho
/-- The state of a loop over characters that writes. -/
def RelW (B b : Nat) (xs : List Int) (s : ByteArray) (w : World) (R : Nat → List Int) (wr : World) : Prop := ∃ p done, p ≤ s.size ∧ Hid (PB B b (xs ++ done) w wr ∧ wr.heap[w.heap.size]? = some (.stringIter s p) ∧ R 0 = done ++ R p ∧ whole ((bl s).drop p) = true ∧ done.length ≤ 6 * p)
theorem RelW.mk {B b : Nat} {xs : List Int} {s : ByteArray} {w : World} {R : Nat → List Int} {wr : World} (p : Nat) (done : List Int) (h0 : p ≤ s.size) (h : PB B b (xs ++ done) w wr ∧ wr.heap[w.heap.size]? = some (.stringIter s p) ∧ R 0 = done ++ R p ∧ whole ((bl s).drop p) = true ∧ done.length ≤ 6 * p) : RelW B b xs s w R wr := ⟨p, done, h0, h⟩
theorem PB.range {B b : Nat} {xs : List Int} {w : World} (h : Bd B b xs w) (hB : B ≤ w.heap.size) (s : ByteArray) : PB B b xs w (w.alloc (.stringIter s 0)) ∧ (w.alloc (.stringIter s 0)).heap[w.heap.size]? = some (.stringIter s 0) :=
  ⟨(PB.start h).grow hB (bplus (Below.refl _ _) _), heap_alloc_new w _⟩
/-- What a round finds. -/
structure Rnd (B b : Nat) (xs : List Int) (s : ByteArray) (w wr : World) (p : Nat) (done : List Int) (wi : World) (c : Int) (k : Nat) : Prop where
  nx : ∀ ty, (Instr.next (.pointer (some ⟨w.heap.size, 0, none⟩)) true ty).run Tryz.prog wr = .ok (.tuple #[.bool true, .int .i64 (p : Int), .int .i32 c]) wi
  it : wi.heap[w.heap.size]? = some (.stringIter s (p + k))
  pb : PB B b (xs ++ done) w wi
  isc : isC c = true
  k1 : 1 ≤ k
  ks : p + k ≤ s.size
  rw : raw ((bl s).drop p) = c :: raw ((bl s).drop (p + k))
  wh : whole ((bl s).drop (p + k)) = true
  lo : c ≤ 127 → k = 1 ∧ Go.Proofs.YtbdacepomdlcbaaGreatDoor.nx (bl s) p = c
  hi : 127 < c → 2 ≤ k ∧ 128 ≤ Go.Proofs.YtbdacepomdlcbaaGreatDoor.nx (bl s) p
theorem rnd_of {B b : Nat} {xs : List Int} {s : ByteArray} {w wr : World} {p : Nat} {done : List Int} (h : PB B b (xs ++ done) w wr) (hB : B ≤ w.heap.size) (hit : wr.heap[w.heap.size]? = some (.stringIter s p)) (hw : whole ((bl s).drop p) = true) (hp : p < s.size) : ∃ wi c k, Rnd B b xs s w wr p done wi c k := by
  obtain ⟨c, k, c0, k1, k4, ks, hd, hr, hw2, lo, hi⟩ := dec_whole_at s p hp hw
  refine ⟨wr.iterAt w.heap.size s (p + k), c, k, ?_, Lib.iterAt_heap wr w.heap.size s p (p + k) hit, h.iter hB hit _, c0, k1, ks, hr, hw2, lo, hi⟩
  intro ty
  rw [Lib.run_next_any_at wr w.heap.size s p ty hit hp, hd]
  have := (isC_iff c).1 c0
  rw [show ((c.toNat : Nat) : Int) = c by omega]
theorem Rnd.on {B b : Nat} {xs : List Int} {s : ByteArray} {w wr : World} {R : Nat → List Int} {p : Nat} {done : List Int} {wi : World} {c : Int} {k : Nat} (r : Rnd B b xs s w wr p done wi c k) (hbk : b ≠ w.heap.size) {t : List Int} {w1 : World} (P : PB B b ((xs ++ done) ++ t) wi w1) (h0 : R 0 = done ++ R p) (h : R p = t ++ R (p + k)) (hl : done.length ≤ 6 * p) (ht : t.length ≤ 6) : RelW B b xs s w R w1 ∧ w1.iterPos w.heap.size = p + k := by
  have it1 := P.oth.iter r.it (Ne.symm hbk)
  refine ⟨RelW.mk (p + k) (done ++ t) r.ks ⟨?_, it1, by rw [h0, h, List.append_assoc], r.wh, ?_⟩, by simp only [World.iterPos, it1]⟩
  · have := r.pb.trans P
    rwa [List.append_assoc] at this
  · have := r.k1
    rw [List.length_append]; omega
set_option maxRecDepth 100000 in
set_option maxHeartbeats 4000000 in
theorem wId_any (B b : Nat) (xs : List Int) (s : ByteArray) (w : World) (hw : whole (bl s) = true) (h : Bd B b xs w) (hl : xs.length + 6 * s.size ≤ 70368744177664) (hB : B ≤ w.heap.size) (hT : TB B w) :
    Calls Tryz.prog 68 #[.pointer (some ⟨b, 0, none⟩), .string s] w fun e w' => e = .returned (.tuple #[]) ∧ PB B b (xs ++ wId (bl s)) w w' := by
  by_cases hd : bl s = [45]
  · have E := hide (show wId (bl s) = [92, 45] by unfold wId; rw [if_pos hd])
    obtain rfl : s = ⟨#[45]⟩ := bl_inj hd
    have C := hide (wstr_any B b xs ⟨#[92, 45]⟩ w h (by show _ + 2 ≤ _; omega) hB)
    clear h hT hd
    go_enter Tryz.func68, Tryz.ntmps68
    go_wp2_with (go_at_call 39; refine C.out.mono ?_; rintro e w1 ⟨rfl, P1⟩; replace P1 := hide P1)
    exact bodyPost_ret (v := .tuple #[]) (by simp [results, Tryz.results68, go_sem]) rfl ⟨rfl, by rw [E.out]; exact P1.out⟩
  · have E := hide (show wId (bl s) = restT (bl s) 0 by unfold wId; rw [if_neg hd, restT_0])
    have hne2 : (s.toList == [45]) = false := by
      rw [beq_eq_false_iff_ne]
      intro h
      rw [Lib.toList_data] at h
      exact hd (by unfold bl; rw [h]; rfl)
    have ST := hide (PB.range h hB s)
    have HT := hide hT
    have HW := hide hw
    have hbk : b ≠ w.heap.size := Nat.ne_of_lt h.lt
    have HBK := hide hbk
    clear h hT hd hw hbk
    go_enter Tryz.func68, Tryz.ntmps68
    go_wp2
    go_loopw [] (fun wr => RelW B b xs s w (restT (bl s)) wr) (fun wr => s.size - wr.iterPos w.heap.size)
    case atStart =>
      exact RelW.mk 0 [] (Nat.zero_le _) ⟨by rw [List.append_nil]; exact ST.out.1, ST.out.2, rfl, HW.out, Nat.zero_le _⟩
    case round =>
      clear ST
      obtain ⟨p, done, hp, H⟩ := id hrel
      clear hrel
      by_cases hlt : p < s.size
      · obtain ⟨wi, c, k, r⟩ := rnd_of H.out.1 hB H.out.2.1 H.out.2.2.2.1 hlt
        have hnx := r.nx
        have IP := hide (show wr.iterPos w.heap.size = p by simp only [World.iterPos, H.out.2.1])
        have LN := hide (show (xs ++ done).length ≤ 70368744177664 by have := H.out.2.2.2.2; rw [List.length_append]; omega)
        have SZ := r.pb.size hB
        have TT := hide (HT.out.on r.pb.bel)
        have STP := hide (rest_step r.rw r.k1 r.lo r.hi)
        have CL := hide (wLt_any B b (xs ++ done) c wi r.isc r.pb.bd LN.out SZ TT.out)
        have K1 := r.k1
        have KS := r.ks
        replace r := hide r
        cases D : dgT (bl s) p c with
        | true =>
          rw [D] at STP
          have hdg : isDig c = true := by unfold dgT at D; rw [Bool.and_eq_true] at D; exact D.1
          have CE := hide (wEsc_any B b (xs ++ done) c wi (dig_bd hdg).1 (dig_bd hdg).2 r.out.pb.bd LN.out SZ TT.out)
          have ON := hide (fun w1 (P : PB B b ((xs ++ done) ++ esc c) wi w1) => r.out.on (R := restT (bl s)) HBK.out P H.out.2.2.1 STP.out H.out.2.2.2.2 (esc_len (dig_bd hdg).1 (dig_bd hdg).2))
          have DG := hide hdg
          have hor : p = 0 ∨ (p = 1 ∧ nx (bl s) 0 = 45) := by
            unfold dgT at D; rw [Bool.and_eq_true] at D
            have := D.2
            simpa using this
          clear D STP CL LN TT H hdg r
          rcases hor with rfl | ⟨rfl, h45⟩
          · go_wp2_with (first
              | (go_at_call 96; refine (isDigitS_any c _).mono ?_; rintro e w1 ⟨rfl, rfl⟩; rw [DG.out])
              | (go_at_call 97; refine CE.out.mono ?_; rintro e w1 ⟨rfl, P1⟩; replace P1 := hide P1))
            go_roundw
            case rel => exact (ON.out _ P1.out).1
            case measure => rw [(ON.out _ P1.out).2, IP.out]; omega
          · have hs0 : 0 < s.size := by omega
            have e0 : ((s[0].toNat : Int) == 45) = true := by
              have := bl_nx s 0 hs0
              rw [← h45, this]; simp
            clear h45
            go_wp2_with (first
              | (go_at_call 96; refine (isDigitS_any c _).mono ?_; rintro e w1 ⟨rfl, rfl⟩; rw [DG.out])
              | (go_at_call 97; refine CE.out.mono ?_; rintro e w1 ⟨rfl, P1⟩; replace P1 := hide P1))
            go_roundw
            case rel => exact (ON.out _ P1.out).1
            case measure => rw [(ON.out _ P1.out).2, IP.out]; omega
        | false =>
          rw [D] at STP
          have ON := hide (fun w1 (P : PB B b ((xs ++ done) ++ wLt c) wi w1) => r.out.on (R := restT (bl s)) HBK.out P H.out.2.2.1 STP.out H.out.2.2.2.2 (wLt_len c))
          have hor : isDig c = false ∨ (isDig c = true ∧ ((2 ≤ p) ∨ (p = 1 ∧ nx (bl s) 0 ≠ 45))) := by
            unfold dgT at D
            cases hdg : isDig c with
            | false => exact Or.inl rfl
            | true =>
              refine Or.inr ⟨rfl, ?_⟩
              rw [hdg] at D
              simp at D
              by_cases h1 : p = 1
              · exact Or.inr ⟨h1, D.2 h1⟩
              · exact Or.inl (by omega)
          clear D STP LN TT H r
          rcases hor with hdg | ⟨hdg, h2 | ⟨rfl, h45⟩⟩
          · have DG := hide hdg
            clear hdg
            go_wp2_with (first
              | (go_at_call 96; refine (isDigitS_any c _).mono ?_; rintro e w1 ⟨rfl, rfl⟩; rw [DG.out])
              | (go_at_call 98; refine CL.out.mono ?_; rintro e w1 ⟨rfl, P1⟩; replace P1 := hide P1))
            go_roundw
            case rel => exact (ON.out _ P1.out).1
            case measure => rw [(ON.out _ P1.out).2, IP.out]; omega
          · have DG := hide hdg
            clear hdg
            have z0 : ((p : Int) == 0) = false := by simp; omega
            have z1 : ((p : Int) == 1) = false := by simp; omega
            have z2 : (p == 0) = false := by simp; omega
            have z3 : (p == 1) = false := by simp; omega
            go_wp2_with (first
              | (go_at_call 96; refine (isDigitS_any c _).mono ?_; rintro e w1 ⟨rfl, rfl⟩; rw [DG.out])
              | (go_at_call 98; refine CL.out.mono ?_; rintro e w1 ⟨rfl, P1⟩; replace P1 := hide P1))
            go_roundw
            case rel => exact (ON.out _ P1.out).1
            case measure => rw [(ON.out _ P1.out).2, IP.out]; omega
          · have DG := hide hdg
            clear hdg
            have hs0 : 0 < s.size := by omega
            have e0 : ((s[0].toNat : Int) == 45) = false := by
              have := bl_nx s 0 hs0
              rw [beq_eq_false_iff_ne, ← this]; exact h45
            clear h45
            go_wp2_with (first
              | (go_at_call 96; refine (isDigitS_any c _).mono ?_; rintro e w1 ⟨rfl, rfl⟩; rw [DG.out])
              | (go_at_call 98; refine CL.out.mono ?_; rintro e w1 ⟨rfl, P1⟩; replace P1 := hide P1))
            go_roundw
            case rel => exact (ON.out _ P1.out).1
            case measure => rw [(ON.out _ P1.out).2, IP.out]; omega
      · have hnx : ∀ ty, (Instr.next (.pointer (some ⟨w.heap.size, 0, none⟩)) true ty).run Tryz.prog wr = _ := fun ty => Lib.run_next_end_at wr w.heap.size s p ty H.out.2.1 hlt
        go_wp2
        go_end0
        refine ⟨rfl, ?_⟩
        have e : restT (bl s) 0 = done := by rw [H.out.2.2.1, rest_end (by rw [bl_len]; omega), List.append_nil]
        rw [E.out, e]
        exact H.out.1
end Go.Proofs.YtbdacepomdlcbaaGreatDoor
set_option linter.unusedVariables false
set_option linter.unusedSimpArgs false
namespace Go.Proofs.YtbdacepomdlcbaaGreatDoor
open Go.RowKit Go.Shelf

theorem fst4_cases (c : Int) : (c < 65 ∧ isFst c = false) ∨ (65 ≤ c ∧ c ≤ 90 ∧ isFst c = true) ∨ (90 < c ∧ c < 95 ∧ isFst c = false) ∨ (c = 95 ∧ isFst c = true) ∨ (c = 96 ∧ isFst c = false) ∨ (97 ≤ c ∧ c ≤ 122 ∧ isFst c = true) ∨ (122 < c ∧ c < 128 ∧ isFst c = false) ∨ (128 ≤ c ∧ isFst c = true) := by
  have : isFst c = true ↔ (97 ≤ c ∧ c ≤ 122) ∨ (65 ≤ c ∧ c ≤ 90) ∨ c = 95 ∨ 128 ≤ c := by simp [isFst]; omega
  by_cases h : isFst c = true
  · have := this.1 h; simp only [h, and_true]; simp; omega
  · have h' : isFst c = false := by simpa using h
    have : ¬ ((97 ≤ c ∧ c ≤ 122) ∨ (65 ≤ c ∧ c ≤ 90) ∨ c = 95 ∨ 128 ≤ c) := fun k => h (this.2 k)
    simp only [h', and_true]; simp; omega
theorem isDig4_any (c : Int) (w : World) : Calls Tryz.prog 110 #[.int .i32 c] w fun e w' => e = .returned (.bool (isDig c)) ∧ w' = w := by
  rcases (show c < 48 ∨ (48 ≤ c ∧ c ≤ 57) ∨ 57 < c by omega) with h | ⟨h, g⟩ | h
  all_goals
    go_enter Tryz.func110, Tryz.ntmps110
    go_wp2
    go_ret
    exact ⟨ret_bool (by simp [isDig]; omega), rfl⟩
set_option maxHeartbeats 1000000 in
theorem isFst4_any (c : Int) (w : World) : Calls Tryz.prog 109 #[.int .i32 c] w fun e w' => e = .returned (.bool (isFst c)) ∧ w' = w := by
  rcases fst4_cases c with ⟨h, e⟩ | ⟨h, g, e⟩ | ⟨h, g, e⟩ | ⟨rfl, e⟩ | ⟨rfl, e⟩ | ⟨h, g, e⟩ | ⟨h, g, e⟩ | ⟨h, e⟩
  all_goals
    have E := hide e
    clear e
    go_enter Tryz.func109, Tryz.ntmps109
    go_wp2
    go_ret
    exact ⟨ret_bool (by rw [E.out]; first | done | rfl | (simp; omega)), rfl⟩
theorem isLet4_any (c : Int) (w : World) : Calls Tryz.prog 85 #[.int .i32 c] w fun e w' => e = .returned (.bool (isLet c)) ∧ w' = w := by
  cases hf : isFst c
  · cases hd : isDig c
    · by_cases h : c = 45
      · subst h
        have F := hide hf
        have D := hide hd
        clear hf hd
        go_enter Tryz.func85, Tryz.ntmps85
        go_wp2_with (first
          | (go_at_call 109; refine (isFst4_any _ _).mono ?_; rintro e w' ⟨rfl, rfl⟩; rw [F.out])
          | (go_at_call 110; refine (isDig4_any _ _).mono ?_; rintro e w' ⟨rfl, rfl⟩; rw [D.out]))
        go_ret
        exact ⟨rfl, rfl⟩
      · have e1 : (c == 45) = false := by simpa using h
        have F := hide hf
        have D := hide hd
        clear hf hd
        go_enter Tryz.func85, Tryz.ntmps85
        go_wp2_with (first
          | (go_at_call 109; refine (isFst4_any _ _).mono ?_; rintro e w' ⟨rfl, rfl⟩; rw [F.out])
          | (go_at_call 110; refine (isDig4_any _ _).mono ?_; rintro e w' ⟨rfl, rfl⟩; rw [D.out]))
        go_ret
        exact ⟨ret_bool (by unfold isLet; rw [F.out, D.out, e1]; rfl), rfl⟩
    · have F := hide hf
      have D := hide hd
      clear hf hd
      go_enter Tryz.func85, Tryz.ntmps85
      go_wp2_with (first
        | (go_at_call 109; refine (isFst4_any _ _).mono ?_; rintro e w' ⟨rfl, rfl⟩; rw [F.out])
        | (go_at_call 110; refine (isDig4_any _ _).mono ?_; rintro e w' ⟨rfl, rfl⟩; rw [D.out]))
      go_ret
      exact ⟨ret_bool (by unfold isLet; rw [F.out, D.out]; rfl), rfl⟩
  · have F := hide hf
    clear hf
    go_enter Tryz.func85, Tryz.ntmps85
    go_wp2_with (go_at_call 109; refine (isFst4_any _ _).mono ?_; rintro e w' ⟨rfl, rfl⟩; rw [F.out])
    go_ret
    exact ⟨ret_bool (by unfold isLet; rw [F.out]; rfl), rfl⟩
theorem nums_back {w : World} {v : Value} {bs : List Int} (h : Nums .u8 w v bs) (h0 : 0 < bs.length) (hb : By bs) : ∃ s, bl s = bs ∧ (convert 47 9 v).run Tryz.prog w = .ok (.string s) w := by
  rcases h with ⟨_, _, _, rfl⟩ | ⟨b, o, n, c, rfl, hn, _, _, _, _, _, hc⟩
  · simp at h0
  have e : ∀ j, j < bs.length → (((bs.map fun x => UInt8.ofNat x.toNat).getD j 0).toNat : Int) = gt bs j := fun j hj => by
    have := hb (bs[j]) (List.getElem_mem hj)
    rw [gt_eq hj]
    simp [List.getD_eq_getElem?_getD, List.getElem?_map, List.getElem?_eq_getElem hj]
    omega
  refine ⟨⟨(bs.map fun x => UInt8.ofNat x.toNat).toArray⟩, ?_, ?_⟩
  · unfold bl
    rw [List.toList_toArray, List.map_map]
    conv => rhs; rw [← List.map_id bs]
    refine List.map_congr_left fun x hx => ?_
    have := hb x hx
    simp
    omega
  · have k' := run_convert_bytes_back (P := Tryz.prog) w 47 9 5 ⟨b, o, none⟩ c (bs.map fun x => UInt8.ofNat x.toNat) Tryz.underlying47 Tryz.underlying5 Tryz.underlying9 (fun j hj => by
      have hj' : j < bs.length := by simpa using hj
      have e2 := e j hj'
      rw [List.getD_eq_getElem?_getD, List.getElem?_eq_getElem hj] at e2
      rw [Lib.add_plain, hc j (by omega), ← e2]
      rfl)
    rw [List.length_map, ← hn] at k'
    exact k'
theorem enc_sole {c : Int} (h : isC c = true) : enc [c] = enc1 c := by
  unfold enc
  simp [chr, h]
theorem enc1_by {c : Int} (h : isC c = true) : By (enc1 c) := by
  rw [isC_iff] at h
  unfold enc1
  split
  · intro x hx; simp at hx; omega
  split
  · intro x hx; simp at hx; omega
  split
  · intro x hx; simp at hx; omega
  · intro x hx; simp at hx; omega
theorem enc1_pos (c : Int) : 0 < (enc1 c).length := by
  unfold enc1
  split
  · simp
  split
  · simp
  split <;> simp
set_option maxHeartbeats 1000000 in
theorem text4_one (c : Int) (v : Value) (w : World) (hc : isC c = true) (hv : Nums .i32 w v [c]) :
    Calls Tryz.prog 86 #[v] w fun e w' => ∃ s, e = .returned (.string s) ∧ bl s = enc1 c ∧ Below w.heap.size w w' := by
  have C := hide (encR_any [c] v w hv (by simp))
  have HC := hide hc
  clear hv
  go_enter Tryz.func86, Tryz.ntmps86
  go_wp2_with fail
  go_at_call 111
  refine C.out.mono ?_
  rintro e w1 ⟨u, rfl, N, B⟩
  rw [enc_sole HC.out] at N
  obtain ⟨s, hs, hcv⟩ := nums_back N (enc1_pos c) (enc1_by HC.out)
  replace hs := hide hs
  replace B := hide B
  clear N C
  go_wp2
  go_ret
  exact ⟨s, rfl, hs.out, B.out⟩
set_option maxHeartbeats 1000000 in
theorem esc4_any (c : Int) (w : World) (c0 : 0 ≤ c) (hc : c < 65536) (hT : Tabs w) :
    Calls Tryz.prog 81 #[.int .i32 c] w fun e w' => ∃ s, e = .returned (.string s) ∧ bl s = esc c ∧ Below w.heap.size w w' := by
  have C := hide (fmt16 c w c0 hc hT)
  have HL := hide (show ∀ s : ByteArray, bl s = hxL c.toNat → s.size ≤ 4 from fun s hs => by rw [← bl_len, hs]; exact (hxL_len (by omega)).2)
  clear hT
  go_enter Tryz.func81, Tryz.ntmps81
  go_wp2_with (go_at_call 107; refine C.out.mono ?_; rintro e w1 ⟨s, rfl, hs, B⟩; have hz := HL.out s hs; replace hs := hide hs; replace B := hide B)
  go_ret
  exact ⟨_, rfl, by rw [bl_app, bl_app, hs.out]; simp [esc]; rfl, B.out⟩
end Go.Proofs.YtbdacepomdlcbaaGreatDoor
set_option linter.unusedVariables false
set_option linter.unusedSimpArgs false
namespace Go.Proofs.YtbdacepomdlcbaaGreatDoor
open Go.RowKit Go.Shelf

/-- The state of the loop over letters. -/
def RelLs (ls : List Int) (w : World) (i s : Value) (wr : World) : Prop := ∃ (k : Nat) (t : ByteArray), i = .int .i64 k ∧ s = .string t ∧ k ≤ ls.length ∧ t.size ≤ 6 * k ∧ Hid (bl t = wNm (ls.take k) ∧ Below w.heap.size w wr)
theorem RelLs.mk {ls : List Int} {w : World} {i s : Value} {wr : World} (k : Nat) (t : ByteArray) (h1 : i = .int .i64 k) (h2 : s = .string t) (h3 : k ≤ ls.length) (h5 : t.size ≤ 6 * k) (h4 : bl t = wNm (ls.take k) ∧ Below w.heap.size w wr) : RelLs ls w i s wr := ⟨k, t, h1, h2, h3, h5, h4⟩
theorem wNm_take {ls : List Int} {k : Nat} (h : k < ls.length) : wNm (ls.take (k + 1)) = wNm (ls.take k) ++ wLt (gt ls k) := by
  unfold wNm
  rw [List.take_succ_eq_append_getElem h, List.flatMap_append, gt_eq h]
  simp
set_option maxRecDepth 100000 in
set_option maxHeartbeats 2000000 in
theorem letters4_any (ls : List Int) (v : Value) (w : World) (hv : Nums .i32 w v ls) (hc : ∀ x ∈ ls, isC x = true) (hl9 : ls.length ≤ 1099511627776) (hT : Tabs w) :
    Calls Tryz.prog 52 #[v] w fun e w' => ∃ s, e = .returned (.string s) ∧ bl s = wNm ls ∧ Below w.heap.size w w' := by
  rcases hv with ⟨a, c, rfl, rfl⟩ | ⟨b, o, n, c, rfl, hn, h0, hbw, hl, hn9, hc9, hcell⟩
  · go_enter Tryz.func52, Tryz.ntmps52
    go_wp2
    refine wp_loop_rounds 1 ?_
    rw [rounds_succ]
    go_wp2
    go_ret
    exact ⟨_, rfl, rfl, Below.refl _ _⟩
  · have HC := hide (fun (i : Nat) (hi : i < n) (W : World) (hW : Below w.heap.size w W) => (hW.cell (p := ⟨b, o + i, none⟩) hbw).trans (hcell i hi))
    have HI := hide (fun (k : Nat) (hk : k < n) => hc (gt ls k) (by rw [gt_eq (show k < ls.length by omega)]; exact List.getElem_mem _))
    have HN := hide hn
    have HT := hide hT
    have hnb : n ≤ 1099511627776 := by omega
    clear hcell hc hT hn
    go_enter Tryz.func52, Tryz.ntmps52
    go_wp2
    go_loopw [8, 3] (fun i s wr => RelLs ls w i s wr) (fun i s wr => n - (intOf i).toNat)
    case atStart => exact .mk 0 _ rfl rfl (by omega) (Nat.le_refl _) ⟨rfl, Below.refl _ _⟩
    case round =>
      obtain ⟨k, t, rfl, rfl, k1, ht6, R⟩ := hrel
      rw [← HN.out] at k1
      by_cases hk : k < n
      · have c0 := HC.out k hk wr R.out.2
        have hk' : (k : Int) < n := by omega
        have CC := hide (HI.out k hk)
        have ST := hide (wNm_take (ls := ls) (k := k) (by rw [← HN.out]; exact hk))
        obtain ⟨x, hx⟩ : ∃ x, gt ls k = x := ⟨_, rfl⟩
        rw [hx] at c0 CC ST
        have TT := hide (HT.out.below R.out.2)
        clear hx
        have FIN := hide (fun (u : ByteArray) (W : World) (hu : bl u = wLt x) (hW : Below wr.heap.size wr W) => show RelLs ls w (.int .i64 ((k + 1 : Nat) : Int)) (.string (t ++ u)) W from
          .mk (k + 1) _ rfl rfl (by rw [← HN.out]; omega) (by
            have e1 : (t ++ u).size = t.size + u.size := by simp
            have e2 : u.size ≤ 6 := by rw [← bl_len, hu]; exact wLt_len x
            omega) ⟨by rw [bl_app, hu, R.out.1, ST.out], bto R.out.2 hW⟩)
        cases hh : isHid x with
        | true =>
          have E := hide (show wLt x = esc x by unfold wLt; rw [if_pos hh])
          have CE := hide (esc4_any x wr (hid_bd hh).1 (hid_bd hh).2 TT.out)
          have LE := hide (show ∀ u : ByteArray, bl u = esc x → u.size ≤ 6 from fun u hu => by rw [← bl_len, hu]; exact esc_len (hid_bd hh).1 (hid_bd hh).2)
          replace hh := hide hh
          go_wp2_with (first
            | (go_at_call 84; refine (hiddenR_any x _).mono ?_; rintro e w1 ⟨rfl, rfl⟩; rw [hh.out])
            | (go_at_call 81; refine CE.out.mono ?_; rintro e w1 ⟨u, rfl, hu, B1⟩; have hz := LE.out u hu; replace hu := hide hu; replace B1 := hide B1))
          go_roundw
          case rel => exact FIN.out u _ (by rw [hu.out, E.out]) B1.out
          case measure => simp [intOf]; omega
        | false =>
          have NL := Nums.lit (k := .i32) wr 21 [x] 1 rfl (by omega) (by omega)
          have CT := hide (text4_one x _ _ CC.out NL)
          have BA := hide (bplus (Below.refl wr.heap.size wr) (.cells #[.int .i32 x] 21))
          have LE := hide (show ∀ u : ByteArray, bl u = enc1 x → u.size ≤ 4 from fun u hu => by rw [← bl_len, hu]; exact (enc1_len x).2)
          clear NL
          cases hf : isLet x with
          | true =>
            have E := hide (show wLt x = enc1 x by unfold wLt; rw [hh, hf]; rfl)
            replace hh := hide hh
            replace hf := hide hf
            go_wp2_with (first
              | (go_at_call 84; refine (hiddenR_any x _).mono ?_; rintro e w1 ⟨rfl, rfl⟩; rw [hh.out])
              | (go_at_call 85; refine (isLet4_any x _).mono ?_; rintro e w1 ⟨rfl, rfl⟩; rw [hf.out])
              | (go_at_call 86; refine CT.out.mono ?_; rintro e w1 ⟨u, rfl, hu, B1⟩; have hz := LE.out u hu; replace hu := hide hu; replace B1 := hide (bto BA.out B1)))
            go_roundw
            case rel => exact FIN.out u _ (by rw [hu.out, E.out]) B1.out
            case measure => simp [intOf]; omega
          | false =>
            have E := hide (show wLt x = 92 :: enc1 x by unfold wLt; rw [hh, hf]; rfl)
            replace hh := hide hh
            replace hf := hide hf
            go_wp2_with (first
              | (go_at_call 84; refine (hiddenR_any x _).mono ?_; rintro e w1 ⟨rfl, rfl⟩; rw [hh.out])
              | (go_at_call 85; refine (isLet4_any x _).mono ?_; rintro e w1 ⟨rfl, rfl⟩; rw [hf.out])
              | (go_at_call 86; refine CT.out.mono ?_; rintro e w1 ⟨u, rfl, hu, B1⟩; have hz := LE.out u hu; replace hu := hide hu; replace B1 := hide (bto BA.out B1)))
            go_roundw
            case rel => exact FIN.out (⟨#[92]⟩ ++ u) _ (by rw [bl_app, hu.out, E.out]; rfl) B1.out
            case measure => simp [intOf]; omega
      · have hk' : ¬ (k : Int) < n := by omega
        go_wp2
        go_ret
        exact ⟨t, rfl, by rw [R.out.1, List.take_of_length_le (by rw [← HN.out]; omega)], R.out.2⟩
end Go.Proofs.YtbdacepomdlcbaaGreatDoor
set_option linter.unusedVariables false
set_option linter.unusedSimpArgs false
namespace Go.Proofs.YtbdacepomdlcbaaGreatDoor
open Go.RowKit Go.Shelf

set_option maxRecDepth 100000 in
theorem run_tail (W : World) (b o n c : Nat) (p : Nat) (hp : p ≤ n) (h1 : c ≠ p) (h0 : p ≠ 0) : (Instr.slice 87 (.slice (some ⟨b, o, none⟩) n c) (some (.int .i64 (p : Int))) none none).run Tryz.prog W = .ok (.slice (some ⟨b, o + p, none⟩) (n - p) (c - p)) W := by
  rw [run_slice_l (P := Tryz.prog) (w := W) (t := 87) (a := some ⟨b, o, none⟩) (len := n) (cap := c) (ht := by simp [go_sem]) .i64 (p : Int) (by omega) (by omega)]
  simp [go_sem, h1, h0, Addr.add]
set_option maxRecDepth 100000 in
theorem run_tail_end (W : World) (b o n c : Nat) (p : Nat) (hp : p ≤ n) (h1 : c = p) (h0 : p ≠ 0) : (Instr.slice 87 (.slice (some ⟨b, o, none⟩) n c) (some (.int .i64 (p : Int))) none none).run Tryz.prog W = .ok (.slice (some ⟨b, o, none⟩) (n - p) (c - p)) W := by
  rw [run_slice_l (P := Tryz.prog) (w := W) (t := 87) (a := some ⟨b, o, none⟩) (len := n) (cap := c) (ht := by simp [go_sem]) .i64 (p : Int) (by omega) (by omega)]
  simp [go_sem, h1, h0, Addr.add]
theorem Nums.part4 {k : IntKind} {w : World} {b o n c : Nat} {bs : List Int} (h : Nums k w (.slice (some ⟨b, o, none⟩) n c) bs) (p q : Nat) (h1 : p ≤ q) (h2 : q ≤ n) (hc : p < c) :
    Nums k w (.slice (some ⟨b, o + p, none⟩) (q - p) (c - p)) ((bs.drop p).take (q - p)) := by
  rcases h with ⟨a, c', e, rfl⟩ | ⟨b', o', n', c', e, hn, h0, hbw, hl, hn9, hc9, hcc⟩
  · simp at e; obtain ⟨_, rfl, _⟩ := e
    exact .inl ⟨_, _, by rw [show q - p = 0 by omega], by simp⟩
  · simp at e
    obtain ⟨⟨rfl, rfl⟩, rfl, rfl⟩ := e
    by_cases h : q - p = 0
    · exact .inl ⟨_, _, by rw [h], by rw [h]; rfl⟩
    · refine .inr ⟨b, o + p, q - p, c - p, rfl, by rw [List.length_take, List.length_drop]; omega, by omega, hbw, by omega, by omega, by omega, fun i hi => ?_⟩
      rw [Nat.add_assoc, hcc (p + i) (by omega)]
      congr 2
      unfold gt
      simp [List.getD_eq_getElem?_getD, List.getElem?_take, hi]
theorem raw_isC4 (n : Nat) : ∀ bs : List Int, bs.length ≤ n → By bs → whole bs = true → ∀ x ∈ raw bs, isC x = true := by
  induction n with
  | zero => intro bs h _ _ x hx; obtain rfl : bs = [] := List.eq_nil_of_length_eq_zero (by omega); rw [raw_nil] at hx; simp at hx
  | succ n ih =>
    intro bs h hb hw x hx
    by_cases hne : bs = []
    · subst hne; rw [raw_nil] at hx; simp at hx
    · have hs := stp_len bs hne
      rw [whole_cut hne, Bool.and_eq_true] at hw
      rw [raw_cut hne] at hx
      rcases List.mem_cons.1 hx with rfl | hx
      · exact (stp_back bs hb hne hw.1).1
      · exact ih _ (by rw [List.length_drop]; omega) (hb.drop _) hw.2 x hx
theorem nx_gt4 {a : List Int} {i : Nat} (h : i < a.length) : nx a i = gt a i := by simp [gt, nx, List.getD_eq_getElem?_getD, h]
theorem gt_cons {l : List Int} (h : 0 < l.length) : l = gt l 0 :: l.drop 1 := by
  cases l with
  | nil => simp at h
  | cons a r => rfl
theorem gt_cons2 {l : List Int} (h : 1 < l.length) : l = gt l 0 :: gt l 1 :: l.drop 2 := by
  cases l with
  | nil => simp at h
  | cons a r =>
    cases r with
    | nil => simp at h
    | cons b q => rfl
/-- What is left of a slice. -/
theorem Nums.tail4 {k : IntKind} {w : World} {b o n c : Nat} {bs : List Int} (h : Nums k w (.slice (some ⟨b, o, none⟩) n c) bs) (p : Nat) (hp : p ≤ n) (hn : n = bs.length) (hc : n ≤ c) (hp0 : p ≠ 0) :
    Nums k w (.slice (some (if c = p then ⟨b, o, none⟩ else (⟨b, o + p, none⟩ : Addr))) (n - p) (c - p)) (bs.drop p) := by
  by_cases h1 : c = p
  · rw [if_pos h1]
    exact .inl ⟨_, _, by rw [show n - p = 0 by omega], List.drop_of_length_le (by omega)⟩
  · rw [if_neg h1]
    have := h.part4 p n hp (Nat.le_refl _) (by omega)
    rw [List.take_of_length_le (by rw [List.length_drop]; omega)] at this
    exact this
theorem wNm_len (l : List Int) : (wNm l).length ≤ 6 * l.length := by
  induction l with
  | nil => exact Nat.le_refl _
  | cons a r ih =>
    rw [wNm_cons, List.length_append]
    have := wLt_len a
    simp; omega
theorem wLt_45 : wLt 45 = [45] := by decide
theorem wId_digit {bs : List Int} {c : Int} {r : List Int} (h : bs ≠ [45]) (hr : raw bs = c :: r) (hd : isDig c = true) : wId bs = esc c ++ wNm r := by
  unfold wId
  rw [if_neg h, hr]
  show hdT c ++ _ = _
  have : c ≠ 45 := by rintro rfl; exact absurd hd (by decide)
  rw [if_neg this]
  unfold hdT; rw [if_pos hd]
theorem wId_minus {bs : List Int} {c : Int} {r : List Int} (h : bs ≠ [45]) (hr : raw bs = 45 :: c :: r) (hd : isDig c = true) : wId bs = 45 :: (esc c ++ wNm r) := by
  unfold wId
  rw [if_neg h, hr]
  show hdT 45 ++ _ = _
  rw [if_pos rfl]
  show hdT 45 ++ (hdT c ++ _) = _
  have e : hdT 45 = [45] := by decide
  rw [e]
  unfold hdT; rw [if_pos hd]; rfl
theorem wId_plain {bs : List Int} (h : bs ≠ [45]) (h0 : isDig (nx (raw bs) 0) = false) (h1 : nx (raw bs) 0 = 45 → isDig (nx (raw bs) 1) = false) : wId bs = wNm (raw bs) := by
  unfold wId
  rw [if_neg h]
  cases hr : raw bs with
  | nil => rfl
  | cons c r =>
    rw [hr] at h0 h1
    have e0 : nx (c :: r) 0 = c := rfl
    rw [e0] at h0 h1
    have e1 : hdT c = wLt c := by unfold hdT; rw [h0]; rfl
    show hdT c ++ _ = _
    rw [wNm_cons, e1]
    congr 1
    split
    · rename_i h45
      have h2 := h1 h45
      cases r with
      | nil => rfl
      | cons d q =>
        have e2 : nx (c :: d :: q) 1 = d := rfl
        rw [e2] at h2
        show hdT d ++ _ = _
        rw [wNm_cons]
        unfold hdT; rw [h2]; rfl
    · rfl
set_option maxRecDepth 100000 in
set_option maxHeartbeats 2000000 in
theorem ident4_any (s : ByteArray) (w : World) (hs : s.size ≤ 1099511627776) (hch : chB (bl s) = true) (hT : Tabs w) :
    Calls Tryz.prog 50 #[.string s] w fun e w' => ∃ u, e = .returned (.string u) ∧ bl u = wId (bl s) ∧ Below w.heap.size w w' := by
  have C := hide (charsR_any s w hs)
  have HT := hide hT
  have HCH := hide hch
  have hw : whole (bl s) = true := by unfold chB at hch; rw [Bool.and_eq_true] at hch; exact hch.1
  have IC := hide (raw_isC4 _ (bl s) (Nat.le_refl _) (bl_by s) hw)
  have LN := hide (show (raw (bl s)).length ≤ 1099511627776 by have := raw_le (bl s); rw [bl_len] at this; omega)
  clear hT hch hw
  by_cases hd : bl s = [45]
  · have E := hide (show wId (bl s) = [92, 45] by unfold wId; rw [if_pos hd])
    have hne2 : (s.toList == [45]) = true := by
      obtain rfl : s = ⟨#[45]⟩ := bl_inj hd
      rw [Lib.toList_data]
      rfl
    go_enter Tryz.func50, Tryz.ntmps50
    go_wp2_with (go_at_call 51; refine C.out.mono ?_; rintro e w1 ⟨a, n, c, rfl, hN, B1⟩; replace B1 := hide B1; clear hN)
    go_ret
    exact ⟨_, rfl, by rw [E.out]; rfl, B1.out⟩
  · have hne2 : (s.toList == [45]) = false := by
      rw [beq_eq_false_iff_ne]
      intro h
      rw [Lib.toList_data] at h
      exact hd (by unfold bl; rw [h]; rfl)
    have WD := hide (fun c r hr hg => wId_digit (c := c) (r := r) hd hr hg)
    have WM := hide (fun c r hr hg => wId_minus (c := c) (r := r) hd hr hg)
    have WP := hide (fun h0 h1 => wId_plain hd h0 h1)
    clear hd
    go_enter Tryz.func50, Tryz.ntmps50
    go_wp2_with fail
    go_at_call 51
    refine C.out.mono ?_
    rintro e w1 ⟨a, n, c, rfl, hN, B1⟩
    replace hN := hN HCH.out
    replace B1 := hide B1
    have NN := hide hN
    have T1 := hide (HT.out.below B1.out)
    obtain ⟨ls, hls⟩ : ∃ ls, raw (bl s) = ls := ⟨_, rfl⟩
    rw [hls] at hN NN IC LN WD WM WP
    clear hls
    rcases hN with ⟨a', c', e', rfl⟩ | ⟨b, o, n', c', e', hn, h0, hbw, hl, hn9, hc9, hcell⟩
    · simp at e'
      obtain ⟨rfl, rfl, rfl⟩ := e'
      have CL := hide (letters4_any [] _ w1 NN.out IC.out LN.out T1.out)
      go_wp2_with (go_at_call 52; refine CL.out.mono ?_; rintro e w2 ⟨u, rfl, hu, B2⟩; replace hu := hide hu; replace B2 := hide B2)
      go_ret
      exact ⟨u, rfl, by rw [hu.out, WP.out (by rfl) (fun h => by rfl)], bto B1.out B2.out⟩
    · simp at e'
      obtain ⟨rfl, rfl, rfl⟩ := e'
      have k0 : w1.cell? ⟨b, o, none⟩ = some (.int .i32 (gt ls 0)) := hcell 0 h0
      have HN := hide hn
      have g0 : (0 : Int) < n := by omega
      have hnb : n ≤ 1099511627776 := by have := LN.out; omega
      have X0 := hide (show nx ls 0 = gt ls 0 from nx_gt4 (by omega))
      cases D0 : isDig (gt ls 0) with
      | true =>
        have CE := hide (esc4_any (gt ls 0) w1 (dig_bd D0).1 (dig_bd D0).2 T1.out)
        have E := hide (WD.out (gt ls 0) (ls.drop 1) (gt_cons (by omega)) D0)
        replace D0 := hide D0
        clear WD WM WP hcell hn
        obtain ⟨x, hx⟩ : ∃ x, gt ls 0 = x := ⟨_, rfl⟩
        rw [hx] at k0 CE E D0
        clear hx X0
        have CES := hide (fun (W : World) (hb : Below w1.heap.size w1 W) => esc4_any x W (dig_bd D0.out).1 (dig_bd D0.out).2 (T1.out.below hb))
        have CLS := hide (fun (W : World) (v : Value) (hb : Below w1.heap.size w1 W) (hv : Nums .i32 w1 v (ls.drop 1)) => letters4_any (ls.drop 1) v W (hv.below hb) (fun y hy => IC.out y (List.mem_of_mem_drop hy)) (by have := LN.out; rw [List.length_drop]; omega) (T1.out.below hb))
        have KP := hide (fun (W : World) (hb : Below w1.heap.size w1 W) => (hb.cell (p := ⟨b, o, none⟩) hbw).trans k0)
        have NP := NN.out.tail4 1 (by omega) HN.out hl (by omega)
        have LE := hide (show ∀ u : ByteArray, bl u = esc x → u.size ≤ 6 from fun u hu => by rw [← bl_len, hu]; exact esc_len (dig_bd D0.out).1 (dig_bd D0.out).2)
        have LW := hide (show ∀ u : ByteArray, bl u = wNm (ls.drop 1) → u.size ≤ 6 * 1099511627776 from fun u hu => by rw [← bl_len, hu]; have := wNm_len (ls.drop 1); have := LN.out; rw [List.length_drop] at *; omega)
        clear CE NN
        go_wp2_with (go_at_call 76; refine (digitR_any x _).mono ?_; rintro e w2 ⟨rfl, rfl⟩; rw [D0.out])
        by_cases hc1 : c = 1
        · have hn1 : n = 1 := by omega
          replace NP := hide (show Nums .i32 w2 (.slice (some ⟨b, o, none⟩) 0 0) (ls.drop 1) from .inl ⟨_, _, rfl, List.drop_of_length_le (by rw [← HN.out, hn1]; exact Nat.le_refl _)⟩)
          have hsl : ∀ W : World, (Instr.slice 87 (.slice (some ⟨b, o, none⟩) n c) (some (.int .i64 1)) none none).run Tryz.prog W = .ok (.slice (some ⟨b, o, none⟩) 0 0) W := fun W => by
            have := run_tail_end W b o n c 1 (by omega) hc1 (by omega)
            rw [hc1, hn1] at *
            exact this
          clear hc1 hn1
          go_region_held3 (fun w' => w'.cell? ⟨b, o, none⟩ = some (.int .i32 x))
            (exact KP.out _ (by repeat (first | exact Below.refl _ _ | (with_reducible refine Below.drew ?_) | (with_reducible refine below_drewN ?_ _) | (refine bto ?_ (by assumption)))))
            (first
              | (go_at_call 81; refine (CES.out _ (by repeat (first | exact Below.refl _ _ | (with_reducible refine Below.drew ?_) | (with_reducible refine below_drewN ?_ _) | (refine bto ?_ (by assumption))))).mono ?_; rintro _ we ⟨u, rfl, hu, he⟩; have hz := LE.out u hu; replace hu := hide hu; (try (have hq : ¬ (9223372036854775807 < u.size + v.size) := (by omega))))
              | (go_at_call 52; refine (CLS.out _ _ (by repeat (first | exact Below.refl _ _ | (with_reducible refine Below.drew ?_) | (with_reducible refine below_drewN ?_ _) | (refine bto ?_ (by assumption)))) NP.out).mono ?_; rintro _ wl ⟨v, rfl, hv, hvl⟩; have hy := LW.out v hv; replace hv := hide hv; (try (have hq : ¬ (9223372036854775807 < u.size + v.size) := (by omega)))))
          all_goals
            go_wp2
            go_ret
            refine ⟨_, rfl, by rw [bl_app, hu.out, hv.out, E.out], bto B1.out ?_⟩
            repeat (first | exact Below.refl _ _ | (with_reducible refine Below.drew ?_) | (with_reducible refine below_drewN ?_ _) | (refine bto ?_ (by assumption)))
        · rw [if_neg hc1] at NP
          replace NP := hide NP
          have hsl : ∀ W : World, (Instr.slice 87 (.slice (some ⟨b, o, none⟩) n c) (some (.int .i64 1)) none none).run Tryz.prog W = .ok (.slice (some ⟨b, o + 1, none⟩) (n - 1) (c - 1)) W := fun W => run_tail W b o n c 1 (by omega) hc1 (by omega)
          go_region_held3 (fun w' => w'.cell? ⟨b, o, none⟩ = some (.int .i32 x))
            (exact KP.out _ (by repeat (first | exact Below.refl _ _ | (with_reducible refine Below.drew ?_) | (with_reducible refine below_drewN ?_ _) | (refine bto ?_ (by assumption)))))
            (first
              | (go_at_call 81; refine (CES.out _ (by repeat (first | exact Below.refl _ _ | (with_reducible refine Below.drew ?_) | (with_reducible refine below_drewN ?_ _) | (refine bto ?_ (by assumption))))).mono ?_; rintro _ we ⟨u, rfl, hu, he⟩; have hz := LE.out u hu; replace hu := hide hu; (try (have hq : ¬ (9223372036854775807 < u.size + v.size) := (by omega))))
              | (go_at_call 52; refine (CLS.out _ _ (by repeat (first | exact Below.refl _ _ | (with_reducible refine Below.drew ?_) | (with_reducible refine below_drewN ?_ _) | (refine bto ?_ (by assumption)))) NP.out).mono ?_; rintro _ wl ⟨v, rfl, hv, hvl⟩; have hy := LW.out v hv; replace hv := hide hv; (try (have hq : ¬ (9223372036854775807 < u.size + v.size) := (by omega)))))
          all_goals
            go_wp2
            go_ret
            refine ⟨_, rfl, by rw [bl_app, hu.out, hv.out, E.out], bto B1.out ?_⟩
            repeat (first | exact Below.refl _ _ | (with_reducible refine Below.drew ?_) | (with_reducible refine below_drewN ?_ _) | (refine bto ?_ (by assumption)))
      | false =>
        have CL := hide (letters4_any ls _ w1 NN.out IC.out LN.out T1.out)
        replace D0 := hide D0
        by_cases h1 : n = 1
        · have E := hide (WP.out (by rw [X0.out]; exact D0.out) (fun h => by rw [show nx ls 1 = -1 by unfold nx; rw [List.getD_eq_getElem?_getD, List.getElem?_eq_none (by omega)]; rfl]; rfl))
          have D1 := D0
          have hn1 : ¬ (1 : Int) < n := by omega
          clear WD WM WP hcell hn h1 X0
          go_wp2_with (first
            | (go_at_call_of 76 (Value.int IntKind.i32 (gt ls 0)); refine (digitR_any _ _).mono ?_; rintro e w2 ⟨rfl, rfl⟩; rw [D0.out])
            | (go_at_call 76; refine (digitR_any _ _).mono ?_; rintro e w2 ⟨rfl, rfl⟩; rw [D1.out])
            | (go_at_call 52; refine CL.out.mono ?_; rintro e w2 ⟨u, rfl, hu, B2⟩; replace hu := hide hu; replace B2 := hide B2))
          go_ret
          exact ⟨u, rfl, by rw [hu.out, E.out], bto B1.out B2.out⟩
        · have k1 : w1.cell? ⟨b, o + 1, none⟩ = some (.int .i32 (gt ls 1)) := hcell 1 (by omega)
          have X1 := hide (show nx ls 1 = gt ls 1 from nx_gt4 (by omega))
          have hn1 : (1 : Int) < n := by omega
          have hn2 : 1 < n := by omega
          by_cases h45 : gt ls 0 = 45
          · cases D1 : isDig (gt ls 1) with
            | true =>
              have E := hide (WM.out (gt ls 1) (ls.drop 2) (by rw [← h45]; exact gt_cons2 (by omega)) D1)
              replace D1 := hide D1
              rw [h45] at k0 D0
              clear WD WM WP hcell hn X0 X1 CL h45
              obtain ⟨x, hx⟩ : ∃ x, gt ls 1 = x := ⟨_, rfl⟩
              rw [hx] at k1 E D1
              clear hx
              have CES := hide (fun (W : World) (hb : Below w1.heap.size w1 W) => esc4_any x W (dig_bd D1.out).1 (dig_bd D1.out).2 (T1.out.below hb))
              have CLS := hide (fun (W : World) (v : Value) (hb : Below w1.heap.size w1 W) (hv : Nums .i32 w1 v (ls.drop 2)) => letters4_any (ls.drop 2) v W (hv.below hb) (fun y hy => IC.out y (List.mem_of_mem_drop hy)) (by have := LN.out; rw [List.length_drop]; omega) (T1.out.below hb))
              have KP := hide (fun (W : World) (hb : Below w1.heap.size w1 W) => (hb.cell (p := ⟨b, o + 1, none⟩) hbw).trans k1)
              have NP := NN.out.tail4 2 (by omega) HN.out hl (by omega)
              have LE := hide (show ∀ u : ByteArray, bl u = esc x → u.size ≤ 6 from fun u hu => by rw [← bl_len, hu]; exact esc_len (dig_bd D1.out).1 (dig_bd D1.out).2)
              have LW := hide (show ∀ u : ByteArray, bl u = wNm (ls.drop 2) → u.size ≤ 6 * 1099511627776 from fun u hu => by rw [← bl_len, hu]; have := wNm_len (ls.drop 2); have := LN.out; rw [List.length_drop] at *; omega)
              clear NN
              go_wp2_with (first
                | (go_at_call_of 76 (Value.int IntKind.i32 45); refine (digitR_any _ _).mono ?_; rintro e w2 ⟨rfl, rfl⟩; rw [D0.out])
                | (go_at_call 76; refine (digitR_any _ _).mono ?_; rintro e w2 ⟨rfl, rfl⟩; rw [D1.out]))
              by_cases hc1 : c = 2
              · have hq1 : n = 2 := by omega
                replace NP := hide (show Nums .i32 w2 (.slice (some ⟨b, o, none⟩) 0 0) (ls.drop 2) from .inl ⟨_, _, rfl, List.drop_of_length_le (by rw [← HN.out, hq1]; exact Nat.le_refl _)⟩)
                have hsl : ∀ W : World, (Instr.slice 87 (.slice (some ⟨b, o, none⟩) n c) (some (.int .i64 2)) none none).run Tryz.prog W = .ok (.slice (some ⟨b, o, none⟩) 0 0) W := fun W => by
                  have := run_tail_end W b o n c 2 (by omega) hc1 (by omega)
                  rw [hc1, hq1] at *
                  exact this
                clear hc1 hq1
                go_region_held3 (fun w' => w'.cell? ⟨b, o + 1, none⟩ = some (.int .i32 x))
                  (exact KP.out _ (by repeat (first | exact Below.refl _ _ | (with_reducible refine Below.drew ?_) | (with_reducible refine below_drewN ?_ _) | (refine bto ?_ (by assumption)))))
                  (first
                    | (go_at_call 81; refine (CES.out _ (by repeat (first | exact Below.refl _ _ | (with_reducible refine Below.drew ?_) | (with_reducible refine below_drewN ?_ _) | (refine bto ?_ (by assumption))))).mono ?_; rintro _ we ⟨u, rfl, hu, he⟩; have hz := LE.out u hu; replace hu := hide hu; (try (have hq : ¬ (9223372036854775807 < 1 + u.size) := (by omega))))
                    | (go_at_call 52; refine (CLS.out _ _ (by repeat (first | exact Below.refl _ _ | (with_reducible refine Below.drew ?_) | (with_reducible refine below_drewN ?_ _) | (refine bto ?_ (by assumption)))) NP.out).mono ?_; rintro _ wl ⟨v, rfl, hv, hvl⟩; have hy := LW.out v hv; replace hv := hide hv; (try (have hq3 : ¬ (9223372036854775807 < 1 + u.size + v.size) := (by omega)))))
                all_goals
                  go_wp2
                  go_ret
                  refine ⟨_, rfl, by rw [bl_app, bl_app, hu.out, hv.out, E.out]; rfl, bto B1.out ?_⟩
                  repeat (first | exact Below.refl _ _ | (with_reducible refine Below.drew ?_) | (with_reducible refine below_drewN ?_ _) | (refine bto ?_ (by assumption)))
              · rw [if_neg hc1] at NP
                replace NP := hide NP
                have hsl : ∀ W : World, (Instr.slice 87 (.slice (some ⟨b, o, none⟩) n c) (some (.int .i64 2)) none none).run Tryz.prog W = .ok (.slice (some ⟨b, o + 2, none⟩) (n - 2) (c - 2)) W := fun W => run_tail W b o n c 2 (by omega) hc1 (by omega)
                go_region_held3 (fun w' => w'.cell? ⟨b, o + 1, none⟩ = some (.int .i32 x))
                  (exact KP.out _ (by repeat (first | exact Below.refl _ _ | (with_reducible refine Below.drew ?_) | (with_reducible refine below_drewN ?_ _) | (refine bto ?_ (by assumption)))))
                  (first
                    | (go_at_call 81; refine (CES.out _ (by repeat (first | exact Below.refl _ _ | (with_reducible refine Below.drew ?_) | (with_reducible refine below_drewN ?_ _) | (refine bto ?_ (by assumption))))).mono ?_; rintro _ we ⟨u, rfl, hu, he⟩; have hz := LE.out u hu; replace hu := hide hu; (try (have hq : ¬ (9223372036854775807 < 1 + u.size) := (by omega))))
                    | (go_at_call 52; refine (CLS.out _ _ (by repeat (first | exact Below.refl _ _ | (with_reducible refine Below.drew ?_) | (with_reducible refine below_drewN ?_ _) | (refine bto ?_ (by assumption)))) NP.out).mono ?_; rintro _ wl ⟨v, rfl, hv, hvl⟩; have hy := LW.out v hv; replace hv := hide hv; (try (have hq3 : ¬ (9223372036854775807 < 1 + u.size + v.size) := (by omega)))))
                all_goals
                  go_wp2
                  go_ret
                  refine ⟨_, rfl, by rw [bl_app, bl_app, hu.out, hv.out, E.out]; rfl, bto B1.out ?_⟩
                  repeat (first | exact Below.refl _ _ | (with_reducible refine Below.drew ?_) | (with_reducible refine below_drewN ?_ _) | (refine bto ?_ (by assumption)))
            | false =>
              have E := hide (WP.out (by rw [X0.out]; exact D0.out) (fun h => by rw [X1.out]; exact D1))
              rw [h45] at k0 D0
              replace D1 := hide D1
              clear WD WM WP hcell hn h1 X0 X1 h45
              go_wp2_with (first
                | (go_at_call_of 76 (Value.int IntKind.i32 45); refine (digitR_any _ _).mono ?_; rintro e w2 ⟨rfl, rfl⟩; rw [D0.out])
                | (go_at_call 76; refine (digitR_any _ _).mono ?_; rintro e w2 ⟨rfl, rfl⟩; rw [D1.out])
                | (go_at_call 52; refine CL.out.mono ?_; rintro e w2 ⟨u, rfl, hu, B2⟩; replace hu := hide hu; replace B2 := hide B2))
              go_ret
              exact ⟨u, rfl, by rw [hu.out, E.out], bto B1.out B2.out⟩
          · have E := hide (WP.out (by rw [X0.out]; exact D0.out) (fun h => absurd (by rw [← X0.out]; exact h) h45))
            have z : (gt ls 0 == 45) = false := by simpa using h45
            have D1 := D0
            clear WD WM WP hcell hn h1 X0 X1 h45
            go_wp2_with (first
              | (go_at_call_of 76 (Value.int IntKind.i32 (gt ls 0)); refine (digitR_any _ _).mono ?_; rintro e w2 ⟨rfl, rfl⟩; rw [D0.out])
              | (go_at_call 76; refine (digitR_any _ _).mono ?_; rintro e w2 ⟨rfl, rfl⟩; rw [D1.out])
              | (go_at_call 52; refine CL.out.mono ?_; rintro e w2 ⟨u, rfl, hu, B2⟩; replace hu := hide hu; replace B2 := hide B2))
            go_ret
            exact ⟨u, rfl, by rw [hu.out, E.out], bto B1.out B2.out⟩
end Go.Proofs.YtbdacepomdlcbaaGreatDoor
