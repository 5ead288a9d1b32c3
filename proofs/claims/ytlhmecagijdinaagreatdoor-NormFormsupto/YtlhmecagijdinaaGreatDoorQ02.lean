/-
  A world without what lies below B and without a row's own block; a row of forms whose forms hold new memory.
-/
import Derived.Test.YtlhmecagijdinaaGreatDoorH17
import Derived.Deep.AppendLies
set_option linter.unusedVariables false
set_option linter.unusedSimpArgs false
namespace Go.Proofs.YtlhmecagijdinaaGreatDoor.nm
open Go.RowKit cc

def hidW (B : Nat) (v : Value) (w : World) : World := { w with heap := w.heap.mapIdx fun i o => if i < B ∨ some i = v.ownBlock then .cells #[] 0 else o }
theorem hid_size (B : Nat) (v : Value) (w : World) : (hidW B v w).heap.size = w.heap.size := by simp [hidW]
theorem hid_blk {B b : Nat} {v : Value} (w : World) (h : B ≤ b) (hv : some b ≠ v.ownBlock) : (hidW B v w).heap[b]? = w.heap[b]? := by
  simp only [hidW, Array.getElem?_mapIdx]
  cases w.heap[b]? with
  | none => rfl
  | some o => simp [hv]; omega
theorem hid_low {B b : Nat} {v : Value} (w : World) (h : b < B ∨ some b = v.ownBlock) (o : Nat) : (hidW B v w).cell? ⟨b, o, none⟩ = none := by
  unfold World.cell?
  simp only [hidW, Array.getElem?_mapIdx]
  cases w.heap[b]? with
  | none => rfl
  | some x => simp [h]
theorem hid_sees (B : Nat) (v : Value) (w : World) : Sees (hidW B v w) w := ⟨Nat.le_of_eq (hid_size B v w), fun b o x h => by
  by_cases hb : b < B ∨ some b = v.ownBlock
  · rw [hid_low w hb] at h; cases h
  · rw [cell_blk (hid_blk w (by omega) (fun e => hb (.inr e))) o] at h; exact h⟩
/-- What is seen, if all that is seen lies from B on, and not in the row's own block. -/
theorem sees_hid {B : Nat} {v : Value} {wc w : World} (h : Sees wc w) (k : ∀ b o x, wc.cell? ⟨b, o, none⟩ = some x → B ≤ b ∧ some b ≠ v.ownBlock) : Sees wc (hidW B v w) := ⟨by rw [hid_size]; exact h.1, fun b o x hx => by
  obtain ⟨h1, h2⟩ := k b o x hx
  rw [cell_blk (hid_blk w h1 h2) o]
  exact h.2 b o x hx⟩
theorem hid_in {B b o : Nat} {v x : Value} {w : World} (h : (hidW B v w).cell? ⟨b, o, none⟩ = some x) : B ≤ b ∧ some b ≠ v.ownBlock ∧ b < w.heap.size ∧ w.cell? ⟨b, o, none⟩ = some x := by
  by_cases hb : b < B ∨ some b = v.ownBlock
  · rw [hid_low w hb] at h; cases h
  · have hx := h
    rw [cell_blk (hid_blk w (by omega) (fun e => hb (.inr e))) o] at hx
    exact ⟨by omega, fun e => hb (.inr e), World.block_lt_of_cell? _ _ hx, hx⟩
theorem hid_keep {B : Nat} {v v' : Value} {w w' : World} (hs : w.heap.size ≤ w'.heap.size) (hk : ∀ b, B ≤ b → b < w.heap.size → some b ≠ v.ownBlock → w'.heap[b]? = w.heap[b]? ∧ some b ≠ v'.ownBlock) : Sees (hidW B v w) (hidW B v' w') := ⟨by rw [hid_size, hid_size]; exact hs, fun b o x h => by
  obtain ⟨h1, h2, h3, h4⟩ := hid_in h
  obtain ⟨k1, k2⟩ := hk b h1 h3 h2
  rw [cell_blk (hid_blk w' h1 k2) o, cell_blk k1 o]
  exact h4⟩
theorem hid_up {B : Nat} {v : Value} {w w' : World} (h : Below w.heap.size w w') : Sees (hidW B v w) (hidW B v w') := hid_keep h.size (fun b _ hb hv => ⟨h.block b hb, hv⟩)
theorem hid_cut (B : Nat) (v : Value) (w : World) : Sees (hidW B v w) (cutW B w) := ⟨by rw [hid_size, cut_size]; exact Nat.le_refl _, fun b o x h => by
  obtain ⟨h1, h2, h3, h4⟩ := hid_in h
  rw [cell_blk (cut_blk w h1) o]
  exact h4⟩
theorem cut_hid {B C : Nat} {v : Value} {w : World} (h : B ≤ C) (hv : ∀ g, v.ownBlock = some g → g < C) : Sees (cutW C w) (hidW B v w) := sees_hid (cut_sees C w) (fun b o x hx => by
  by_cases hb : b < C
  · rw [cut_low w hb] at hx; cases hx
  · exact ⟨by omega, fun e => by have := hv b e.symm; omega⟩)
/-- A row of forms that a call has made: what its forms hold lies from B on, and not in the row itself. -/
def FH (B n : Nat) (wr : World) (v : Value) (l : List Fo) : Prop := FO (hidW B v wr) B n wr v l
theorem FH.shape {B n : Nat} {wr : World} {v : Value} {l : List Fo} (h : FH B n wr v l) : ∃ a c, v = .slice a l.length c := FO.shape h
theorem FH.own {B n : Nat} {wr : World} {v : Value} {l : List Fo} (h : FH B n wr v l) : ∀ g, v.ownBlock = some g → B ≤ g ∧ g < wr.heap.size := by
  obtain ⟨xs, h1, h2⟩ := h
  exact h1.lt
theorem FH.up {B n : Nat} {wr w' : World} {v : Value} {l : List Fo} (h : FH B n wr v l) (hw : Below wr.heap.size wr w') : FH B n w' v l := (FO.up h hw).sees (hid_up hw)
/-- Blocks below B may change. -/
theorem FH.keep {B n : Nat} {wr w' : World} {v : Value} {l : List Fo} (h : FH B n wr v l) (hs : wr.heap.size ≤ w'.heap.size) (hk : ∀ b, B ≤ b → b < wr.heap.size → w'.heap[b]? = wr.heap[b]?) : FH B n w' v l := (FO.keep h hk).sees (hid_keep hs (fun b h1 h2 h3 => ⟨hk b h1 h2, h3⟩))
/-- All of it, seen from B on. -/
theorem FH.fm {B n : Nat} {wr : World} {v : Value} {l : List Fo} (h : FH B n wr v l) (hl : l.length ≤ 1000000000) : FM (cutW B wr) (n + 1) v l :=
  FO.fm (FO.keep h (fun g hg _ => cut_blk wr hg)) (hid_cut B v wr) hl
/-- A row of one form in a block of its own. -/
theorem FH.one {B n : Nat} {w : World} {f : Fo} (hB : B ≤ w.heap.size) (hus : Us f.us) (hps : f.ps = []) : FH B n (w.alloc (.cells (usL f.us ++ [nilS]).toArray 30)) (.slice (some ⟨w.heap.size, 0, none⟩) 1 1) [f] := by
  refine ⟨usL f.us ++ [nilS], World.ownsRow_lit w (usL f.us ++ [nilS]).toArray 1 hB (by decide) (by rw [List.size_toArray, fo_len hus]), ?_⟩
  have := FoC.cons (w := hidW B (.slice (some ⟨w.heap.size, 0, none⟩) 1 1) (w.alloc (.cells (usL f.us ++ [nilS]).toArray 30))) (n := n) f [] [] nilS hus (by rw [hps]; exact .inl ⟨_, _, rfl, rfl⟩) .nil
  rwa [List.append_nil] at this
/-- 'append(own, form)', where the form holds new memory. -/
theorem wpList_append_formH {wr : World} {B n : Nat} {ops : Array Oper} {rest : List Oper} {o : Oper} {a : Act} {Q : Exit → Act → World → Prop} (hgd : o.guard = none) (s x : Operand)
    (ho : o.op = .call { callee := .builtin .append, args := #[s, x], argTypes := #[58, 58] })
    (v : Value) (l : List Fo) (hs : a.eval s = v) (hown : FH B n wr v l) (hB : B ≤ wr.heap.size) (g : Nat) (f : Fo) (u : Value) (hx : a.eval x = .slice (some ⟨g, 0, none⟩) 1 1) (hg : Bk wr g 30 (usL f.us ++ [u])) (hus : Us f.us) (hpm : PM (hidW B v wr) n u f.ps) (hl : l.length + 1 ≤ 1000000000)
    (h : ∀ v' w', FH B n w' v' (l ++ [f]) → Below B wr w' → wpList Tryz.prog ops Q rest (a.put o.dst v') w') : wpList Tryz.prog ops Q (o :: rest) a wr := by
  obtain ⟨i1, hj, hy0, hy1, hy2⟩ := info_parts infoFo
  have hv := FH.own hown
  obtain ⟨xs, ho1, hr1⟩ := hown
  have hlen := fo_len hus u
  refine wpList_append_lies wr hgd s x 58 ho B 30 i1 _ 15 136 Tryz.underlying58 hj hy0 hy1 hy2 rfl (by decide) v l.length xs hs ho1 ⟨g, 0, none⟩ 1 1 (usL f.us ++ [u]) hx (by rw [hlen]) (fun j y hj' => ?_) (us_one (pm_one hpm)) (by decide) (by unfold maxLen; omega) (by omega) hB _ rfl ?_
  · rw [Addr.add_lit, Nat.zero_add, Bk.cell hg]
    exact hj'
  · intro g' cap w' h1 h2 h3 h4
    have k : Sees (hidW B v wr) (hidW B (.slice (some ⟨g', 0, none⟩) (l.length + 1) cap) w') := hid_keep h2.size (fun b b1 b2 b3 => ⟨h2.block b b2 b3, fun e => by
      have e' : b = g' := by simpa [Value.ownBlock] using e
      rcases h3 with h3 | h3
      · exact b3 (by rw [h3, e'])
      · omega⟩)
    refine h _ w' ⟨xs ++ (usL f.us ++ [u]), by rw [List.length_append]; exact h1, (hr1.sees k).app ?_⟩ ((Below.refl B wr).grown h2 hB (fun q hq => (hv q hq).1))
    have := FoC.cons f [] [] u hus (pm_sees k hpm) (.nil : FoC _ n [] [])
    rwa [List.append_nil] at this
end Go.Proofs.YtlhmecagijdinaaGreatDoor.nm
set_option linter.unusedVariables false
set_option linter.unusedSimpArgs false
namespace Go.Proofs.YtlhmecagijdinaaGreatDoor.nm
open Go.RowKit cc

/-- What becomes of a part's forms. -/
def gnF (k : Int × Int) : Nat → Fo → Fo
  | 0 => id
  | n + 1 => scF k n
theorem scF_gn (k : Int × Int) (n : Nat) (f : Fo) : scF k n f = .mk (ssU (scG (gnF k n) k f)) (ssP (scG (gnF k n) k f)) := by cases n <;> rfl
theorem scG_leng (g : Fo → Fo) (k : Int × Int) (f : Fo) : (scG g k f).length = f.ps.length + 1 := by simp [scG]
theorem scG_at {g : Fo → Fo} {k : Int × Int} {f : Fo} {j : Nat} {p : Pa} (h : f.ps[j]? = some p) : (scG g k f)[j + 1]? = some (pkF (scX k p.1) (p.2.map g)) := by
  rw [scG, List.getElem?_cons_succ, List.getElem?_map, h]; rfl
theorem gnF_len (k : Int × Int) (n : Nat) (x : Fo) : (gnF k n x).ps.length ≤ szF x := by
  cases n with
  | zero => exact ps_le x
  | succ n => exact scF_len k n x
theorem ps_lt (f : Fo) : f.ps.length + 1 ≤ szF f := by
  rw [szF_eq]
  have : (f.ps.map fun _ => 1).sum ≤ (f.ps.map fun p => 1 + (p.2.map szF).sum).sum := sum_le _ (fun p _ => by omega)
  rw [rowg.ones_sum] at this
  omega
/-- The forms whose sum it is have seven fractions each. -/
theorem scG_us (k : Int × Int) (n : Nat) : ∀ {w : World} {v : Value} {us : List (Int × Int)} {l : List Pa}, Us us → PM w n v l → (∀ x ∈ scG (gnF k n) k (.mk us l), Us x.us) ∧ Us (scF k n (.mk us l)).us := by
  have fin : ∀ {n : Nat} {us : List (Int × Int)} {l : List Pa}, (∀ x ∈ scG (gnF k n) k (.mk us l), Us x.us) → (∀ x ∈ scG (gnF k n) k (.mk us l), Us x.us) ∧ Us (scF k n (.mk us l)).us := fun h => ⟨h, by rw [scF_gn]; exact ssU_us h⟩
  have mid : ∀ {n : Nat} {us : List (Int × Int)} {l : List Pa}, Us us → (∀ p ∈ l, ∀ y ∈ p.2, Us (gnF k n y).us) → ∀ x ∈ scG (gnF k n) k (.mk us l), Us x.us := by
    intro n us l hus h x hx
    rw [scG, List.mem_cons] at hx
    rcases hx with rfl | hx
    · exact tmU_us hus k
    · obtain ⟨p, hp, rfl⟩ := List.mem_map.1 hx
      refine pkF_us fun f hf => ?_
      obtain ⟨y, hy, rfl⟩ := List.mem_map.1 hf
      exact h p hp y hy
  induction n with
  | zero =>
    intro w v us l hus hv
    refine fin (mid hus fun p hp y hy => ?_)
    obtain ⟨i, hi⟩ := List.mem_iff_getElem?.1 hp
    obtain ⟨_, _, _, _, _, _, _, _, _, _, hfm⟩ := PM.at hv hi
    rw [(show p.2 = [] ∧ _ from hfm).1] at hy
    cases hy
  | succ n ih =>
    intro w v us l hus hv
    refine fin (mid hus fun p hp y hy => ?_)
    obtain ⟨i, hi⟩ := List.mem_iff_getElem?.1 hp
    obtain ⟨_, _, _, _, _, _, _, _, _, _, hfm⟩ := PM.at hv hi
    obtain ⟨q, hq⟩ := List.mem_iff_getElem?.1 hy
    obtain ⟨m, _, _, _, _, hm, _, _, hyu, _, hpm⟩ := fm_rangeN hfm hq
    obtain rfl : n = m := by omega
    have := (ih hyu hpm).2
    rwa [show Fo.mk y.us y.ps = y by cases y; rfl] at this
/-- The contract of scaling. -/
def ScA (k : Int × Int) (n : Nat) : Prop := ∀ (us : List (Int × Int)) (ps : List Pa) (u : Value) (w : World), Nth w → TabD w → Us us → PM w n u ps → szF (.mk us ps) ≤ 1000000000 → Calls Tryz.prog 38 #[foV us u, ratV k] w fun e w' => ∃ v, e = .returned (foV (scF k n (.mk us ps)).us v) ∧ Us (scF k n (.mk us ps)).us ∧ PM (cutW w.heap.size w') n v (scF k n (.mk us ps)).ps ∧ Below w.heap.size w w'
def RelQi (wA : World) (ga n' : Nat) (gq : List Fo) (i : Value) (wr : World) : Prop := ∃ (m : Nat) (ys zs : List Value), i = .int .i64 m ∧ m ≤ gq.length ∧ Hid (Bk wr ga 30 (ys ++ zs) ∧ FoC (cutW (ga + 1) wr) n' (gq.take m) ys ∧ zs.length + m * 15 = gq.length * 15 ∧ Below ga wA wr)
theorem RelQi.mk {wA : World} {ga n' : Nat} {gq : List Fo} {i : Value} {wr : World} (m : Nat) (ys zs : List Value) (h1 : i = .int .i64 m) (h2 : m ≤ gq.length) (h3 : Bk wr ga 30 (ys ++ zs)) (h4 : FoC (cutW (ga + 1) wr) n' (gq.take m) ys) (h5 : zs.length + m * 15 = gq.length * 15) (h6 : Below ga wA wr) : RelQi wA ga n' gq i wr := ⟨m, ys, zs, h1, h2, h3, h4, h5, h6⟩
def RelQo (w : World) (n : Nat) (fl : List Value) (kn kd : Int) (gl : List Fo) (N : Nat) (i lv : Value) (wr : World) : Prop := ∃ (j : Nat) (la : Option Addr) (lc : Nat), i = .int .i64 j ∧ lv = .slice la ((j + 1 : Nat)) lc ∧ j ≤ N ∧ Hid (Bk wr w.heap.size 30 fl ∧ Bk wr (w.heap.size + 1) 23 [.int .i64 kn, .int .i64 kd] ∧ Bk wr (w.heap.size + 2) 30 [.int .i64 0, .int .i64 0, .int .i64 0, .int .i64 0, .int .i64 0, .int .i64 0, .int .i64 0, .int .i64 0, .int .i64 0, .int .i64 0, .int .i64 0, .int .i64 0, .int .i64 0, .int .i64 0, .slice none 0 0] ∧ FH (w.heap.size + 3) n wr (.slice la (j + 1) lc) (gl.take (j + 1)) ∧ Below w.heap.size w wr)
theorem RelQo.mk {w : World} {n : Nat} {fl : List Value} {kn kd : Int} {gl : List Fo} {N : Nat} {i lv : Value} {wr : World} (j : Nat) (la : Option Addr) (lc : Nat) (h1 : i = .int .i64 j) (h2 : lv = .slice la (j + 1) lc) (h3 : j ≤ N) (h4 : Bk wr w.heap.size 30 fl) (h5 : Bk wr (w.heap.size + 1) 23 [.int .i64 kn, .int .i64 kd]) (h6 : Bk wr (w.heap.size + 2) 30 [.int .i64 0, .int .i64 0, .int .i64 0, .int .i64 0, .int .i64 0, .int .i64 0, .int .i64 0, .int .i64 0, .int .i64 0, .int .i64 0, .int .i64 0, .int .i64 0, .int .i64 0, .int .i64 0, .slice none 0 0]) (h7 : FH (w.heap.size + 3) n wr (.slice la (j + 1) lc) (gl.take (j + 1))) (h8 : Below w.heap.size w wr) : RelQo w n fl kn kd gl N i lv wr := ⟨j, la, lc, h1, h2, h3, h4, h5, h6, h7, h8⟩
set_option maxRecDepth 100000 in
set_option maxHeartbeats 16000000 in
theorem scaling_step (k : Int × Int) (hk : R64 k) (n : Nat) (IH : ∀ m, n = m + 1 → ScA k m) : ScA k n := by
  obtain ⟨kn, kd⟩ := k
  intro us ps u w hN hT hus hu hsz
  obtain ⟨a, c, rfl, hl9⟩ := hu.shape
  have hps := Nat.le_trans (ps_lt (.mk us ps)) hsz
  replace hps : ps.length + 1 ≤ 1000000000 := hps
  have SZ := hide (fun (p : Pa) (hp : p ∈ ps) (x : Fo) (hx : x ∈ p.2) => show szF x ≤ 1000000000 from by have := szF_part (f := .mk us ps) hp hx; omega)
  have LA := hide (fo_len hus (.slice a ps.length c))
  have LU := hide (show (usL us).length = 14 by rw [usL_len, hus.1])
  obtain ⟨GU, GF⟩ := scG_us (kn, kd) n hus hu
  have GL0 := hide (show (scG (gnF (kn, kd) n) (kn, kd) (.mk us ps)).take 1 = [.mk (tmU us (kn, kd)) []] from rfl)
  have GLA := hide (fun (j : Nat) (p : Pa) (h : ps[j]? = some p) => scG_at (g := gnF (kn, kd) n) (k := (kn, kd)) (f := .mk us ps) h)
  have GLN := scG_leng (gnF (kn, kd) n) (kn, kd) (.mk us ps)
  replace GLN := hide (show (scG (gnF (kn, kd) n) (kn, kd) (.mk us ps)).length = ps.length + 1 from GLN)
  have GLP := Nat.le_trans (scG_len (g := gnF (kn, kd) n) (kn, kd) (.mk us ps) (fun p _ x _ => gnF_len (kn, kd) n x)) hsz
  replace GLP := hide GLP
  rw [scF_gn] at GF ⊢
  replace GU := hide GU
  generalize scG (gnF (kn, kd) n) (kn, kd) (.mk us ps) = gl at *
  replace GF := hide (show Us (ssU gl) from GF)
  show Calls Tryz.prog 38 #[.agg (usL us ++ [Value.slice a ps.length c]).toArray, .agg #[.int .i64 kn, .int .i64 kd]] w fun e w' => ∃ v, e = .returned (.agg (usL (ssU gl) ++ [v]).toArray) ∧ Us (ssU gl) ∧ PM (cutW w.heap.size w') n v (ssP gl) ∧ Below w.heap.size w w'
  have CT := hide (fun (W : World) => show Calls Tryz.prog 59 #[.agg (usL us).toArray, .agg #[.int .i64 kn, .int .i64 kd]] W fun e w' => e = .returned (usV (tmU us (kn, kd))) ∧ Below W.heap.size W w' from times_any us (kn, kd) W hus hk)
  have TU := hide (tmU_us hus (kn, kd))
  have HU := hide hu
  have HN := hide hN
  have HT := hide hT
  replace IH := hide IH
  have H7 := hide (show (Tryz.prog.info? 27).map (·.size) = some (usL us).length by rw [LU.out]; kernel_rfl)
  clear hu hN hT hus hk hsz
  generalize tmU us (kn, kd) = tus at *
  obtain ⟨m0, e0, m1, e1, m2, e2, m3, e3, m4, e4, m5, e5, m6, e6, rfl⟩ := us7 TU.out
  replace CT := hide (fun (W : World) => show Calls Tryz.prog 59 #[.agg (usL us).toArray, .agg #[.int .i64 kn, .int .i64 kd]] W fun e w' => e = .returned (.agg #[.int .i64 m0, .int .i64 e0, .int .i64 m1, .int .i64 e1, .int .i64 m2, .int .i64 e2, .int .i64 m3, .int .i64 e3, .int .i64 m4, .int .i64 e4, .int .i64 m5, .int .i64 e5, .int .i64 m6, .int .i64 e6]) ∧ Below W.heap.size W w' from CT.out W)
  have SX := hide (fun (mx bl : Bool) (h : decide (kn < 0) = bl) => show scX (kn, kd) mx = (mx != bl) by rw [← h]; rfl)
  obtain ⟨bl, hbl⟩ : ∃ bl, decide (kn < 0) = bl := ⟨_, rfl⟩
  obtain ⟨FL, hFL⟩ : ∃ q, usL us ++ [Value.slice a ps.length c] = q := ⟨_, rfl⟩
  obtain ⟨fa, hfa⟩ : ∃ q : Array Value, FL.toArray = q := ⟨_, rfl⟩
  rw [hFL, hfa]
  obtain ⟨W1, hW1⟩ : ∃ W1, ((w.alloc (.cells fa 30)).alloc (.cells #[.int .i64 kn, .int .i64 kd] 23)).alloc (.cells #[.int .i64 0, .int .i64 0, .int .i64 0, .int .i64 0, .int .i64 0, .int .i64 0, .int .i64 0, .int .i64 0, .int .i64 0, .int .i64 0, .int .i64 0, .int .i64 0, .int .i64 0, .int .i64 0, .slice none 0 0] 30) = W1 := ⟨_, rfl⟩
  have B0 := hide (show Below w.heap.size w W1 by rw [← hW1]; exact bplus (bplus (bplus (Below.refl _ _) _) _) _)
  have P0 := hide (show Bk W1 w.heap.size 30 FL by rw [← hW1, ← hfa]; exact (three_blk w _ _ _).1)
  have P1 := hide (show Bk W1 (w.heap.size + 1) 23 [.int .i64 kn, .int .i64 kd] by rw [← hW1]; exact (three_blk w _ _ _).2.1)
  have P2 := hide (show Bk W1 (w.heap.size + 2) 30 [.int .i64 0, .int .i64 0, .int .i64 0, .int .i64 0, .int .i64 0, .int .i64 0, .int .i64 0, .int .i64 0, .int .i64 0, .int .i64 0, .int .i64 0, .int .i64 0, .int .i64 0, .int .i64 0, .slice none 0 0] by rw [← hW1]; exact (three_blk w _ _ _).2.2)
  have RU := hide (show W1.rangeAt w.heap.size 0 (usL us) from fun q v hq => by
    have hq2 := (List.getElem?_eq_some_iff.1 hq).1
    rw [Nat.zero_add, Bk.cell P0.out, ← hFL, List.getElem?_append_left hq2]; exact hq)
  have F14 := hide (fun (W : World) (h : Bk W w.heap.size 30 FL) => show W.cell? ⟨w.heap.size, 14, none⟩ = some (.slice a ps.length c) from by rw [Bk.cell h, ← hFL, List.getElem?_append_right (by rw [LU.out]; omega), LU.out]; rfl)
  have HW1 := hide hW1
  have s0 : fa.size = 15 := by rw [← hfa, List.size_toArray, ← hFL]; exact LA.out
  have z0 := Bk.cell P1.out 0
  have z1 := Bk.cell P1.out 1
  simp at z0 z1
  clear hW1 hfa hFL
  go_enter Tryz.func38, Tryz.ntmps38
  go_upto_region 1 with fail
  rw [HW1.out]
  clear HW1
  go_upto_region 2 with fail
  have hx3 : w.heap.size + 3 ≤ W1.heap.size := Bk.lt P2.out
  go_upto_region 3 with (first
    | (refine wpList_load_mid rfl 27 (.tmp 15) rfl w.heap.size 0 rfl (usL us) _ RU.out Tryz.underlying27 rfl H7.out ?_)
    | (go_at_call 59; refine (CT.out _).mono ?_; rintro e wt ⟨rfl, BT⟩; replace BT := hide BT))
  have hxt : W1.heap.size ≤ wt.heap.size := BT.out.size
  have L0 := hide (FH.one (B := w.heap.size + 3) (n := n) (w := wt) (f := .mk [(m0, e0), (m1, e1), (m2, e2), (m3, e3), (m4, e4), (m5, e5), (m6, e6)] []) (by omega) TU.out rfl)
  obtain ⟨W2, hW2⟩ : ∃ W2, wt.alloc (.cells #[.int .i64 m0, .int .i64 e0, .int .i64 m1, .int .i64 e1, .int .i64 m2, .int .i64 e2, .int .i64 m3, .int .i64 e3, .int .i64 m4, .int .i64 e4, .int .i64 m5, .int .i64 e5, .int .i64 m6, .int .i64 e6, .slice none 0 0] 30) = W2 := ⟨_, rfl⟩
  have B2 := hide (show Below W1.heap.size W1 W2 by rw [← hW2]; exact bplus BT.out _)
  have L2 := hide (show FH (w.heap.size + 3) n W2 (.slice (some ⟨wt.heap.size, 0, none⟩) 1 1) (gl.take 1) by rw [GL0.out, ← hW2]; exact L0.out)
  rw [hW2]
  clear hW2 L0 BT CT RU z0 z1 H7
  generalize wt.heap.size = lg at *
  have J0 := hide (Bk.up P0.out B2.out)
  have J1 := hide (Bk.up P1.out B2.out)
  have J2 := hide (Bk.up P2.out B2.out)
  have JB := hide (bto B0.out B2.out)
  have f14 := F14.out W2 J0.out
  clear P0 P1 P2 B0 B2 hxt TU
  go_wp2_with fail
  go_loopw [24, 6] (fun i lv wr => RelQo w n FL kn kd gl ps.length i lv wr) (fun i _ _ => ps.length - (intOf i).toNat)
  case atStart => exact .mk 0 _ _ rfl rfl (by omega) J0.out J1.out J2.out L2.out JB.out
  case round =>
    obtain ⟨j, la, lc, rfl, rfl, hj, R⟩ := hrel
    obtain ⟨wo, hwo⟩ : ∃ wo, wo = wr := ⟨_, rfl⟩
    subst hwo
    have Q0 := hide R.out.1
    have Q1 := hide R.out.2.1
    have Q2 := hide R.out.2.2.1
    have QL := hide R.out.2.2.2.1
    have BW := hide R.out.2.2.2.2
    have hq3 : w.heap.size + 3 ≤ wo.heap.size := Bk.lt Q2.out
    clear R J0 J1 J2 L2 JB f14 hx3
    by_cases hlt : j < ps.length
    · have hlt' : (j : Int) < ps.length := by omega
      obtain ⟨p, hp⟩ : ∃ p, ps[j]? = some p := ⟨_, List.getElem?_eq_getElem hlt⟩
      have GJ := GLA.out j p hp
      have SZp := fun x hx => SZ.out p (List.mem_of_getElem? hp) x hx
      obtain ⟨b, o, c', su, hv', hb, -, -, hc0, hc1, hfm⟩ := PM.at HU.out hp
      obtain ⟨rfl, rfl⟩ : a = some ⟨b, o, none⟩ ∧ c = c' := by cases hv'; exact ⟨rfl, rfl⟩
      obtain ⟨mx, l⟩ := p
      simp only at hfm hc0 hc1 GJ SZp
      rw [SX.out mx bl hbl] at GJ
      obtain ⟨sa, sc, rfl, hl9'⟩ := FM.shape hfm
      have c0 : wo.cell? ⟨b, o + j * 2, none⟩ = some (.bool mx) := (BW.out.cell (p := ⟨b, o + j * 2, none⟩) hb).trans hc0
      have c1 : wo.cell? ⟨b, o + j * 2 + 1, none⟩ = some (.slice sa l.length sc) := (BW.out.cell (p := ⟨b, o + j * 2 + 1, none⟩) hb).trans hc1
      have hbw : b < wo.heap.size := by have := BW.out.size; omega
      have hbn : b ≠ wo.heap.size := by omega
      obtain ⟨n', hn'⟩ : ∃ n', l = [] ∨ n = n' + 1 := by
        cases n with
        | zero => exact ⟨0, .inl (show l = [] ∧ _ from hfm).1⟩
        | succ q => exact ⟨q, .inr rfl⟩
      obtain ⟨gq, hgq⟩ : ∃ q, l.map (gnF (kn, kd) n) = q := ⟨_, rfl⟩
      have GQL := hide (show gq.length = l.length by rw [← hgq, List.length_map])
      have GQA := hide (fun (q : Nat) (f : Fo) (h : l[q]? = some f) => show gq[q]? = some (gnF (kn, kd) n f) from by rw [← hgq, List.getElem?_map, h]; rfl)
      have GQU := hide (fun (f : Fo) (hf : f ∈ l) (m : Nat) (hm : n = m + 1) (u' : Value) (W : World) (hu : Us f.us) (hpm : PM W m u' f.ps) => show Us (gnF (kn, kd) n f).us from by
        subst hm
        have := (scG_us (kn, kd) m hu hpm).2
        rwa [show Fo.mk f.us f.ps = f by cases f; rfl] at this)
      rw [hgq] at GJ
      obtain ⟨W3, hW3⟩ : ∃ W3, (wo.alloc (.cells #[.bool mx, .slice sa l.length sc] 60)).alloc (.cells (madeCells #[.int .i64 0, .int .i64 0, .int .i64 0, .int .i64 0, .int .i64 0, .int .i64 0, .int .i64 0, .int .i64 0, .int .i64 0, .int .i64 0, .int .i64 0, .int .i64 0, .int .i64 0, .int .i64 0, .slice none 0 0] (l.length * 15)) 30) = W3 := ⟨_, rfl⟩
      have S3 : W3.heap.size = wo.heap.size + 2 := by rw [← hW3]; simp
      have B3 := hide (show Below wo.heap.size wo W3 by rw [← hW3]; exact bplus (bplus (Below.refl _ _) _) _)
      have M0 := hide (show Bk W3 wo.heap.size 60 [.bool mx, .slice sa l.length sc] by rw [← hW3]; exact (two_new wo _ _).1)
      have M1 := hide (show Bk W3 (wo.heap.size + 1) 30 (madeCells #[.int .i64 0, .int .i64 0, .int .i64 0, .int .i64 0, .int .i64 0, .int .i64 0, .int .i64 0, .int .i64 0, .int .i64 0, .int .i64 0, .int .i64 0, .int .i64 0, .int .i64 0, .int .i64 0, .slice none 0 0] (l.length * 15)).toList by unfold Bk; rw [Array.toArray_toList, ← hW3]; exact (two_new wo _ _).2)
      have ML := hide (show (madeCells #[.int .i64 0, .int .i64 0, .int .i64 0, .int .i64 0, .int .i64 0, .int .i64 0, .int .i64 0, .int .i64 0, .int .i64 0, .int .i64 0, .int .i64 0, .int .i64 0, .int .i64 0, .int .i64 0, .slice none 0 0] (l.length * 15)).toList.length + 0 * 15 = gq.length * 15 by rw [Array.length_toList, size_madeCells, GQL.out]; omega)
      have HW3 := hide hW3
      have MK := madeF l.length hl9' (wo.alloc (.cells #[.bool mx, .slice sa l.length sc] 60))
      rw [show (wo.alloc (.cells #[.bool mx, .slice sa l.length sc] 60)).heap.size = wo.heap.size + 1 by simp] at MK
      rw [hW3] at MK
      have HFM := hide hfm
      have HN' := hide hn'
      have HSZ := hide SZp
      have HGJ := hide GJ
      have HGQ := hide hgq
      clear hW3 hfm hn' hp SZp GJ hgq hc0 hc1 hv'
      go_upto_region 7 with fail
      clear MK c0 c1
      obtain ⟨t0, t1⟩ := bxk_2g (show W3.heap[wo.heap.size]? = some (.cells #[.bool mx, .slice sa l.length sc] 60) from M0.out)
      obtain ⟨ga, hga⟩ : ∃ ga, wo.heap.size + 1 = ga := ⟨_, rfl⟩
      have HGA := hide hga
      rw [hga] at M1 ⊢
      go_wp2_with fail
      clear t0 t1 hga
      go_loopw [35] (fun i wq => RelQi W3 ga n' gq i wq) (fun i _ => l.length - (intOf i).toNat)
      case atStart => exact .mk 0 [] _ rfl (by omega) M1.out .nil ML.out (Below.refl _ _)
      case round =>
        obtain ⟨m, xs, ws, rfl, hm, R⟩ := hrel
        obtain ⟨wq, hwq⟩ : ∃ wq, wq = wr := ⟨_, rfl⟩
        subst hwq
        have X0 := hide R.out.1
        have X1 := hide R.out.2.1
        have X2 := R.out.2.2.1
        have XB := hide R.out.2.2.2
        have hgq' : ga < wq.heap.size := Bk.lt X0.out
        have hga := HGA.out
        have BOQ := hide (show Below wo.heap.size wo wq from B3.out.trans (XB.out.mono (by omega)))
        have BWQ := hide (show Below w.heap.size w wq from bto BW.out BOQ.out)
        clear R M1 ML HW3
        have hgl := GQL.out
        by_cases hlm : m < l.length
        · have hlm' : (m : Int) < l.length := by omega
          obtain ⟨f, hf⟩ : ∃ f, l[m]? = some f := ⟨_, List.getElem?_eq_getElem hlm⟩
          obtain ⟨m', b2, o2, c2, fu, hnm, hv2, hb2, hfus, hrg, hfpm⟩ := fm_rangeN HFM.out hf
          obtain ⟨rfl, rfl⟩ : sa = some ⟨b2, o2, none⟩ ∧ sc = c2 := by cases hv2; exact ⟨rfl, rfl⟩
          obtain rfl : n' = m' := by have := HN'.out.resolve_left (fun h => by rw [h] at hlm; simp at hlm); omega
          have lA := fo_len hfus fu
          have lA0 := hide lA
          have CI := hide (fun (W : World) (h : Below w.heap.size w W) => IH.out n' hnm f.us f.ps fu W (HN.out.low h) (HT.out.low h) hfus (PM.low h hfpm) (by rw [show Fo.mk f.us f.ps = f by cases f; rfl]; exact HSZ.out f (List.mem_of_getElem? hf)))
          rw [show Fo.mk f.us f.ps = f by cases f; rfl] at CI
          have GA := GQA.out m f hf
          have SU := GQU.out f (List.mem_of_getElem? hf) n' hnm fu w hfus hfpm
          rw [hnm] at GA SU
          rw [show gnF (kn, kd) (n' + 1) f = scF (kn, kd) n' f from rfl] at GA SU
          generalize scF (kn, kd) n' f = sf at *
          obtain ⟨sus, sps⟩ := sf
          replace SU : Us sus := SU
          have RG := hide (show wq.rangeAt b2 (o2 + m * 15) (usL f.us ++ [fu]) from fun q v hq => (BWQ.out.cell (p := ⟨b2, o2 + m * 15 + q, none⟩) hb2).trans (hrg q v hq))
          have OA := hide (us_one (us := f.us) (pm_one hfpm))
          have OC := hide (fun (v : Value) (h : v.oneCell' = true) => us_one (us := sus) h)
          have LC := hide (fun (v : Value) => fo_len SU v)
          have hxl : xs.length = m * 15 := by rw [X1.out.len, List.length_take]; omega
          obtain ⟨ws0, ws', hw0, rfl⟩ : ∃ ws0 ws', ws0.length = 15 ∧ ws = ws0 ++ ws' := ⟨ws.take 15, ws.drop 15, by rw [List.length_take]; omega, (List.take_append_drop 15 ws).symm⟩
          have NX := hide (fun (W4 w5 : World) (v : Value) (h4 : Below wq.heap.size wq W4) (h5 : Below W4.heap.size W4 w5) (hp : PM (cutW W4.heap.size w5) n' v sps) => show Bk (w5.setCells ga (m * 15) (usL sus ++ [v])) ga 30 ((xs ++ (usL sus ++ [v])) ++ ws') ∧ FoC (cutW (ga + 1) (w5.setCells ga (m * 15) (usL sus ++ [v]))) n' (gq.take (m + 1)) (xs ++ (usL sus ++ [v])) ∧ Below ga W3 (w5.setCells ga (m * 15) (usL sus ++ [v])) from by
            have h45 := bto h4 h5
            have q : Bk w5 ga 30 (xs ++ (ws0 ++ ws')) := Bk.up X0.out h45
            refine ⟨mid_put q hxl (by rw [hw0, fo_len SU]), ?_, ?_⟩
            · rw [List.take_add_one, GA]
              have o1 : FoC (cutW (ga + 1) (w5.setCells ga (m * 15) (usL sus ++ [v]))) n' (gq.take m) xs := X1.out.sees (cut_keep (Nat.le_refl _) (by rw [setCells_size]; exact h45.size) (fun b hb hl => (setCells_far b ga 0 (by omega) _ _ _).trans (h45.block b hl)))
              have o2 : PM (cutW (ga + 1) (w5.setCells ga (m * 15) (usL sus ++ [v]))) n' v sps := pm_sees (cut_keep (by have := h4.size; omega) (by rw [setCells_size]; omega) (fun b hb hl => setCells_far b ga 0 (by have := h4.size; omega) _ _ _)) hp
              have o3 := o1.app (.cons (.mk sus sps) [] [] v SU o2 .nil)
              rwa [List.append_nil] at o3
            · exact (XB.out.trans (h45.mono (by omega))).grown (setCells_grown _ _ _ _) (by have := h45.size; omega) (fun k hk => by cases hk; exact Nat.le_refl _))
          replace CI := hide (fun (W : World) (h : Below w.heap.size w W) => show Calls Tryz.prog 38 #[.agg (usL f.us ++ [fu]).toArray, .agg #[.int .i64 kn, .int .i64 kd]] W fun e w' => ∃ v, e = .returned (.agg (usL sus ++ [v]).toArray) ∧ Us sus ∧ PM (cutW W.heap.size w') n' v sps ∧ Below W.heap.size W w' from CI.out W h)
          have XT := hide (fun (W : World) (h : Below wq.heap.size wq W) => mid_there (Bk.up X0.out h) hxl (m := 15) hw0.symm)
          have hb2w : b2 < wq.heap.size := by have := BWQ.out.size; omega
          have hb2n : b2 ≠ wq.heap.size := by omega
          have KQ := hide (Bk.up Q1.out BOQ.out)
          have L7 : (usL sus).length = 14 := by rw [usL_len, SU.1]
          have X3 := hide (show ws'.length + (m + 1) * 15 = gq.length * 15 by rw [List.length_append] at X2; omega)
          clear X2 X1 hf hfus hfpm hrg GA SU hw0
          (try clear hv2)
          generalize usL f.us ++ [fu] = A at *
          generalize usL sus = SL at *
          have sA : A.toArray.size = 15 := by rw [List.size_toArray]; exact lA
          obtain ⟨W4, hW4⟩ : ∃ W4, (wq.alloc (.cells #[.int .i64 0, .int .i64 0, .int .i64 0, .int .i64 0, .int .i64 0, .int .i64 0, .int .i64 0, .int .i64 0, .int .i64 0, .int .i64 0, .int .i64 0, .int .i64 0, .int .i64 0, .int .i64 0, .slice none 0 0] 30)).setCells wq.heap.size 0 A = W4 := ⟨_, rfl⟩
          have T4 := hide (show (wq.alloc (.cells #[.int .i64 0, .int .i64 0, .int .i64 0, .int .i64 0, .int .i64 0, .int .i64 0, .int .i64 0, .int .i64 0, .int .i64 0, .int .i64 0, .int .i64 0, .int .i64 0, .int .i64 0, .int .i64 0, .slice none 0 0] 30)).there wq.heap.size 0 A.toArray.size from there_blk (heap_alloc_new wq _) (by rw [sA]; rfl))
          have H4 := hide (show (Tryz.prog.info? 30).map (·.size) = some A.toArray.size by rw [sA]; kernel_rfl)
          have H5 := hide (show (Tryz.prog.info? 30).map (·.size) = some A.length by rw [lA]; kernel_rfl)
          have B4 := hide (show Below wq.heap.size wq W4 by rw [← hW4]; exact (bplus (Below.refl _ _) _).grown (setCells_grown _ _ _ _) (by simp) (fun k hk => by cases hk; exact Nat.le_refl _))
          have R4 := hide (show W4.rangeAt wq.heap.size 0 A by
            have q := Bk.puts A 0 _ _ (Bk.new wq 30 [.int .i64 0, .int .i64 0, .int .i64 0, .int .i64 0, .int .i64 0, .int .i64 0, .int .i64 0, .int .i64 0, .int .i64 0, .int .i64 0, .int .i64 0, .int .i64 0, .int .i64 0, .int .i64 0, .slice none 0 0]) (by rw [lA]; simp)
            rw [List.take_zero, List.nil_append, Nat.zero_add, List.drop_of_length_le (by rw [lA]; simp), List.append_nil] at q
            rw [← hW4]
            exact range_blk q)
          have HW4 := hide hW4
          have hq4 : wq.heap.size < W4.heap.size := by rw [← hW4, setCells_size]; simp
          clear hW4
          go_upto_region 10 with (first
            | (refine wpList_load_mid rfl 30 (.tmp 38) rfl b2 (o2 + m * 15) rfl A _ RG.out Tryz.underlying30 rfl H5.out ?_)
            | (refine wpList_store_mid rfl 30 (.tmp 11) (.tmp 39) rfl wq.heap.size 0 A.toArray rfl rfl T4.out H4.out (all_oneCell_toArray OA.out) ?_))
          (try rw [show A.toArray.toList = A from rfl])
          rw [HW4.out]
          clear HW4 T4 RG
          have k0 := Bk.cell (Bk.up KQ.out B4.out) 0
          have k1 := Bk.cell (Bk.up KQ.out B4.out) 1
          simp at k0 k1
          go_wp2_with (first
            | (refine wpList_load_mid rfl 30 (.tmp 11) rfl wq.heap.size 0 rfl A _ R4.out Tryz.underlying30 rfl H5.out ?_)
            | (go_at_call 38; refine (CI.out _ (bto BWQ.out B4.out)).mono ?_; rintro e w5 ⟨v, rfl, -, PV, B5⟩; replace PV := hide PV; replace B5 := hide B5)
            | (refine wpList_store_mid rfl 30 (.tmp 45) (.tmp 44) rfl ga (m * 15) (SL ++ [v]).toArray rfl rfl (by rw [List.size_toArray, LC.out v]; exact XT.out _ (bto B4.out B5.out)) (by rw [List.size_toArray, LC.out v]; kernel_rfl) (all_oneCell_toArray (OC.out v (pm_one PV.out))) ?_))
          (try rw [show (SL ++ [v]).toArray.toList = SL ++ [v] from rfl])
          go_roundw
          case rel => exact .mk (m + 1) (xs ++ (SL ++ [v])) ws' (by go_num) (by omega) (NX.out W4 w5 v B4.out B5.out PV.out).1 (NX.out W4 w5 v B4.out B5.out PV.out).2.1 X3.out (NX.out W4 w5 v B4.out B5.out PV.out).2.2
          case measure => simp [intOf]; omega
        · obtain rfl : m = l.length := by omega
          have hlm' : ¬ ((l.length : Nat) : Int) < l.length := by omega
          have X1' : FoC (cutW (ga + 1) wq) n' gq xs := by have := X1.out; rwa [List.take_of_length_le (by omega)] at this
          obtain rfl : ws = [] := List.eq_nil_of_length_eq_zero (by omega)
          rw [List.append_nil] at X0
          have own := FH.own QL.out
          have hgaB : w.heap.size + 3 ≤ ga := by omega
          have FMN := hide (show FM (hidW (w.heap.size + 3) (.slice la (j + 1) lc) wq) n (.slice (some ⟨ga, 0, none⟩) gq.length gq.length) gq from by
            rcases HN'.out with h | h
            · have : gq = [] := List.eq_nil_of_length_eq_zero (by rw [hgl, h]; rfl)
              subst this; exact fm_nil _ _ _ _
            · rw [h]
              exact foc_fm (X1'.sees (cut_hid (by omega) (fun g hg => by have := (own g hg).2; omega))) (show Bk (hidW (w.heap.size + 3) (.slice la (j + 1) lc) wq) ga 30 xs from (hid_blk wq (by omega) (fun e => by have := (own ga e.symm).2; omega)).trans X0.out) (by omega))
          have CP := hide (pickE_any n (mx != bl) gq _ _ wq (HN.out.low BWQ.out) (HT.out.low BWQ.out) FMN.out (hid_sees _ _ _))
          rw [hgl] at CP
          have PU := GU.out _ (List.mem_of_getElem? HGJ.out)
          have GT := hide (show gl.take (j + 1 + 1) = gl.take (j + 1) ++ [pkF (mx != bl) gq] by rw [List.take_add_one, HGJ.out]; rfl)
          have GTL := hide (show (gl.take (j + 1)).length = j + 1 by rw [List.length_take, GLN.out]; omega)
          have GTM := hide (show (gl.take (j + 1 + 1)).length = j + 1 + 1 by rw [List.length_take, GLN.out]; omega)
          have M0q := bxk_2g (show wq.heap[wo.heap.size]? = some (.cells #[.bool mx, .slice sa l.length sc] 60) from Bk.low M0.out XB.out (by omega))
          obtain ⟨p0, p1⟩ := M0q
          have QLq := hide (FH.up QL.out BOQ.out)
          have Q0q := hide (Bk.up Q0.out BOQ.out)
          have Q1q := hide (Bk.up Q1.out BOQ.out)
          have Q2q := hide (Bk.up Q2.out BOQ.out)
          have hBq : w.heap.size + 3 ≤ wq.heap.size := by omega
          have OWN := hide (fun (b : Nat) (h : wq.heap.size ≤ b) => show some b ≠ (Value.slice la (j + 1) lc).ownBlock from fun e => by have := (own b e.symm).2; have := BOQ.out.size; omega)
          generalize pkF (mx != bl) gq = pf at *
          obtain ⟨pus, pps⟩ := pf
          replace PU : Us pus := PU
          obtain ⟨a0, b0, a1, b1, a2, b2, a3, b3, a4, b4, a5, b5, a6, b6, rfl⟩ := us7 PU
          have PU := hide PU
          replace CP := hide (show Calls Tryz.prog 51 #[.bool (mx != bl), .slice (some ⟨ga, 0, none⟩) l.length l.length] wq fun e w' => ∃ fu, e = .returned (.agg #[.int .i64 a0, .int .i64 b0, .int .i64 a1, .int .i64 b1, .int .i64 a2, .int .i64 b2, .int .i64 a3, .int .i64 b3, .int .i64 a4, .int .i64 b4, .int .i64 a5, .int .i64 b5, .int .i64 a6, .int .i64 b6, fu]) ∧ (∀ W : World, Sees (hidW (w.heap.size + 3) (.slice la (j + 1) lc) wq) W → (∀ b, wq.heap.size ≤ b → b < w'.heap.size → W.heap[b]? = w'.heap[b]?) → PM W n fu pps) ∧ Below wq.heap.size wq w' from CP.out)
          clear X0 X1 X1' X2 XB FMN Q0 Q1 Q2 QL own HFM HN' HSZ GQL GQA GQU B3 M0 HU IH
          go_wp2_with (first
            | (go_at_call 51; refine CP.out.mono ?_; rintro e wp ⟨fu, rfl, PF, BP⟩; have PH := hide (PF (hidW (w.heap.size + 3) (.slice la (j + 1) lc) wp) (hid_up BP) (fun b hb hl => hid_blk wp (by omega) (OWN.out b hb))); obtain ⟨xa, xc, rfl, -⟩ := PM.shape PH.out; replace BP := hide BP; clear PF)
            | (at_builtin; refine wpList_append_formH rfl (.tmp 47) (.tmp 54) rfl (.slice la (j + 1) lc) (gl.take (j + 1)) rfl (FH.up QLq.out (bplus BP.out _)) (Nat.le_trans hBq (bplus BP.out _).size) wp.heap.size (.mk [(a0, b0), (a1, b1), (a2, b2), (a3, b3), (a4, b4), (a5, b5), (a6, b6)] pps) (.slice xa pps.length xc) rfl (Bk.new wp _ (usL [(a0, b0), (a1, b1), (a2, b2), (a3, b3), (a4, b4), (a5, b5), (a6, b6)] ++ [Value.slice xa pps.length xc])) PU.out (pm_sees (hid_up (bplus (Below.refl _ _) _)) PH.out) (by rw [GTL.out]; omega) ?_; intro v' w' HO HB; rw [← GT.out] at HO; obtain ⟨la', lc', hv'⟩ := FH.shape HO; rw [GTM.out] at hv'; subst hv'; replace HO := hide HO; replace HB := hide HB))
          go_roundw
          case rel => exact .mk (j + 1) la' lc' (by go_num) rfl (by omega) (Bk.low (Bk.up Q0q.out (bplus BP.out _)) HB.out (by omega)) (Bk.low (Bk.up Q1q.out (bplus BP.out _)) HB.out (by omega)) (Bk.low (Bk.up Q2q.out (bplus BP.out _)) HB.out (by omega)) HO.out ((bto BWQ.out (bplus BP.out _)).trans (HB.out.mono (by omega)))
          case measure => simp [intOf]; omega
    · obtain rfl : j = ps.length := by omega
      have hlt' : ¬ ((ps.length : Nat) : Int) < ps.length := by omega
      have QL' : FH (w.heap.size + 3) n wo (.slice la (ps.length + 1) lc) gl := by have := QL.out; rwa [List.take_of_length_le (by rw [GLN.out]; omega)] at this
      have CS := hide (sumE_any n gl _ (cutW (w.heap.size + 3) wo) wo (HN.out.low BW.out) (cut_sees _ _) (FH.fm QL' (by rw [GLN.out]; omega)) GLP.out)
      have LC := hide (fun (v : Value) => fo_len GF.out v)
      have OC := hide (fun (v : Value) (h : v.oneCell' = true) => us_one (us := ssU gl) h)
      replace CS := hide (show Calls Tryz.prog 49 #[.slice la (ps.length + 1) lc] wo fun e w' => ∃ u, e = .returned (.agg (usL (ssU gl) ++ [u]).toArray) ∧ ∃ B, wo.heap.size ≤ B ∧ PO (cutW (w.heap.size + 3) wo) B n w' u (ssP gl) ∧ Below wo.heap.size wo w' from CS.out)
      have TH := hide (fun (W : World) (h : Below wo.heap.size wo W) => there_blk (n := 15) (show W.heap[w.heap.size + 2]? = some (.cells #[.int .i64 0, .int .i64 0, .int .i64 0, .int .i64 0, .int .i64 0, .int .i64 0, .int .i64 0, .int .i64 0, .int .i64 0, .int .i64 0, .int .i64 0, .int .i64 0, .int .i64 0, .int .i64 0, .slice none 0 0] 30) from Bk.up Q2.out h) rfl)
      have hsz := hide (show w.heap.size + 3 ≤ wo.heap.size from hq3)
      obtain ⟨SL, hSL⟩ : ∃ x, usL (ssU gl) = x := ⟨_, rfl⟩
      rw [hSL] at CS LC OC
      have HSL := hide hSL
      clear hSL
      clear Q0 Q1 Q2 QL QL' HU IH
      go_wp2_with (first
        | (go_at_call 49; refine CS.out.mono ?_; rintro e w5 ⟨v, rfl, B9, hB9, PV, B5⟩; have PM5 := hide (PO.pmS (PO.keep PV (w' := cutW (w.heap.size + 3) w5) (fun g hg hl => cut_blk w5 (by omega))) (cut_keep (Nat.le_refl _) B5.size (fun b hb hl => B5.block b hl)) GLP.out); replace B5 := hide B5; clear PV)
        | (refine wpList_store_mid rfl 30 (.tmp 4) (.tmp 58) rfl (w.heap.size + 2) 0 (SL ++ [v]).toArray rfl rfl (by rw [show (SL ++ [v]).toArray.size = 15 from LC.out v]; exact TH.out _ B5.out) (by rw [List.size_toArray, LC.out v]; kernel_rfl) (all_oneCell_toArray (OC.out v (pm_one PM5.out))) ?_))
      (try rw [show (SL ++ [v]).toArray.toList = SL ++ [v] from rfl])
      refine ret_cell (b := w.heap.size + 2) (cs := SL ++ [v]) Tryz.results38 rfl (World.rangeAt_setCells_same _ _ _ _ (by rw [LC.out v]; exact TH.out _ B5.out)) Tryz.underlying30 rfl (by rw [LC.out v]; kernel_rfl) rfl ?_
      have h5 := B5.out.size
      exact ⟨v, by rw [HSL.out], GF.out, pm_sees (cut_keep (by omega) (by rw [setCells_size]; exact Nat.le_refl _) (fun b hb hl => setCells_far b (w.heap.size + 2) 0 (by omega) _ _ _)) PM5.out, (bto BW.out B5.out).grown (setCells_grown _ _ _ _) (bto BW.out B5.out).size (fun k hk => by cases hk; omega)⟩
theorem scaling_all (k : Int × Int) (hk : R64 k) (n : Nat) : ScA k n := by
  induction n with
  | zero => exact scaling_step k hk 0 (fun m h => by omega)
  | succ n ih => exact scaling_step k hk (n + 1) (fun m h => (show n = m by omega) ▸ ih)
/-- norm.Scale. -/
theorem scaleN_any (k : Int × Int) (hk : R64 k) (n : Nat) (us : List (Int × Int)) (ps : List Pa) (u : Value) (w : World) (hN : Nth w) (hT : TabD w) (hus : Us us) (hv : PM w n u ps) (hsz : szF (.mk us ps) ≤ 1000000000) : Calls Tryz.prog 16 #[foV us u, ratV k] w (PkPost n (scT k n (.mk us ps)) w) :=
  scaleN_of k hk n us ps u w hN hus hv (fun W h => scaling_all (ctR k) (show R64 (ctR k) from ct_i64 hk.1 hk.2) n us ps u W (hN.low h) (hT.low h) hus (PM.low h hv) hsz)
end Go.Proofs.YtlhmecagijdinaaGreatDoor.nm
