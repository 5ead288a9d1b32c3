/-
  A world without what lies below B and without a row's own block; a row of forms whose forms hold new memory.
-/
import Derived.Test.YtlhmecagijdinaaGreatDoorH17
import Derived.Deep.AppendLies
set_option linter.unusedVariables false
set_option linter.unusedSimpArgs false
namespace Go.Proofs.YtlhmecagijdinaaGreatDoor.nm
open Go.RowKit cc

def hidW (B : Nat) (v : Value) (w : World) : World := { w with heap := w.heap.mapIdx fun i o => if i < B ∨ some i = v.ownBlock then .cells #[] 0 else o }
theorem hid_size (B : Nat) (v : Value) (w : World) : (hidW B v w).heap.size = w.heap.size := by simp [hidW]
theorem hid_blk {B b : Nat} {v : Value} (w : World) (h : B ≤ b) (hv : some b ≠ v.ownBlock) : (hidW B v w).heap[b]? = w.heap[b]? := by
  simp only [hidW, Array.getElem?_mapIdx]
  cases w.heap[b]? with
  | none => rfl
  | some o => simp [hv]; omega
theorem hid_low {B b : Nat} {v : Value} (w : World) (h : b < B ∨ some b = v.ownBlock) (o : Nat) : (hidW B v w).cell? ⟨b, o, none⟩ = none := by
  unfold World.cell?
  simp only [hidW, Array.getElem?_mapIdx]
  cases w.heap[b]? with
  | none => rfl
  | some x => simp [h]
theorem hid_sees (B : Nat) (v : Value) (w : World) : Sees (hidW B v w) w := ⟨Nat.le_of_eq (hid_size B v w), fun b o x h => by
  by_cases hb : b < B ∨ some b = v.ownBlock
  · rw [hid_low w hb] at h; cases h
  · rw [cell_blk (hid_blk w (by omega) (fun e => hb (.inr e))) o] at h; exact h⟩
/-- What is seen, if all that is seen lies from B on, and not in the row's own block. -/
theorem sees_hid {B : Nat} {v : Value} {wc w : World} (h : Sees wc w) (k : ∀ b o x, wc.cell? ⟨b, o, none⟩ = some x → B ≤ b ∧ some b ≠ v.ownBlock) : Sees wc (hidW B v w) := ⟨by rw [hid_size]; exact h.1, fun b o x hx => by
  obtain ⟨h1, h2⟩ := k b o x hx
  rw [cell_blk (hid_blk w h1 h2) o]
  exact h.2 b o x hx⟩
theorem hid_in {B b o : Nat} {v x : Value} {w : World} (h : (hidW B v w).cell? ⟨b, o, none⟩ = some x) : B ≤ b ∧ some b ≠ v.ownBlock ∧ b < w.heap.size ∧ w.cell? ⟨b, o, none⟩ = some x := by
  by_cases hb : b < B ∨ some b = v.ownBlock
  · rw [hid_low w hb] at h; cases h
  · have hx := h
    rw [cell_blk (hid_blk w (by omega) (fun e => hb (.inr e))) o] at hx
    exact ⟨by omega, fun e => hb (.inr e), World.block_lt_of_cell? _ _ hx, hx⟩
theorem hid_keep {B : Nat} {v v' : Value} {w w' : World} (hs : w.heap.size ≤ w'.heap.size) (hk : ∀ b, B ≤ b → b < w.heap.size → some b ≠ v.ownBlock → w'.heap[b]? = w.heap[b]? ∧ some b ≠ v'.ownBlock) : Sees (hidW B v w) (hidW B v' w') := ⟨by rw [hid_size, hid_size]; exact hs, fun b o x h => by
  obtain ⟨h1, h2, h3, h4⟩ := hid_in h
  obtain ⟨k1, k2⟩ := hk b h1 h3 h2
  rw [cell_blk (hid_blk w' h1 k2) o, cell_blk k1 o]
  exact h4⟩
theorem hid_up {B : Nat} {v : Value} {w w' : World} (h : Below w.heap.size w w') : Sees (hidW B v w) (hidW B v w') := hid_keep h.size (fun b _ hb hv => ⟨h.block b hb, hv⟩)
theorem hid_cut (B : Nat) (v : Value) (w : World) : Sees (hidW B v w) (cutW B w) := ⟨by rw [hid_size, cut_size]; exact Nat.le_refl _, fun b o x h => by
  obtain ⟨h1, h2, h3, h4⟩ := hid_in h
  rw [cell_blk (cut_blk w h1) o]
  exact h4⟩
theorem cut_hid {B C : Nat} {v : Value} {w : World} (h : B ≤ C) (hv : ∀ g, v.ownBlock = some g → g < C) : Sees (cutW C w) (hidW B v w) := sees_hid (cut_sees C w) (fun b o x hx => by
  by_cases hb : b < C
  · rw [cut_low w hb] at hx; cases hx
  · exact ⟨by omega, fun e => by have := hv b e.symm; omega⟩)
/-- A row of forms that a call has made: what its forms hold lies from B on, and not in the row itself. -/
def FH (B n : Nat) (wr : World) (v : Value) (l : List Fo) : Prop := FO (hidW B v wr) B n wr v l
theorem FH.shape {B n : Nat} {wr : World} {v : Value} {l : List Fo} (h : FH B n wr v l) : ∃ a c, v = .slice a l.length c := FO.shape h
theorem FH.own {B n : Nat} {wr : World} {v : Value} {l : List Fo} (h : FH B n wr v l) : ∀ g, v.ownBlock = some g → B ≤ g ∧ g < wr.heap.size := by
  obtain ⟨xs, h1, h2⟩ := h
  exact h1.lt
theorem FH.up {B n : Nat} {wr w' : World} {v : Value} {l : List Fo} (h : FH B n wr v l) (hw : Below wr.heap.size wr w') : FH B n w' v l := (FO.up h hw).sees (hid_up hw)
/-- Blocks below B may change. -/
theorem FH.keep {B n : Nat} {wr w' : World} {v : Value} {l : List Fo} (h : FH B n wr v l) (hs : wr.heap.size ≤ w'.heap.size) (hk : ∀ b, B ≤ b → b < wr.heap.size → w'.heap[b]? = wr.heap[b]?) : FH B n w' v l := (FO.keep h hk).sees (hid_keep hs (fun b h1 h2 h3 => ⟨hk b h1 h2, h3⟩))
/-- All of it, seen from B on. -/
theorem FH.fm {B n : Nat} {wr : World} {v : Value} {l : List Fo} (h : FH B n wr v l) (hl : l.length ≤ 1000000000) : FM (cutW B wr) (n + 1) v l :=
  FO.fm (FO.keep h (fun g hg _ => cut_blk wr hg)) (hid_cut B v wr) hl
/-- A row of one form in a block of its own. -/
theorem FH.one {B n : Nat} {w : World} {f : Fo} (hB : B ≤ w.heap.size) (hus : Us f.us) (hps : f.ps = []) : FH B n (w.alloc (.cells (usL f.us ++ [nilS]).toArray 30)) (.slice (some ⟨w.heap.size, 0, none⟩) 1 1) [f] := by
  refine ⟨usL f.us ++ [nilS], World.ownsRow_lit w (usL f.us ++ [nilS]).toArray 1 hB (by decide) (by rw [List.size_toArray, fo_len hus]), ?_⟩
  have := FoC.cons (w := hidW B (.slice (some ⟨w.heap.size, 0, none⟩) 1 1) (w.alloc (.cells (usL f.us ++ [nilS]).toArray 30))) (n := n) f [] [] nilS hus (by rw [hps]; exact .inl ⟨_, _, rfl, rfl⟩) .nil
  rwa [List.append_nil] at this
/-- 'append(own, form)', where the form holds new memory. -/
theorem wpList_append_formH {wr : World} {B n : Nat} {ops : Array Oper} {rest : List Oper} {o : Oper} {a : Act} {Q : Exit → Act → World → Prop} (hgd : o.guard = none) (s x : Operand)
    (ho : o.op = .call { callee := .builtin .append, args := #[s, x], argTypes := #[58, 58] })
    (v : Value) (l : List Fo) (hs : a.eval s = v) (hown : FH B n wr v l) (hB : B ≤ wr.heap.size) (g : Nat) (f : Fo) (u : Value) (hx : a.eval x = .slice (some ⟨g, 0, none⟩) 1 1) (hg : Bk wr g 30 (usL f.us ++ [u])) (hus : Us f.us) (hpm : PM (hidW B v wr) n u f.ps) (hl : l.length + 1 ≤ 1000000000)
    (h : ∀ v' w', FH B n w' v' (l ++ [f]) → Below B wr w' → wpList Tryz.prog ops Q rest (a.put o.dst v') w') : wpList Tryz.prog ops Q (o :: rest) a wr := by
  obtain ⟨i1, hj, hy0, hy1, hy2⟩ := info_parts infoFo
  have hv := FH.own hown
  obtain ⟨xs, ho1, hr1⟩ := hown
  have hlen := fo_len hus u
  refine wpList_append_lies wr hgd s x 58 ho B 30 i1 _ 15 136 Tryz.underlying58 hj hy0 hy1 hy2 rfl (by decide) v l.length xs hs ho1 ⟨g, 0, none⟩ 1 1 (usL f.us ++ [u]) hx (by rw [hlen]) (fun j y hj' => ?_) (us_one (pm_one hpm)) (by decide) (by unfold maxLen; omega) (by omega) hB _ rfl ?_
  · rw [Addr.add_lit, Nat.zero_add, Bk.cell hg]
    exact hj'
  · intro g' cap w' h1 h2 h3 h4
    have k : Sees (hidW B v wr) (hidW B (.slice (some ⟨g', 0, none⟩) (l.length + 1) cap) w') := hid_keep h2.size (fun b b1 b2 b3 => ⟨h2.block b b2 b3, fun e => by
      have e' : b = g' := by simpa [Value.ownBlock] using e
      rcases h3 with h3 | h3
      · exact b3 (by rw [h3, e'])
      · omega⟩)
    refine h _ w' ⟨xs ++ (usL f.us ++ [u]), by rw [List.length_append]; exact h1, (hr1.sees k).app ?_⟩ ((Below.refl B wr).grown h2 hB (fun q hq => (hv q hq).1))
    have := FoC.cons f [] [] u hus (pm_sees k hpm) (.nil : FoC _ n [] [])
    rwa [List.append_nil] at this
end Go.Proofs.YtlhmecagijdinaaGreatDoor.nm
