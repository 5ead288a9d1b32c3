/-
  The innermost frame is shut: by the reference.
  One more value in the innermost frame: a row grows by nothing, then what is in it is written, and where it lies.
-/
import Derived.Test.YtmkbjcoagfnegaaGreatDoorZ30
import Derived.Deep.RegionHeld3
set_option linter.unusedVariables false
set_option linter.unusedSimpArgs false
namespace Go.Proofs.YtmkbjcoagfnegaaGreatDoor
open Go.RowKit

/-- The row of the innermost is written anew. -/
theorem SM.redo {T : TypeId} {sz : Nat} {w wr w1 : World} {sv : Value} {qs : List Fm} {f : Fm} (h : SM T sz w wr sv (qs ++ [f])) (hT : T ≠ 80) (its2 : List It) (h1 : OwnV w w1 f.u its2) (hg : wr.grownBy w1 f.u.ownBlock)
    (hs : ∀ x ∈ its2, VMA (Fre sv (qs ++ [f])) wr x.s x.ks) : SM T sz w w1 sv (qs ++ [⟨f.t, f.u, its2, f.x⟩]) := by
  have hf : f ∈ qs ++ [f] := by simp
  have hq : ∀ q ∈ qs, q ∈ qs ++ [f] := fun q hq => by simp [hq]
  have P := List.pairwise_append.1 h.ap
  have B1 : Below w.heap.size w w1 := h.bel.grown hg h.bel.size (fun k hk => (World.ownsRow.lt (h.kid f hf) k hk).1)
  have O1 := h.own.kept hg (own_ne h.own (h.kid f hf) hT)
  have F : ∀ {b : Nat}, Fre sv (qs ++ [f]) b → Fre sv (qs ++ [⟨f.t, f.u, its2, f.x⟩]) b := fun {b} hb => ⟨hb.1, fun y hy => by
    rcases List.mem_append.1 hy with hy | hy
    · exact hb.2 y (hq y hy)
    · rw [List.mem_singleton] at hy; subst hy; exact hb.2 f hf⟩
  have SB : ∀ {v : Value} {l : List VT}, VMA (Fre sv (qs ++ [f])) wr v l → VMA (Fre sv (qs ++ [⟨f.t, f.u, its2, f.x⟩])) w1 v l := fun {v l} hv => hv.kept hg.size (fun b hb hlt => ⟨F hb, hg.block b hlt (fun e => hb.2 f hf e.symm)⟩)
  have E : fmCs (qs ++ [⟨f.t, f.u, its2, f.x⟩]) = fmCs (qs ++ [f]) := by rw [fmCs_snoc, fmCs_snoc]; rfl
  refine ⟨by rw [E, List.length_append, List.length_singleton]; rw [List.length_append, List.length_singleton] at O1; exact O1, fun q hqq => ?_, fun q hqq => ?_, ?_, fun q hqq x hx => ?_, B1⟩
  · rcases List.mem_append.1 hqq with hqq | hqq
    · exact h.wid q (hq q hqq)
    · rw [List.mem_singleton] at hqq; subst hqq; exact h.wid f hf
  · rcases List.mem_append.1 hqq with hqq | hqq
    · exact World.ownsRow.kept (h.kid q (hq q hqq)) hg (by
        cases hb : q.u.ownBlock with
        | none => exact .inl rfl
        | some k => exact .inr (fun e => (P.2.2 q hqq f (by simp)) k hb e.symm))
    · rw [List.mem_singleton] at hqq; subst hqq; exact h1
  · rw [List.pairwise_append]
    refine ⟨P.1, List.pairwise_singleton _ _, fun a ha b hb k hk => ?_⟩
    rw [List.mem_singleton] at hb
    subst hb
    exact (P.2.2 a ha f (by simp)) k hk
  · rcases List.mem_append.1 hqq with hqq | hqq
    · exact SB (h.sub q (hq q hqq) x hx)
    · rw [List.mem_singleton] at hqq; subst hqq; exact SB (hs x hx)
theorem newV (w : World) (g : Nat) (u0 u1 u2 u3 u4 u5 u6 : Value) (t : TypeId) (hg : g = w.heap.size) : ∀ j x, [u0, u1, u2, u3, u4, u5, u6][j]? = some x → (w.alloc (.cells #[u0, u1, u2, u3, u4, u5, u6] t)).cell? ((⟨g, 0, none⟩ : Addr).add j) = some x := fun j x hx => by
  subst hg
  match j, hx with
  | 0, hx => simp at hx; subst hx; simp [Addr.add]
  | 1, hx => simp at hx; subst hx; simp [Addr.add]
  | 2, hx => simp at hx; subst hx; simp [Addr.add]
  | 3, hx => simp at hx; subst hx; simp [Addr.add]
  | 4, hx => simp at hx; subst hx; simp [Addr.add]
  | 5, hx => simp at hx; subst hx; simp [Addr.add]
  | 6, hx => simp at hx; subst hx; simp [Addr.add]
theorem one7 (x : It) (hs : x.s.oneCell' = true) : ∀ u ∈ itC x, u.oneCell' = true := by
  intro u hu
  simp only [itC, List.mem_cons, List.not_mem_nil, or_false] at hu
  rcases hu with rfl | rfl | rfl | rfl | rfl | rfl | rfl
  all_goals first | rfl | exact hs
def zIt : It := ⟨zT 0, .slice none 0 0, []⟩
/-- A row of values as it lies, its last one about to be written. -/
theorem OwnV.last {w wr : World} {g n cap : Nat} {its : List It} {y : It} (h : OwnV w wr (.slice (some ⟨g, 0, none⟩) n cap) (its ++ [y])) :
    ∀ j, j < 7 → wr.cell? ⟨g, its.length * 7 + j, none⟩ = (itC y)[j]? ∧ wr.frozen? ⟨g, its.length * 7 + j, none⟩ = false := by
  intro j hj
  unfold OwnV at h
  rw [List.length_append, List.length_singleton, itCs_snoc] at h
  obtain ⟨g', cap', cur, hv, hb, hg, hn, hm, hs, ht⟩ := ownsRow_blk h (by omega)
  cases hv
  have a0 : (itCs its ++ itC y)[its.length * 7 + j]? = (itC y)[j]? := by
    rw [List.getElem?_append_right (by rw [itCs_len]; omega), itCs_len]; congr 1; omega
  exact ⟨by rw [← a0, ← ht, List.getElem?_take_of_lt (by rw [Nat.add_mul]; omega), row_blk hg, Array.getElem?_toList], by simp [World.frozen?, hg]⟩
theorem itCs_put (its : List It) (x y : It) : (((((((itCs (its ++ [y])).set (its.length * 7) (.int .i64 x.t.k)).set (its.length * 7 + 1) (.string x.t.s)).set (its.length * 7 + 2) (.int .i64 x.t.n)).set (its.length * 7 + 3) (.int .i64 x.t.d)).set (its.length * 7 + 4) (.bool x.t.i)).set (its.length * 7 + 5) (.bool x.t.h)).set (its.length * 7 + 6) x.s = itCs (its ++ [x]) := by
  rw [itCs_snoc, itCs_snoc]
  have e : ∀ (j : Nat) (v : Value) (r : List Value), (itCs its ++ r).set (its.length * 7 + j) v = itCs its ++ r.set j v := fun j v r => by
    rw [List.set_append_right _ _ (by rw [itCs_len]; omega), itCs_len, Nat.add_sub_cancel_left]
  have e0 := e 0 (.int .i64 x.t.k) (itC y)
  rw [Nat.add_zero] at e0
  rw [e0, e 1, e 2, e 3, e 4, e 5, e 6]
  rfl
/-- The last value of the innermost's row is written. -/
theorem SM.put7 {T : TypeId} {sz : Nat} {w wr : World} {sv : Value} {qs : List Fm} {t : TS} {xx : List Value} {g n cap : Nat} {its : List It} {y : It} (h : SM T sz w wr sv (qs ++ [⟨t, .slice (some ⟨g, 0, none⟩) n cap, its ++ [y], xx⟩])) (hT : T ≠ 80) (x : It)
    (hs : VMA (Fre sv (qs ++ [⟨t, .slice (some ⟨g, 0, none⟩) n cap, its ++ [y], xx⟩])) wr x.s x.ks) :
    SM T sz w (((((((wr.setCell ⟨g, its.length * 7, none⟩ (.int .i64 x.t.k)).setCell ⟨g, its.length * 7 + 1, none⟩ (.string x.t.s)).setCell ⟨g, its.length * 7 + 2, none⟩ (.int .i64 x.t.n)).setCell ⟨g, its.length * 7 + 3, none⟩ (.int .i64 x.t.d)).setCell ⟨g, its.length * 7 + 4, none⟩ (.bool x.t.i)).setCell ⟨g, its.length * 7 + 5, none⟩ (.bool x.t.h)).setCell ⟨g, its.length * 7 + 6, none⟩ x.s) sv (qs ++ [⟨t, .slice (some ⟨g, 0, none⟩) n cap, its ++ [x], xx⟩]) := by
  have K := h.kid _ (List.mem_append_right _ (List.mem_singleton.2 rfl))
  have hn : (its ++ [y]).length = n := by
    have K' : wr.ownsRow w.heap.size 80 7 (.slice (some ⟨g, 0, none⟩) n cap) (its ++ [y]).length (itCs (its ++ [y])) := K
    obtain ⟨g', cap', cur, hv, _⟩ := ownsRow_blk K' (by simp)
    cases hv; rfl
  subst hn
  have K' : wr.ownsRow w.heap.size 80 7 (.slice (some ⟨g, 0, none⟩) (its ++ [y]).length cap) (its ++ [y]).length (itCs (its ++ [y])) := K
  have r := ownsRow_set (ownsRow_set (ownsRow_set (ownsRow_set (ownsRow_set (ownsRow_set (ownsRow_set K' (its.length * 7) (.int .i64 x.t.k)) (its.length * 7 + 1) (.string x.t.s)) (its.length * 7 + 2) (.int .i64 x.t.n)) (its.length * 7 + 3) (.int .i64 x.t.d)) (its.length * 7 + 4) (.bool x.t.i)) (its.length * 7 + 5) (.bool x.t.h)) (its.length * 7 + 6) x.s
  rw [itCs_put] at r
  have gt : ∀ {a b c : World}, a.grownBy b (some g) → b.grownBy c (some g) → a.grownBy c (some g) := fun {a b c} p q => ⟨q.os.trans p.os, q.tape.trans p.tape, q.output.trans p.output, Nat.le_trans p.size q.size, fun k hk hne => (q.block k (Nat.lt_of_lt_of_le hk p.size) hne).trans (p.block k hk hne)⟩
  have G7 := gt (gt (gt (gt (gt (gt (grownBy_setCell wr g (its.length * 7) (.int .i64 x.t.k)) (grownBy_setCell _ g (its.length * 7 + 1) (.string x.t.s))) (grownBy_setCell _ g (its.length * 7 + 2) (.int .i64 x.t.n))) (grownBy_setCell _ g (its.length * 7 + 3) (.int .i64 x.t.d))) (grownBy_setCell _ g (its.length * 7 + 4) (.bool x.t.i))) (grownBy_setCell _ g (its.length * 7 + 5) (.bool x.t.h))) (grownBy_setCell _ g (its.length * 7 + 6) x.s)
  refine h.redo hT (its ++ [x]) ?_ G7 (fun z hz => ?_)
  · have el : (its ++ [x]).length = (its ++ [y]).length := by simp
    unfold OwnV
    rw [el]
    exact r
  · rcases List.mem_append.1 hz with hz | hz
    · exact h.sub _ (List.mem_append_right _ (List.mem_singleton.2 rfl)) z (List.mem_append_left _ hz)
    · rw [List.mem_singleton] at hz; subst hz; exact hs
end Go.Proofs.YtmkbjcoagfnegaaGreatDoor
set_option linter.unusedVariables false
set_option linter.unusedSimpArgs false
namespace Go.Proofs.YtmkbjcoagfnegaaGreatDoor
open Go.RowKit

theorem setCell_comm (w : World) {a b : Nat} (h : a ≠ b) (i j : Nat) (u v : Value) : (w.setCell ⟨a, i, none⟩ u).setCell ⟨b, j, none⟩ v = (w.setCell ⟨b, j, none⟩ v).setCell ⟨a, i, none⟩ u := by
  unfold World.setCell
  congr 1
  apply Array.ext_getElem?
  intro k
  simp only [Array.getElem?_modify]
  by_cases h1 : b = k
  · subst h1
    simp [h]
  · simp [h1]
def set7 (w : World) (g p : Nat) (x : It) : World := ((((((w.setCell ⟨g, p, none⟩ (.int .i64 x.t.k)).setCell ⟨g, p + 1, none⟩ (.string x.t.s)).setCell ⟨g, p + 2, none⟩ (.int .i64 x.t.n)).setCell ⟨g, p + 3, none⟩ (.int .i64 x.t.d)).setCell ⟨g, p + 4, none⟩ (.bool x.t.i)).setCell ⟨g, p + 5, none⟩ (.bool x.t.h)).setCell ⟨g, p + 6, none⟩ x.s
theorem set7_comm (w : World) {g b : Nat} (h : g ≠ b) (p j : Nat) (x : It) (v : Value) : (set7 w g p x).setCell ⟨b, j, none⟩ v = set7 (w.setCell ⟨b, j, none⟩ v) g p x := by
  unfold set7
  rw [setCell_comm _ h, setCell_comm _ h, setCell_comm _ h, setCell_comm _ h, setCell_comm _ h, setCell_comm _ h, setCell_comm _ h]
theorem ne_blk {w : World} {base : Nat} {e T : TypeId} {sz b : Nat} {v : Value} {n : Nat} {xs : List Value} {cs : Array Value} {q : Nat × Nat} (h : w.ownsRow base e sz v n xs) (hb : w.heap[b]? = some (.cells cs T q)) (hT : T ≠ e) : some b ≠ v.ownBlock := by
  rcases h.2 with ⟨rfl, _⟩ | ⟨g, cap, cur, rfl, _, hg, _⟩
  · intro e; cases e
  · intro e
    have : b = g := by simpa [Value.ownBlock] using e
    subst this
    rw [hb] at hg
    cases hg
    exact hT rfl
theorem SM.blk {T : TypeId} {sz : Nat} {w wr : World} {G n cap : Nat} {fs : List Fm} (h : SM T sz w wr (.slice (some ⟨G, 0, none⟩) n cap) fs) : ∃ cs, wr.heap[G]? = some (.cells cs T (0, 0)) := by
  rcases h.own.2 with ⟨h1, _⟩ | ⟨g, cap, cur, h1, _, hg, _⟩
  · cases h1
  · cases h1; exact ⟨cur, hg⟩
/-- A block is as it was behind an append to another row. -/
theorem far2 {w w5 : World} {o : Obj} {v : Value} {b : Nat} (hb : b < w.heap.size) (hne : some b ≠ v.ownBlock) (hg : (w.drew.alloc o).grownBy w5 v.ownBlock) : w5.heap[b]? = w.heap[b]? :=
  (hg.block b (by simp; omega) hne).trans (Below.heap_alloc w.drew o b hb)
theorem OwnV.slice {w wr : World} {u : Value} {its : List It} (h : OwnV w wr u its) : ∃ a c, u = .slice a its.length c := by
  rcases h.2 with ⟨h1, h2⟩ | ⟨g, cap, cur, h1, _⟩
  · exact ⟨_, _, by rw [h1, h2]⟩
  · exact ⟨_, _, h1⟩
/-- The values of a frame's row, as one of them is told of the world behind. -/
theorem VMA.grow {wc w5 : World} {G n cap g cp p : Nat} {qs : List Fm} {t : TS} {a1 : Option Addr} {c1 : Nat} {its its' : List It} {xx : List Value} {v : Value} {l : List VT} {o : Obj} {k : Nat} {u : Value}
    (hx : VMA (Fre (.slice (some ⟨G, 0, none⟩) n cap) (qs ++ [⟨t, .slice a1 its.length c1, its, xx⟩])) wc v l) (hg : (wc.drew.alloc o).grownBy w5 (Value.slice a1 its.length c1).ownBlock) (hl : (Value.slice a1 its.length c1).ownBlock = some g ∨ g = wc.heap.size + 1) :
    VMA (Fre (.slice (some ⟨G, 0, none⟩) n cap) (qs ++ [⟨t, .slice (some ⟨g, 0, none⟩) k cp, its', xx⟩])) (w5.setCell ⟨G, p, none⟩ u) v l :=
  hx.kept (by have := hg.size; simp at this; simp [World.setCell]; omega) (fun b hb hlt => ⟨⟨hb.1, fun y hy => by
    rcases List.mem_append.1 hy with hy | hy
    · exact hb.2 y (List.mem_append_left _ hy)
    · rw [List.mem_singleton] at hy
      subst hy
      intro e
      have e' : g = b := by simpa [Value.ownBlock] using e
      rcases hl with hl | hl
      · exact hb.2 _ (List.mem_append_right _ (List.mem_singleton.2 rfl)) (by rw [← e']; exact hl)
      · omega⟩, (Below.heap_setCell w5 ⟨G, p, none⟩ _ b (fun e => hb.1 (by rw [e]; rfl))).trans (far2 hlt (fun e => hb.2 _ (List.mem_append_right _ (List.mem_singleton.2 rfl)) e.symm) hg)⟩)
/-- Behind an append of nothing yet. -/
structure Leaf (T : TypeId) (sz : Nat) (w w5 : World) (G m cap : Nat) (qs : List Fm) (t : TS) (a1 : Option Addr) (c1 : Nat) (its : List It) (xx : List Value) (x : It) (g cp : Nat) : Prop where
  k5 : w5.cell? ⟨G, m * sz + 6, none⟩ = some (.slice a1 its.length c1)
  f5 : w5.frozen? ⟨G, m * sz + 6, none⟩ = false
  ne : g ≠ G
  q : ∀ j, j < 7 → w5.cell? ⟨g, its.length * 7 + j, none⟩ = (itC zIt)[j]? ∧ w5.frozen? ⟨g, its.length * 7 + j, none⟩ = false
  fb : SM T sz w (set7 (w5.setCell ⟨G, m * sz + 6, none⟩ (.slice (some ⟨g, 0, none⟩) (its.length + 1) cp)) g (its.length * 7) x) (.slice (some ⟨G, 0, none⟩) (m + 1) cap) (qs ++ [⟨t, .slice (some ⟨g, 0, none⟩) (its.length + 1) cp, its ++ [x], xx⟩])
theorem Leaf.fa {T : TypeId} {sz : Nat} {w w5 : World} {G m cap : Nat} {qs : List Fm} {t : TS} {a1 : Option Addr} {c1 : Nat} {its : List It} {xx : List Value} {x : It} {g cp : Nat} (h : Leaf T sz w w5 G m cap qs t a1 c1 its xx x g cp) :
    SM T sz w ((set7 w5 g (its.length * 7) x).setCell ⟨G, m * sz + 6, none⟩ (.slice (some ⟨g, 0, none⟩) (its.length + 1) cp)) (.slice (some ⟨G, 0, none⟩) (m + 1) cap) (qs ++ [⟨t, .slice (some ⟨g, 0, none⟩) (its.length + 1) cp, its ++ [x], xx⟩]) := by
  rw [set7_comm _ h.ne]; exact h.fb
theorem SM.leaf {T : TypeId} {sz : Nat} {w wc w5 : World} {G m cap : Nat} {qs : List Fm} {t : TS} {a1 : Option Addr} {c1 : Nat} {its : List It} {xx : List Value} (h : SM T sz w wc (.slice (some ⟨G, 0, none⟩) (m + 1) cap) (qs ++ [⟨t, .slice a1 its.length c1, its, xx⟩])) (hm : qs.length = m) (hT : T ≠ 80) (x : It)
    (hs : VMA (Fre (.slice (some ⟨G, 0, none⟩) (m + 1) cap) (qs ++ [⟨t, .slice a1 its.length c1, its, xx⟩])) wc x.s x.ks) (o : Obj) (g cp : Nat)
    (hown : w5.ownsRow w.heap.size 80 7 (.slice (some ⟨g, 0, none⟩) (its.length + 1) cp) (its.length + 1) (itCs its ++ itC zIt)) (hg : (wc.drew.alloc o).grownBy w5 (Value.slice a1 its.length c1).ownBlock) (hl : (Value.slice a1 its.length c1).ownBlock = some g ∨ g = wc.heap.size + 1) :
    Leaf T sz w w5 G m cap qs t a1 c1 its xx x g cp := by
  subst hm
  obtain ⟨G', cap', hv', hG1, hG2, -, -, hfz, -, u6, -⟩ := h.top
  obtain ⟨rfl, rfl⟩ : G = G' ∧ cap = cap' := by cases hv'; exact ⟨rfl, rfl⟩
  obtain ⟨cs, hGb⟩ := h.blk
  have OK := h.kid _ (List.mem_append_right _ (List.mem_singleton.2 rfl))
  have NG := ne_blk OK hGb hT
  have e5 := far2 hG2 NG hg
  have SZ := (h.drew.alloc o).add (x := zIt) hT (.nil _ _) hown hg (by simpa using hl)
  have OWN : OwnV w w5 (.slice (some ⟨g, 0, none⟩) (its.length + 1) cp) (its ++ [zIt]) := by unfold OwnV; rw [List.length_append, List.length_singleton, itCs_snoc]; exact hown
  have ne : g ≠ G := by
    intro e
    subst e
    have := ne_blk OWN (e5.trans hGb) hT
    exact this rfl
  refine ⟨(World.cell?_of_block (w := wc) (a := ⟨G, qs.length * sz + 6, none⟩) e5).trans u6, (World.frozen?_of_block (w := wc) (a := ⟨G, qs.length * sz + 6, none⟩) e5).trans (hfz _), ne, OwnV.last OWN, ?_⟩
  exact SZ.put7 hT x (hs.grow hg hl)
end Go.Proofs.YtmkbjcoagfnegaaGreatDoor

