/-
  What lies from one block on; forms, cell by cell; rows that are copied.
  A form's copy, as deep as it is: the walk of the program.
-/
import Derived.Test.YtlhmecagijdinaaDoorH07
import Derived.Laws.IdiomCopy
import Derived.Deep.OwnRows
set_option linter.unusedVariables false
set_option linter.unusedSimpArgs false
namespace Go.Proofs.YtlhmecagijdinaaDoor.nm
open Go.RowKit

/-- The world without what lies below B. -/
def cutW (B : Nat) (w : World) : World := { w with heap := w.heap.mapIdx fun i o => if i < B then .cells #[] 0 else o }
theorem cut_size (B : Nat) (w : World) : (cutW B w).heap.size = w.heap.size := by simp [cutW]
theorem cut_blk {B b : Nat} (w : World) (h : B ≤ b) : (cutW B w).heap[b]? = w.heap[b]? := by
  simp only [cutW, Array.getElem?_mapIdx]
  cases w.heap[b]? with
  | none => rfl
  | some o => simp [show ¬ b < B by omega]
theorem cut_low {B b : Nat} (w : World) (h : b < B) (o : Nat) : (cutW B w).cell? ⟨b, o, none⟩ = none := by
  unfold World.cell?
  simp only [cutW, Array.getElem?_mapIdx]
  cases w.heap[b]? with
  | none => rfl
  | some x => simp [h]
theorem cell_blk {w w' : World} {b : Nat} (h : w'.heap[b]? = w.heap[b]?) (o : Nat) : w'.cell? ⟨b, o, none⟩ = w.cell? ⟨b, o, none⟩ := by
  unfold World.cell?
  simp only [h]
/-- What is seen stays seen. -/
def Sees (w w' : World) : Prop := w.heap.size ≤ w'.heap.size ∧ ∀ b o v, w.cell? ⟨b, o, none⟩ = some v → w'.cell? ⟨b, o, none⟩ = some v
theorem un_sees {w w' : World} (h : Sees w w') {b o : Nat} {us : List (Int × Int)} (k : Un w b o us) : Un w' b o us := ⟨k.1, fun i r hi => ⟨h.2 _ _ _ (k.2 i r hi).1, h.2 _ _ _ (k.2 i r hi).2⟩⟩
theorem fm_sees {w w' : World} (h : Sees w w') {n : Nat} : ∀ {v : Value} {l : List Fo}, FM w n v l → FM w' n v l := by
  induction n with
  | zero => intro v l k; exact k
  | succ n ih =>
    intro v l k
    refine RowOf.mono k h.1 (fun b o x _ _ hx => ?_)
    obtain ⟨u, h1, h2, h3⟩ := hx
    refine ⟨u, un_sees h h1, h.2 _ _ _ h2, h3.mono h.1 (fun b o p _ _ hp => ?_)⟩
    obtain ⟨v, k1, k2, k3⟩ := hp
    exact ⟨v, h.2 _ _ _ k1, h.2 _ _ _ k2, ih k3⟩
theorem pm_sees {w w' : World} (h : Sees w w') {n : Nat} {v : Value} {l : List Pa} (k : PM w n v l) : PM w' n v l :=
  RowOf.mono k h.1 (fun b o p _ _ hp => by
    obtain ⟨v, k1, k2, k3⟩ := hp
    exact ⟨v, h.2 _ _ _ k1, h.2 _ _ _ k2, fm_sees h k3⟩)
theorem cut_sees (B : Nat) (w : World) : Sees (cutW B w) w := ⟨Nat.le_of_eq (cut_size B w), fun b o v h => by
  by_cases hb : b < B
  · rw [cut_low w hb] at h; cases h
  · rw [cell_blk (cut_blk w (by omega)) o] at h; exact h⟩
/-- What lies from B on stays, where these blocks do. -/
theorem cut_keep {B C : Nat} {w w' : World} (hC : C ≤ B) (hs : w.heap.size ≤ w'.heap.size) (hk : ∀ b, B ≤ b → b < w.heap.size → w'.heap[b]? = w.heap[b]?) : Sees (cutW B w) (cutW C w') := ⟨by rw [cut_size, cut_size]; exact hs, fun b o v h => by
  by_cases hb : b < B
  · rw [cut_low w hb] at h; cases h
  · rw [cell_blk (cut_blk w (by omega)) o] at h
    rw [cell_blk (cut_blk w' (by omega)) o, cell_blk (hk b (by omega) (World.block_lt_of_cell? _ _ h)) o]
    exact h⟩
/-- The cells of forms. -/
inductive FoC (w : World) (n : Nat) : List Fo → List Value → Prop
  | nil : FoC w n [] []
  | cons (f : Fo) (l : List Fo) (xs : List Value) (u : Value) (hus : Us f.us) (hu : PM w n u f.ps) (g : FoC w n l xs) : FoC w n (f :: l) ((usL f.us ++ [u]) ++ xs)
theorem fo_len {us : List (Int × Int)} (h : Us us) (u : Value) : (usL us ++ [u]).length = 15 := by rw [List.length_append, usL_len, h.1]; rfl
theorem FoC.app {w : World} {n : Nat} {l1 l2 : List Fo} {xs1 xs2 : List Value} (h : FoC w n l1 xs1) (k : FoC w n l2 xs2) : FoC w n (l1 ++ l2) (xs1 ++ xs2) := by
  induction h with
  | nil => exact k
  | cons f l xs u hus hu g ih => rw [List.append_assoc]; exact .cons f _ _ u hus hu ih
theorem FoC.len {w : World} {n : Nat} {l : List Fo} {xs : List Value} (h : FoC w n l xs) : xs.length = l.length * 15 := by
  induction h with
  | nil => rfl
  | cons f l xs u hus hu g ih => rw [List.length_append, fo_len hus, ih, List.length_cons]; omega
theorem FoC.sees {w w' : World} {n : Nat} {l : List Fo} {xs : List Value} (h : FoC w n l xs) (k : Sees w w') : FoC w' n l xs := by
  induction h with
  | nil => exact .nil
  | cons f l xs u hus hu g ih => exact .cons f l xs u hus (pm_sees k hu) ih
theorem PaC.sees {w w' : World} {n : Nat} {l : List Pa} {xs : List Value} (h : PaC w n l xs) (k : Sees w w') : PaC w' n l xs := by
  induction h with
  | nil => exact .nil
  | cons p l xs u hu g ih => exact .cons p l xs u (fm_sees k hu) ih
theorem pm_one {w : World} {n : Nat} {u : Value} {l : List Pa} (h : PM w n u l) : u.oneCell' = true := by
  obtain ⟨a, c, rfl, -⟩ := PM.shape h
  rfl
theorem FoC.one {w : World} {n : Nat} {l : List Fo} {xs : List Value} (h : FoC w n l xs) : ∀ u ∈ xs, u.oneCell' = true := by
  induction h with
  | nil => intro u hu; cases hu
  | cons f l xs u hus hu g ih =>
    intro v hv
    rw [List.mem_append] at hv
    rcases hv with hv | hv
    · exact us_one (pm_one hu) v hv
    · exact ih v hv
theorem un_cell {w : World} {b o : Nat} {us : List (Int × Int)} (h : Un w b o us) {j : Nat} {u : Value} (hj : (usL us)[j]? = some u) : w.cell? ⟨b, o + j, none⟩ = some u := by
  have hl := usL_len us
  have hj2 := (List.getElem?_eq_some_iff.1 hj).1
  have h7 := h.1.1
  obtain ⟨r, hr⟩ : ∃ r, us[j / 2]? = some r := ⟨_, List.getElem?_eq_getElem (by omega)⟩
  obtain ⟨rn, rd⟩ := r
  obtain ⟨e1, e2⟩ := usL_at hr
  obtain ⟨k1, k2⟩ := h.2 _ _ hr
  rcases Nat.mod_two_eq_zero_or_one j with hm | hm
  · have e : j / 2 * 2 = j := by omega
    rw [e] at e1 k1
    rw [e1] at hj
    rw [k1]; exact hj
  · have e : j / 2 * 2 + 1 = j := by omega
    rw [e] at e2
    rw [show o + j / 2 * 2 + 1 = o + j by omega] at k2
    rw [e2] at hj
    rw [k2]; exact hj
theorem FM.cells {w : World} {b o c n m : Nat} {l : List Fo} (h : FM w (n + 1) (.slice (some ⟨b, o, none⟩) m c) l) (hn : m = l.length) : ∀ d k, k + d = l.length → ∃ xs, FoC w n (l.drop k) xs ∧ ∀ j u, xs[j]? = some u → w.cell? ⟨b, o + k * 15 + j, none⟩ = some u := by
  intro d
  induction d with
  | zero =>
    intro k hk
    rw [List.drop_of_length_le (by omega)]
    exact ⟨[], .nil, fun j u h => by simp at h⟩
  | succ d ih =>
    intro k hk
    obtain ⟨xs, h1, h2⟩ := ih (k + 1) (by omega)
    obtain ⟨f, hf⟩ : ∃ f, l[k]? = some f := ⟨_, List.getElem?_eq_getElem (by omega)⟩
    obtain ⟨m', hm', b', o', c', u, hv, _, _, _, gu, g14, gp⟩ := FM.at h hf
    obtain rfl : n = m' := by omega
    obtain ⟨rfl, rfl⟩ : b = b' ∧ o = o' := by simp at hv; exact ⟨hv.1.1, hv.1.2⟩
    rw [drop_atE hf]
    refine ⟨_, .cons f _ xs u gu.1 gp h1, fun j v hj => ?_⟩
    have l15 := fo_len gu.1 u
    have l14 := usL_len f.us
    have l7 := gu.1.1
    by_cases hj15 : j < 15
    · rw [List.getElem?_append_left (by omega)] at hj
      by_cases hj14 : j < 14
      · rw [List.getElem?_append_left (by omega)] at hj
        exact un_cell gu hj
      · obtain rfl : j = 14 := by omega
        rw [List.getElem?_append_right (by omega), show 14 - (usL f.us).length = 0 by omega] at hj
        simp at hj
        subst hj
        exact g14
    · rw [List.getElem?_append_right (by omega), l15] at hj
      have := h2 (j - 15) v hj
      rwa [show o + (k + 1) * 15 + (j - 15) = o + k * 15 + j by omega] at this
/-- Forms in a block of their own are a slice of forms. -/
theorem FoC.get {w : World} {n : Nat} {l : List Fo} {xs : List Value} (h : FoC w n l xs) : ∀ i f, l[i]? = some f → ∃ u, Us f.us ∧ PM w n u f.ps ∧ ∀ j, j < 15 → xs[i * 15 + j]? = (usL f.us ++ [u])[j]? := by
  induction h with
  | nil => intro i f h; simp at h
  | cons x l xs u hus hu g ih =>
    intro i f hi
    have l15 := fo_len hus u
    cases i with
    | zero =>
      cases hi
      refine ⟨u, hus, hu, fun j hj => ?_⟩
      rw [Nat.zero_mul, Nat.zero_add, List.getElem?_append_left (by omega)]
    | succ i =>
      obtain ⟨a, h1, h2, h3⟩ := ih i f hi
      refine ⟨a, h1, h2, fun j hj => ?_⟩
      rw [List.getElem?_append_right (by omega), l15, show (i + 1) * 15 + j - 15 = i * 15 + j by omega]
      exact h3 j hj
theorem foc_fm {w : World} {n g : Nat} {T : TypeId} {l : List Fo} {xs : List Value} (h : FoC w n l xs) (hb : Bk w g T xs) (h9 : l.length ≤ 1000000000) : FM w (n + 1) (.slice (some ⟨g, 0, none⟩) l.length l.length) l := by
  by_cases h0 : l.length = 0
  · obtain rfl := List.eq_nil_of_length_eq_zero h0
    exact .inl ⟨_, _, rfl, rfl⟩
  · refine .inr ⟨g, 0, l.length, rfl, by omega, Bk.lt hb, Nat.le_refl _, h9, by omega, fun i f hi => ?_⟩
    obtain ⟨u, h1, h2, h3⟩ := h.get i f hi
    have l14 := usL_len f.us
    have l7 := h1.1
    refine ⟨u, ⟨h1, fun j r hj => ?_⟩, ?_, h2⟩
    · obtain ⟨rn, rd⟩ := r
      obtain ⟨e1, e2⟩ := usL_at hj
      have hj7 := (List.getElem?_eq_some_iff.1 hj).1
      refine ⟨?_, ?_⟩
      · rw [Bk.cell hb, show 0 + i * 15 + j * 2 = i * 15 + j * 2 by omega, h3 _ (by omega), List.getElem?_append_left (by omega), e1]
      · rw [Bk.cell hb, show 0 + i * 15 + j * 2 + 1 = i * 15 + (j * 2 + 1) by omega, h3 _ (by omega), List.getElem?_append_left (by omega), e2]
    · rw [Bk.cell hb, show 0 + i * 15 + 14 = i * 15 + 14 by omega, h3 _ (by omega), List.getElem?_append_right (by omega), show 14 - (usL f.us).length = 0 by omega]; rfl
/-- Parts at the head of a block of their own are a slice of parts. -/
theorem pac_pm {w : World} {n g cap : Nat} {T : TypeId} {l : List Pa} {xs tl : List Value} (h : PaC w n l xs) (hb : Bk w g T (xs ++ tl)) (h9 : l.length ≤ 1000000000) (hc : l.length ≤ cap) (hc9 : cap ≤ 9223372036854775807) : PM w n (.slice (some ⟨g, 0, none⟩) l.length cap) l := by
  by_cases h0 : l.length = 0
  · obtain rfl := List.eq_nil_of_length_eq_zero h0
    exact .inl ⟨_, _, rfl, rfl⟩
  · refine .inr ⟨g, 0, cap, rfl, by omega, Bk.lt hb, hc, h9, hc9, fun i p hi => ?_⟩
    obtain ⟨u, h1, h2, h3⟩ := h.get i p hi
    have hl := h.len
    have hi2 := (List.getElem?_eq_some_iff.1 hi).1
    exact ⟨u, by rw [Bk.cell hb, show 0 + i * 2 = i * 2 by omega, List.getElem?_append_left (by omega), h1], by rw [Bk.cell hb, show 0 + i * 2 + 1 = i * 2 + 1 by omega, List.getElem?_append_left (by omega), h2], h3⟩
/-- Rows of elements of any size are copied. -/
theorem run_copy_rows (w : World) (dT sT ty elem : TypeId) (b o dLen dCap : Nat) (a : Addr) (sLen sCap sz : Nat) (cs : List Value)
    (hu : Tryd.prog.underlying dT = some (.slice elem)) (hs : (Tryd.prog.info? elem).map (·.size) = some sz) (hn : cs.length = Nat.min sLen dLen * sz)
    (hsrc : ∀ j v, cs[j]? = some v → w.cell? (a.add j) = some v) (hc : ∀ j, j < cs.length → (w.cell? ⟨b, o + j, none⟩).isSome = true) (hf : ∀ j, j < cs.length → w.frozen? ⟨b, o + j, none⟩ = false) (h1 : ∀ v ∈ cs, v.oneCell' = true) :
    (Builtin.copy_ #[dT, sT] ty #[.slice (some ⟨b, o, none⟩) dLen dCap, .slice (some a) sLen sCap]).run Tryd.prog w = .ok (goInt (Nat.min sLen dLen)) (w.setCells b o cs) := by
  have hl := run_loadCells_list (P := Tryd.prog) w a cs hsrc
  have hst := run_storeCells_cells (P := Tryd.prog) b o cs 0 w (by simpa using hc) (by simpa using hf) h1
  cases hq : Tryd.prog.info? elem with
  | none => simp [hq] at hs
  | some i =>
    have hi : i.size = sz := by simpa [hq] using hs
    simp [Builtin.copy_, run_underlying hu, Builtin.lenOf, Builtin.firstCells, sizeOf, typeInfo, hq, hi, ← hn, hl, hst]
theorem run_copy_zero (w : World) (dT sT ty elem : TypeId) (d a : Option Addr) (dCap sCap sz : Nat) (hu : Tryd.prog.underlying dT = some (.slice elem)) (hs : (Tryd.prog.info? elem).map (·.size) = some sz) :
    (Builtin.copy_ #[dT, sT] ty #[.slice d 0 dCap, .slice a 0 sCap]).run Tryd.prog w = .ok (goInt 0) w := by
  cases hq : Tryd.prog.info? elem with
  | none => simp [hq] at hs
  | some i =>
    have hl : ∀ (x : Addr), (loadCells x 0).run Tryd.prog w = .ok #[] w := fun x => by simpa using run_loadCells_list (P := Tryd.prog) w x [] (by simp)
    cases d <;> cases a <;> simp [Builtin.copy_, run_underlying hu, Builtin.lenOf, Builtin.firstCells, sizeOf, typeInfo, hq, storeCells, hl]
/-- 'copy(args, l)' of slices of forms of one length: the one is a block of its own. -/
theorem wpList_copy_forms {w : World} {ops : Array Oper} {rest : List Oper} {o : Oper} {a : Act} {Q : Exit → Act → World → Prop} (hgd : o.guard = none) (d s : Operand)
    (ho : o.op = .call { callee := .builtin .copy, args := #[d, s], argTypes := #[49, 49] }) {T : TypeId}
    (g m : Nat) (sa : Option Addr) (sc : Nat) (hd : a.eval d = .slice (some ⟨g, 0, none⟩) m m) (hs : a.eval s = .slice sa m sc)
    (cur cs : List Value) (hg : Bk w g T cur) (hc : cur.length = m * 15) (hn : cs.length = m * 15) (h1 : ∀ v ∈ cs, v.oneCell' = true)
    (hsrc : 0 < m → ∃ b o, sa = some ⟨b, o, none⟩ ∧ ∀ j v, cs[j]? = some v → w.cell? ⟨b, o + j, none⟩ = some v)
    (h : ∀ w', Bk w' g T cs → (∀ k, k ≠ g → w'.heap[k]? = w.heap[k]?) → Below g w w' → w.heap.size = w'.heap.size → wpList Tryd.prog ops Q rest (a.put o.dst (goInt m)) w') : wpList Tryd.prog ops Q (o :: rest) a w := by
  refine wpList_plain hgd fun K hK => ?_
  have hsz : (Tryd.prog.info? 30).map (·.size) = some 15 := by kernel_rfl
  by_cases h0 : m = 0
  · subst h0
    have hrun := run_copy_zero w 49 49 o.type 30 (some ⟨g, 0, none⟩) sa 0 sc 15 Tryd.underlying49 hsz
    unfold Oper.wp
    simp [execOp, ho, resolve, invoke, builtin, hd, hs, hrun, Result.andThen]
    have e1 : cur = [] := List.eq_nil_of_length_eq_zero (by omega)
    have e2 : cs = [] := List.eq_nil_of_length_eq_zero (by omega)
    rw [e2] at h
    rw [e1] at hg
    exact hK _ _ (h w hg (fun _ _ => rfl) (Below.refl _ _) rfl)
  · obtain ⟨b, o', rfl, hcell⟩ := hsrc (by omega)
    have hrun := run_copy_rows w 49 49 o.type 30 g 0 m m ⟨b, o', none⟩ m sc 15 cs Tryd.underlying49 hsz (by rw [hn]; simp) (fun j v hj => by rw [Addr.add_lit]; exact hcell j v hj) (fun j hj => by rw [Nat.zero_add, Bk.cell hg, List.getElem?_eq_getElem (by omega)]; rfl) (fun j hj => Bk.fz hg _) h1
    have hmin : Nat.min m m = m := Nat.min_self m
    rw [hmin] at hrun
    unfold Oper.wp
    simp [execOp, ho, resolve, invoke, builtin, hd, hs, hrun, Result.andThen]
    have hB := Bk.puts cs 0 w cur hg (by omega)
    rw [List.take_zero, List.nil_append, Nat.zero_add, List.drop_of_length_le (by omega), List.append_nil] at hB
    refine hK _ _ (h _ hB (fun k hk => setCells_far k g 0 hk _ _ _) ?_ ?_)
    · exact (Below.refl g w).grown (setCells_grown _ _ _ _) (Nat.le_of_lt (Bk.lt hg)) (fun k hk => by cases hk; simp)
    · have : ∀ (xs : List Value) (o : Nat) (w : World), (w.setCells g o xs).heap.size = w.heap.size := by
        intro xs
        induction xs with
        | nil => intro o w; rfl
        | cons x xs ih => intro o w; simp only [World.setCells]; rw [ih]; simp
      exact (this _ _ _).symm
end Go.Proofs.YtlhmecagijdinaaDoor.nm
set_option linter.unusedVariables false
set_option linter.unusedSimpArgs false
namespace Go.Proofs.YtlhmecagijdinaaDoor.nm
open Go.RowKit

theorem madeF (m : Nat) (hm : m ≤ 1000000000) (W : World) : (Instr.makeSlice 49 (.int .i64 m) (.int .i64 m)).run Tryd.prog W = .ok (.slice (some ⟨W.heap.size, 0, none⟩) m m) (W.alloc (.cells (madeCells #[.int .i64 0, .int .i64 0, .int .i64 0, .int .i64 0, .int .i64 0, .int .i64 0, .int .i64 0, .int .i64 0, .int .i64 0, .int .i64 0, .int .i64 0, .int .i64 0, .int .i64 0, .int .i64 0, .slice none 0 0] (m * 15)) 30)) := by
  have h := run_make (P := Tryd.prog) W 49 30 Tryd.t30 (.agg #[.int .i64 0, .int .i64 0, .int .i64 0, .int .i64 0, .int .i64 0, .int .i64 0, .int .i64 0, .int .i64 0, .int .i64 0, .int .i64 0, .int .i64 0, .int .i64 0, .int .i64 0, .int .i64 0, .slice none 0 0]) Tryd.underlying49 (by kernel_rfl) (by kernel_rfl) .i64 .i64 m m (by omega) (Int.le_refl _) (by show ((136 : Nat) : Int) * m ≤ _; omega) (by omega)
  have e : ((m : Int).toNat * Tryd.t30.size) = m * 15 := by show (m : Int).toNat * 15 = m * 15; simp
  rw [e, Int.toNat_natCast] at h
  exact h
def ClC (n : Nat) : Prop := ∀ (us : List (Int × Int)) (ps : List Pa) (u : Value) (w : World), Us us → PM w n u ps → Calls Tryd.prog 28 #[foV us u] w fun e w' => ∃ v, e = .returned (foV us v) ∧ PM (cutW w.heap.size w') n v ps ∧ Below w.heap.size w w'
/-- The state of the loop over a part's forms. -/
def RelCi (wA : World) (ga n' : Nat) (w : World) (l : List Fo) (i : Value) (wr : World) : Prop := ∃ (m : Nat) (ys zs : List Value), i = .int .i64 m ∧ m ≤ l.length ∧ Hid (Bk wr ga 30 (ys ++ zs) ∧ FoC (cutW (ga + 1) wr) n' (l.take m) ys ∧ FoC w n' (l.drop m) zs ∧ Below ga wA wr)
theorem RelCi.mk {wA : World} {ga n' : Nat} {w : World} {l : List Fo} {i : Value} {wr : World} (m : Nat) (ys zs : List Value) (h1 : i = .int .i64 m) (h2 : m ≤ l.length) (h3 : Bk wr ga 30 (ys ++ zs)) (h4 : FoC (cutW (ga + 1) wr) n' (l.take m) ys) (h5 : FoC w n' (l.drop m) zs) (h6 : Below ga wA wr) : RelCi wA ga n' w l i wr := ⟨m, ys, zs, h1, h2, h3, h4, h5, h6⟩
/-- The parts, the first k of them copied. -/
def CpS (w wr : World) (n : Nat) (ps : List Pa) (pv : Value) (k : Nat) : Prop := (ps = [] ∧ ∃ a c, pv = .slice a 0 c) ∨ ∃ (g cap : Nat) (ys zs tl : List Value), pv = .slice (some ⟨g, 0, none⟩) ps.length cap ∧ w.heap.size + 2 ≤ g ∧ ps.length ≤ cap ∧ cap ≤ 9223372036854775807 ∧ Bk wr g 51 (ys ++ (zs ++ tl)) ∧ PaC (cutW (g + 1) wr) n (ps.take k) ys ∧ PaC w n (ps.drop k) zs
def RelCo (w : World) (n : Nat) (us : List Value) (ps : List Pa) (pv i : Value) (wr : World) : Prop := ∃ k : Nat, i = .int .i64 k ∧ k ≤ ps.length ∧ Hid (Bk wr w.heap.size 30 (us ++ [pv]) ∧ Bk wr (w.heap.size + 1) 30 [.int .i64 0, .int .i64 0, .int .i64 0, .int .i64 0, .int .i64 0, .int .i64 0, .int .i64 0, .int .i64 0, .int .i64 0, .int .i64 0, .int .i64 0, .int .i64 0, .int .i64 0, .int .i64 0, .slice none 0 0] ∧ CpS w wr n ps pv k ∧ Below w.heap.size w wr)
theorem RelCo.mk {w : World} {n : Nat} {us : List Value} {ps : List Pa} {pv i : Value} {wr : World} (k : Nat) (h1 : i = .int .i64 k) (h2 : k ≤ ps.length) (h3 : Bk wr w.heap.size 30 (us ++ [pv])) (h4 : Bk wr (w.heap.size + 1) 30 [.int .i64 0, .int .i64 0, .int .i64 0, .int .i64 0, .int .i64 0, .int .i64 0, .int .i64 0, .int .i64 0, .int .i64 0, .int .i64 0, .int .i64 0, .int .i64 0, .int .i64 0, .int .i64 0, .slice none 0 0]) (h5 : CpS w wr n ps pv k) (h6 : Below w.heap.size w wr) : RelCo w n us ps pv i wr := ⟨k, h1, h2, h3, h4, h5, h6⟩
/-- An own row of parts, as it begins. -/
theorem cps_start {w wr : World} {n : Nat} {pv : Value} {ps : List Pa} (h : PO w (w.heap.size + 2) n wr pv ps) : CpS w wr n ps pv 0 := by
  obtain ⟨xs, ⟨h1, ⟨rfl, h0⟩ | ⟨g, cap, cur, rfl, hb, hg, hn, hm, hs, ht⟩⟩, hp⟩ := h
  · exact .inl ⟨List.eq_nil_of_length_eq_zero h0, _, _, rfl⟩
  · refine .inr ⟨g, cap, [], xs, cur.toList.drop (ps.length * 2), rfl, hb, hn, by unfold maxLen at hm; exact hm, ?_, .nil, hp⟩
    unfold Bk
    rw [List.nil_append, ← ht, List.take_append_drop, Array.toArray_toList]
    exact hg
theorem fm_nil (w : World) (n : Nat) (a : Option Addr) (c : Nat) : FM w n (.slice a 0 c) [] := by
  cases n with
  | zero => exact ⟨rfl, _, _, rfl⟩
  | succ n => exact .inl ⟨_, _, rfl, rfl⟩
/-- The cells of the forms that a slice holds. -/
theorem forms_cells {w : World} {n : Nat} {v : Value} {l : List Fo} (h : FM w n v l) : ∃ n' xs, (l = [] ∨ n = n' + 1) ∧ FoC w n' l xs ∧ (0 < l.length → ∃ b o c, v = .slice (some ⟨b, o, none⟩) l.length c ∧ ∀ j u, xs[j]? = some u → w.cell? ⟨b, o + j, none⟩ = some u) := by
  by_cases h0 : l = []
  · subst h0; exact ⟨0, [], .inl rfl, .nil, fun h => absurd h (by simp)⟩
  · obtain ⟨f, hf⟩ : ∃ f, l[0]? = some f := by cases l with | nil => exact absurd rfl h0 | cons f r => exact ⟨f, rfl⟩
    obtain ⟨n', rfl, b, o, c, u, rfl, _⟩ := FM.at h hf
    obtain ⟨xs, h1, h2⟩ := FM.cells h rfl l.length 0 (by omega)
    rw [List.drop_zero] at h1
    refine ⟨n', xs, .inr rfl, h1, fun _ => ⟨b, o, c, rfl, fun j v hj => ?_⟩⟩
    have := h2 j v hj
    rwa [Nat.zero_mul, Nat.add_zero] at this
theorem foc_split {w : World} {n : Nat} {f : Fo} {l : List Fo} {xs : List Value} (h : FoC w n (f :: l) xs) : ∃ u zs, xs = (usL f.us ++ [u]) ++ zs ∧ Us f.us ∧ PM w n u f.ps ∧ FoC w n l zs := by
  cases h with
  | cons f l zs u hus hu g => exact ⟨u, zs, rfl, hus, hu, g⟩
theorem pac_split {w : World} {n : Nat} {p : Pa} {l : List Pa} {xs : List Value} (h : PaC w n (p :: l) xs) : ∃ u zs, xs = [.bool p.1, u] ++ zs ∧ FM w n u p.2 ∧ PaC w n l zs := by
  cases h with
  | cons p l zs u hu g => exact ⟨u, zs, rfl, hu, g⟩
theorem mid_range {w : World} {g : Nat} {T : TypeId} {ys A zs : List Value} {o : Nat} (h : Bk w g T (ys ++ (A ++ zs))) (ho : ys.length = o) : w.rangeAt g o A := fun j v hj => by
  have hj2 := (List.getElem?_eq_some_iff.1 hj).1
  rw [Bk.cell h, List.getElem?_append_right (by omega), ho, show o + j - o = j by omega, List.getElem?_append_left (by omega)]
  exact hj
theorem mid_there {w : World} {g : Nat} {T : TypeId} {ys A zs : List Value} {o m : Nat} (h : Bk w g T (ys ++ (A ++ zs))) (ho : ys.length = o) (hm : m = A.length) : w.there g o m := fun j hj => by
  refine ⟨?_, Bk.fz h _⟩
  rw [Bk.cell h, List.getElem?_eq_getElem (by simp; omega)]
  rfl
theorem mid_put {w : World} {g : Nat} {T : TypeId} {ys A C zs : List Value} {o : Nat} (h : Bk w g T (ys ++ (A ++ zs))) (ho : ys.length = o) (hA : A.length = C.length) : Bk (w.setCells g o C) g T ((ys ++ C) ++ zs) := by
  subst ho
  have := Bk.puts C ys.length w _ h (by simp; omega)
  rwa [List.take_left' rfl, ← hA, ← List.length_append, ← List.append_assoc ys A zs, List.drop_left] at this
theorem keep_far {w w' : World} {g B : Nat} (hg : g < B) (h : ∀ k, k ≠ g → w'.heap[k]? = w.heap[k]?) : ∀ b, B ≤ b → b < w.heap.size → w'.heap[b]? = w.heap[b]? := fun b hb _ => h b (by omega)
theorem setCells_size (g : Nat) : ∀ (xs : List Value) (o : Nat) (w : World), (w.setCells g o xs).heap.size = w.heap.size := by
  intro xs
  induction xs with
  | nil => intro o w; rfl
  | cons x xs ih => intro o w; simp only [World.setCells]; rw [ih]; simp
set_option maxRecDepth 100000 in
set_option maxHeartbeats 16000000 in
theorem clone_step (n : Nat) (IH : ∀ m, n = m + 1 → ClC m) : ClC n := by
  intro us ps u w hus hu
  obtain ⟨a, c, rfl, hl9⟩ := hu.shape
  have LA := hide (fo_len hus (.slice a ps.length c))
  have LU := hide (show (usL us).length = 14 by rw [usL_len, hus.1])
  have OUL := hide (show ∀ v ∈ usL us, v.oneCell' = true from fun v hv => us_one (us := us) (u := nilS) rfl v (List.mem_append_left _ hv))
  have FV := fun v => show foV us v = .agg (usL us ++ [v]).toArray from rfl
  simp only [FV]
  have HU := hide hu
  replace IH := hide IH
  clear hu FV hus
  generalize usL us = UL at *
  have sA : (UL ++ [Value.slice a ps.length c]).toArray.size = 15 := by rw [List.size_toArray]; exact LA.out
  obtain ⟨W1, hW1⟩ : ∃ W1, (w.alloc (.cells (UL ++ [Value.slice a ps.length c]).toArray 30)).alloc (.cells #[.int .i64 0, .int .i64 0, .int .i64 0, .int .i64 0, .int .i64 0, .int .i64 0, .int .i64 0, .int .i64 0, .int .i64 0, .int .i64 0, .int .i64 0, .int .i64 0, .int .i64 0, .int .i64 0, .slice none 0 0] 30) = W1 := ⟨_, rfl⟩
  have S1 : W1.heap.size = w.heap.size + 2 := by rw [← hW1]; simp
  have B0 := hide (show Below w.heap.size w W1 by rw [← hW1]; exact bplus (bplus (Below.refl _ _) _) _)
  have P0 := hide (show Bk W1 w.heap.size 30 (UL ++ [Value.slice a ps.length c]) by rw [← hW1]; exact (two_new w _ _).1)
  have P1 := hide (show Bk W1 (w.heap.size + 1) 30 [.int .i64 0, .int .i64 0, .int .i64 0, .int .i64 0, .int .i64 0, .int .i64 0, .int .i64 0, .int .i64 0, .int .i64 0, .int .i64 0, .int .i64 0, .int .i64 0, .int .i64 0, .int .i64 0, .slice none 0 0] by rw [← hW1]; exact (two_new w _ _).2)
  have HW1 := hide hW1
  clear hW1
  have f14 : W1.cell? ⟨w.heap.size, 14, none⟩ = some (.slice a ps.length c) := by rw [Bk.cell P0.out, List.getElem?_append_right (by rw [LU.out]; omega), LU.out]; rfl
  have K0 := hide (fun (v' : Value) (w' : World) (h : Below (w.heap.size + 2) W1 w') => show (w'.cell? ⟨w.heap.size, 14, none⟩ = some (.slice a ps.length c) ∧ w'.frozen? ⟨w.heap.size, 14, none⟩ = false) ∧ Bk (w'.setCell ⟨w.heap.size, 14, none⟩ v') w.heap.size 30 (UL ++ [v']) from by
    have q := Bk.low P0.out h (by omega)
    refine ⟨⟨by rw [Bk.cell q, List.getElem?_append_right (by rw [LU.out]; omega), LU.out]; rfl, Bk.fz q 14⟩, ?_⟩
    have := Bk.put q 14 v'
    rwa [List.set_append_right _ _ (by rw [LU.out]; omega), LU.out] at this)
  have K1 := hide (fun (v' : Value) (w' : World) (h : Below (w.heap.size + 2) W1 w') => show Bk (w'.setCell ⟨w.heap.size, 14, none⟩ v') (w.heap.size + 1) 30 [.int .i64 0, .int .i64 0, .int .i64 0, .int .i64 0, .int .i64 0, .int .i64 0, .int .i64 0, .int .i64 0, .int .i64 0, .int .i64 0, .int .i64 0, .int .i64 0, .int .i64 0, .int .i64 0, .slice none 0 0] from Bk.far (Bk.low P1.out h (by omega)) (by omega) _ _)
  have K2 := hide (fun (v' : Value) (w' : World) (h : PO w (w.heap.size + 2) n w' v' ps) => show CpS w (w'.setCell ⟨w.heap.size, 14, none⟩ v') n ps v' 0 from cps_start (h.keep (fun g hg hl => Below.heap_setCell w' ⟨w.heap.size, 14, none⟩ v' g (by show g ≠ w.heap.size; omega))))
  have K3 := hide (fun (v' : Value) (w' : World) (h : Below (w.heap.size + 2) W1 w') => show Below w.heap.size w (w'.setCell ⟨w.heap.size, 14, none⟩ v') from (B0.out.trans (h.mono (by omega))).setCell (Nat.le_refl _) _)
  go_enter Tryd.func28, Tryd.ntmps28
  go_upto_region 1 with fail
  rw [HW1.out]
  clear HW1
  go_upto_region 2 with (at_builtin; refine wpList_append_parts (w := w) (wr := W1) (B := w.heap.size + 2) (n := n) rfl (.const (.slice none 0 0)) (.tmp 9) rfl (.slice none 0 0) [] rfl (PO.nil _ _ _ _) B0.out (by omega) (.slice a ps.length c) ps rfl HU.out (by simpa using hl9) ?_; intro v' w' HO HB; rw [List.nil_append] at HO; obtain ⟨va, vc, hv2⟩ := PO.shape HO; subst hv2; obtain ⟨t0, t1⟩ := (K0.out (.slice va ps.length vc) w' HB).1; replace HO := hide HO; replace HB := hide HB)
  have J0 := hide (K0.out (.slice va ps.length vc) w' HB.out).2
  have J1 := hide (K1.out (.slice va ps.length vc) w' HB.out)
  have J2 := hide (K2.out (.slice va ps.length vc) w' HO.out)
  have J3 := hide (K3.out (.slice va ps.length vc) w' HB.out)
  clear K0 K1 K2 K3 HO HB f14 P0 P1 B0 S1 sA t0 t1
  generalize w'.setCell ⟨w.heap.size, 14, none⟩ (.slice va ps.length vc) = W2 at *
  have f14 : W2.cell? ⟨w.heap.size, 14, none⟩ = some (.slice va ps.length vc) := by rw [Bk.cell J0.out, List.getElem?_append_right (by rw [LU.out]; omega), LU.out]; rfl
  go_wp2_with fail
  go_loopw [15] (fun i wr => RelCo w n UL ps (.slice va ps.length vc) i wr) (fun i _ => ps.length - (intOf i).toNat)
  case atStart => exact .mk 0 rfl (by omega) J0.out J1.out J2.out J3.out
  case round =>
    obtain ⟨k, rfl, hk, R⟩ := hrel
    obtain ⟨wo, hwo⟩ : ∃ wo, wo = wr := ⟨_, rfl⟩
    subst hwo
    have Q0 := hide R.out.1
    have Q1 := hide R.out.2.1
    have QS := hide R.out.2.2.1
    have BW := hide R.out.2.2.2
    clear R J0 J1 J2 J3 f14
    by_cases hlt : k < ps.length
    · have hlt' : (k : Int) < ps.length := by omega
      obtain ⟨p, hp⟩ : ∃ p, ps[k]? = some p := ⟨_, List.getElem?_eq_getElem hlt⟩
      obtain ⟨g, cap, ys, zs, tl, hpv, hgB, hcap, hcap9, BG, PY, PZ⟩ := QS.out.resolve_left (fun h => by rw [h.1] at hlt; simp at hlt)
      obtain ⟨rfl, rfl⟩ : va = some ⟨g, 0, none⟩ ∧ vc = cap := by cases hpv; exact ⟨rfl, rfl⟩
      rw [drop_atE hp] at PZ
      obtain ⟨ua, zs', rfl, hfm, PZ'⟩ := pac_split PZ
      have hyl : ys.length = k * 2 := by rw [PY.len, List.length_take]; omega
      obtain ⟨mx, l⟩ := p
      simp only at hfm BG
      obtain ⟨n', fx, hn', FX, hsrc⟩ := forms_cells hfm
      obtain ⟨sa, sc, rfl, hl9'⟩ := FM.shape hfm
      have c0 : wo.cell? ⟨g, k * 2, none⟩ = some (.bool mx) := by rw [Bk.cell BG, List.getElem?_append_right (by omega), hyl, Nat.sub_self]; rfl
      have c1 : wo.cell? ⟨g, k * 2 + 1, none⟩ = some (.slice sa l.length sc) := by rw [Bk.cell BG, List.getElem?_append_right (by omega), hyl, show k * 2 + 1 - k * 2 = 1 by omega]; rfl
      have hgw : g < wo.heap.size := Bk.lt BG
      have hgn : g ≠ wo.heap.size := by omega
      obtain ⟨W3, hW3⟩ : ∃ W3, (wo.alloc (.cells #[.bool mx, .slice sa l.length sc] 51)).alloc (.cells (madeCells #[.int .i64 0, .int .i64 0, .int .i64 0, .int .i64 0, .int .i64 0, .int .i64 0, .int .i64 0, .int .i64 0, .int .i64 0, .int .i64 0, .int .i64 0, .int .i64 0, .int .i64 0, .int .i64 0, .slice none 0 0] (l.length * 15)) 30) = W3 := ⟨_, rfl⟩
      have S3 : W3.heap.size = wo.heap.size + 2 := by rw [← hW3]; simp
      have B3 := hide (show Below wo.heap.size wo W3 by rw [← hW3]; exact bplus (bplus (Below.refl _ _) _) _)
      have M0 := hide (show Bk W3 wo.heap.size 51 [.bool mx, .slice sa l.length sc] by rw [← hW3]; exact (two_new wo _ _).1)
      have M1 := hide (show Bk W3 (wo.heap.size + 1) 30 (madeCells #[.int .i64 0, .int .i64 0, .int .i64 0, .int .i64 0, .int .i64 0, .int .i64 0, .int .i64 0, .int .i64 0, .int .i64 0, .int .i64 0, .int .i64 0, .int .i64 0, .int .i64 0, .int .i64 0, .slice none 0 0] (l.length * 15)).toList by unfold Bk; rw [Array.toArray_toList, ← hW3]; exact (two_new wo _ _).2)
      have ML := hide (show (madeCells #[.int .i64 0, .int .i64 0, .int .i64 0, .int .i64 0, .int .i64 0, .int .i64 0, .int .i64 0, .int .i64 0, .int .i64 0, .int .i64 0, .int .i64 0, .int .i64 0, .int .i64 0, .int .i64 0, .slice none 0 0] (l.length * 15)).toList.length = l.length * 15 by rw [Array.length_toList, size_madeCells])
      have HW3 := hide hW3
      have MK := madeF l.length hl9' (wo.alloc (.cells #[.bool mx, .slice sa l.length sc] 51))
      rw [show (wo.alloc (.cells #[.bool mx, .slice sa l.length sc] 51)).heap.size = wo.heap.size + 1 by simp] at MK
      rw [hW3] at MK
      have PY := hide PY
      have PZ' := hide PZ'
      have BG := hide BG
      have FX := hide FX
      have HSRC := hide hsrc
      have HFM := hide hfm
      have HN := hide hn'
      have HP := hide hp
      clear hW3 PZ hfm hsrc hpv QS hn' hp
      go_upto_region 6 with fail
      clear MK c0 c1
      obtain ⟨m0, m1⟩ := bxk_2g (show W3.heap[wo.heap.size]? = some (.cells #[.bool mx, .slice sa l.length sc] 51) from M0.out)
      go_upto_region 7 with (refine wpList_copy_forms rfl (.tmp 24) (.tmp 26) rfl (wo.heap.size + 1) l.length sa sc rfl rfl _ fx M1.out ML.out FX.out.len FX.out.one (fun h => by obtain ⟨b, o, c', hv, hcell⟩ := HSRC.out h; cases hv; exact ⟨b, o, rfl, fun j v hj => (bto BW.out B3.out).cell (p := ⟨b, o + j, none⟩) (World.block_lt_of_cell? _ _ (hcell j v hj)) ▸ hcell j v hj⟩) ?_; intro wA HA HK HBA HSZ; replace HA := hide HA; replace HK := hide HK; replace HBA := hide HBA; replace HSZ := hide HSZ)
      have hgaw : wo.heap.size + 1 < wA.heap.size := by rw [← HSZ.out, S3]; omega
      have BRA := hide (show Below wo.heap.size wo wA from B3.out.trans (HBA.out.mono (by omega)))
      clear M0 M1 ML B3 HW3 HBA HK m0 m1 HSRC
      obtain ⟨ga, hga⟩ : ∃ ga, wo.heap.size + 1 = ga := ⟨_, rfl⟩
      rw [hga] at HA hgaw ⊢
      go_wp2_with fail
      go_loopw [30] (fun i wq => RelCi wA ga n' w l i wq) (fun i _ => l.length - (intOf i).toNat)
      case atStart => exact .mk 0 [] fx rfl (by omega) HA.out .nil FX.out (Below.refl _ _)
      case round =>
        obtain ⟨m, xs, ws, rfl, hm, R⟩ := hrel
        obtain ⟨wq, hwq⟩ : ∃ wq, wq = wr := ⟨_, rfl⟩
        subst hwq
        have X0 := hide R.out.1
        have X1 := hide R.out.2.1
        have X2 := hide R.out.2.2.1
        have XB := hide R.out.2.2.2
        have hgq : ga < wq.heap.size := Bk.lt X0.out
        have BWQ := hide (show Below w.heap.size w wq from (bto BW.out BRA.out).trans (XB.out.mono (by have := BW.out.size; omega)))
        clear R HA FX
        by_cases hlm : m < l.length
        · have hlm' : (m : Int) < l.length := by omega
          obtain ⟨f, hf⟩ : ∃ f, l[m]? = some f := ⟨_, List.getElem?_eq_getElem hlm⟩
          have hnn : n = n' + 1 := HN.out.resolve_left (fun h => by rw [h] at hlm; simp at hlm)
          have X2' := X2.out
          rw [drop_atE hf] at X2'
          obtain ⟨fu, ws', rfl, hfus, hfpm, FZ⟩ := foc_split X2'
          have hxl : xs.length = m * 15 := by rw [X1.out.len, List.length_take]; omega
          have lA := fo_len hfus fu
          have lA0 := hide lA
          have CI := hide (fun (W : World) (h : Below w.heap.size w W) => IH.out n' hnn f.us f.ps fu W hfus (PM.low h hfpm))
          have RG := hide (mid_range X0.out hxl)
          have OA := hide (us_one (us := f.us) (pm_one hfpm))
          have OC := hide (fun (v : Value) (h : v.oneCell' = true) => us_one (us := f.us) h)
          have LC := hide (fun (v : Value) => fo_len hfus v)
          have NX := hide (fun (W4 w5 : World) (v : Value) (h4 : Below wq.heap.size wq W4) (h5 : Below W4.heap.size W4 w5) (hp : PM (cutW W4.heap.size w5) n' v f.ps) => show Bk (w5.setCells ga (m * 15) (usL f.us ++ [v])) ga 30 ((xs ++ (usL f.us ++ [v])) ++ ws') ∧ FoC (cutW (ga + 1) (w5.setCells ga (m * 15) (usL f.us ++ [v]))) n' (l.take (m + 1)) (xs ++ (usL f.us ++ [v])) ∧ Below ga wA (w5.setCells ga (m * 15) (usL f.us ++ [v])) from by
            have h45 := bto h4 h5
            have q : Bk w5 ga 30 (xs ++ ((usL f.us ++ [fu]) ++ ws')) := Bk.up X0.out h45
            refine ⟨mid_put q hxl (by rw [lA, fo_len hfus]), ?_, ?_⟩
            · rw [List.take_add_one, hf]
              have o1 : FoC (cutW (ga + 1) (w5.setCells ga (m * 15) (usL f.us ++ [v]))) n' (l.take m) xs := X1.out.sees (cut_keep (Nat.le_refl _) (by rw [setCells_size]; exact h45.size) (fun b hb hl => (setCells_far b ga 0 (by omega) _ _ _).trans (h45.block b hl)))
              have o2 : PM (cutW (ga + 1) (w5.setCells ga (m * 15) (usL f.us ++ [v]))) n' v f.ps := pm_sees (cut_keep (by have := h4.size; omega) (by rw [setCells_size]; omega) (fun b hb hl => setCells_far b ga 0 (by have := h4.size; omega) _ _ _)) hp
              have o3 := o1.app (.cons f [] [] v hfus o2 .nil)
              rwa [List.append_nil] at o3
            · exact (XB.out.trans (h45.mono (by omega))).grown (setCells_grown _ _ _ _) (by have := h45.size; omega) (fun k hk => by cases hk; exact Nat.le_refl _))
          have EV := fun v => show foV f.us v = .agg (usL f.us ++ [v]).toArray from rfl
          simp only [EV] at CI
          clear EV X2 X2' X1 hf hfus hfpm
          generalize usL f.us = FL at *
          generalize f.us = fus at *
          generalize f.ps = fps at *
          have sA : (FL ++ [fu]).toArray.size = 15 := by rw [List.size_toArray]; exact lA
          obtain ⟨A, hA⟩ : ∃ A, FL ++ [fu] = A := ⟨_, rfl⟩
          rw [hA] at CI RG OA lA sA
          clear hA
          obtain ⟨W4, hW4⟩ : ∃ W4, (wq.alloc (.cells #[.int .i64 0, .int .i64 0, .int .i64 0, .int .i64 0, .int .i64 0, .int .i64 0, .int .i64 0, .int .i64 0, .int .i64 0, .int .i64 0, .int .i64 0, .int .i64 0, .int .i64 0, .int .i64 0, .slice none 0 0] 30)).setCells wq.heap.size 0 A = W4 := ⟨_, rfl⟩
          have T4 := hide (show (wq.alloc (.cells #[.int .i64 0, .int .i64 0, .int .i64 0, .int .i64 0, .int .i64 0, .int .i64 0, .int .i64 0, .int .i64 0, .int .i64 0, .int .i64 0, .int .i64 0, .int .i64 0, .int .i64 0, .int .i64 0, .slice none 0 0] 30)).there wq.heap.size 0 A.toArray.size from there_blk (heap_alloc_new wq _) (by rw [sA]; rfl))
          have H4 := hide (show (Tryd.prog.info? 30).map (·.size) = some A.toArray.size by rw [sA]; kernel_rfl)
          have H5 := hide (show (Tryd.prog.info? 30).map (·.size) = some A.length by rw [lA]; kernel_rfl)
          have B4 := hide (show Below wq.heap.size wq W4 by rw [← hW4]; exact (bplus (Below.refl _ _) _).grown (setCells_grown _ _ _ _) (by simp) (fun k hk => by cases hk; exact Nat.le_refl _))
          have R4 := hide (show W4.rangeAt wq.heap.size 0 A by
            have q := Bk.puts A 0 _ _ (Bk.new wq 30 [.int .i64 0, .int .i64 0, .int .i64 0, .int .i64 0, .int .i64 0, .int .i64 0, .int .i64 0, .int .i64 0, .int .i64 0, .int .i64 0, .int .i64 0, .int .i64 0, .int .i64 0, .int .i64 0, .slice none 0 0]) (by rw [lA]; simp)
            rw [List.take_zero, List.nil_append, Nat.zero_add, List.drop_of_length_le (by rw [lA]; simp), List.append_nil] at q
            rw [← hW4]
            exact range_blk q)
          have HW4 := hide hW4
          have hq4 : wq.heap.size < W4.heap.size := by rw [← hW4, setCells_size]; simp
          clear hW4
          go_upto_region 10 with (first
            | (refine wpList_load_mid rfl 30 (.tmp 33) rfl ga (m * 15) rfl A _ RG.out Tryd.underlying30 rfl H5.out ?_)
            | (refine wpList_store_mid rfl 30 (.tmp 7) (.tmp 34) rfl wq.heap.size 0 A.toArray rfl rfl T4.out H4.out (all_oneCell_toArray OA.out) ?_))
          (try rw [show A.toArray.toList = A from rfl])
          rw [HW4.out]
          clear HW4 T4 RG
          go_wp2_with (first
            | (refine wpList_load_mid rfl 30 (.tmp 7) rfl wq.heap.size 0 rfl A _ R4.out Tryd.underlying30 rfl H5.out ?_)
            | (go_at_call 28; refine (CI.out _ (bto BWQ.out B4.out)).mono ?_; rintro e w5 ⟨v, rfl, PV, B5⟩; replace PV := hide PV; replace B5 := hide B5)
            | (refine wpList_store_mid rfl 30 (.tmp 39) (.tmp 38) rfl ga (m * 15) (FL ++ [v]).toArray rfl rfl (mid_there (Bk.up X0.out (bto B4.out B5.out)) hxl (by rw [List.size_toArray, LC.out v, lA0.out])) (by rw [List.size_toArray, LC.out v]; kernel_rfl) (all_oneCell_toArray (OC.out v (pm_one PV.out))) ?_))
          (try rw [show (FL ++ [v]).toArray.toList = FL ++ [v] from rfl])
          go_roundw
          case rel => exact .mk (m + 1) (xs ++ (FL ++ [v])) ws' (by go_num) (by omega) (NX.out W4 w5 v B4.out B5.out PV.out).1 (NX.out W4 w5 v B4.out B5.out PV.out).2.1 FZ (NX.out W4 w5 v B4.out B5.out PV.out).2.2
          case measure => simp [intOf]; omega
        · obtain rfl : m = l.length := by omega
          have hlm' : ¬ ((l.length : Nat) : Int) < l.length := by omega
          have X1' := X1.out
          have X2' := X2.out
          rw [List.take_length] at X1'
          rw [List.drop_length] at X2'
          have hws : ws = [] := by cases X2'; rfl
          subst hws
          rw [List.append_nil] at X0
          have FMN := hide (show FM (cutW (g + 1) wq) n (.slice (some ⟨ga, 0, none⟩) l.length l.length) l from by
            rcases HN.out with h | h
            · subst h; exact fm_nil _ _ _ _
            · rw [h]
              exact foc_fm (X1'.sees (cut_keep (show g + 1 ≤ ga + 1 by omega) (Nat.le_refl _) (fun _ _ _ => rfl))) (show Bk (cutW (g + 1) wq) ga 30 xs from (cut_blk wq (by omega)).trans X0.out) hl9')
          have BRQ := hide (show Below wo.heap.size wo wq from BRA.out.trans (XB.out.mono (by omega)))
          have G0 := hide (Bk.up Q0.out BRQ.out)
          have G1 := hide (Bk.up Q1.out BRQ.out)
          have GG := hide (Bk.up BG.out BRQ.out)
          have GY := hide (PY.out.sees (cut_keep (Nat.le_refl (g + 1)) BRQ.out.size (fun b hb hl => BRQ.out.block b hl)))
          have f14 : wq.cell? ⟨w.heap.size, 14, none⟩ = some (.slice (some ⟨g, 0, none⟩) ps.length vc) := by rw [Bk.cell G0.out, List.getElem?_append_right (by rw [LU.out]; omega), LU.out]; rfl
          have d1 : wq.cell? ⟨g, k * 2 + 1, none⟩ = some (.slice sa l.length sc) := by rw [Bk.cell GG.out, List.getElem?_append_right (by omega), hyl, show k * 2 + 1 - k * 2 = 1 by omega]; rfl
          have z1 := Bk.fz GG.out (k * 2 + 1)
          obtain ⟨sl, hsl⟩ : ∃ sl, Value.slice (some ⟨ga, 0, none⟩) l.length l.length = sl := ⟨_, rfl⟩
          have N0 := hide (show Bk (wq.setCell ⟨g, k * 2 + 1, none⟩ sl) w.heap.size 30 (UL ++ [Value.slice (some ⟨g, 0, none⟩) ps.length vc]) from Bk.far G0.out (by omega) _ _)
          have N1 := hide (show Bk (wq.setCell ⟨g, k * 2 + 1, none⟩ sl) (w.heap.size + 1) 30 [.int .i64 0, .int .i64 0, .int .i64 0, .int .i64 0, .int .i64 0, .int .i64 0, .int .i64 0, .int .i64 0, .int .i64 0, .int .i64 0, .int .i64 0, .int .i64 0, .int .i64 0, .int .i64 0, .slice none 0 0] from Bk.far G1.out (by omega) _ _)
          have NB := hide (show Below w.heap.size w (wq.setCell ⟨g, k * 2 + 1, none⟩ sl) from BWQ.out.setCell (by show w.heap.size ≤ g; omega) _)
          have NS := hide (show CpS w (wq.setCell ⟨g, k * 2 + 1, none⟩ sl) n ps (.slice (some ⟨g, 0, none⟩) ps.length vc) (k + 1) from by
            refine .inr ⟨g, vc, ys ++ [.bool mx, sl], zs', tl, rfl, hgB, hcap, hcap9, ?_, ?_, PZ'.out⟩
            · have q := Bk.put GG.out (k * 2 + 1) sl
              rw [List.set_append_right _ _ (by omega), hyl, show k * 2 + 1 - k * 2 = 1 by omega] at q
              simpa using q
            · rw [List.take_add_one, HP.out]
              have keep : Sees (cutW (g + 1) wq) (cutW (g + 1) (wq.setCell ⟨g, k * 2 + 1, none⟩ sl)) := cut_keep (Nat.le_refl _) (by simp) (fun b hb hl => Below.heap_setCell wq ⟨g, k * 2 + 1, none⟩ sl b (by show b ≠ g; omega))
              have o1 := GY.out.sees keep
              have o2 : FM (cutW (g + 1) (wq.setCell ⟨g, k * 2 + 1, none⟩ sl)) n sl (mx, l).2 := by rw [← hsl]; rw [← hsl] at keep; exact fm_sees keep FMN.out
              exact o1.app (.cons (mx, l) [] [] sl o2 .nil))
          rw [← hsl] at N0 N1 NB NS
          clear X0 X1 X2 X1' X2' XB FMN BRQ G0 G1 GG GY hsl IH HFM PY PZ' BG BRA Q0 Q1
          go_wp2_with fail
          go_roundw
          case rel => exact .mk (k + 1) (by go_num) (by omega) N0.out N1.out NS.out NB.out
          case measure => simp [intOf]; omega
    · obtain rfl : k = ps.length := by omega
      have hlt' : ¬ ((ps.length : Nat) : Int) < ps.length := by omega
      have OV : (Value.slice va ps.length vc).oneCell' = true := rfl
      have LP : (UL ++ [Value.slice va ps.length vc]).length = 15 := by rw [List.length_append, LU.out]; rfl
      have OU := show (∀ v ∈ UL ++ [Value.slice va ps.length vc], v.oneCell' = true) from fun v hv => (by rcases List.mem_append.1 hv with h | h; exact OUL.out v h; simp at h; subst h; rfl)
      obtain ⟨P, hP⟩ : ∃ P, UL ++ [Value.slice va ps.length vc] = P := ⟨_, rfl⟩
      have FB := hide (show Below w.heap.size w (wo.setCells (w.heap.size + 1) 0 P) from BW.out.grown (setCells_grown _ _ _ _) BW.out.size (fun k hk => by cases hk; simp))
      have FP := hide (show PM (cutW w.heap.size (wo.setCells (w.heap.size + 1) 0 P)) n (.slice va ps.length vc) ps from by
        rcases QS.out with ⟨h1, a', c', h2⟩ | ⟨g, cap, ys, zs, tl, hpv, hgB, hcap, hcap9, BG, PY, PZ⟩
        · subst h1; exact .inl ⟨_, _, rfl, rfl⟩
        · obtain ⟨rfl, rfl⟩ : va = some ⟨g, 0, none⟩ ∧ vc = cap := by cases hpv; exact ⟨rfl, rfl⟩
          rw [List.take_length] at PY
          rw [List.drop_length] at PZ
          have hzs : zs = [] := by cases PZ; rfl
          subst hzs
          rw [List.nil_append] at BG
          exact pac_pm (PY.sees (cut_keep (by omega) (by rw [setCells_size]; omega) (fun b hb hl => setCells_far b (w.heap.size + 1) 0 (by omega) _ _ _))) (show Bk (cutW w.heap.size (wo.setCells (w.heap.size + 1) 0 P)) g 51 (ys ++ tl) from (cut_blk _ (by omega)).trans ((setCells_far g (w.heap.size + 1) 0 (by omega) _ _ _).trans BG)) hl9 hcap hcap9)
      rw [hP] at Q0 LP OU
      have T4 := hide (show wo.there (w.heap.size + 1) 0 P.toArray.size from there_blk (show wo.heap[w.heap.size + 1]? = some (.cells #[.int .i64 0, .int .i64 0, .int .i64 0, .int .i64 0, .int .i64 0, .int .i64 0, .int .i64 0, .int .i64 0, .int .i64 0, .int .i64 0, .int .i64 0, .int .i64 0, .int .i64 0, .int .i64 0, .slice none 0 0] 30) from Q1.out) (by rw [List.size_toArray, List.size_toArray, LP]; rfl))
      clear QS Q1
      go_upto_region 14 with fail
      refine wp_region_list ?_
      refine wpList_load_mid rfl 30 (.tmp 1) rfl w.heap.size 0 rfl P _ (range_blk Q0.out) Tryd.underlying30 rfl (by rw [LP]; kernel_rfl) ?_
      refine wpList_store_mid rfl 30 (.tmp 2) (.tmp 48) rfl (w.heap.size + 1) 0 P.toArray rfl rfl T4.out (by rw [List.size_toArray, LP]; kernel_rfl) (all_oneCell_toArray OU) ?_
      go_wp2_with fail
      refine ret_cell (b := w.heap.size + 1) (cs := P) Tryd.results28 rfl (World.rangeAt_setCells_same _ _ _ _ T4.out) Tryd.underlying30 rfl (by rw [LP]; kernel_rfl) rfl ?_
      exact ⟨_, by rw [← hP], FP.out, FB.out⟩
theorem clone_all (n : Nat) : ClC n := by
  induction n with
  | zero => exact clone_step 0 (fun m h => by omega)
  | succ n ih => exact clone_step (n + 1) (fun m h => (show n = m by omega) ▸ ih)
end Go.Proofs.YtlhmecagijdinaaDoor.nm
