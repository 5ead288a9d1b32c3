/-
  What lies from one block on; forms, cell by cell; rows that are copied.
  A form's copy, as deep as it is: the walk of the program.
-/
import Derived.Test.YtlhmecagijdinaaGreatDoorH07
import Derived.Laws.IdiomCopy
import Derived.Deep.OwnRows
set_option linter.unusedVariables false
set_option linter.unusedSimpArgs false
namespace Go.Proofs.YtlhmecagijdinaaGreatDoor.nm
open Go.RowKit

/-- The world without what lies below B. -/
def cutW (B : Nat) (w : World) : World := { w with heap := w.heap.mapIdx fun i o => if i < B then .cells #[] 0 else o }
theorem cut_size (B : Nat) (w : World) : (cutW B w).heap.size = w.heap.size := by simp [cutW]
theorem cut_blk {B b : Nat} (w : World) (h : B ≤ b) : (cutW B w).heap[b]? = w.heap[b]? := by
  simp only [cutW, Array.getElem?_mapIdx]
  cases w.heap[b]? with
  | none => rfl
  | some o => simp [show ¬ b < B by omega]
theorem cut_low {B b : Nat} (w : World) (h : b < B) (o : Nat) : (cutW B w).cell? ⟨b, o, none⟩ = none := by
  unfold World.cell?
  simp only [cutW, Array.getElem?_mapIdx]
  cases w.heap[b]? with
  | none => rfl
  | some x => simp [h]
theorem cell_blk {w w' : World} {b : Nat} (h : w'.heap[b]? = w.heap[b]?) (o : Nat) : w'.cell? ⟨b, o, none⟩ = w.cell? ⟨b, o, none⟩ := by
  unfold World.cell?
  simp only [h]
/-- What is seen stays seen. -/
def Sees (w w' : World) : Prop := w.heap.size ≤ w'.heap.size ∧ ∀ b o v, w.cell? ⟨b, o, none⟩ = some v → w'.cell? ⟨b, o, none⟩ = some v
theorem un_sees {w w' : World} (h : Sees w w') {b o : Nat} {us : List (Int × Int)} (k : Un w b o us) : Un w' b o us := ⟨k.1, fun i r hi => ⟨h.2 _ _ _ (k.2 i r hi).1, h.2 _ _ _ (k.2 i r hi).2⟩⟩
theorem fm_sees {w w' : World} (h : Sees w w') {n : Nat} : ∀ {v : Value} {l : List Fo}, FM w n v l → FM w' n v l := by
  induction n with
  | zero => intro v l k; exact k
  | succ n ih =>
    intro v l k
    refine RowOf.mono k h.1 (fun b o x _ _ hx => ?_)
    obtain ⟨u, h1, h2, h3⟩ := hx
    refine ⟨u, un_sees h h1, h.2 _ _ _ h2, h3.mono h.1 (fun b o p _ _ hp => ?_)⟩
    obtain ⟨v, k1, k2, k3⟩ := hp
    exact ⟨v, h.2 _ _ _ k1, h.2 _ _ _ k2, ih k3⟩
theorem pm_sees {w w' : World} (h : Sees w w') {n : Nat} {v : Value} {l : List Pa} (k : PM w n v l) : PM w' n v l :=
  RowOf.mono k h.1 (fun b o p _ _ hp => by
    obtain ⟨v, k1, k2, k3⟩ := hp
    exact ⟨v, h.2 _ _ _ k1, h.2 _ _ _ k2, fm_sees h k3⟩)
theorem cut_sees (B : Nat) (w : World) : Sees (cutW B w) w := ⟨Nat.le_of_eq (cut_size B w), fun b o v h => by
  by_cases hb : b < B
  · rw [cut_low w hb] at h; cases h
  · rw [cell_blk (cut_blk w (by omega)) o] at h; exact h⟩
/-- What lies from B on stays, where these blocks do. -/
theorem cut_keep {B C : Nat} {w w' : World} (hC : C ≤ B) (hs : w.heap.size ≤ w'.heap.size) (hk : ∀ b, B ≤ b → b < w.heap.size → w'.heap[b]? = w.heap[b]?) : Sees (cutW B w) (cutW C w') := ⟨by rw [cut_size, cut_size]; exact hs, fun b o v h => by
  by_cases hb : b < B
  · rw [cut_low w hb] at h; cases h
  · rw [cell_blk (cut_blk w (by omega)) o] at h
    rw [cell_blk (cut_blk w' (by omega)) o, cell_blk (hk b (by omega) (World.block_lt_of_cell? _ _ h)) o]
    exact h⟩
/-- The cells of forms. -/
inductive FoC (w : World) (n : Nat) : List Fo → List Value → Prop
  | nil : FoC w n [] []
  | cons (f : Fo) (l : List Fo) (xs : List Value) (u : Value) (hus : Us f.us) (hu : PM w n u f.ps) (g : FoC w n l xs) : FoC w n (f :: l) ((usL f.us ++ [u]) ++ xs)
theorem fo_len {us : List (Int × Int)} (h : Us us) (u : Value) : (usL us ++ [u]).length = 15 := by rw [List.length_append, usL_len, h.1]; rfl
theorem FoC.app {w : World} {n : Nat} {l1 l2 : List Fo} {xs1 xs2 : List Value} (h : FoC w n l1 xs1) (k : FoC w n l2 xs2) : FoC w n (l1 ++ l2) (xs1 ++ xs2) := by
  induction h with
  | nil => exact k
  | cons f l xs u hus hu g ih => rw [List.append_assoc]; exact .cons f _ _ u hus hu ih
theorem FoC.len {w : World} {n : Nat} {l : List Fo} {xs : List Value} (h : FoC w n l xs) : xs.length = l.length * 15 := by
  induction h with
  | nil => rfl
  | cons f l xs u hus hu g ih => rw [List.length_append, fo_len hus, ih, List.length_cons]; omega
theorem FoC.sees {w w' : World} {n : Nat} {l : List Fo} {xs : List Value} (h : FoC w n l xs) (k : Sees w w') : FoC w' n l xs := by
  induction h with
  | nil => exact .nil
  | cons f l xs u hus hu g ih => exact .cons f l xs u hus (pm_sees k hu) ih
theorem PaC.sees {w w' : World} {n : Nat} {l : List Pa} {xs : List Value} (h : PaC w n l xs) (k : Sees w w') : PaC w' n l xs := by
  induction h with
  | nil => exact .nil
  | cons p l xs u hu g ih => exact .cons p l xs u (fm_sees k hu) ih
theorem pm_one {w : World} {n : Nat} {u : Value} {l : List Pa} (h : PM w n u l) : u.oneCell' = true := by
  obtain ⟨a, c, rfl, -⟩ := PM.shape h
  rfl
theorem FoC.one {w : World} {n : Nat} {l : List Fo} {xs : List Value} (h : FoC w n l xs) : ∀ u ∈ xs, u.oneCell' = true := by
  induction h with
  | nil => intro u hu; cases hu
  | cons f l xs u hus hu g ih =>
    intro v hv
    rw [List.mem_append] at hv
    rcases hv with hv | hv
    · exact us_one (pm_one hu) v hv
    · exact ih v hv
theorem un_cell {w : World} {b o : Nat} {us : List (Int × Int)} (h : Un w b o us) {j : Nat} {u : Value} (hj : (usL us)[j]? = some u) : w.cell? ⟨b, o + j, none⟩ = some u := by
  have hl := usL_len us
  have hj2 := (List.getElem?_eq_some_iff.1 hj).1
  have h7 := h.1.1
  obtain ⟨r, hr⟩ : ∃ r, us[j / 2]? = some r := ⟨_, List.getElem?_eq_getElem (by omega)⟩
  obtain ⟨rn, rd⟩ := r
  obtain ⟨e1, e2⟩ := usL_at hr
  obtain ⟨k1, k2⟩ := h.2 _ _ hr
  rcases Nat.mod_two_eq_zero_or_one j with hm | hm
  · have e : j / 2 * 2 = j := by omega
    rw [e] at e1 k1
    rw [e1] at hj
    rw [k1]; exact hj
  · have e : j / 2 * 2 + 1 = j := by omega
    rw [e] at e2
    rw [show o + j / 2 * 2 + 1 = o + j by omega] at k2
    rw [e2] at hj
    rw [k2]; exact hj
theorem FM.cells {w : World} {b o c n m : Nat} {l : List Fo} (h : FM w (n + 1) (.slice (some ⟨b, o, none⟩) m c) l) (hn : m = l.length) : ∀ d k, k + d = l.length → ∃ xs, FoC w n (l.drop k) xs ∧ ∀ j u, xs[j]? = some u → w.cell? ⟨b, o + k * 15 + j, none⟩ = some u := by
  intro d
  induction d with
  | zero =>
    intro k hk
    rw [List.drop_of_length_le (by omega)]
    exact ⟨[], .nil, fun j u h => by simp at h⟩
  | succ d ih =>
    intro k hk
    obtain ⟨xs, h1, h2⟩ := ih (k + 1) (by omega)
    obtain ⟨f, hf⟩ : ∃ f, l[k]? = some f := ⟨_, List.getElem?_eq_getElem (by omega)⟩
    obtain ⟨m', hm', b', o', c', u, hv, _, _, _, gu, g14, gp⟩ := FM.at h hf
    obtain rfl : n = m' := by omega
    obtain ⟨rfl, rfl⟩ : b = b' ∧ o = o' := by simp at hv; exact ⟨hv.1.1, hv.1.2⟩
    rw [drop_atE hf]
    refine ⟨_, .cons f _ xs u gu.1 gp h1, fun j v hj => ?_⟩
    have l15 := fo_len gu.1 u
    have l14 := usL_len f.us
    have l7 := gu.1.1
    by_cases hj15 : j < 15
    · rw [List.getElem?_append_left (by omega)] at hj
      by_cases hj14 : j < 14
      · rw [List.getElem?_append_left (by omega)] at hj
        exact un_cell gu hj
      · obtain rfl : j = 14 := by omega
        rw [List.getElem?_append_right (by omega), show 14 - (usL f.us).length = 0 by omega] at hj
        simp at hj
        subst hj
        exact g14
    · rw [List.getElem?_append_right (by omega), l15] at hj
      have := h2 (j - 15) v hj
      rwa [show o + (k + 1) * 15 + (j - 15) = o + k * 15 + j by omega] at this
/-- Forms in a block of their own are a slice of forms. -/
theorem FoC.get {w : World} {n : Nat} {l : List Fo} {xs : List Value} (h : FoC w n l xs) : ∀ i f, l[i]? = some f → ∃ u, Us f.us ∧ PM w n u f.ps ∧ ∀ j, j < 15 → xs[i * 15 + j]? = (usL f.us ++ [u])[j]? := by
  induction h with
  | nil => intro i f h; simp at h
  | cons x l xs u hus hu g ih =>
    intro i f hi
    have l15 := fo_len hus u
    cases i with
    | zero =>
      cases hi
      refine ⟨u, hus, hu, fun j hj => ?_⟩
      rw [Nat.zero_mul, Nat.zero_add, List.getElem?_append_left (by omega)]
    | succ i =>
      obtain ⟨a, h1, h2, h3⟩ := ih i f hi
      refine ⟨a, h1, h2, fun j hj => ?_⟩
      rw [List.getElem?_append_right (by omega), l15, show (i + 1) * 15 + j - 15 = i * 15 + j by omega]
      exact h3 j hj
theorem foc_fm {w : World} {n g : Nat} {T : TypeId} {l : List Fo} {xs : List Value} (h : FoC w n l xs) (hb : Bk w g T xs) (h9 : l.length ≤ 1000000000) : FM w (n + 1) (.slice (some ⟨g, 0, none⟩) l.length l.length) l := by
  by_cases h0 : l.length = 0
  · obtain rfl := List.eq_nil_of_length_eq_zero h0
    exact .inl ⟨_, _, rfl, rfl⟩
  · refine .inr ⟨g, 0, l.length, rfl, by omega, Bk.lt hb, Nat.le_refl _, h9, by omega, fun i f hi => ?_⟩
    obtain ⟨u, h1, h2, h3⟩ := h.get i f hi
    have l14 := usL_len f.us
    have l7 := h1.1
    refine ⟨u, ⟨h1, fun j r hj => ?_⟩, ?_, h2⟩
    · obtain ⟨rn, rd⟩ := r
      obtain ⟨e1, e2⟩ := usL_at hj
      have hj7 := (List.getElem?_eq_some_iff.1 hj).1
      refine ⟨?_, ?_⟩
      · rw [Bk.cell hb, show 0 + i * 15 + j * 2 = i * 15 + j * 2 by omega, h3 _ (by omega), List.getElem?_append_left (by omega), e1]
      · rw [Bk.cell hb, show 0 + i * 15 + j * 2 + 1 = i * 15 + (j * 2 + 1) by omega, h3 _ (by omega), List.getElem?_append_left (by omega), e2]
    · rw [Bk.cell hb, show 0 + i * 15 + 14 = i * 15 + 14 by omega, h3 _ (by omega), List.getElem?_append_right (by omega), show 14 - (usL f.us).length = 0 by omega]; rfl
/-- Parts at the head of a block of their own are a slice of parts. -/
theorem pac_pm {w : World} {n g cap : Nat} {T : TypeId} {l : List Pa} {xs tl : List Value} (h : PaC w n l xs) (hb : Bk w g T (xs ++ tl)) (h9 : l.length ≤ 1000000000) (hc : l.length ≤ cap) (hc9 : cap ≤ 9223372036854775807) : PM w n (.slice (some ⟨g, 0, none⟩) l.length cap) l := by
  by_cases h0 : l.length = 0
  · obtain rfl := List.eq_nil_of_length_eq_zero h0
    exact .inl ⟨_, _, rfl, rfl⟩
  · refine .inr ⟨g, 0, cap, rfl, by omega, Bk.lt hb, hc, h9, hc9, fun i p hi => ?_⟩
    obtain ⟨u, h1, h2, h3⟩ := h.get i p hi
    have hl := h.len
    have hi2 := (List.getElem?_eq_some_iff.1 hi).1
    exact ⟨u, by rw [Bk.cell hb, show 0 + i * 2 = i * 2 by omega, List.getElem?_append_left (by omega), h1], by rw [Bk.cell hb, show 0 + i * 2 + 1 = i * 2 + 1 by omega, List.getElem?_append_left (by omega), h2], h3⟩
/-- Rows of elements of any size are copied. -/
theorem run_copy_rows (w : World) (dT sT ty elem : TypeId) (b o dLen dCap : Nat) (a : Addr) (sLen sCap sz : Nat) (cs : List Value)
    (hu : Tryz.prog.underlying dT = some (.slice elem)) (hs : (Tryz.prog.info? elem).map (·.size) = some sz) (hn : cs.length = Nat.min sLen dLen * sz)
    (hsrc : ∀ j v, cs[j]? = some v → w.cell? (a.add j) = some v) (hc : ∀ j, j < cs.length → (w.cell? ⟨b, o + j, none⟩).isSome = true) (hf : ∀ j, j < cs.length → w.frozen? ⟨b, o + j, none⟩ = false) (h1 : ∀ v ∈ cs, v.oneCell' = true) :
    (Builtin.copy_ #[dT, sT] ty #[.slice (some ⟨b, o, none⟩) dLen dCap, .slice (some a) sLen sCap]).run Tryz.prog w = .ok (goInt (Nat.min sLen dLen)) (w.setCells b o cs) := by
  have hl := run_loadCells_list (P := Tryz.prog) w a cs hsrc
  have hst := run_storeCells_cells (P := Tryz.prog) b o cs 0 w (by simpa using hc) (by simpa using hf) h1
  cases hq : Tryz.prog.info? elem with
  | none => simp [hq] at hs
  | some i =>
    have hi : i.size = sz := by simpa [hq] using hs
    simp [Builtin.copy_, run_underlying hu, Builtin.lenOf, Builtin.firstCells, sizeOf, typeInfo, hq, hi, ← hn, hl, hst]
theorem run_copy_zero (w : World) (dT sT ty elem : TypeId) (d a : Option Addr) (dCap sCap sz : Nat) (hu : Tryz.prog.underlying dT = some (.slice elem)) (hs : (Tryz.prog.info? elem).map (·.size) = some sz) :
    (Builtin.copy_ #[dT, sT] ty #[.slice d 0 dCap, .slice a 0 sCap]).run Tryz.prog w = .ok (goInt 0) w := by
  cases hq : Tryz.prog.info? elem with
  | none => simp [hq] at hs
  | some i =>
    have hl : ∀ (x : Addr), (loadCells x 0).run Tryz.prog w = .ok #[] w := fun x => by simpa using run_loadCells_list (P := Tryz.prog) w x [] (by simp)
    cases d <;> cases a <;> simp [Builtin.copy_, run_underlying hu, Builtin.lenOf, Builtin.firstCells, sizeOf, typeInfo, hq, storeCells, hl]
/-- 'copy(args, l)' of slices of forms of one length: the one is a block of its own. -/
theorem wpList_copy_forms {w : World} {ops : Array Oper} {rest : List Oper} {o : Oper} {a : Act} {Q : Exit → Act → World → Prop} (hgd : o.guard = none) (d s : Operand)
    (ho : o.op = .call { callee := .builtin .copy, args := #[d, s], argTypes := #[58, 58] }) {T : TypeId}
    (g m : Nat) (sa : Option Addr) (sc : Nat) (hd : a.eval d = .slice (some ⟨g, 0, none⟩) m m) (hs : a.eval s = .slice sa m sc)
    (cur cs : List Value) (hg : Bk w g T cur) (hc : cur.length = m * 15) (hn : cs.length = m * 15) (h1 : ∀ v ∈ cs, v.oneCell' = true)
    (hsrc : 0 < m → ∃ b o, sa = some ⟨b, o, none⟩ ∧ ∀ j v, cs[j]? = some v → w.cell? ⟨b, o + j, none⟩ = some v)
    (h : ∀ w', Bk w' g T cs → (∀ k, k ≠ g → w'.heap[k]? = w.heap[k]?) → Below g w w' → w.heap.size = w'.heap.size → wpList Tryz.prog ops Q rest (a.put o.dst (goInt m)) w') : wpList Tryz.prog ops Q (o :: rest) a w := by
  refine wpList_plain hgd fun K hK => ?_
  have hsz : (Tryz.prog.info? 30).map (·.size) = some 15 := by kernel_rfl
  by_cases h0 : m = 0
  · subst h0
    have hrun := run_copy_zero w 58 58 o.type 30 (some ⟨g, 0, none⟩) sa 0 sc 15 Tryz.underlying58 hsz
    unfold Oper.wp
    simp [execOp, ho, resolve, invoke, builtin, hd, hs, hrun, Result.andThen]
    have e1 : cur = [] := List.eq_nil_of_length_eq_zero (by omega)
    have e2 : cs = [] := List.eq_nil_of_length_eq_zero (by omega)
    rw [e2] at h
    rw [e1] at hg
    exact hK _ _ (h w hg (fun _ _ => rfl) (Below.refl _ _) rfl)
  · obtain ⟨b, o', rfl, hcell⟩ := hsrc (by omega)
    have hrun := run_copy_rows w 58 58 o.type 30 g 0 m m ⟨b, o', none⟩ m sc 15 cs Tryz.underlying58 hsz (by rw [hn]; simp) (fun j v hj => by rw [Addr.add_lit]; exact hcell j v hj) (fun j hj => by rw [Nat.zero_add, Bk.cell hg, List.getElem?_eq_getElem (by omega)]; rfl) (fun j hj => Bk.fz hg _) h1
    have hmin : Nat.min m m = m := Nat.min_self m
    rw [hmin] at hrun
    unfold Oper.wp
    simp [execOp, ho, resolve, invoke, builtin, hd, hs, hrun, Result.andThen]
    have hB := Bk.puts cs 0 w cur hg (by omega)
    rw [List.take_zero, List.nil_append, Nat.zero_add, List.drop_of_length_le (by omega), List.append_nil] at hB
    refine hK _ _ (h _ hB (fun k hk => setCells_far k g 0 hk _ _ _) ?_ ?_)
    · exact (Below.refl g w).grown (setCells_grown _ _ _ _) (Nat.le_of_lt (Bk.lt hg)) (fun k hk => by cases hk; simp)
    · have : ∀ (xs : List Value) (o : Nat) (w : World), (w.setCells g o xs).heap.size = w.heap.size := by
        intro xs
        induction xs with
        | nil => intro o w; rfl
        | cons x xs ih => intro o w; simp only [World.setCells]; rw [ih]; simp
      exact (this _ _ _).symm
end Go.Proofs.YtlhmecagijdinaaGreatDoor.nm
set_option linter.unusedVariables false
set_option linter.unusedSimpArgs false
namespace Go.Proofs.YtlhmecagijdinaaGreatDoor.nm
open Go.RowKit

theorem madeF (m : Nat) (hm : m ≤ 1000000000) (W : World) : (Instr.makeSlice 58 (.int .i64 m) (.int .i64 m)).run Tryz.prog W = .ok (.slice (some ⟨W.heap.size, 0, none⟩) m m) (W.alloc (.cells (madeCells #[.int .i64 0, .int .i64 0, .int .i64 0, .int .i64 0, .int .i64 0, .int .i64 0, .int .i64 0, .int .i64 0, .int .i64 0, .int .i64 0, .int .i64 0, .int .i64 0, .int .i64 0, .int .i64 0, .slice none 0 0] (m * 15)) 30)) := by
  have h := run_make (P := Tryz.prog) W 58 30 Tryz.t30 (.agg #[.int .i64 0, .int .i64 0, .int .i64 0, .int .i64 0, .int .i64 0, .int .i64 0, .int .i64 0, .int .i64 0, .int .i64 0, .int .i64 0, .int .i64 0, .int .i64 0, .int .i64 0, .int .i64 0, .slice none 0 0]) Tryz.underlying58 (by kernel_rfl) (by kernel_rfl) .i64 .i64 m m (by omega) (Int.le_refl _) (by show ((136 : Nat) : Int) * m ≤ _; omega) (by omega)
  have e : ((m : Int).toNat * Tryz.t30.size) = m * 15 := by show (m : Int).toNat * 15 = m * 15; simp
  rw [e, Int.toNat_natCast] at h
  exact h
/-- The state of the loop over a part's forms. -/
def RelCi (wA : World) (ga n' : Nat) (w : World) (l : List Fo) (i : Value) (wr : World) : Prop := ∃ (m : Nat) (ys zs : List Value), i = .int .i64 m ∧ m ≤ l.length ∧ Hid (Bk wr ga 30 (ys ++ zs) ∧ FoC (cutW (ga + 1) wr) n' (l.take m) ys ∧ FoC w n' (l.drop m) zs ∧ Below ga wA wr)
theorem RelCi.mk {wA : World} {ga n' : Nat} {w : World} {l : List Fo} {i : Value} {wr : World} (m : Nat) (ys zs : List Value) (h1 : i = .int .i64 m) (h2 : m ≤ l.length) (h3 : Bk wr ga 30 (ys ++ zs)) (h4 : FoC (cutW (ga + 1) wr) n' (l.take m) ys) (h5 : FoC w n' (l.drop m) zs) (h6 : Below ga wA wr) : RelCi wA ga n' w l i wr := ⟨m, ys, zs, h1, h2, h3, h4, h5, h6⟩
/-- The parts, the first k of them copied. -/
def CpS (w wr : World) (n : Nat) (ps : List Pa) (pv : Value) (k : Nat) : Prop := (ps = [] ∧ ∃ a c, pv = .slice a 0 c) ∨ ∃ (g cap : Nat) (ys zs tl : List Value), pv = .slice (some ⟨g, 0, none⟩) ps.length cap ∧ w.heap.size + 2 ≤ g ∧ ps.length ≤ cap ∧ cap ≤ 9223372036854775807 ∧ Bk wr g 60 (ys ++ (zs ++ tl)) ∧ PaC (cutW (g + 1) wr) n (ps.take k) ys ∧ PaC w n (ps.drop k) zs
def RelCo (w : World) (n : Nat) (us : List Value) (ps : List Pa) (pv i : Value) (wr : World) : Prop := ∃ k : Nat, i = .int .i64 k ∧ k ≤ ps.length ∧ Hid (Bk wr w.heap.size 30 (us ++ [pv]) ∧ Bk wr (w.heap.size + 1) 30 [.int .i64 0, .int .i64 0, .int .i64 0, .int .i64 0, .int .i64 0, .int .i64 0, .int .i64 0, .int .i64 0, .int .i64 0, .int .i64 0, .int .i64 0, .int .i64 0, .int .i64 0, .int .i64 0, .slice none 0 0] ∧ CpS w wr n ps pv k ∧ Below w.heap.size w wr)
theorem RelCo.mk {w : World} {n : Nat} {us : List Value} {ps : List Pa} {pv i : Value} {wr : World} (k : Nat) (h1 : i = .int .i64 k) (h2 : k ≤ ps.length) (h3 : Bk wr w.heap.size 30 (us ++ [pv])) (h4 : Bk wr (w.heap.size + 1) 30 [.int .i64 0, .int .i64 0, .int .i64 0, .int .i64 0, .int .i64 0, .int .i64 0, .int .i64 0, .int .i64 0, .int .i64 0, .int .i64 0, .int .i64 0, .int .i64 0, .int .i64 0, .int .i64 0, .slice none 0 0]) (h5 : CpS w wr n ps pv k) (h6 : Below w.heap.size w wr) : RelCo w n us ps pv i wr := ⟨k, h1, h2, h3, h4, h5, h6⟩
/-- An own row of parts, as it begins. -/
theorem cps_start {w wr : World} {n : Nat} {pv : Value} {ps : List Pa} (h : PO w (w.heap.size + 2) n wr pv ps) : CpS w wr n ps pv 0 := by
  obtain ⟨xs, ⟨h1, ⟨rfl, h0⟩ | ⟨g, cap, cur, rfl, hb, hg, hn, hm, hs, ht⟩⟩, hp⟩ := h
  · exact .inl ⟨List.eq_nil_of_length_eq_zero h0, _, _, rfl⟩
  · refine .inr ⟨g, cap, [], xs, cur.toList.drop (ps.length * 2), rfl, hb, hn, by unfold maxLen at hm; exact hm, ?_, .nil, hp⟩
    unfold Bk
    rw [List.nil_append, ← ht, List.take_append_drop, Array.toArray_toList]
    exact hg
theorem fm_nil (w : World) (n : Nat) (a : Option Addr) (c : Nat) : FM w n (.slice a 0 c) [] := by
  cases n with
  | zero => exact ⟨rfl, _, _, rfl⟩
  | succ n => exact .inl ⟨_, _, rfl, rfl⟩
/-- The cells of the forms that a slice holds. -/
theorem forms_cells {w : World} {n : Nat} {v : Value} {l : List Fo} (h : FM w n v l) : ∃ n' xs, (l = [] ∨ n = n' + 1) ∧ FoC w n' l xs ∧ (0 < l.length → ∃ b o c, v = .slice (some ⟨b, o, none⟩) l.length c ∧ ∀ j u, xs[j]? = some u → w.cell? ⟨b, o + j, none⟩ = some u) := by
  by_cases h0 : l = []
  · subst h0; exact ⟨0, [], .inl rfl, .nil, fun h => absurd h (by simp)⟩
  · obtain ⟨f, hf⟩ : ∃ f, l[0]? = some f := by cases l with | nil => exact absurd rfl h0 | cons f r => exact ⟨f, rfl⟩
    obtain ⟨n', rfl, b, o, c, u, rfl, _⟩ := FM.at h hf
    obtain ⟨xs, h1, h2⟩ := FM.cells h rfl l.length 0 (by omega)
    rw [List.drop_zero] at h1
    refine ⟨n', xs, .inr rfl, h1, fun _ => ⟨b, o, c, rfl, fun j v hj => ?_⟩⟩
    have := h2 j v hj
    rwa [Nat.zero_mul, Nat.add_zero] at this
theorem foc_split {w : World} {n : Nat} {f : Fo} {l : List Fo} {xs : List Value} (h : FoC w n (f :: l) xs) : ∃ u zs, xs = (usL f.us ++ [u]) ++ zs ∧ Us f.us ∧ PM w n u f.ps ∧ FoC w n l zs := by
  cases h with
  | cons f l zs u hus hu g => exact ⟨u, zs, rfl, hus, hu, g⟩
theorem pac_split {w : World} {n : Nat} {p : Pa} {l : List Pa} {xs : List Value} (h : PaC w n (p :: l) xs) : ∃ u zs, xs = [.bool p.1, u] ++ zs ∧ FM w n u p.2 ∧ PaC w n l zs := by
  cases h with
  | cons p l zs u hu g => exact ⟨u, zs, rfl, hu, g⟩
theorem mid_range {w : World} {g : Nat} {T : TypeId} {ys A zs : List Value} {o : Nat} (h : Bk w g T (ys ++ (A ++ zs))) (ho : ys.length = o) : w.rangeAt g o A := fun j v hj => by
  have hj2 := (List.getElem?_eq_some_iff.1 hj).1
  rw [Bk.cell h, List.getElem?_append_right (by omega), ho, show o + j - o = j by omega, List.getElem?_append_left (by omega)]
  exact hj
theorem mid_there {w : World} {g : Nat} {T : TypeId} {ys A zs : List Value} {o m : Nat} (h : Bk w g T (ys ++ (A ++ zs))) (ho : ys.length = o) (hm : m = A.length) : w.there g o m := fun j hj => by
  refine ⟨?_, Bk.fz h _⟩
  rw [Bk.cell h, List.getElem?_eq_getElem (by simp; omega)]
  rfl
theorem mid_put {w : World} {g : Nat} {T : TypeId} {ys A C zs : List Value} {o : Nat} (h : Bk w g T (ys ++ (A ++ zs))) (ho : ys.length = o) (hA : A.length = C.length) : Bk (w.setCells g o C) g T ((ys ++ C) ++ zs) := by
  subst ho
  have := Bk.puts C ys.length w _ h (by simp; omega)
  rwa [List.take_left' rfl, ← hA, ← List.length_append, ← List.append_assoc ys A zs, List.drop_left] at this
theorem keep_far {w w' : World} {g B : Nat} (hg : g < B) (h : ∀ k, k ≠ g → w'.heap[k]? = w.heap[k]?) : ∀ b, B ≤ b → b < w.heap.size → w'.heap[b]? = w.heap[b]? := fun b hb _ => h b (by omega)
theorem setCells_size (g : Nat) : ∀ (xs : List Value) (o : Nat) (w : World), (w.setCells g o xs).heap.size = w.heap.size := by
  intro xs
  induction xs with
  | nil => intro o w; rfl
  | cons x xs ih => intro o w; simp only [World.setCells]; rw [ih]; simp
end Go.Proofs.YtlhmecagijdinaaGreatDoor.nm
