/-
  The writer of rules: a builder in a struct.
  The text of component values: by the program and by the reference.
  A declaration, written by the program.
-/
import Derived.Test.YtbdacepomdlcbaaGreatDoorJq
import Derived.Shelf.Strings.BuilderK
import Derived.Test.YtbdacepomdlcbaaGreatDoorJB
import Derived.Test.YtbdacepomdlcbaaGreatDoorJy
set_option linter.unusedVariables false
set_option linter.unusedSimpArgs false
namespace Go.Proofs.YtbdacepomdlcbaaGreatDoor
open Go.RowKit Go.Shelf

theorem infoB : (Tryz.prog.info? 49).map (fun i => i.size) = some 2 := by kernel_rfl
theorem liesW : liesAt Tryz.prog Tryz.prog.depth 51 (3 / Tryz.prog.cellsOf 51) 0 49 1 = true := by kernel_rfl
set_option maxHeartbeats 1000000 in
set_option maxRecDepth 100000 in
theorem copyU (b : Nat) (w : World) (h0 : w.cell? ⟨b, 0, none⟩ = some (.pointer (some ⟨b, 0, none⟩))) :
    Calls Tryz.prog 67 #[.pointer (some ⟨b, 0, none⟩)] w fun e w' => e = .returned (.tuple #[]) ∧ w' = w := by
  obtain ⟨j, hj, _⟩ := Option.map_eq_some_iff.1 infoB
  go_enter Tryz.func67, Tryz.ntmps67
  go_wp2
  rw [Lib.run_neq_ptr_same w _ Tryz.underlying46 hj]
  go_wp2
  go_end0
  exact ⟨rfl, rfl⟩
set_option maxHeartbeats 1000000 in
set_option maxRecDepth 100000 in
theorem copyF (b : Nat) (w : World) (h0 : w.cell? ⟨b, 0, none⟩ = some (.pointer none)) (hsh : w.shape? b = some (51, 3)) (hfz : w.frozen? ⟨b, 0, none⟩ = false) :
    Calls Tryz.prog 67 #[.pointer (some ⟨b, 0, none⟩)] w fun e w' => e = .returned (.tuple #[]) ∧ w' = w.setCell ⟨b, 0, none⟩ (.pointer (some ⟨b, 0, none⟩)) := by
  obtain ⟨j, hj, hjs⟩ := Option.map_eq_some_iff.1 infoB
  go_enter Tryz.func67, Tryz.ntmps67
  go_wp2
  rw [Lib.run_to_unsafe w ⟨b, 0, none⟩ Tryz.underlying46 Tryz.underlying114 hj (by rw [hjs]; decide) hsh (by show 0 < 3; decide)]
  simp only [Result.andThen]
  rw [Oper.upon_value]
  go_wp2
  rw [run_callFunc_extern Tryz.func95 (by kernel_rfl) (by kernel_rfl) (by kernel_rfl) (e := Extern.AbiNoEscape.same) (by kernel_rfl)]
  rw [Lib.run_noEscape]
  simp only [Result.andThen]
  rw [Oper.upon_value]
  go_wp2
  rw [Lib.run_from_unsafe w ⟨b, 0, none⟩ Tryz.underlying114 Tryz.underlying46 hj hsh liesW]
  simp only [Result.andThen]
  rw [Oper.upon_value]
  go_wp2
  go_end0
  exact ⟨rfl, rfl⟩
/-- The writer's block: what is written; how many groups stand around. -/
def WrAt (B b : Nat) (p : Value) (xs : List Int) (n : Int) (w : World) : Prop := B ≤ b ∧ ∃ v, w.heap[b]? = some (.cells #[p, v, .int .i64 n] 51 (0, 0)) ∧ w.ownsRowF B 5 1 v xs.length (cI8 xs)
def Wr (B b : Nat) (xs : List Int) (n : Int) (w : World) : Prop := WrAt B b (.pointer none) xs n w ∨ WrAt B b (.pointer (some ⟨b, 0, none⟩)) xs n w
/-- What a method of the writer leaves. -/
structure PW (B b : Nat) (xs : List Int) (n : Int) (w w' : World) : Prop where
  wr : Wr B b xs n w'
  bel : Below B w w'
  oth : Lib.OthersKept 5 (some b) w w'
theorem PW.trans {B b : Nat} {xs ys : List Int} {n m : Int} {w w1 w2 : World} (h : PW B b xs n w w1) (k : PW B b ys m w1 w2) : PW B b ys m w w2 := ⟨k.wr, h.bel.trans k.bel, h.oth.trans k.oth⟩
theorem PW.size {B b : Nat} {xs : List Int} {n : Int} {w w1 : World} (h : PW B b xs n w w1) (hB : B ≤ w.heap.size) : B ≤ w1.heap.size := Nat.le_trans hB h.bel.size
theorem WrAt.lt {B b : Nat} {p : Value} {xs : List Int} {n : Int} {w : World} (h : WrAt B b p xs n w) : b < w.heap.size := by obtain ⟨_, v, hb, _⟩ := h; exact (Array.getElem?_eq_some_iff.1 hb).1
theorem own_neW {w : World} {B b : Nat} {p v : Value} {n m : Nat} {k : Int} {xs : List Value} (hb : w.heap[b]? = some (.cells #[p, v, .int .i64 k] 51 (0, 0))) (h : w.ownsRowF B 5 1 v m xs) : v.ownBlock ≠ some b := by
  rcases h.2 with ⟨rfl, _⟩ | ⟨g, cap, cur, fz, rfl, _, hg, _⟩
  · intro e; cases e
  · intro e
    have : g = b := by simpa [Value.ownBlock] using e
    subst this
    rw [hb] at hg
    cases hg
/-- copyCheck: behind it the builder's own address is kept. -/
theorem copy_any (B b : Nat) (xs : List Int) (n : Int) (w : World) (h : Wr B b xs n w) :
    Calls Tryz.prog 67 #[.pointer (some ⟨b, 0, none⟩)] w fun e w' => e = .returned (.tuple #[]) ∧ (WrAt B b (.pointer (some ⟨b, 0, none⟩)) xs n w' ∧ Below B w w' ∧ Lib.OthersKept 5 (some b) w w') := by
  rcases h with ⟨hB, v, hb, ho⟩ | h
  · refine (copyF b w (by rw [Lib.cell_of_heap hb]; rfl) (by simp [World.shape?, hb]) (Lib.frozen_of_heap hb 0)).mono ?_
    rintro e w' ⟨rfl, rfl⟩
    refine ⟨rfl, ⟨hB, v, ?_, ?_⟩, (Below.refl B w).setCell (p := ⟨b, 0, none⟩) hB _, (Lib.OthersKept.refl _ _ w).setCell ⟨b, 0, none⟩ rfl _⟩
    · obtain ⟨hlt, he⟩ := Array.getElem?_eq_some_iff.1 hb
      simp [World.setCell, hlt, Array.getElem_modify, he]
    · have hne := own_neW (n := 0) hb ho
      refine ho.kept ⟨rfl, rfl, rfl, by simp [World.setCell], fun k hk hne' => ?_⟩ (.inr hne)
      have : b ≠ k := fun h => hne' (by rw [h])
      simp [World.setCell, Array.getElem?_modify, this]
  · obtain ⟨hB, v, hb, ho⟩ := h
    refine (copyU b w (by rw [Lib.cell_of_heap hb]; rfl)).mono ?_
    rintro e w' ⟨rfl, rfl⟩
    exact ⟨rfl, ⟨hB, v, hb, ho⟩, Below.refl _ _, Lib.OthersKept.refl _ _ _⟩
theorem infoU8 : (Tryz.prog.info? 5).map (fun i => (i.zero, i.size, i.bytes)) = some (some (.int .u8 0), 1, 1) := by kernel_rfl
theorem WrAt.put {B b : Nat} {p v v' : Value} {xs : List Int} {n : Int} {w : World} (hB : B ≤ b) (hb : w.heap[b]? = some (.cells #[p, v, .int .i64 n] 51 (0, 0))) (ho : w.ownsRowF B 5 1 v' xs.length (cI8 xs)) : WrAt B b p xs n (w.setCell ⟨b, 1, none⟩ v') := by
  obtain ⟨hlt, he⟩ := Array.getElem?_eq_some_iff.1 hb
  refine ⟨hB, v', by simp [World.setCell, hlt, Array.getElem_modify, he], ?_⟩
  refine ho.kept ⟨rfl, rfl, rfl, by simp [World.setCell], fun k hk hne' => ?_⟩ ?_ (row := some b)
  · have : b ≠ k := fun h => hne' (by rw [h])
    simp [World.setCell, Array.getElem?_modify, this]
  · rcases ho.2 with ⟨rfl, _⟩ | ⟨g, cap, cur, fz, rfl, _, hg, _⟩
    · exact .inl rfl
    · right
      intro e
      have : g = b := by simpa [Value.ownBlock] using e
      subst this
      rw [hb] at hg
      cases hg
set_option maxHeartbeats 1000000 in
set_option maxRecDepth 100000 in
theorem wrStr_any (B b : Nat) (xs : List Int) (n : Int) (s : ByteArray) (w : World) (h : Wr B b xs n w) (hl : xs.length + s.size ≤ 140737488355328) (hBw : B ≤ w.heap.size) :
    Calls Tryz.prog 39 #[.pointer (some ⟨b, 0, none⟩), .string s] w fun e w' => e = .returned (.tuple #[.int .i64 s.size, .nilIface]) ∧ PW B b (xs ++ bl s) n w w' := by
  obtain ⟨i0, hi, hz0, hz1, hz2⟩ := info_parts infoU8
  go_enter Tryz.func39, Tryz.ntmps39
  go_wp2_with (go_at_call 67; refine (copy_any B b xs n _ h).mono ?_)
  rintro e w1 ⟨rfl, h1, hb1, hk1⟩
  obtain ⟨hB, v, hbk, hown⟩ := h1
  have hne := own_neW (n := 0) hbk hown
  have c0 : w1.cell? ⟨b, 0, none⟩ = some (.pointer (some ⟨b, 0, none⟩)) := by rw [Lib.cell_of_heap hbk]; rfl
  have c1 : w1.cell? ⟨b, 1, none⟩ = some v := by rw [Lib.cell_of_heap hbk]; rfl
  go_wp2_with (at_builtin; refine Lib.wpList_append_own_stringF _ rfl _ _ 47 9 rfl B 5 i0 Tryz.underlying47 Tryz.underlying9 hi hz0 hz1 hz2 _ _ _ rfl hown s rfl ?c3 ?c4 ?c5 ?_)
  case c3 => unfold maxLen; omega
  case c4 => omega
  case c5 => have := hb1.size; omega
  intro v' w2 hown' hgrow _
  have hlt : b < w1.heap.size := (Array.getElem?_eq_some_iff.1 hbk).1
  have hb2 : w2.heap[b]? = some (.cells #[.pointer (some ⟨b, 0, none⟩), v, .int .i64 n] 51 (0, 0)) := by
    rw [hgrow.block b hlt (fun e => hne e.symm)]
    exact hbk
  have d0 : w2.cell? ⟨b, 0, none⟩ = some (.pointer (some ⟨b, 0, none⟩)) := by rw [Lib.cell_of_heap hb2]; rfl
  have d1 : w2.cell? ⟨b, 1, none⟩ = some v := by rw [Lib.cell_of_heap hb2]; rfl
  have f1 : w2.frozen? ⟨b, 1, none⟩ = false := Lib.frozen_of_heap hb2 1
  obtain ⟨ao, n', cap, rfl⟩ : ∃ ao n' cap, v' = .slice ao n' cap := by
    rcases hown'.2 with ⟨hv, _⟩ | ⟨g, cap, cur, fz, hv, _⟩
    · exact ⟨_, _, _, hv⟩
    · exact ⟨_, _, _, hv⟩
  have HO := hide hown'
  clear hown'
  go_wp2
  go_ret2
  refine ⟨rfl, .inr (WrAt.put hB hb2 ?_), ?_, (hk1.grown hgrow (Lib.ownsRowF_kind hown)).setCell ⟨b, 1, none⟩ rfl _⟩
  · rw [cI8_app, List.length_append, bl_len, ← strCells_bl]; exact HO.out
  · exact (hb1.grown hgrow (by have := hb1.size; omega) (fun k hk => (hown.lt k hk).1)).setCell (p := ⟨b, 1, none⟩) hB _
set_option maxHeartbeats 1000000 in
set_option maxRecDepth 100000 in
theorem wrByte_any (B b : Nat) (xs : List Int) (n c : Int) (w : World) (h : Wr B b xs n w) (hl : xs.length + 1 ≤ 140737488355328) (hBw : B ≤ w.heap.size) :
    Calls Tryz.prog 47 #[.pointer (some ⟨b, 0, none⟩), .int .u8 c] w fun e w' => e = .returned .nilIface ∧ PW B b (xs ++ [c]) n w w' := by
  obtain ⟨i0, hi, hz0, hz1, hz2⟩ := info_parts infoU8
  go_enter Tryz.func47, Tryz.ntmps47
  go_wp2_with (go_at_call 67; refine (copy_any B b xs n _ h).mono ?_)
  rintro e w1 ⟨rfl, h1, hb1, hk1⟩
  obtain ⟨hB, v, hbk, hown⟩ := h1
  have hne := own_neW (n := 0) hbk hown
  have c0 : w1.cell? ⟨b, 0, none⟩ = some (.pointer (some ⟨b, 0, none⟩)) := by rw [Lib.cell_of_heap hbk]; rfl
  have c1 : w1.cell? ⟨b, 1, none⟩ = some v := by rw [Lib.cell_of_heap hbk]; rfl
  go_wp2_with (at_builtin; refine wpList_append_ownF _ rfl _ _ 47 rfl B 5 i0 (.int .u8 0) 1 1 Tryz.underlying47 hi hz0 hz1 hz2 rfl (by decide) _ _ _ rfl (hown.alloc _) ⟨w1.heap.size, 0, none⟩ 1 1 [.int .u8 c] rfl rfl ?c1 ?c2 ?c3 ?c4 ?c5 ?_)
  case c1 =>
    intro j u hj
    match j, hj with
    | 0, hj => simp at hj; subst hj; simp [Addr.add]
  case c2 => intro u hu; simp at hu; subst hu; rfl
  case c3 => unfold maxLen; omega
  case c4 => omega
  case c5 => have := hb1.size; simp; omega
  intro v' w2 hown' hgrow _
  have hlt : b < w1.heap.size := (Array.getElem?_eq_some_iff.1 hbk).1
  have hb2 : w2.heap[b]? = some (.cells #[.pointer (some ⟨b, 0, none⟩), v, .int .i64 n] 51 (0, 0)) := by
    rw [hgrow.block b (by simp; omega) (fun e => hne e.symm), Lib.alloc_old w1 _ b hlt]
    exact hbk
  have d0 : w2.cell? ⟨b, 0, none⟩ = some (.pointer (some ⟨b, 0, none⟩)) := by rw [Lib.cell_of_heap hb2]; rfl
  have d1 : w2.cell? ⟨b, 1, none⟩ = some v := by rw [Lib.cell_of_heap hb2]; rfl
  have f1 : w2.frozen? ⟨b, 1, none⟩ = false := Lib.frozen_of_heap hb2 1
  obtain ⟨ao, n', cap, rfl⟩ : ∃ ao n' cap, v' = .slice ao n' cap := by
    rcases hown'.2 with ⟨hv, _⟩ | ⟨g, cap, cur, fz, hv, _⟩
    · exact ⟨_, _, _, hv⟩
    · exact ⟨_, _, _, hv⟩
  have HO := hide hown'
  clear hown'
  go_wp2
  go_ret
  refine ⟨rfl, .inr (WrAt.put hB hb2 ?_), ?_, ((hk1.alloc _).grown hgrow (Lib.ownsRowF_kind (hown.alloc _))).setCell ⟨b, 1, none⟩ rfl _⟩
  · rw [cI8_app, List.length_append, List.length_singleton]; exact HO.out
  · exact ((hb1.alloc (by have := hb1.size; omega) _).grown hgrow (by have := hb1.size; simp; omega) (fun k hk => (hown.lt k hk).1)).setCell (p := ⟨b, 1, none⟩) hB _
theorem cI8_bytes (xs : List Int) (hb : By xs) : cI8 xs = Lib.byteCells (xs.map fun x => UInt8.ofNat x.toNat) := by
  unfold cI8 Lib.byteCells
  rw [List.map_map]
  refine List.map_congr_left fun x hx => ?_
  have := hb x hx
  simp only [Function.comp_def]
  congr 1
  simp
  omega
theorem bl_bytes (xs : List Int) (hb : By xs) : bl ⟨(xs.map fun x => UInt8.ofNat x.toNat).toArray⟩ = xs := by
  unfold bl
  rw [List.toList_toArray, List.map_map]
  conv => rhs; rw [← List.map_id xs]
  refine List.map_congr_left fun x hx => ?_
  have := hb x hx
  simp only [Function.comp_def, id]
  simp
  omega
set_option maxHeartbeats 1000000 in
set_option maxRecDepth 100000 in
/-- The text of a writer that has written something. -/
theorem wrText_any (B b : Nat) (xs : List Int) (n : Int) (w : World) (h : Wr B b xs n w) (hby : By xs) (h0 : xs ≠ []) (hBw : B ≤ w.heap.size) :
    Calls Tryz.prog 41 #[.pointer (some ⟨b, 0, none⟩)] w fun e w' => ∃ s, e = .returned (.string s) ∧ bl s = xs ∧ Below B w w' := by
  obtain ⟨p, hAt⟩ : ∃ p, WrAt B b p xs n w := by
    rcases h with h | h
    · exact ⟨_, h⟩
    · exact ⟨_, h⟩
  obtain ⟨hB, v, hbk, hown⟩ := hAt
  have hE := bl_bytes xs hby
  have hC := cI8_bytes xs hby
  obtain ⟨l, hl⟩ : ∃ l, (xs.map fun x => UInt8.ofNat x.toNat) = l := ⟨_, rfl⟩
  have hll : l.length = xs.length := by rw [← hl, List.length_map]
  rw [hl] at hE hC
  rw [hC, ← hll] at hown
  have hn0 : l ≠ [] := by intro e; rw [e] at hll; exact h0 (List.eq_nil_of_length_eq_zero hll.symm)
  have hl0 : l.length ≠ 0 := by simpa using hn0
  obtain ⟨g, cap, cur, fz, rfl, hbg, hg, hfz, hnc, hcm, hcs, htake⟩ : ∃ g cap cur fz, v = .slice (some ⟨g, 0, none⟩) l.length cap ∧ B ≤ g ∧ w.heap[g]? = some (.cells cur 5 fz) ∧ fz.2 ≤ l.length * 1 ∧ l.length ≤ cap ∧ cap ≤ maxLen ∧ cur.size = cap * 1 ∧ cur.toList.take (l.length * 1) = Lib.byteCells l := by
    rcases hown.2 with ⟨_, hz⟩ | ⟨g, cap, cur, fz, hv, r⟩
    · exact absurd hz hl0
    · exact ⟨g, cap, cur, fz, hv, r⟩
  have c1 : w.drew.cell? ⟨b, 1, none⟩ = some (.slice (some ⟨g, 0, none⟩) l.length cap) := by
    have : w.drew.heap[b]? = some (.cells #[p, .slice (some ⟨g, 0, none⟩) l.length cap, .int .i64 n] 51 (0, 0)) := hbk
    rw [Lib.cell_of_heap this]; rfl
  have hSD : (Builtin.unsafeSliceData_ #[47] 100 #[.slice (some ⟨g, 0, none⟩) l.length cap]).run Tryz.prog w.drew = .ok (.pointer (some ⟨g, 0, none⟩)) w.drew :=
    Lib.run_unsafeSliceData_row _ _ _ _ _ _ (by omega)
  have hUS : (Builtin.unsafeString_ #[100, 3] 9 #[.pointer (some ⟨g, 0, none⟩), .int .i64 l.length]).run Tryz.prog w.drew = .ok (.string ⟨l.toArray⟩) (w.drew.freeze ⟨g, 0, none⟩ l.length) := by
    refine Lib.run_unsafeString_row w.drew 100 3 9 5 Tryz.underlying100 (by kernel_rfl) g cur.size (by have hg' : w.drew.heap[g]? = some (.cells cur 5 fz) := hg; simp [World.shape?, hg']) l hn0 (by omega) (by unfold maxLen at hcm; omega) ?_
    intro j x hx
    have := hown.cells (g := g) rfl j (.int .u8 x.toNat) (by simp [Lib.byteCells, hx])
    exact this
  have FIN := hide (Lib.below_freeze (Below.drew (Below.refl B w)) (p := ⟨g, 0, none⟩) hbg l.length)
  have HE := hide hE
  clear hC hE hown htake hll hl
  go_enter Tryz.func41, Tryz.ntmps41
  go_wp2
  go_region
  all_goals (go_wp2; go_ret; exact ⟨_, rfl, HE.out, FIN.out⟩)
theorem put_any (B b : Nat) (xs : List Int) (n : Int) (s : ByteArray) (e : Int) (w : World) (h : Wr B b xs n w) (hl : xs.length + s.size ≤ 140737488355328) (hBw : B ≤ w.heap.size) :
    Calls Tryz.prog 45 #[.pointer (some ⟨b, 0, none⟩), .string s, .int .i64 e] w fun r w' => r = .returned (.int .i64 e) ∧ PW B b (xs ++ bl s) n w w' := by
  have C := hide (wrStr_any B b xs n s w h hl hBw)
  clear h
  go_enter Tryz.func45, Tryz.ntmps45
  go_wp2_with (go_at_call 39; refine C.out.mono ?_; rintro r w1 ⟨rfl, P⟩; replace P := hide P)
  go_ret
  exact ⟨rfl, P.out⟩
theorem toldOk_any (B b : Nat) (xs : List Int) (n : Int) (w : World) (h : Wr B b xs n w) (hby : By xs) (h0 : xs ≠ []) (hBw : B ≤ w.heap.size) :
    Calls Tryz.prog 23 #[.pointer (some ⟨b, 0, none⟩), .int .i64 0] w fun r w' => ∃ s, r = .returned (.tuple #[.string s, .int .i64 0]) ∧ bl s = xs ∧ Below B w w' := by
  have C := hide (wrText_any B b xs n w h hby h0 hBw)
  clear h
  go_enter Tryz.func23, Tryz.ntmps23
  go_wp2_with (go_at_call 41; refine C.out.mono ?_; rintro r w1 ⟨s, rfl, hs, P⟩; replace P := hide P; replace hs := hide hs)
  go_ret2
  exact ⟨_, rfl, hs.out, P.out⟩
end Go.Proofs.YtbdacepomdlcbaaGreatDoor
set_option linter.unusedVariables false
set_option linter.unusedSimpArgs false
namespace Go.Proofs.YtbdacepomdlcbaaGreatDoor
open Go.RowKit Go.Shelf

/-- What is told of values: their text, or that they may not be. -/
def SpV (l : List VT) (u : ByteArray) (c : Int) : Prop := (myL l 64 = true ∧ Sp2 wtA (flL l) u c) ∨ (myL l 64 = false ∧ c = 1 ∧ u = ⟨#[]⟩)
theorem spv_eq {l : List VT} {s u : ByteArray} {c d : Int} (h : SpV l s c) (k : SpV l u d) : u = s ∧ d = c := by
  rcases h with ⟨h1, h2⟩ | ⟨h1, h2, h3⟩ <;> rcases k with ⟨k1, k2⟩ | ⟨k1, k2, k3⟩
  · exact sp2_eq h2 k2
  · rw [h1] at k1; cases k1
  · rw [h1] at k1; cases k1
  · exact ⟨k3.trans h3.symm, k2.trans h2.symm⟩
/-- Values whose tokens can be written: bounds alone. -/
structure VB (l : List VT) (m : Nat) : Prop where
  ok : ∀ t ∈ flL l, t.Ok
  sz : ∀ t ∈ flL l, t.s.size ≤ m
  ln : (flL l).length * (6 * m + 204) ≤ 35184372088000
  cn : szL l ≤ 100000000000
theorem VB.len {l : List VT} {m : Nat} (h : VB l m) : (spK wtA (flL l) (flL l).length).length ≤ 35184372088000 := Nat.le_trans (spA_len (flL l) m h.ok h.sz (flL l).length) h.ln
theorem VB.few {l : List VT} {m : Nat} (h : VB l m) : (flL l).length ≤ 1000000000000 := by
  have := h.ln
  have h2 : (flL l).length * 204 ≤ (flL l).length * (6 * m + 204) := Nat.mul_le_mul_left _ (by omega)
  omega
def PostVs (l : List VT) (w : World) (e : Ending) (w' : World) : Prop := ∃ u c, e = .returned (.tuple #[.string u, .int .i64 c]) ∧ SpV l u c ∧ Below w.heap.size w w'
set_option maxRecDepth 100000 in
set_option maxHeartbeats 1000000 in
theorem valuesP_any (l : List VT) (m : Nat) (v : Value) (w : World) (hv : VM w v l) (hB : VB l m) (hK : KT w) (hT : Tabs w) :
    Calls Tryz.prog 8 #[v] w fun e w' => PostVs l w e w' := by
  have C1 := hide (may5_any l v w hv)
  have C2 := hide (fun (W : World) (h : Below w.heap.size w W) => flat5_any l v W (hv.low h) hB.cn)
  have C3 := hide (fun (W : World) (u : Value) (h : Below w.heap.size w W) (ht : Toks4 W u (flL l)) => tokens_any wtA (flL l) u W ht hB.ok (fun t ht h => writes_all t (hB.ok t ht) h) (spA_by (flL l) (flL l).length) hB.len (hK.below h) (hT.below h))
  have FW := hide hB.few
  obtain ⟨a, c, rfl, _⟩ := hv.shape
  clear hv hB hK hT
  cases hm : myL l 64
  · have HM := hide hm
    clear hm
    go_enter Tryz.func8, Tryz.ntmps8
    go_wp2_with (go_at_call 17; refine C1.out.mono ?_; rintro e w1 ⟨rfl, B1⟩; rw [HM.out]; replace B1 := hide B1)
    go_ret2
    exact ⟨_, _, rfl, .inr ⟨HM.out, rfl, rfl⟩, B1.out⟩
  · have HM := hide hm
    clear hm
    go_enter Tryz.func8, Tryz.ntmps8
    go_wp2_with (first
      | (go_at_call 17; refine C1.out.mono ?_; rintro e w1 ⟨rfl, B1⟩; rw [HM.out]; replace B1 := hide B1)
      | (go_at_call 19; refine (C2.out _ B1.out).mono ?_; rintro e w2 ⟨u2, rfl, O2, B2⟩; replace O2 := hide (O2.toks FW.out); replace B1 := hide (bto B1.out B2); clear B2)
      | (go_at_call 18; refine (C3.out _ _ B1.out O2.out).mono ?_; intro e w3 hP; obtain ⟨B3, u3, c3, rfl, H3⟩ := hP.uni; clear hP; replace B1 := hide (bto B1.out B3); clear B3))
    go_ret2
    exact ⟨_, _, rfl, .inl ⟨HM.out, H3.out⟩, B1.out⟩
set_option maxRecDepth 100000 in
set_option maxHeartbeats 1000000 in
theorem valuesR_any (l : List VT) (m : Nat) (v : Value) (w : World) (hv : VM w v l) (hB : VB l m) (hT : Tabs w) :
    Calls Tryz.prog 9 #[v] w fun e w' => PostVs l w e w' := by
  have C1 := hide (may5R_any l v w hv)
  have C2 := hide (fun (W : World) (h : Below w.heap.size w W) => flatR5_any (szL l) l v W (Nat.le_refl _) hB.cn (hv.low h))
  have C3 := hide (fun (W : World) (u : Value) (h : Below w.heap.size w W) (ht : Toks4 W u (flL l)) => tokens4_any (flL l) u W ht hB.ok hB.len (hT.below h))
  have FW := hide hB.few
  obtain ⟨a, c, rfl, _⟩ := hv.shape
  clear hv hB hT
  cases hm : myL l 64
  · have HM := hide hm
    clear hm
    go_enter Tryz.func9, Tryz.ntmps9
    go_wp2_with (go_at_call 20; refine C1.out.mono ?_; rintro e w1 ⟨rfl, B1⟩; rw [HM.out]; replace B1 := hide B1)
    go_ret2
    exact ⟨_, _, rfl, .inr ⟨HM.out, rfl, rfl⟩, B1.out⟩
  · have HM := hide hm
    clear hm
    go_enter Tryz.func9, Tryz.ntmps9
    go_wp2_with (first
      | (go_at_call 20; refine C1.out.mono ?_; rintro e w1 ⟨rfl, B1⟩; rw [HM.out]; replace B1 := hide B1)
      | (go_at_call 22; refine (C2.out _ B1.out).mono ?_; rintro e w2 ⟨u2, rfl, O2, B2⟩; replace O2 := hide (O2.toks FW.out); replace B1 := hide (bto B1.out B2); clear B2)
      | (go_at_call 21; refine (C3.out _ _ B1.out O2.out).mono ?_; intro e w3 hP; obtain ⟨B3, u3, c3, rfl, H3⟩ := hP.uni; clear hP; replace B1 := hide (bto B1.out B3); clear B3))
    go_ret2
    exact ⟨_, _, rfl, .inl ⟨HM.out, H3.out⟩, B1.out⟩
end Go.Proofs.YtbdacepomdlcbaaGreatDoor
set_option linter.unusedVariables false
set_option linter.unusedSimpArgs false
namespace Go.Proofs.YtbdacepomdlcbaaGreatDoor
open Go.RowKit Go.Shelf

theorem Wr.low {B b : Nat} {xs : List Int} {n : Int} {w w1 : World} (h : Wr B b xs n w) (hb : Below w.heap.size w w1) : Wr B b xs n w1 := by
  have K : ∀ p, WrAt B b p xs n w → WrAt B b p xs n w1 := fun p ⟨hB, v, hk, ho⟩ =>
    ⟨hB, v, (hb.block b (Array.getElem?_eq_some_iff.1 hk).1).trans hk, ho.kept (row := none) ⟨hb.os, hb.tape, hb.output, hb.size, fun k hk _ => hb.block k hk⟩ (by cases v.ownBlock <;> simp)⟩
  rcases h with h | h
  · exact .inl (K _ h)
  · exact .inr (K _ h)
theorem Wr.lt {B b : Nat} {xs : List Int} {n : Int} {w : World} (h : Wr B b xs n w) : b < w.heap.size := by
  rcases h with h | h <;> exact h.lt
theorem PW.step {B b : Nat} {xs : List Int} {n : Int} {w w1 : World} (h : PW B b xs n w w1) {k : Nat} {cs : Array Value} {T : TypeId} (hk : w.heap[k]? = some (.cells cs T)) (hT : T ≠ 5) (hne : k ≠ b) : w1.heap[k]? = some (.cells cs T) :=
  h.oth _ _ hk (by simpa using hne) (by intro c fz hh; cases hh; exact hT rfl)
theorem PW.refl {B b : Nat} {xs : List Int} {n : Int} {w : World} (h : Wr B b xs n w) : PW B b xs n w w := ⟨h, Below.refl _ _, Lib.OthersKept.refl _ _ _⟩
theorem PW.low {B b : Nat} {xs : List Int} {n : Int} {w w1 w2 : World} (h : PW B b xs n w w1) (hB : B ≤ w1.heap.size) (k : Below w1.heap.size w1 w2) : PW B b xs n w w2 :=
  ⟨h.wr.low k, h.bel.trans (k.mono hB), h.oth.trans fun i o hi _ _ => (k.block i (Array.getElem?_eq_some_iff.1 hi).1).trans hi⟩
theorem bxd_at {w : World} {k : Nat} {s : ByteArray} {v : Value} {imp : Bool} {T : TypeId} (h : w.heap[k]? = some (.cells #[.string s, v, .bool imp] T)) : w.cell? ⟨k, 0, none⟩ = some (.string s) ∧ w.cell? ⟨k, 1, none⟩ = some v ∧ w.cell? ⟨k, 2, none⟩ = some (.bool imp) := ⟨by rw [row_blk h]; rfl, by rw [row_blk h]; rfl, by rw [row_blk h]; rfl⟩
/-- A declaration's text. -/
def dclT (s : ByteArray) (l : List VT) (imp : Bool) : List Int := (((spK wtI [idT s] 1 ++ [58]) ++ spK wtA (flL l) (flL l).length) ++ (if imp then [32, 33, 105, 109, 112, 111, 114, 116, 97, 110, 116] else [])) ++ [59]
def dcB (s : ByteArray) (l : List VT) : Prop := (idT s).may = true ∧ myL l 64 = true ∧ ∀ t ∈ flL l, t.may = true
/-- What is left of writing a declaration. -/
def PostD (B b : Nat) (xs : List Int) (n : Int) (s : ByteArray) (l : List VT) (imp : Bool) (w : World) (r : Ending) (w' : World) : Prop :=
  (dcB s l ∧ r = .returned (.int .i64 0) ∧ PW B b (xs ++ dclT s l imp) n w w') ∨ (¬ dcB s l ∧ r = .returned (.int .i64 1) ∧ ∃ ys, PW B b ys n w w')
theorem imp_bl : bl ⟨#[32, 33, 105, 109, 112, 111, 114, 116, 97, 110, 116]⟩ = [32, 33, 105, 109, 112, 111, 114, 116, 97, 110, 116] := by decide
theorem id_cases {s u : ByteArray} {c : Int} (h : Sp2 wtI [idT s] u c) : ((idT s).may = true ∧ c = 0 ∧ bl u = spK wtI [idT s] 1) ∨ ((idT s).may = false ∧ c = 1 ∧ u = ⟨#[]⟩) := by
  rcases h with ⟨h1, h2, h3⟩ | ⟨⟨t, ht, h1⟩, h2, h3⟩
  · exact .inl ⟨h1 _ (by simp), h2, h3⟩
  · rw [List.mem_singleton.1 ht] at h1; exact .inr ⟨h1, h2, h3⟩
theorem sv_cases {l : List VT} {u : ByteArray} {c : Int} (h : SpV l u c) : ((myL l 64 = true ∧ ∀ t ∈ flL l, t.may = true) ∧ c = 0 ∧ bl u = spK wtA (flL l) (flL l).length) ∨ (¬ (myL l 64 = true ∧ ∀ t ∈ flL l, t.may = true) ∧ c = 1 ∧ u = ⟨#[]⟩) := by
  rcases h with ⟨h1, ⟨h2, h3, h4⟩ | ⟨⟨t, ht, h2⟩, h3, h4⟩⟩ | ⟨h1, h2, h3⟩
  · exact .inl ⟨⟨h1, h2⟩, h3, h4⟩
  · exact .inr ⟨fun h => (by rw [h.2 t ht] at h2; cases h2), h3, h4⟩
  · exact .inr ⟨fun h => (by rw [h.1] at h1; cases h1), h2, h3⟩
theorem sum_len {xs : List Int} {u : ByteArray} {ys : List Int} {N M : Nat} (h : bl u = ys) (h1 : xs.length ≤ N) (h2 : ys.length ≤ M) (h3 : N + M ≤ 140737488355328) : xs.length + u.size ≤ 140737488355328 := by
  rw [← bl_len u, h]; omega
set_option maxRecDepth 100000 in
set_option maxHeartbeats 1500000 in
theorem declP_any (w0 : World) (b : Nat) (xs : List Int) (n : Int) (s : ByteArray) (v : Value) (l : List VT) (m : Nat) (imp : Bool) (W : World) (hW : Below w0.heap.size w0 W) (hw : Wr w0.heap.size b xs n W) (hx : xs.length ≤ 35184372088000) (hs : s.size ≤ 1000000000000) (hv : VM w0 v l) (hB : VB l m) (hK : KT w0) (hT : Tabs w0) :
    Calls Tryz.prog 25 #[.pointer (some ⟨b, 0, none⟩), .agg #[.string s, v, .bool imp]] W fun r w' => PostD w0.heap.size b xs n s l imp W r w' := by
  have C1 := hide (fun (V : World) (h : Below w0.heap.size w0 V) => identS_any s V (by omega) (hK.below h) (hT.below h))
  have C2 := hide (fun (V : World) (h : Below w0.heap.size w0 V) => valuesP_any l m v V (hv.low h) hB (hK.below h) (hT.below h))
  have VL := hide hB.len
  have IL := hide (show (spK wtI [idT s] 1).length ≤ 35184372088000 by have := wId_len s; rw [spK_one]; show (wId (bl s)).length ≤ _; omega)
  obtain ⟨a, c, rfl, _⟩ := hv.shape
  have BW := hide hW
  have HW := hide hw
  have XL := hide hx
  have BL := hide hw.lt
  clear hv hB hK hT hW hw hx
  have BX := hide (show (W.alloc (.cells #[.string s, .slice a l.length c, .bool imp] 45)).heap[W.heap.size]? = some (.cells #[.string s, .slice a l.length c, .bool imp] 45) from heap_alloc_new W _)
  have NE := hide (show W.heap.size ≠ b by have := BL.out; omega)
  have SZ := hide (show w0.heap.size ≤ W.heap.size from BW.out.size)
  have P := hide ((PW.refl HW.out).low SZ.out (bplus (Below.refl _ _) (.cells #[.string s, .slice a l.length c, .bool imp] 45)))
  go_enter Tryz.func25, Tryz.ntmps25
  go_wp2_with (go_at_call 46; refine (C1.out _ (bplus BW.out _)).mono ?_; intro e w1 hP; obtain ⟨B1, u1, c1, rfl, H1⟩ := hP.uni; clear hP; replace BX := hide ((B1.block _ (Array.getElem?_eq_some_iff.1 BX.out).1).trans BX.out); replace P := hide (P.out.low (P.out.size SZ.out) B1); clear B1; obtain ⟨q0, q1, q2⟩ := bxd_at BX.out)
  rcases id_cases H1.out with ⟨hi, rfl, hu1⟩ | ⟨hi, rfl, rfl⟩
  case inr =>
    have L1 := hide (show xs.length + (⟨#[]⟩ : ByteArray).size ≤ 140737488355328 by show _ + 0 ≤ _; have := XL.out; omega)
    have HI := hide hi
    clear hi
    go_wp2_with (go_at_call 45; refine (put_any w0.heap.size b _ n _ _ _ P.out.wr L1.out (P.out.size SZ.out)).mono ?_; rintro r w2 ⟨rfl, Q⟩; replace BX := hide (Q.step BX.out (by decide) NE.out); replace P := hide (P.out.trans Q); clear Q; (try clear q0 q1 q2); obtain ⟨q0, q1, q2⟩ := bxd_at BX.out)
    go_ret
    exact .inr ⟨fun h => (by have := h.1; rw [HI.out] at this; cases this), rfl, _, P.out⟩
  have L1 := hide (sum_len hu1 XL.out IL.out (by omega))
  have U1 := hide hu1
  have HI := hide hi
  clear hi hu1
  have L2 := hide (show (xs ++ bl u1).length + 1 ≤ 140737488355328 by rw [List.length_append, U1.out]; have := XL.out; have := IL.out; omega)
  go_wp2_with (first
    | (go_at_call 45; refine (put_any w0.heap.size b _ n _ _ _ P.out.wr L1.out (P.out.size SZ.out)).mono ?_; rintro r w2 ⟨rfl, Q⟩; replace BX := hide (Q.step BX.out (by decide) NE.out); replace P := hide (P.out.trans Q); clear Q; (try clear q0 q1 q2); obtain ⟨q0, q1, q2⟩ := bxd_at BX.out)
    | (go_at_call 47; refine (wrByte_any w0.heap.size b _ n _ _ P.out.wr L2.out (P.out.size SZ.out)).mono ?_; rintro r w3 ⟨rfl, Q⟩; replace BX := hide (Q.step BX.out (by decide) NE.out); replace P := hide (P.out.trans Q); clear Q; (try clear q0 q1 q2); obtain ⟨q0, q1, q2⟩ := bxd_at BX.out)
    | (go_at_call 8; refine (C2.out _ (BW.out.trans P.out.bel)).mono ?_; rintro e w4 ⟨u4, c4, rfl, H4, B4⟩; replace BX := hide ((B4.block _ (Array.getElem?_eq_some_iff.1 BX.out).1).trans BX.out); replace P := hide (P.out.low (P.out.size SZ.out) B4); clear B4 q0 q1 q2; obtain ⟨q0, q1, q2⟩ := bxd_at BX.out))
  have L3 := hide (show ((xs ++ bl u1) ++ [58]).length ≤ 70368744177000 by rw [List.length_append, List.length_append, U1.out, List.length_singleton]; have := XL.out; have := IL.out; omega)
  rcases sv_cases H4 with ⟨hv, rfl, hu4⟩ | ⟨hv, rfl, rfl⟩
  case inr =>
    have L4 := hide (show ((xs ++ bl u1) ++ [58]).length + (⟨#[]⟩ : ByteArray).size ≤ 140737488355328 by show _ + 0 ≤ _; have := L3.out; omega)
    have HV := hide hv
    clear hv H4
    go_wp2_with (go_at_call 45; refine (put_any w0.heap.size b _ n _ _ _ P.out.wr L4.out (P.out.size SZ.out)).mono ?_; rintro r w5 ⟨rfl, Q⟩; replace BX := hide (Q.step BX.out (by decide) NE.out); replace P := hide (P.out.trans Q); clear Q; (try clear q0 q1 q2); obtain ⟨q0, q1, q2⟩ := bxd_at BX.out)
    go_ret
    exact .inr ⟨fun h => HV.out h.2, rfl, _, P.out⟩
  have L4 := hide (sum_len hu4 L3.out VL.out (by omega))
  have HV := hide hv
  have U4 := hide hu4
  clear hv H4 hu4
  have L5 := hide (show (((xs ++ bl u1) ++ [58]) ++ bl u4).length + 11 ≤ 140737488355328 by rw [List.length_append, U4.out]; have := L3.out; have := VL.out; omega)
  cases imp
  · have L6 := hide (show (((xs ++ bl u1) ++ [58]) ++ bl u4).length + 1 ≤ 140737488355328 by have := L5.out; omega)
    go_wp2_with (first
      | (go_at_call 45; refine (put_any w0.heap.size b _ n _ _ _ P.out.wr L4.out (P.out.size SZ.out)).mono ?_; rintro r w5 ⟨rfl, Q⟩; replace BX := hide (Q.step BX.out (by decide) NE.out); replace P := hide (P.out.trans Q); clear Q; (try clear q0 q1 q2); obtain ⟨q0, q1, q2⟩ := bxd_at BX.out)
      | (go_at_call 47; refine (wrByte_any w0.heap.size b _ n _ _ P.out.wr L6.out (P.out.size SZ.out)).mono ?_; rintro r w7 ⟨rfl, Q⟩; replace BX := hide (Q.step BX.out (by decide) NE.out); replace P := hide (P.out.trans Q); clear Q; (try clear q0 q1 q2); obtain ⟨q0, q1, q2⟩ := bxd_at BX.out))
    go_ret
    refine .inl ⟨⟨HI.out, HV.out⟩, rfl, ?_⟩
    have E := P.out
    rw [U1.out, U4.out] at E
    unfold dclT
    simpa using E
  · have L6 := hide (show (((((xs ++ bl u1) ++ [58]) ++ bl u4) ++ bl ⟨#[32, 33, 105, 109, 112, 111, 114, 116, 97, 110, 116]⟩)).length + 1 ≤ 140737488355328 by rw [List.length_append, imp_bl]; have := L5.out; show _ + 11 + 1 ≤ _; have h9 : ((xs ++ bl u1 ++ [58]) ++ bl u4).length ≤ 105553116265000 := (by rw [List.length_append, U4.out]; have := L3.out; have := VL.out; omega); omega)
    have L7 := hide (show (((xs ++ bl u1) ++ [58]) ++ bl u4).length + (⟨#[32, 33, 105, 109, 112, 111, 114, 116, 97, 110, 116]⟩ : ByteArray).size ≤ 140737488355328 from L5.out)
    go_wp2_with (first
      | (go_at_call 45; refine (put_any w0.heap.size b _ n _ _ _ P.out.wr L4.out (P.out.size SZ.out)).mono ?_; rintro r w5 ⟨rfl, Q⟩; replace BX := hide (Q.step BX.out (by decide) NE.out); replace P := hide (P.out.trans Q); clear Q; (try clear q0 q1 q2); obtain ⟨q0, q1, q2⟩ := bxd_at BX.out)
      | (go_at_call 39; refine (wrStr_any w0.heap.size b _ n ⟨#[32, 33, 105, 109, 112, 111, 114, 116, 97, 110, 116]⟩ _ P.out.wr L7.out (P.out.size SZ.out)).mono ?_; rintro r w6 ⟨rfl, Q⟩; replace BX := hide (Q.step BX.out (by decide) NE.out); replace P := hide (P.out.trans Q); clear Q; (try clear q0 q1 q2); obtain ⟨q0, q1, q2⟩ := bxd_at BX.out)
      | (go_at_call 47; refine (wrByte_any w0.heap.size b _ n _ _ P.out.wr L6.out (P.out.size SZ.out)).mono ?_; rintro r w7 ⟨rfl, Q⟩; replace BX := hide (Q.step BX.out (by decide) NE.out); replace P := hide (P.out.trans Q); clear Q; (try clear q0 q1 q2); obtain ⟨q0, q1, q2⟩ := bxd_at BX.out))
    go_ret
    refine .inl ⟨⟨HI.out, HV.out⟩, rfl, ?_⟩
    have E := P.out
    rw [U1.out, U4.out, imp_bl] at E
    unfold dclT
    simpa using E
end Go.Proofs.YtbdacepomdlcbaaGreatDoor
