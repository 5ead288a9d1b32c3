/-
  Declarations, written by the program.
  A text that every program must know; the law of values' texts.
  Declarations' texts: no declaration at all; the reference; the law.
  Component values as a row reads them.
  Declarations as a row reads them; the law of declarations' texts.
-/
import Derived.Test.YtbdacepomdlcbaaGreatDoorJC
import Derived.Test.YtbdacepomdlcbaaGreatDoorJz
import Derived.Deep.DeepHandedRow
import Derived.Deep.DeepWitnessRowRef
import Derived.Deep.Slices
import Derived.Carry
set_option linter.unusedVariables false
set_option linter.unusedSimpArgs false
namespace Go.Proofs.YtbdacepomdlcbaaGreatDoor
open Go.RowKit Go.Shelf

theorem bto' {w w1 w2 : World} (h : Below w.heap.size w w1) (k : Below w1.heap.size w1 w2) : Below w.heap.size w w2 := bto h k
/-- A declaration. -/
structure DT where
  s : ByteArray
  l : List VT
  imp : Bool
/-- A slice of declarations in memory. -/
def DM (w : World) (v : Value) (ds : List DT) : Prop :=
  (∃ a c, v = .slice a 0 c ∧ ds = []) ∨
  ∃ b o c, v = .slice (some ⟨b, o, none⟩) ds.length c ∧ 0 < ds.length ∧ b < w.heap.size ∧ ds.length ≤ c ∧ ds.length ≤ 1000000000 ∧ c ≤ 9223372036854775807 ∧
    ∀ i d, ds[i]? = some d → w.cell? ⟨b, o + i * 3, none⟩ = some (.string d.s) ∧ (∃ u, w.cell? ⟨b, o + i * 3 + 1, none⟩ = some u ∧ VM w u d.l) ∧ w.cell? ⟨b, o + i * 3 + 2, none⟩ = some (.bool d.imp)
theorem DM.low {w w' : World} {v : Value} {ds : List DT} (h : DM w v ds) (hw : Below w.heap.size w w') : DM w' v ds := by
  rcases h with h | ⟨b, o, c, h1, h2, h3, h4, h5, h6, h7⟩
  · exact .inl h
  · refine .inr ⟨b, o, c, h1, h2, Nat.lt_of_lt_of_le h3 hw.size, h4, h5, h6, fun i d hi => ?_⟩
    obtain ⟨g1, ⟨u, g2, g3⟩, g4⟩ := h7 i d hi
    exact ⟨(hw.cell (p := ⟨b, o + i * 3, none⟩) h3).trans g1, ⟨u, (hw.cell (p := ⟨b, o + i * 3 + 1, none⟩) h3).trans g2, g3.low hw⟩, (hw.cell (p := ⟨b, o + i * 3 + 2, none⟩) h3).trans g4⟩
theorem DM.shape {w : World} {v : Value} {ds : List DT} (h : DM w v ds) : ∃ a c, v = .slice a ds.length c ∧ ds.length ≤ 1000000000 := by
  rcases h with ⟨a, c, rfl, rfl⟩ | ⟨b, o, c, rfl, h2, h3, h4, h5, h6, h7⟩
  · exact ⟨a, c, rfl, by simp⟩
  · exact ⟨_, _, rfl, h5⟩
def dsT (ds : List DT) : List Int := ds.flatMap fun d => dclT d.s d.l d.imp
theorem dsT_app (a b : List DT) : dsT (a ++ b) = dsT a ++ dsT b := by simp [dsT]
theorem dsT_step {ds : List DT} {k : Nat} {d : DT} (h : ds[k]? = some d) : dsT (ds.take (k + 1)) = dsT (ds.take k) ++ dclT d.s d.l d.imp := by
  obtain ⟨hk, rfl⟩ := List.getElem?_eq_some_iff.1 h
  rw [List.take_succ_eq_append_getElem hk, dsT_app]; simp [dsT]
theorem dsT_le (ds : List DT) (k : Nat) : (dsT (ds.take k)).length ≤ (dsT ds).length := by
  conv => rhs; rw [← List.take_append_drop k ds, dsT_app, List.length_append]
  omega
/-- Bounds on declarations. -/
structure DB (ds : List DT) (m : Nat) : Prop where
  sz : ∀ d ∈ ds, d.s.size ≤ 1000000000000
  vb : ∀ d ∈ ds, VB d.l m
theorem PostD.yes {B b : Nat} {xs : List Int} {n : Int} {s : ByteArray} {l : List VT} {imp : Bool} {w : World} {r : Ending} {w' : World} (h : PostD B b xs n s l imp w r w') (hd : dcB s l) : r = .returned (.int .i64 0) ∧ PW B b (xs ++ dclT s l imp) n w w' := by
  rcases h with ⟨_, h⟩ | ⟨h, _⟩
  · exact h
  · exact absurd hd h
theorem PostD.no {B b : Nat} {xs : List Int} {n : Int} {s : ByteArray} {l : List VT} {imp : Bool} {w : World} {r : Ending} {w' : World} (h : PostD B b xs n s l imp w r w') (hd : ¬ dcB s l) : r = .returned (.int .i64 1) ∧ ∃ ys, PW B b ys n w w' := by
  rcases h with ⟨h, _⟩ | ⟨_, h⟩
  · exact absurd h hd
  · exact h
def PostE (B b : Nat) (xs : List Int) (n : Int) (ds : List DT) (w : World) (r : Ending) (w' : World) : Prop :=
  ((∀ d ∈ ds, dcB d.s d.l) ∧ r = .returned (.int .i64 0) ∧ PW B b (xs ++ dsT ds) n w w') ∨ ((¬ ∀ d ∈ ds, dcB d.s d.l) ∧ r = .returned (.int .i64 1) ∧ ∃ ys, PW B b ys n w w')
def RelEd (B b : Nat) (xs : List Int) (n : Int) (ds : List DT) (W : World) (i : Value) (wr : World) : Prop := ∃ k : Nat, i = .int .i64 k ∧ k ≤ ds.length ∧ Hid (PW B b (xs ++ dsT (ds.take k)) n W wr ∧ ∀ d ∈ ds.take k, dcB d.s d.l)
theorem RelEd.mk {B b : Nat} {xs : List Int} {n : Int} {ds : List DT} {W : World} {i : Value} {wr : World} (k : Nat) (h1 : i = .int .i64 k) (h2 : k ≤ ds.length) (h3 : PW B b (xs ++ dsT (ds.take k)) n W wr ∧ ∀ d ∈ ds.take k, dcB d.s d.l) : RelEd B b xs n ds W i wr := ⟨k, h1, h2, h3⟩
set_option maxRecDepth 100000 in
set_option maxHeartbeats 1500000 in
theorem eachD_any (w0 : World) (b : Nat) (xs : List Int) (n : Int) (ds : List DT) (m : Nat) (v : Value) (W : World) (hW : Below w0.heap.size w0 W) (hw : Wr w0.heap.size b xs n W) (hx : xs.length + (dsT ds).length ≤ 35184372088000) (hv : DM w0 v ds) (hB : DB ds m) (hK : KT w0) (hT : Tabs w0) :
    Calls Tryz.prog 24 #[v, .func (.func 25) #[.pointer (some ⟨b, 0, none⟩)] #[]] W fun r w' => PostE w0.heap.size b xs n ds W r w' := by
  obtain ⟨a, c, rfl, h9⟩ := hv.shape
  have HV := hide hv
  have HB := hide hB
  have BW := hide hW
  have HW := hide hw
  have HX := hide hx
  have HK := hide hK
  have HT := hide hT
  have SZ := hide (show w0.heap.size ≤ W.heap.size from hW.size)
  clear hv hB hW hw hx hK hT
  go_enter Tryz.func24, Tryz.ntmps24
  go_wp2
  go_loopw [10] (fun i wr => RelEd w0.heap.size b xs n ds W i wr) (fun i _ => ds.length - (intOf i).toNat)
  case atStart => exact .mk 0 rfl (by omega) ⟨by simpa [dsT] using PW.refl HW.out, by simp⟩
  case round =>
    obtain ⟨k, rfl, hk, R⟩ := hrel
    have P := hide R.out.1
    have A := hide R.out.2
    clear R
    by_cases hlt : k < ds.length
    · obtain ⟨d, hd⟩ : ∃ d, ds[k]? = some d := ⟨_, List.getElem?_eq_getElem hlt⟩
      rcases HV.out with ⟨a', c', hv', h0⟩ | ⟨bb, o, c', hv', h0, hb, hc1, hc2, hc3, hcell⟩
      · rw [h0] at hlt; simp at hlt
      obtain ⟨rfl, rfl⟩ : a = some ⟨bb, o, none⟩ ∧ c = c' := by cases hv'; exact ⟨rfl, rfl⟩
      obtain ⟨g0, ⟨u, g1, gv⟩, g2⟩ := hcell k d hd
      obtain ⟨ua, uc, hus, _⟩ := gv.shape
      subst hus
      have hmem : d ∈ ds := List.mem_of_getElem? hd
      have hlt' : (k : Int) < ds.length := by omega
      have BP := hide (show Below w0.heap.size w0 wr from BW.out.trans P.out.bel)
      have e0 := (BP.out.cell (p := ⟨bb, o + k * 3, none⟩) hb).trans g0
      have e1 := (BP.out.cell (p := ⟨bb, o + k * 3 + 1, none⟩) hb).trans g1
      have e2 := (BP.out.cell (p := ⟨bb, o + k * 3 + 2, none⟩) hb).trans g2
      have hbw : bb < wr.heap.size := by have := BP.out.size; omega
      have nb : bb ≠ wr.heap.size := by omega
      have ST := hide (dsT_step hd)
      have LN := hide (show (xs ++ dsT (ds.take k)).length ≤ 35184372088000 by rw [List.length_append]; have := HX.out; have := dsT_le ds k; omega)
      have TK := hide (show ds.take (k + 1) = ds.take k ++ [d] by obtain ⟨h, rfl⟩ := List.getElem?_eq_some_iff.1 hd; exact List.take_succ_eq_append_getElem h)
      have CD := hide (fun (V : World) (hV : Below wr.heap.size wr V) => declP_any w0 b (xs ++ dsT (ds.take k)) n d.s (.slice ua d.l.length uc) d.l m d.imp V (bto' BP.out hV) (P.out.wr.low hV) LN.out (HB.out.sz d hmem) gv (HB.out.vb d hmem) HK.out HT.out)
      have MM := hide hmem
      clear hcell g0 g1 g2 gv hv' hd hmem
      by_cases hdc : dcB d.s d.l
      · have HD := hide hdc
        clear hdc
        go_wp2_with (go_at_call 25; refine (CD.out _ (bplus (Below.refl _ _) _)).mono ?_; intro r w2 hP; obtain ⟨rfl, Q⟩ := hP.yes HD.out; clear hP; replace P := hide (((P.out.low (P.out.size SZ.out) (bplus (Below.refl _ _) _)).trans Q)); clear Q)
        go_roundw
        case rel => exact .mk (k + 1) (by go_num) (by omega) ⟨by rw [ST.out, ← List.append_assoc]; exact P.out, fun e he => by rw [TK.out, List.mem_append, List.mem_singleton] at he; rcases he with he | rfl; exact A.out e he; exact HD.out⟩
        case measure => simp [intOf]; omega
      · have HD := hide hdc
        clear hdc
        go_wp2_with (go_at_call 25; refine (CD.out _ (bplus (Below.refl _ _) _)).mono ?_; intro r w2 hP; obtain ⟨rfl, ys, Q⟩ := hP.no HD.out; clear hP; replace Q := hide (((P.out.low (P.out.size SZ.out) (bplus (Below.refl _ _) _)).trans Q)))
        go_ret
        exact .inr ⟨fun h => HD.out (h d MM.out), rfl, _, Q.out⟩
    · have hlt' : ¬ (k : Int) < ds.length := by omega
      have TK := hide (show ds.take k = ds from List.take_of_length_le (by omega))
      go_wp2
      go_ret
      exact .inl ⟨fun d hd => A.out d (by rw [TK.out]; exact hd), rfl, by have := P.out; rwa [TK.out] at this⟩
theorem toldErr_any (b : Nat) (w : World) : Calls Tryz.prog 23 #[.pointer (some ⟨b, 0, none⟩), .int .i64 1] w fun r w' => r = .returned (.tuple #[.string ⟨#[]⟩, .int .i64 1]) ∧ w' = w := by
  go_enter Tryz.func23, Tryz.ntmps23
  go_wp2
  go_ret2
  exact ⟨rfl, rfl⟩
/-- What is told of declarations. -/
def SpD (ds : List DT) (u : ByteArray) (c : Int) : Prop := ((∀ d ∈ ds, dcB d.s d.l) ∧ c = 0 ∧ bl u = dsT ds) ∨ ((¬ ∀ d ∈ ds, dcB d.s d.l) ∧ c = 1 ∧ u = ⟨#[]⟩)
def PostDs (ds : List DT) (w : World) (e : Ending) (w' : World) : Prop := ∃ u c, e = .returned (.tuple #[.string u, .int .i64 c]) ∧ SpD ds u c ∧ Below w.heap.size w w'
theorem Wr.fresh (w : World) : Wr w.heap.size w.heap.size [] 0 (w.alloc (.cells #[.pointer none, .slice none 0 0, .int .i64 0] 51)) := .inl ⟨Nat.le_refl _, _, heap_alloc_new w _, World.ownsRowF_nil _ _ _ _⟩
theorem PostE.yes {B b : Nat} {xs : List Int} {n : Int} {ds : List DT} {w : World} {r : Ending} {w' : World} (h : PostE B b xs n ds w r w') (hd : ∀ d ∈ ds, dcB d.s d.l) : r = .returned (.int .i64 0) ∧ PW B b (xs ++ dsT ds) n w w' := by
  rcases h with ⟨_, h⟩ | ⟨h, _⟩
  · exact h
  · exact absurd hd h
theorem PostE.no {B b : Nat} {xs : List Int} {n : Int} {ds : List DT} {w : World} {r : Ending} {w' : World} (h : PostE B b xs n ds w r w') (hd : ¬ ∀ d ∈ ds, dcB d.s d.l) : r = .returned (.int .i64 1) ∧ ∃ ys, PW B b ys n w w' := by
  rcases h with ⟨h, _⟩ | ⟨_, h⟩
  · exact absurd h hd
  · exact h
set_option maxRecDepth 100000 in
set_option maxHeartbeats 1000000 in
theorem declsP_any (ds : List DT) (m : Nat) (v : Value) (w : World) (hne : dsT ds ≠ []) (hby : By (dsT ds)) (hx : (dsT ds).length ≤ 35184372088000) (hv : DM w v ds) (hB : DB ds m) (hK : KT w) (hT : Tabs w) :
    Calls Tryz.prog 11 #[v] w fun e w' => PostDs ds w e w' := by
  have CE := hide (eachD_any w w.heap.size [] 0 ds m v _ (bplus (Below.refl _ _) (.cells #[.pointer none, .slice none 0 0, .int .i64 0] 51)) (Wr.fresh w) (by simpa using hx) hv hB hK hT)
  have BY := hide hby
  have NE := hide hne
  obtain ⟨a, c, rfl, h9⟩ := hv.shape
  clear hv hB hK hT hne hby hx
  have SZ := hide (show w.heap.size ≤ (w.alloc (.cells #[.pointer none, .slice none 0 0, .int .i64 0] 51)).heap.size by simp)
  by_cases hd : ∀ d ∈ ds, dcB d.s d.l
  · have HD := hide hd
    clear hd
    go_enter Tryz.func11, Tryz.ntmps11
    go_wp2_with (first
      | (go_at_call 24; refine CE.out.mono ?_; intro r w2 hP; obtain ⟨rfl, Q⟩ := hP.yes HD.out; clear hP; rw [List.nil_append] at Q; replace Q := hide Q)
      | (go_at_call 23; refine (toldOk_any w.heap.size w.heap.size (dsT ds) 0 _ Q.out.wr BY.out NE.out (Q.out.size SZ.out)).mono ?_; rintro r w3 ⟨s, rfl, hs, B3⟩; replace hs := hide hs; replace B3 := hide (show Below w.heap.size w w3 from (bplus (Below.refl _ _) _ : Below w.heap.size w _).trans (Q.out.bel.trans B3))))
    go_ret2
    exact ⟨_, _, rfl, .inl ⟨HD.out, rfl, hs.out⟩, B3.out⟩
  · have HD := hide hd
    clear hd
    go_enter Tryz.func11, Tryz.ntmps11
    go_wp2_with (first
      | (go_at_call 24; refine CE.out.mono ?_; intro r w2 hP; obtain ⟨rfl, ys, Q⟩ := hP.no HD.out; clear hP; replace Q := hide (show Below w.heap.size w w2 from (bplus (Below.refl _ _) _ : Below w.heap.size w _).trans Q.bel))
      | (go_at_call 23; refine (toldErr_any _ _).mono ?_; rintro r w3 ⟨rfl, rfl⟩))
    go_ret2
    exact ⟨_, _, rfl, .inr ⟨HD.out, rfl, rfl⟩, Q.out⟩
end Go.Proofs.YtbdacepomdlcbaaGreatDoor
set_option linter.unusedVariables false
set_option linter.unusedSimpArgs false
namespace Go.Proofs.YtbdacepomdlcbaaGreatDoor
open Go.RowKit Go.Shelf

def awV : List VT := [.mk (idT ⟨#[98]⟩) []]
def awD : List DT := [⟨⟨#[97]⟩, awV, true⟩]
theorem awV_fl : flL awV = [idT ⟨#[98]⟩] := by
  unfold awV
  rw [flL_cons, flL_nil]
  simp [VT.t, VT.ks, flL_nil, idT, cKn, clT]
theorem may_b : (idT ⟨#[98]⟩).may = true := by
  rw [may_id]
  decide +kernel
theorem awV_my : myL awV 64 = true := by
  unfold awV
  rw [myL_cons, myL_nil]
  simp [VT.t, VT.ks, idT, cKn]
theorem awV_B : VB awV 1 := by
  refine ⟨?_, ?_, ?_, ?_⟩
  · intro t ht; rw [awV_fl, List.mem_singleton] at ht; subst ht; exact idT_ok _ (by decide)
  · intro t ht; rw [awV_fl, List.mem_singleton] at ht; subst ht; decide
  · rw [awV_fl]; decide
  · unfold awV; rw [szL_cons, szL_nil]; simp [VT.ks, szL_nil]
theorem wId_b : wId [98] = [98] := by decide +kernel
theorem awD_T : dsT awD = [97, 58, 98, 32, 33, 105, 109, 112, 111, 114, 116, 97, 110, 116, 59] := by
  have e1 : spK wtI [idT ⟨#[97]⟩] 1 = [97] := by rw [spK_one]; exact wId_a
  have e2 : spK wtA (flL awV) (flL awV).length = [98] := by
    rw [awV_fl]
    show spK wtA [idT ⟨#[98]⟩] 1 = _
    rw [spK_one]
    exact wId_b
  unfold dsT awD
  rw [List.flatMap_cons, List.flatMap_nil]
  unfold dclT
  simp only [e1, e2]
  rfl
theorem awD_B : ∀ d ∈ awD, dcB d.s d.l := by
  intro d hd
  unfold awD at hd
  rw [List.mem_singleton] at hd
  subst hd
  refine ⟨may_a, awV_my, fun t ht => ?_⟩
  rw [awV_fl, List.mem_singleton] at ht
  subst ht
  exact may_b
theorem awD_DB : DB awD 1 := by
  refine ⟨fun d hd => ?_, fun d hd => ?_⟩
  all_goals
    unfold awD at hd
    rw [List.mem_singleton] at hd
    subst hd
  · decide
  · exact awV_B
theorem aw_vm (w : World) : VM (w.alloc (.cells #[.int .i64 1, .string ⟨#[98]⟩, .int .i64 0, .int .i64 0, .bool false, .bool false, .slice none 0 0] 43)) (.slice (some ⟨w.heap.size, 0, none⟩) 1 1) awV := by
  have hb := heap_alloc_new w (.cells #[.int .i64 1, .string ⟨#[98]⟩, .int .i64 0, .int .i64 0, .bool false, .bool false, .slice none 0 0] 43)
  have C : ∀ j, (w.alloc (.cells #[.int .i64 1, .string ⟨#[98]⟩, .int .i64 0, .int .i64 0, .bool false, .bool false, .slice none 0 0] 43)).cell? ⟨w.heap.size, j, none⟩ = (#[Value.int .i64 1, .string ⟨#[98]⟩, .int .i64 0, .int .i64 0, .bool false, .bool false, .slice none 0 0] : Array Value)[j]? := fun j => row_blk hb j
  refine .row w.heap.size 0 1 awV (fun _ => .slice none 0 0) (by decide) (by simp) (by decide) (by decide) (by decide) (fun i v hi => ?_) (fun i v hi => ?_) (fun i v hi => ?_)
  all_goals
    have h0 : i = 0 := by
      have := (List.getElem?_eq_some_iff.1 hi).1
      simp [awV] at this
      exact this
    subst h0
    have hv : v = .mk (idT ⟨#[98]⟩) [] := by simp [awV] at hi; exact hi.symm
    subst hv
  · exact ⟨C 0, C 1, C 2, C 3, C 4, C 5⟩
  · exact C 6
  · exact .nil none 0
theorem aw_dm (w : World) : DM ((w.alloc (.cells #[.int .i64 1, .string ⟨#[98]⟩, .int .i64 0, .int .i64 0, .bool false, .bool false, .slice none 0 0] 43)).alloc (.cells #[.string ⟨#[97]⟩, .slice (some ⟨w.heap.size, 0, none⟩) 1 1, .bool true] 45)) (.slice (some ⟨w.heap.size + 1, 0, none⟩) 1 1) awD := by
  have V0 := (aw_vm w).low (bplus (Below.refl _ _) (.cells #[.string ⟨#[97]⟩, .slice (some ⟨w.heap.size, 0, none⟩) 1 1, .bool true] 45))
  have hb := heap_alloc_new (w.alloc (.cells #[.int .i64 1, .string ⟨#[98]⟩, .int .i64 0, .int .i64 0, .bool false, .bool false, .slice none 0 0] 43)) (.cells #[.string ⟨#[97]⟩, .slice (some ⟨w.heap.size, 0, none⟩) 1 1, .bool true] 45)
  rw [show (w.alloc (.cells #[.int .i64 1, .string ⟨#[98]⟩, .int .i64 0, .int .i64 0, .bool false, .bool false, .slice none 0 0] 43)).heap.size = w.heap.size + 1 by simp] at hb
  refine .inr ⟨w.heap.size + 1, 0, 1, rfl, by decide, by simp, by decide, by decide, by decide, fun i d hi => ?_⟩
  have h0 : i = 0 := by
    have := (List.getElem?_eq_some_iff.1 hi).1
    simp [awD] at this
    exact this
  subst h0
  have hd : d = ⟨⟨#[97]⟩, awV, true⟩ := by simp [awD] at hi; exact hi.symm
  subst hd
  exact ⟨(row_blk hb 0), ⟨_, row_blk hb 1, V0⟩, row_blk hb 2⟩
set_option maxRecDepth 100000 in
set_option maxHeartbeats 1000000 in
theorem awake6_any (w : World) (hK : KT w) (hT : Tabs w) : Calls Tryz.prog 10 #[] w fun e w' => e = .returned (.bool true) ∧ Below w.heap.size w w' := by
  have B0 := bplus (bplus (Below.refl w.heap.size w) (.cells #[.int .i64 1, .string ⟨#[98]⟩, .int .i64 0, .int .i64 0, .bool false, .bool false, .slice none 0 0] 43)) (.cells #[.string ⟨#[97]⟩, .slice (some ⟨w.heap.size, 0, none⟩) 1 1, .bool true] 45)
  have C := hide (declsP_any awD 1 _ _ (by rw [awD_T]; simp) (by rw [awD_T]; intro x hx; simp at hx; omega) (by rw [awD_T]; decide) (aw_dm w) awD_DB (hK.below B0) (hT.below B0))
  have FIN := hide (fun s c (h : SpD awD s c) => show s = ⟨#[97, 58, 98, 32, 33, 105, 109, 112, 111, 114, 116, 97, 110, 116, 59]⟩ ∧ c = 0 by
    rcases h with ⟨_, h2, h3⟩ | ⟨h1, _, _⟩
    · rw [awD_T] at h3
      exact ⟨bl_inj h3, h2⟩
    · exact absurd awD_B h1)
  replace B0 := hide B0
  clear hK hT
  go_enter Tryz.func10, Tryz.ntmps10
  go_wp2_with (go_at_call 11; refine C.out.mono ?_; rintro e w1 ⟨u, c, rfl, H, B1⟩; obtain ⟨rfl, rfl⟩ := FIN.out u c H; replace B1 := hide (show Below w.heap.size w w1 from bto B0.out B1))
  go_ret
  exact ⟨rfl, B1.out⟩
set_option maxRecDepth 100000 in
set_option maxHeartbeats 1000000 in
theorem law_values6 (l : List VT) (m : Nat) (v : Value) (w : World) (hv : VM w v l) (hB : VB l m) (hK : KT w) (hT : Tabs w) :
    Calls Tryz.prog 3 #[v] w fun e w' => e = .returned (.bool true) ∧ Below w.heap.size w w' := by
  have C1 := hide (valuesP_any l m v w hv hB hK hT)
  have C2 := hide (fun (W : World) (h : Below w.heap.size w W) => valuesR_any l m v W (hv.low h) hB (hT.below h))
  have C3 := hide (fun (W : World) (h : Below w.heap.size w W) => awake6_any W (hK.below h) (hT.below h))
  obtain ⟨a, c, rfl, _⟩ := hv.shape
  clear hK hT hv hB
  go_enter Tryz.func3, Tryz.ntmps3
  go_wp2_with (first
    | (go_at_call 8; refine C1.out.mono ?_; rintro e w1 ⟨u, c1, rfl, H, B1⟩; replace B1 := hide B1; replace H := hide H)
    | (go_at_call 9; refine (C2.out _ B1.out).mono ?_; rintro e w2 ⟨x, f, rfl, H2, B2⟩; obtain ⟨rfl, rfl⟩ := spv_eq H.out H2; replace B1 := hide (bto B1.out B2); clear B2 H2)
    | (go_at_call 10; refine (C3.out _ B1.out).mono ?_; rintro e w3 ⟨rfl, B3⟩; replace B1 := hide (bto B1.out B3)))
  go_ret
  exact ⟨rfl, B1.out⟩
end Go.Proofs.YtbdacepomdlcbaaGreatDoor
set_option linter.unusedVariables false
set_option linter.unusedSimpArgs false
namespace Go.Proofs.YtbdacepomdlcbaaGreatDoor
open Go.RowKit Go.Shelf

set_option maxHeartbeats 1000000 in
set_option maxRecDepth 100000 in
/-- The text of a writer that has written nothing. -/
theorem wrNone_any (b : Nat) (n : Int) (w : World) (hbk : w.heap[b]? = some (.cells #[.pointer none, .slice none 0 0, .int .i64 n] 51 (0, 0))) :
    Calls Tryz.prog 41 #[.pointer (some ⟨b, 0, none⟩)] w fun e w' => e = .returned (.string ⟨#[]⟩) ∧ Below w.heap.size w w' := by
  have hUS : ∀ (W : World) (q : Option Addr), (Builtin.unsafeString_ #[100, 3] 9 #[.pointer q, .int .i64 0]).run Tryz.prog W = .ok (.string .empty) W := fun W q => Lib.run_unsafeString_none W _ _ _ q
  have c1 : w.drew.cell? ⟨b, 1, none⟩ = some (.slice none 0 0) := by
    have : w.drew.heap[b]? = some (.cells #[.pointer none, .slice none 0 0, .int .i64 n] 51 (0, 0)) := hbk
    rw [Lib.cell_of_heap this]; rfl
  have hSD : (Builtin.unsafeSliceData_ #[47] 100 #[.slice none 0 0]).run Tryz.prog w.drew = .ok (.pointer none) w.drew := rfl
  go_enter Tryz.func41, Tryz.ntmps41
  go_wp2
  go_region
  all_goals (go_wp2; go_ret; exact ⟨rfl, Below.drew (Below.refl _ w)⟩)
theorem eachNone_any (a : Option Addr) (c : Nat) (f : Value) (w : World) (hf : ∃ i x, f = .func (.func i) x #[]) : Calls Tryz.prog 24 #[.slice a 0 c, f] w fun r w' => r = .returned (.int .i64 0) ∧ w' = w := by
  obtain ⟨i, x, rfl⟩ := hf
  go_enter Tryz.func24, Tryz.ntmps24
  go_wp2
  refine wp_loop_rounds 1 ?_
  rw [rounds_succ]
  go_wp2
  go_ret
  exact ⟨rfl, rfl⟩
theorem toldNone_any (b : Nat) (n : Int) (w : World) (hbk : w.heap[b]? = some (.cells #[.pointer none, .slice none 0 0, .int .i64 n] 51 (0, 0))) :
    Calls Tryz.prog 23 #[.pointer (some ⟨b, 0, none⟩), .int .i64 0] w fun r w' => r = .returned (.tuple #[.string ⟨#[]⟩, .int .i64 0]) ∧ Below w.heap.size w w' := by
  have C := hide (wrNone_any b n w hbk)
  clear hbk
  go_enter Tryz.func23, Tryz.ntmps23
  go_wp2_with (go_at_call 41; refine C.out.mono ?_; rintro r w1 ⟨rfl, P⟩; replace P := hide P)
  go_ret2
  exact ⟨rfl, P.out⟩
set_option maxRecDepth 100000 in
theorem declsNone_any (a : Option Addr) (c : Nat) (w : World) : Calls Tryz.prog 11 #[.slice a 0 c] w fun e w' => PostDs [] w e w' := by
  have CT := hide (toldNone_any w.heap.size 0 (w.alloc (.cells #[.pointer none, .slice none 0 0, .int .i64 0] 51)) (heap_alloc_new w _))
  go_enter Tryz.func11, Tryz.ntmps11
  go_wp2_with (first
    | (go_at_call 24; refine (eachNone_any _ _ _ _ ⟨_, _, rfl⟩).mono ?_; rintro r w2 ⟨rfl, rfl⟩)
    | (go_at_call 23; refine CT.out.mono ?_; rintro r w3 ⟨rfl, B3⟩; replace B3 := hide (show Below w.heap.size w w3 from bto (bplus (Below.refl _ _) _) B3)))
  go_ret2
  exact ⟨_, _, rfl, .inl ⟨fun d hd => (by cases hd), rfl, rfl⟩, B3.out⟩
theorem dcl_ne (s : ByteArray) (l : List VT) (imp : Bool) : dclT s l imp ≠ [] := by unfold dclT; simp
theorem dsT_ne {ds : List DT} (h : ds ≠ []) : dsT ds ≠ [] := by
  cases ds with
  | nil => exact absurd rfl h
  | cons d r =>
    unfold dsT
    rw [List.flatMap_cons]
    intro e
    exact dcl_ne _ _ _ (List.append_eq_nil_iff.1 e).1
theorem wtA_id (s : ByteArray) : wtA (idT s) = wtI (idT s) := by unfold wtA idT wtI; simp
theorem wId_by' (s : ByteArray) : By (wId (bl s)) := wId_by s
theorem dcl_by (s : ByteArray) (l : List VT) (imp : Bool) : By (dclT s l imp) := by
  intro x hx
  unfold dclT at hx
  rw [List.mem_append, List.mem_append, List.mem_append, List.mem_append, spK_one] at hx
  rcases hx with (((hx | hx) | hx) | hx) | hx
  · exact wId_by' s x hx
  · rw [List.mem_singleton] at hx; subst hx; decide
  · exact spA_by _ _ x hx
  · cases imp
    · simp at hx
    · simp at hx; omega
  · rw [List.mem_singleton] at hx; subst hx; decide
theorem dsT_by (ds : List DT) : By (dsT ds) := by
  intro x hx
  unfold dsT at hx
  rw [List.mem_flatMap] at hx
  obtain ⟨d, _, hd⟩ := hx
  exact dcl_by _ _ _ x hd
theorem declsA_any (ds : List DT) (m : Nat) (v : Value) (w : World) (hx : (dsT ds).length ≤ 35184372088000) (hv : DM w v ds) (hB : DB ds m) (hK : KT w) (hT : Tabs w) :
    Calls Tryz.prog 11 #[v] w fun e w' => PostDs ds w e w' := by
  by_cases h : ds = []
  · subst h
    obtain ⟨a, c, rfl, _⟩ := hv.shape
    exact declsNone_any a c w
  · exact declsP_any ds m v w (dsT_ne h) (dsT_by ds) hx hv hB hK hT
/-! ### The reference -/
theorem sp2_id {s u : ByteArray} {c : Int} (h : Sp2 wtA [idT s] u c) : Sp2 wtI [idT s] u c := by
  rcases h with ⟨h1, h2, h3⟩ | h
  · refine .inl ⟨h1, h2, h3.trans ?_⟩
    show spK wtA [idT s] 1 = spK wtI [idT s] 1
    rw [spK_one, spK_one, wtA_id]
  · exact .inr h
def RelDr (ds : List DT) (w : World) (i s : Value) (wr : World) : Prop := ∃ (k : Nat) (t : ByteArray), i = .int .i64 k ∧ s = .string t ∧ k ≤ ds.length ∧ t.size ≤ 35184372088000 ∧ Hid (bl t = dsT (ds.take k) ∧ Below w.heap.size w wr ∧ ∀ d ∈ ds.take k, dcB d.s d.l)
theorem RelDr.mk {ds : List DT} {w : World} {i s : Value} {wr : World} (k : Nat) (t : ByteArray) (h1 : i = .int .i64 k) (h2 : s = .string t) (h3 : k ≤ ds.length) (h4 : t.size ≤ 35184372088000) (h5 : bl t = dsT (ds.take k) ∧ Below w.heap.size w wr ∧ ∀ d ∈ ds.take k, dcB d.s d.l) : RelDr ds w i s wr := ⟨k, t, h1, h2, h3, h4, h5⟩
theorem id_size {s u : ByteArray} {c : Int} (h : Sp2 wtI [idT s] u c) (hs : s.size ≤ 1000000000000) : u.size ≤ 7000000000000 := by
  rcases h with ⟨_, _, h3⟩ | ⟨_, _, rfl⟩
  · have := wId_len s
    rw [← bl_len u, h3]
    show (spK wtI [idT s] 1).length ≤ _
    rw [spK_one]
    show (wId (bl s)).length ≤ _
    omega
  · show 0 ≤ _; omega
theorem sv_size {l : List VT} {u : ByteArray} {c : Int} {m : Nat} (h : SpV l u c) (hB : VB l m) : u.size ≤ 35184372088000 := by
  rcases sv_cases h with ⟨_, _, h3⟩ | ⟨_, _, rfl⟩
  · rw [← bl_len u, h3]; exact hB.len
  · show 0 ≤ _; omega
set_option maxRecDepth 100000 in
set_option maxHeartbeats 1500000 in
theorem declsR_any (ds : List DT) (m : Nat) (v : Value) (w : World) (hx : (dsT ds).length ≤ 35184372088000) (hv : DM w v ds) (hB : DB ds m) (hT : Tabs w) :
    Calls Tryz.prog 12 #[v] w fun e w' => PostDs ds w e w' := by
  obtain ⟨a, c, rfl, h9⟩ := hv.shape
  have HV := hide hv
  have HB := hide hB
  have HX := hide hx
  have HT := hide hT
  clear hv hB hx hT
  go_enter Tryz.func12, Tryz.ntmps12
  go_wp2
  go_loopw [13, 4] (fun i s wr => RelDr ds w i s wr) (fun i _ _ => ds.length - (intOf i).toNat)
  case atStart => exact .mk 0 _ rfl rfl (by omega) (by decide) ⟨rfl, Below.refl _ _, by simp⟩
  case round =>
    obtain ⟨k, t, rfl, rfl, hk, ht9, R⟩ := hrel
    have BE := hide R.out.2.1
    have BT := hide R.out.1
    have A := hide R.out.2.2
    clear R
    by_cases hlt : k < ds.length
    · obtain ⟨d, hd⟩ : ∃ d, ds[k]? = some d := ⟨_, List.getElem?_eq_getElem hlt⟩
      rcases HV.out with ⟨a', c', hv', h0⟩ | ⟨bb, o, c', hv', h0, hb, hc1, hc2, hc3, hcell⟩
      · rw [h0] at hlt; simp at hlt
      obtain ⟨rfl, rfl⟩ : a = some ⟨bb, o, none⟩ ∧ c = c' := by cases hv'; exact ⟨rfl, rfl⟩
      obtain ⟨g0, ⟨u, g1, gv⟩, g2⟩ := hcell k d hd
      obtain ⟨ua, uc, hus, _⟩ := gv.shape
      subst hus
      have hmem : d ∈ ds := List.mem_of_getElem? hd
      have hlt' : (k : Int) < ds.length := by omega
      have e0 := (BE.out.cell (p := ⟨bb, o + k * 3, none⟩) hb).trans g0
      have e1 := (BE.out.cell (p := ⟨bb, o + k * 3 + 1, none⟩) hb).trans g1
      have e2 := (BE.out.cell (p := ⟨bb, o + k * 3 + 2, none⟩) hb).trans g2
      have hbw : bb < wr.heap.size := by have := BE.out.size; omega
      have nb : bb ≠ wr.heap.size := by omega
      have ST := hide (dsT_step hd)
      have LN := hide (show (dsT (ds.take (k + 1))).length ≤ 35184372088000 by have := HX.out; have := dsT_le ds (k + 1); omega)
      have TK := hide (show ds.take (k + 1) = ds.take k ++ [d] by obtain ⟨h, rfl⟩ := List.getElem?_eq_some_iff.1 hd; exact List.take_succ_eq_append_getElem h)
      have SS := hide (HB.out.sz d hmem)
      have SV := hide (HB.out.vb d hmem)
      have CT := hide (fun (V : World) (h : Below w.heap.size w V) => token4_any (idT d.s) V (idT_ok d.s (by have := SS.out; omega)) (HT.out.below h))
      have CV := hide (fun (V : World) (h : Below w.heap.size w V) => valuesR_any d.l m (.slice ua d.l.length uc) V (gv.low h) SV.out (HT.out.below h))
      have MM := hide hmem
      obtain ⟨ds', hds'⟩ : ∃ x, d.s = x := ⟨_, rfl⟩
      have DS := hide hds'
      unfold idT TS.v tokV at CT
      simp only at CT
      rw [hds'] at e0 CT
      clear hcell g0 g1 g2 gv hv' hd hmem hds'
      have BX := hide (show (wr.alloc (.cells #[.string ds', .slice ua d.l.length uc, .bool d.imp] 45)).heap[wr.heap.size]? = some (.cells #[.string ds', .slice ua d.l.length uc, .bool d.imp] 45) from heap_alloc_new wr _)
      go_wp2_with (go_at_call 26; refine (CT.out _ (bplus BE.out _)).mono ?_; rintro e w1 ⟨u1, c1, rfl, H1, B1⟩; replace H1 := hide (sp2_id (s := ds') H1.out); replace BX := hide ((B1.block _ (Array.getElem?_eq_some_iff.1 BX.out).1).trans BX.out); replace BE := hide (bto (bplus BE.out _) B1); clear B1; obtain ⟨q0, q1, q2⟩ := bxd_at BX.out)
      go_at_call 9
      refine (CV.out _ BE.out).mono ?_
      rintro e w2 ⟨u4, c4, rfl, H4, B4⟩
      replace BX := hide ((B4.block _ (Array.getElem?_eq_some_iff.1 BX.out).1).trans BX.out)
      replace BE := hide (bto BE.out B4)
      clear B4 q0 q1 q2
      obtain ⟨q0, q1, q2⟩ := bxd_at BX.out
      have z1 := id_size H1.out (by rw [← DS.out]; exact SS.out)
      have z4 := sv_size H4 SV.out
      have FB := hide (fun (h : ¬ dcB ds' d.l) => show ¬ ∀ x ∈ ds, dcB x.s x.l from fun g => h (by rw [← DS.out]; exact g d MM.out))
      rcases id_cases H1.out with ⟨hi, rfl, hu1⟩ | ⟨hi, rfl, rfl⟩
      case inr =>
        have F := hide (FB.out (fun h => (by have := h.1; rw [hi] at this; cases this)))
        clear hi H1 H4 CT CV
        go_wp2
        all_goals
          go_ret2
          exact ⟨_, _, rfl, .inr ⟨F.out, rfl, rfl⟩, BE.out⟩
      rcases sv_cases H4 with ⟨hv, rfl, hu4⟩ | ⟨hv, rfl, rfl⟩
      case inr =>
        have F := hide (FB.out (fun h => hv h.2))
        clear hi H1 H4 CT CV hv hu1
        go_wp2
        all_goals
          go_ret2
          exact ⟨_, _, rfl, .inr ⟨F.out, rfl, rfl⟩, BE.out⟩
      have U := hide (show dclT d.s d.l d.imp = (((bl u1 ++ [58]) ++ bl u4) ++ (if d.imp then [32, 33, 105, 109, 112, 111, 114, 116, 97, 110, 116] else [])) ++ [59] by unfold dclT; rw [DS.out, hu1, hu4])
      have D1 := hide (show dcB d.s d.l by rw [DS.out]; exact ⟨hi, hv⟩)
      have AL := hide (show ∀ e ∈ ds.take (k + 1), dcB e.s e.l from fun e he => by rw [TK.out, List.mem_append, List.mem_singleton] at he; rcases he with he | rfl; exact A.out e he; exact D1.out)
      clear hi hv H1 H4 CT CV hu1 hu4 FB
      cases hi : d.imp
      · rw [hi] at q2 U
        have FIN := hide (fun (x : ByteArray) (h : bl x = (bl t ++ ((bl u1 ++ [58]) ++ bl u4)) ++ [59]) => show bl x = dsT (ds.take (k + 1)) by rw [h, ST.out, hi, U.out, BT.out]; simp)
        clear hi
        go_wp2
        go_roundw
        case rel => exact .mk (k + 1) _ (by go_num) rfl (by omega) (by rw [← bl_len, FIN.out _ (by simp only [bl_app]; rfl)]; exact LN.out) ⟨FIN.out _ (by simp only [bl_app]; rfl), BE.out, AL.out⟩
        case measure => simp [intOf]; omega
      · rw [hi] at q2 U
        have FIN := hide (fun (x : ByteArray) (h : bl x = ((bl t ++ ((bl u1 ++ [58]) ++ bl u4)) ++ [32, 33, 105, 109, 112, 111, 114, 116, 97, 110, 116]) ++ [59]) => show bl x = dsT (ds.take (k + 1)) by rw [h, ST.out, hi, U.out, BT.out]; simp)
        clear hi
        go_wp2
        go_roundw
        case rel => exact .mk (k + 1) _ (by go_num) rfl (by omega) (by rw [← bl_len, FIN.out _ (by simp only [bl_app]; rfl)]; exact LN.out) ⟨FIN.out _ (by simp only [bl_app]; rfl), BE.out, AL.out⟩
        case measure => simp [intOf]; omega
    · have hlt' : ¬ (k : Int) < ds.length := by omega
      have TK := hide (show ds.take k = ds from List.take_of_length_le (by omega))
      go_wp2
      go_ret2
      exact ⟨_, _, rfl, .inl ⟨fun d hd => A.out d (by rw [TK.out]; exact hd), rfl, by rw [BT.out, TK.out]⟩, BE.out⟩
end Go.Proofs.YtbdacepomdlcbaaGreatDoor
set_option linter.unusedVariables false
namespace Go.Proofs.YtbdacepomdlcbaaGreatDoor.prv
open Go.ChangeShapes Go.WideShapes Go.ChangeAt Go.RowKit Go.Joins
open Go.ChangeMaps (open_string shut_string)

theorem own : ownKnob Tryz.prog.godebug = none := by kernel_rfl
theorem laidOut : laidOutB Tryz.prog = true := by kernel_rfl
theorem one_le {H : Type} (d : DataW H) : 1 ≤ Rows.uptoBulk d := by
  cases d with
  | lit l => cases l <;> simp [Rows.uptoBulk]
  | nil => simp [Rows.uptoBulk]
  | ptr d => simp [Rows.uptoBulk]
  | slice elems spare => simp [Rows.uptoBulk]
  | agg parts => simp [Rows.uptoBulk]
  | iface t d => simp [Rows.uptoBulk]
  | map entries => simp [Rows.uptoBulk]
  | held h => simp [Rows.uptoBulk]
theorem length_le {H : Type} (l : List (DataW H)) : l.length ≤ Rows.uptoBulkAll l := by
  induction l with
  | nil => simp [Rows.uptoBulkAll]
  | cons x r ih => have := one_le x; simp only [Rows.uptoBulkAll, List.length_cons]; omega
theorem mem_le {H : Type} {l : List (DataW H)} {d : DataW H} (h : d ∈ l) : Rows.uptoBulk d ≤ Rows.uptoBulkAll l := by
  induction l with
  | nil => cases h
  | cons x r ih =>
    simp only [Rows.uptoBulkAll]
    rcases List.mem_cons.1 h with rfl | h
    · omega
    · have := ih h; omega
theorem bulkT {H : Type} (k : Int) (s : ByteArray) (n d : Int) (i h : Bool) : s.size ≤ Rows.uptoBulk (tokD (H := H) k s n d i h) := by
  unfold tokD
  simp only [Rows.uptoBulk, Rows.uptoBulkAll]
  have e : s.data.toList.length = s.size := by rw [Array.length_toList]; rfl
  omega
instance : Inhabited (VT × Value) := ⟨(.mk ⟨0, ⟨#[]⟩, 0, 0, false, false⟩ [], .bool false)⟩
set_option maxRecDepth 100000 in
theorem tok_core {H : Type} {enc : TypeId × Value → H} {W : World} {base : Nat} {sp : Nat → Bool} {held : Bool} {cs : List Value} {x : DataW H × List MemPlace} {fuel : Nat} (hl : cs.length = 6)
    (hf : DataW.trod enc Tryz.prog W base sp held fuel 41 cs = some x) :
    ∃ k s n d i h, cs = [.int .i64 k, .string s, .int .i64 n, .int .i64 d, .bool i, .bool h] ∧ x.1 = tokD k s n d i h ∧ (Lit.int .i64 k).wf = true ∧ s.size ≤ maxLen ∧ (Lit.int .i64 n).wf = true ∧ (Lit.int .i64 d).wf = true := by
  match cs, hl with
  | [c0, c1, c2, c3, c4, c5], _ =>
    obtain ⟨xs, m, _, hx, _, hl', hq⟩ := DataW.trod_struct Tryz.underlying41 hf
    match xs, hl' with
    | [y0, y1, y2, y3, y4], _ =>
      have q0' : DataW.trod enc Tryz.prog W base sp held m 3 (([c0, c1, c2, c3, c4, c5].drop 0).take (Tryz.prog.cellsOf 3)) = some y0 := hq 0 _ rfl
      rw [cI] at q0'
      have q0 : DataW.trod enc Tryz.prog W base sp held m 3 [c0] = some y0 := q0'
      have q1' : DataW.trod enc Tryz.prog W base sp held m 9 (([c0, c1, c2, c3, c4, c5].drop 1).take (Tryz.prog.cellsOf 9)) = some y1 := hq 1 _ rfl
      rw [cS] at q1'
      have q1 : DataW.trod enc Tryz.prog W base sp held m 9 [c1] = some y1 := q1'
      have q2' : DataW.trod enc Tryz.prog W base sp held m 39 (([c0, c1, c2, c3, c4, c5].drop 2).take (Tryz.prog.cellsOf 39)) = some y2 := hq 2 _ rfl
      rw [cR] at q2'
      have q2 : DataW.trod enc Tryz.prog W base sp held m 39 [c2, c3] = some y2 := q2'
      have q3' : DataW.trod enc Tryz.prog W base sp held m 4 (([c0, c1, c2, c3, c4, c5].drop 4).take (Tryz.prog.cellsOf 4)) = some y3 := hq 3 _ rfl
      rw [cB] at q3'
      have q3 : DataW.trod enc Tryz.prog W base sp held m 4 [c4] = some y3 := q3'
      have q4' : DataW.trod enc Tryz.prog W base sp held m 4 (([c0, c1, c2, c3, c4, c5].drop 5).take (Tryz.prog.cellsOf 4)) = some y4 := hq 4 _ rfl
      rw [cB] at q4'
      have q4 : DataW.trod enc Tryz.prog W base sp held m 4 [c5] = some y4 := q4'
      obtain ⟨k, ek, rfl, wk⟩ := DataW.trod_int Tryz.underlying3 q0
      obtain ⟨s, es, rfl, ws⟩ := DataW.trod_string Tryz.underlying9 q1
      obtain ⟨i, ei, rfl⟩ := DataW.trod_bool Tryz.underlying4 q3
      obtain ⟨h, eh, rfl⟩ := DataW.trod_bool Tryz.underlying4 q4
      obtain ⟨ys, m2, _, hy, _, hl2, hq2⟩ := DataW.trod_struct Tryz.underlying39 q2
      match ys, hl2 with
      | [u0, u1], _ =>
        have r0' : DataW.trod enc Tryz.prog W base sp held m2 2 (([c2, c3].drop 0).take (Tryz.prog.cellsOf 2)) = some u0 := hq2 0 _ rfl
        rw [cL] at r0'
        have r0 : DataW.trod enc Tryz.prog W base sp held m2 2 [c2] = some u0 := r0'
        have r1' : DataW.trod enc Tryz.prog W base sp held m2 2 (([c2, c3].drop 1).take (Tryz.prog.cellsOf 2)) = some u1 := hq2 1 _ rfl
        rw [cL] at r1'
        have r1 : DataW.trod enc Tryz.prog W base sp held m2 2 [c3] = some u1 := r1'
        obtain ⟨n, en, rfl, wn⟩ := DataW.trod_int Tryz.underlying2 r0
        obtain ⟨d, ed, rfl, wd⟩ := DataW.trod_int Tryz.underlying2 r1
        simp at ek es ei eh en ed
        subst ek es ei eh en ed
        subst hy
        exact ⟨k, s, n, d, i, h, rfl, by rw [hx]; rfl, wk, ws, wn, wd⟩
theorem cV : Tryz.prog.cellsOf 43 = 7 := by kernel_rfl
theorem cK' : Tryz.prog.cellsOf 22 = 1 := by kernel_rfl
theorem fl_all {P : TS → Prop} (l : List VT) (h : ∀ v ∈ l, P v.t ∧ ∀ t ∈ flL v.ks, P t) (hz : ∀ c, P (zT (cKn c))) : ∀ t ∈ flL l, P t := by
  induction l with
  | nil => intro t ht; rw [flL_nil] at ht; cases ht
  | cons v r ih =>
    intro t ht
    obtain ⟨h1, h2⟩ := h v (by simp)
    rw [flL_cons, List.mem_cons, List.mem_append, List.mem_append] at ht
    rcases ht with rfl | ht | ht | ht
    · exact h1
    · exact h2 t ht
    · unfold clT at ht
      split at ht
      · cases ht
      · rw [List.mem_singleton] at ht; subst ht; exact hz _
    · exact ih (fun v hv => h v (by simp [hv])) t ht
theorem sz_all {H : Type} (q : Nat → VT) (D : Nat → DataW H) (is : List Nat) (h : ∀ i ∈ is, szL (q i).ks + 1 ≤ Rows.uptoBulk (D i)) : szL (is.map q) ≤ Rows.uptoBulkAll (is.map D) := by
  induction is with
  | nil => rw [List.map_nil, List.map_nil, szL_nil]; omega
  | cons i r ih =>
    rw [List.map_cons, List.map_cons, szL_cons]
    simp only [Rows.uptoBulkAll]
    have h1 := h i (by simp)
    have h2 := ih (fun j hj => h j (by simp [hj]))
    omega
def Fine (t : TS) : Prop := t.Ok ∧ t.s.size ≤ 1048576
theorem zT_fine (c : Int) : Fine (zT (cKn c)) := by
  have : 0 ≤ cKn c ∧ cKn c ≤ 24 := by unfold cKn; split <;> (try split) <;> (try split) <;> omega
  refine ⟨⟨?_, ?_, ?_, ?_, ?_, ?_, ?_⟩, ?_⟩
  all_goals first | (show _ ≤ cKn c; omega) | (show cKn c ≤ _; omega) | (show (0 : Nat) ≤ _; omega) | (show _ ≤ (0 : Int); omega) | (show (0 : Int) ≤ _; omega)
/-- A slice of values that comes in. -/
theorem vals_open {H : Type} {enc : TypeId × Value → H} {W : World} {held : Bool} (N : Nat) : ∀ (c : Value) (fuel : Nat) (x : DataW H × List MemPlace),
    DataW.trod enc Tryz.prog W 0 (fun _ => true) held fuel 22 [c] = some x → Rows.uptoBulk x.1 ≤ N → N ≤ 1048576 →
    ∃ l : List VT, VM W c l ∧ szL l ≤ Rows.uptoBulk x.1 ∧ ∀ t ∈ flL l, Fine t := by
  induction N with
  | zero => intro c fuel x hf hb; have := one_le x.1; omega
  | succ N ih =>
    intro c fuel x hf hb hN
    rcases Go.Deep.open_slice Tryz.underlying22 hf with ⟨hcs, hx⟩ | ⟨a1, len, cap, m, n, D, Pl, hcs, _, hl, hm, hmm, hx, each⟩
    · simp at hcs
      subst hcs
      exact ⟨[], .nil _ _, by rw [szL_nil]; omega, fun t ht => by rw [flL_nil] at ht; cases ht⟩
    · simp at hcs
      subst hcs
      simp only [if_true] at hmm
      subst hmm
      rw [hx] at hb ⊢
      simp only [Rows.uptoBulk] at hb ⊢
      have hlen := length_le ((List.range len).map D)
      rw [List.length_map, List.length_range] at hlen
      have hcap := length_le ((List.range (m - len)).map fun j => D (len + j))
      rw [List.length_map, List.length_range] at hcap
      have each2 : ∀ i, i < len → ∃ p : VT × Value, (∀ j, j < 7 → W.cell? ((a1.add (i * 7)).add j) = [Value.int .i64 p.1.t.k, .string p.1.t.s, .int .i64 p.1.t.n, .int .i64 p.1.t.d, .bool p.1.t.i, .bool p.1.t.h, p.2][j]?) ∧ Fine p.1.t ∧ VM W p.2 p.1.ks ∧ szL p.1.ks + 1 ≤ Rows.uptoBulk (D i) ∧ ∀ t ∈ flL p.1.ks, Fine t := by
        intro i hi
        obtain ⟨cs, h1, h2⟩ := each i (by omega)
        rw [cV] at h1
        obtain ⟨_, hcl, hcell⟩ := World.cells?_some h1
        have hm2 := mem_le (d := D i) (l := (List.range len).map D) (List.mem_map.2 ⟨i, List.mem_range.2 hi, rfl⟩)
        match cs, hcl with
        | [c0, c1, c2, c3, c4, c5, c6], _ =>
          obtain ⟨xs, k', _, hx', _, hl', hq⟩ := DataW.trod_struct Tryz.underlying43 h2
          match xs, hl' with
          | [y0, y1], _ =>
            have q0' : DataW.trod enc Tryz.prog W 0 (fun _ => true) held k' 41 (([c0, c1, c2, c3, c4, c5, c6].drop 0).take (Tryz.prog.cellsOf 41)) = some y0 := hq 0 _ rfl
            rw [cT] at q0'
            have q0 : DataW.trod enc Tryz.prog W 0 (fun _ => true) held k' 41 [c0, c1, c2, c3, c4, c5] = some y0 := q0'
            have q1' : DataW.trod enc Tryz.prog W 0 (fun _ => true) held k' 22 (([c0, c1, c2, c3, c4, c5, c6].drop 6).take (Tryz.prog.cellsOf 22)) = some y1 := hq 1 _ rfl
            rw [cK'] at q1'
            have q1 : DataW.trod enc Tryz.prog W 0 (fun _ => true) held k' 22 [c6] = some y1 := q1'
            obtain ⟨k, s, n', d, b1, b2, hcs6, hD, wk, ws, wn, wd⟩ := tok_core rfl q0
            simp only [List.cons.injEq, and_true] at hcs6
            obtain ⟨rfl, rfl, rfl, rfl, rfl, rfl⟩ := hcs6
            have hDi : D i = .agg [y0.1, y1.1] := by simpa using congrArg Prod.fst hx'
            have hbk : Rows.uptoBulk (D i) = Rows.uptoBulk y0.1 + Rows.uptoBulk y1.1 + 1 := by rw [hDi]; simp [Rows.uptoBulk, Rows.uptoBulkAll]
            have hs := bulkT (H := H) k s n' d b1 b2
            rw [← hD] at hs
            have o0 := one_le y0.1
            obtain ⟨ks, hvm, hsz, hfine⟩ := ih c6 k' y1 q1 (by omega) (by omega)
            obtain ⟨x1, x2⟩ := bounds_i64 wk
            obtain ⟨x3, x4⟩ := bounds_i64 wn
            obtain ⟨x5, x6⟩ := bounds_i64 wd
            exact ⟨(.mk ⟨k, s, n', d, b1, b2⟩ ks, c6), hcell, ⟨⟨x1, x2, by show s.size ≤ _; omega, x3, x4, x5, x6⟩, by show s.size ≤ _; omega⟩, hvm, by show szL ks + 1 ≤ _; omega, hfine⟩
      obtain ⟨q, hq⟩ := Go.Deep.choose_lt each2
      have hsz := sz_all (fun i => (q i).1) D (List.range len) (fun i hi => (hq i (List.mem_range.1 hi)).2.2.2.1)
      refine ⟨(List.range len).map fun i => (q i).1, ?_, by omega, ?_⟩
      · by_cases h0 : len = 0
        · subst h0; exact .nil _ _
        · obtain ⟨b, off, spot⟩ := a1
          have c00 := (hq 0 (by omega)).1 0 (by omega)
          have hspot : spot = none := by simpa [Addr.add] using World.cell?_spot c00
          subst hspot
          have hll : ((List.range len).map fun i => (q i).1).length = len := by simp
          have IX : ∀ i v, ((List.range len).map fun i => (q i).1)[i]? = some v → i < len ∧ (q i).1 = v := fun i v hi => by
            have hil : i < len := by
              have := (List.getElem?_eq_some_iff.1 hi).1
              simpa using this
            refine ⟨hil, ?_⟩
            rw [List.getElem?_map, List.getElem?_range hil] at hi
            simpa using hi
          have g : ∀ i, i < len → ∀ j, j < 7 → W.cell? ⟨b, off + i * 7 + j, none⟩ = [Value.int .i64 (q i).1.t.k, .string (q i).1.t.s, .int .i64 (q i).1.t.n, .int .i64 (q i).1.t.d, .bool (q i).1.t.i, .bool (q i).1.t.h, (q i).2][j]? := fun i hi j hj => by
            have := (hq i hi).1 j hj
            rwa [Addr.add_lit, Addr.add_lit] at this
          have R := VM.row (w := W) b off m ((List.range len).map fun i => (q i).1) (fun i => (q i).2) (by rw [hll]; omega) (by have k := World.block_lt_of_cell? _ _ c00; simpa [Addr.add] using k) (by rw [hll]; exact hl) (by rw [hll]; omega) (by unfold maxLen at hm; omega)
            (fun i v hi => by obtain ⟨hil, rfl⟩ := IX i v hi; have := g i hil; exact ⟨this 0 (by omega), this 1 (by omega), this 2 (by omega), this 3 (by omega), this 4 (by omega), this 5 (by omega)⟩)
            (fun i v hi => by obtain ⟨hil, rfl⟩ := IX i v hi; exact g i hil 6 (by omega))
            (fun i v hi => by obtain ⟨hil, rfl⟩ := IX i v hi; exact (hq i hil).2.2.1)
          rw [hll] at R
          exact R
      · refine fl_all _ (fun v hv => ?_) zT_fine
        obtain ⟨i, hi, rfl⟩ := List.mem_map.1 hv
        have := hq i (List.mem_range.1 hi)
        exact ⟨this.2.1, this.2.2.2.2⟩
theorem fine_VB {l : List VT} {n : Nat} (h : ∀ t ∈ flL l, Fine t) (hn : szL l ≤ n) (hb : n ≤ 1048576) : VB l 1048576 := by
  refine ⟨fun t ht => (h t ht).1, fun t ht => (h t ht).2, ?_, by omega⟩
  have := fl_len l
  exact Nat.le_trans (Nat.mul_le_mul_right _ (show (flL l).length ≤ 2097152 by omega)) (by decide)
end Go.Proofs.YtbdacepomdlcbaaGreatDoor.prv
set_option linter.unusedVariables false
namespace Go.Proofs.YtbdacepomdlcbaaGreatDoor
open Go.RowKit Go.Shelf
theorem spd_eq {ds : List DT} {s u : ByteArray} {c d : Int} (h : SpD ds s c) (k : SpD ds u d) : u = s ∧ d = c := by
  rcases h with ⟨h1, h2, h3⟩ | ⟨h1, h2, h3⟩ <;> rcases k with ⟨k1, k2, k3⟩ | ⟨k1, k2, k3⟩
  · exact ⟨bl_inj (k3.trans h3.symm), k2.trans h2.symm⟩
  · exact absurd h1 k1
  · exact absurd k1 h1
  · exact ⟨k3.trans h3.symm, k2.trans h2.symm⟩
set_option maxRecDepth 100000 in
set_option maxHeartbeats 1000000 in
theorem law_decls6 (ds : List DT) (m : Nat) (v : Value) (w : World) (hx : (dsT ds).length ≤ 35184372088000) (hv : DM w v ds) (hB : DB ds m) (hK : KT w) (hT : Tabs w) :
    Calls Tryz.prog 4 #[v] w fun e w' => e = .returned (.bool true) ∧ Below w.heap.size w w' := by
  have C1 := hide (declsA_any ds m v w hx hv hB hK hT)
  have C2 := hide (fun (W : World) (h : Below w.heap.size w W) => declsR_any ds m v W hx (hv.low h) hB (hT.below h))
  have C3 := hide (fun (W : World) (h : Below w.heap.size w W) => awake6_any W (hK.below h) (hT.below h))
  obtain ⟨a, c, rfl, _⟩ := hv.shape
  clear hK hT hv hB hx
  go_enter Tryz.func4, Tryz.ntmps4
  go_wp2_with (first
    | (go_at_call 11; refine C1.out.mono ?_; rintro e w1 ⟨u, c1, rfl, H, B1⟩; replace B1 := hide B1; replace H := hide H)
    | (go_at_call 12; refine (C2.out _ B1.out).mono ?_; rintro e w2 ⟨x, f, rfl, H2, B2⟩; obtain ⟨rfl, rfl⟩ := spd_eq H.out H2; replace B1 := hide (bto B1.out B2); clear B2 H2)
    | (go_at_call 10; refine (C3.out _ B1.out).mono ?_; rintro e w3 ⟨rfl, B3⟩; replace B1 := hide (bto B1.out B3)))
  go_ret
  exact ⟨rfl, B1.out⟩
end Go.Proofs.YtbdacepomdlcbaaGreatDoor
namespace Go.Proofs.YtbdacepomdlcbaaGreatDoor.prv
open Go.ChangeShapes Go.WideShapes Go.ChangeAt Go.RowKit Go.Joins
theorem cD : Tryz.prog.cellsOf 45 = 3 := by kernel_rfl
instance : Inhabited (DT × Value) := ⟨(⟨⟨#[]⟩, [], false⟩, .bool false)⟩
/-- What a declaration holds: bounds. -/
structure FineD (d : DT) (n : Nat) : Prop where
  sz : d.s.size ≤ n
  cn : szL d.l ≤ n
  fine : ∀ t ∈ flL d.l, Fine t
  one : 1 ≤ n
theorem FineD.len {d : DT} {n : Nat} (h : FineD d n) (hn : n ≤ 1048576) : (dclT d.s d.l d.imp).length ≤ 12583341 * n := by
  have B := fine_VB h.fine h.cn hn
  have h1 := spA_len (flL d.l) 1048576 B.ok B.sz (flL d.l).length
  have h2 := fl_len d.l
  have h3 := h.cn
  have h4 := wId_len d.s
  have h5 := h.sz
  have h6 := h.one
  have h7 : (flL d.l).length * (6 * 1048576 + 204) ≤ (2 * n) * (6 * 1048576 + 204) := Nat.mul_le_mul_right _ (by omega)
  have h8 : (if d.imp then ([32, 33, 105, 109, 112, 111, 114, 116, 97, 110, 116] : List Int) else []).length ≤ 11 := by cases d.imp <;> decide
  unfold dclT
  rw [List.length_append, List.length_append, List.length_append, List.length_append, spK_one]
  have h9 : (wtI (idT d.s)).length ≤ 6 * d.s.size + 2 := h4
  simp only [List.length_singleton]
  omega
theorem ds_len {H : Type} (q : Nat → DT) (D : Nat → DataW H) (is : List Nat) (h : ∀ i ∈ is, (dclT (q i).s (q i).l (q i).imp).length ≤ 12583341 * Rows.uptoBulk (D i)) : (dsT (is.map q)).length ≤ 12583341 * Rows.uptoBulkAll (is.map D) := by
  induction is with
  | nil => simp [dsT]
  | cons i r ih =>
    have h1 := h i (by simp)
    have h2 := ih (fun j hj => h j (by simp [hj]))
    have e : dsT ((i :: r).map q) = dclT (q i).s (q i).l (q i).imp ++ dsT (r.map q) := by simp [dsT]
    rw [e, List.length_append, List.map_cons]
    simp only [Rows.uptoBulkAll]
    omega
/-- A slice of declarations that comes in. -/
theorem decls_open {H : Type} {enc : TypeId × Value → H} {W : World} {held : Bool} (c : Value) (fuel : Nat) (x : DataW H × List MemPlace)
    (hf : DataW.trod enc Tryz.prog W 0 (fun _ => true) held fuel 28 [c] = some x) (hN : Rows.uptoBulk x.1 ≤ 1048576) :
    ∃ ds : List DT, DM W c ds ∧ (dsT ds).length ≤ 12583341 * Rows.uptoBulk x.1 ∧ ∀ d ∈ ds, FineD d (Rows.uptoBulk x.1) := by
  rcases Go.Deep.open_slice Tryz.underlying28 hf with ⟨hcs, hx⟩ | ⟨a1, len, cap, m, n, D, Pl, hcs, _, hl, hm, hmm, hx, each⟩
  · simp at hcs
    subst hcs
    exact ⟨[], .inl ⟨_, _, rfl, rfl⟩, by simp [dsT], fun d hd => by cases hd⟩
  · simp at hcs
    subst hcs
    simp only [if_true] at hmm
    subst hmm
    rw [hx] at hN ⊢
    simp only [Rows.uptoBulk] at hN ⊢
    have hlen := length_le ((List.range len).map D)
    rw [List.length_map, List.length_range] at hlen
    have hcap := length_le ((List.range (m - len)).map fun j => D (len + j))
    rw [List.length_map, List.length_range] at hcap
    have each2 : ∀ i, i < len → ∃ p : DT × Value, (∀ j, j < 3 → W.cell? ((a1.add (i * 3)).add j) = [Value.string p.1.s, p.2, .bool p.1.imp][j]?) ∧ VM W p.2 p.1.l ∧ FineD p.1 (Rows.uptoBulk (D i)) := by
      intro i hi
      obtain ⟨cs, h1, h2⟩ := each i (by omega)
      rw [cD] at h1
      obtain ⟨_, hcl, hcell⟩ := World.cells?_some h1
      have hm2 := mem_le (d := D i) (l := (List.range len).map D) (List.mem_map.2 ⟨i, List.mem_range.2 hi, rfl⟩)
      match cs, hcl with
      | [c0, c1, c2], _ =>
        obtain ⟨xs, k', _, hx', _, hl', hq⟩ := DataW.trod_struct Tryz.underlying45 h2
        match xs, hl' with
        | [y0, y1, y2], _ =>
          have q0' : DataW.trod enc Tryz.prog W 0 (fun _ => true) held k' 9 (([c0, c1, c2].drop 0).take (Tryz.prog.cellsOf 9)) = some y0 := hq 0 _ rfl
          rw [cS] at q0'
          have q0 : DataW.trod enc Tryz.prog W 0 (fun _ => true) held k' 9 [c0] = some y0 := q0'
          have q1' : DataW.trod enc Tryz.prog W 0 (fun _ => true) held k' 22 (([c0, c1, c2].drop 1).take (Tryz.prog.cellsOf 22)) = some y1 := hq 1 _ rfl
          rw [cK'] at q1'
          have q1 : DataW.trod enc Tryz.prog W 0 (fun _ => true) held k' 22 [c1] = some y1 := q1'
          have q2' : DataW.trod enc Tryz.prog W 0 (fun _ => true) held k' 4 (([c0, c1, c2].drop 2).take (Tryz.prog.cellsOf 4)) = some y2 := hq 2 _ rfl
          rw [cB] at q2'
          have q2 : DataW.trod enc Tryz.prog W 0 (fun _ => true) held k' 4 [c2] = some y2 := q2'
          obtain ⟨s, es, hy0, ws⟩ := DataW.trod_string Tryz.underlying9 q0
          obtain ⟨b, eb, hy2⟩ := DataW.trod_bool Tryz.underlying4 q2
          simp at es eb
          subst es eb
          have hDi : D i = .agg [y0.1, y1.1, y2.1] := by simpa using congrArg Prod.fst hx'
          have hbk : Rows.uptoBulk (D i) = Rows.uptoBulk y0.1 + (Rows.uptoBulk y1.1 + Rows.uptoBulk y2.1) + 1 := by rw [hDi]; simp [Rows.uptoBulk, Rows.uptoBulkAll]
          have hs : s.size ≤ Rows.uptoBulk y0.1 := by
            rw [hy0]
            simp only [Rows.uptoBulk]
            have e : s.data.toList.length = s.size := by rw [Array.length_toList]; rfl
            omega
          obtain ⟨ks, hvm, hsz, hfine⟩ := vals_open 1048576 c1 k' y1 q1 (by omega) (Nat.le_refl _)
          exact ⟨(⟨s, ks, b⟩, c1), hcell, hvm, ⟨by show s.size ≤ _; omega, by show szL ks ≤ _; omega, hfine, by omega⟩⟩
    obtain ⟨q, hq⟩ := Go.Deep.choose_lt each2
    have hle : ∀ i, i < len → Rows.uptoBulk (D i) ≤ Rows.uptoBulkAll ((List.range len).map D) := fun i hi => mem_le (List.mem_map.2 ⟨i, List.mem_range.2 hi, rfl⟩)
    have hsz := ds_len (fun i => (q i).1) D (List.range len) (fun i hi => (hq i (List.mem_range.1 hi)).2.2.len (by have := hle i (List.mem_range.1 hi); omega))
    refine ⟨(List.range len).map fun i => (q i).1, ?_, by omega, ?_⟩
    · by_cases h0 : len = 0
      · subst h0; exact .inl ⟨_, _, rfl, rfl⟩
      · obtain ⟨b, off, spot⟩ := a1
        have c00 := (hq 0 (by omega)).1 0 (by omega)
        have hspot : spot = none := by simpa [Addr.add] using World.cell?_spot c00
        subst hspot
        have hll : ((List.range len).map fun i => (q i).1).length = len := by simp
        refine .inr ⟨b, off, m, by rw [hll], by rw [hll]; omega, by have k := World.block_lt_of_cell? _ _ c00; simpa [Addr.add] using k, by rw [hll]; exact hl, by rw [hll]; omega, by unfold maxLen at hm; omega, fun i d hi => ?_⟩
        have hil : i < len := by
          have := (List.getElem?_eq_some_iff.1 hi).1
          simpa using this
        have hd : (q i).1 = d := by
          rw [List.getElem?_map, List.getElem?_range hil] at hi
          simpa using hi
        subst hd
        have g : ∀ j, j < 3 → W.cell? ⟨b, off + i * 3 + j, none⟩ = [Value.string (q i).1.s, (q i).2, .bool (q i).1.imp][j]? := fun j hj => by
          have := (hq i hil).1 j hj
          rwa [Addr.add_lit, Addr.add_lit] at this
        exact ⟨g 0 (by omega), ⟨_, g 1 (by omega), (hq i hil).2.1⟩, g 2 (by omega)⟩
    · intro d hd
      obtain ⟨i, hi, rfl⟩ := List.mem_map.1 hd
      have f := (hq i (List.mem_range.1 hi)).2.2
      have := hle i (List.mem_range.1 hi)
      exact ⟨by have := f.sz; omega, by have := f.cn; omega, f.fine, by have := f.one; omega⟩
theorem fine_DB {ds : List DT} {n : Nat} (h : ∀ d ∈ ds, FineD d n) (hb : n ≤ 1048576) : DB ds 1048576 :=
  ⟨fun d hd => by have := (h d hd).sz; omega, fun d hd => fine_VB (h d hd).fine (h d hd).cn hb⟩
end Go.Proofs.YtbdacepomdlcbaaGreatDoor.prv
