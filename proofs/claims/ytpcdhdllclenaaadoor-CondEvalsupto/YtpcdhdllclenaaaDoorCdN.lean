/-
  A leaf's truth, by where its name stands in a list: the closure.
-/
import Derived.Test.YtpcdhdllclenaaaDoorCdF
import Derived.BigQuiet
import Derived.Lib.Strings
import Derived.WideShapes
set_option linter.unusedVariables false
set_option linter.unusedSimpArgs false
namespace Go.Proofs.YtpcdhdllclenaaaDoor.cd
open Go.RowKit

/-- What stands where the name stands. -/
def byF : List ByteArray → List Int → ByteArray → Int
  | n :: ns, t :: ts, s => if n = s then t else byF ns ts s
  | _, _, _ => 0
def st (l : List ByteArray) (i : Nat) : ByteArray := l.getD i ⟨#[]⟩
theorem st_eq {l : List ByteArray} {i : Nat} (h : i < l.length) : st l i = l[i] := by simp [st, List.getD_eq_getElem?_getD, List.getElem?_eq_getElem h]
theorem drop_st {l : List ByteArray} {i : Nat} (h : i < l.length) : l.drop i = st l i :: l.drop (i + 1) := by rw [st_eq h]; exact List.drop_eq_getElem_cons h
theorem byF_end {ns : List ByteArray} {ts : List Int} {s : ByteArray} {k : Nat} (h : ns.length ≤ k ∨ ts.length ≤ k) : byF (ns.drop k) (ts.drop k) s = 0 := by
  rcases h with h | h
  · rw [List.drop_of_length_le h]; cases ts.drop k <;> rfl
  · rw [List.drop_of_length_le h]; cases ns.drop k <;> rfl
/-- A slice of texts in memory. -/
def Strs (w : World) (v : Value) (l : List ByteArray) : Prop :=
  (∃ a c, v = .slice a 0 c ∧ l = []) ∨
  ∃ b o n c, v = .slice (some ⟨b, o, none⟩) n c ∧ n = l.length ∧ 0 < n ∧ b < w.heap.size ∧ n ≤ c ∧ c ≤ 9223372036854775807 ∧ ∀ i, i < n → w.cell? ⟨b, o + i, none⟩ = some (.string (st l i))
theorem Strs.below {w w' : World} {v : Value} {l : List ByteArray} (h : Strs w v l) (hw : Below w.heap.size w w') : Strs w' v l := by
  rcases h with h | ⟨b, o, n, c, h1, h2, h3, h4, h5, h6, h7⟩
  · exact .inl h
  · exact .inr ⟨b, o, n, c, h1, h2, h3, Nat.lt_of_lt_of_le h4 hw.size, h5, h6, fun i hi => (hw.cell (p := ⟨b, o + i, none⟩) h4).trans (h7 i hi)⟩
theorem Strs.shape {w : World} {v : Value} {l : List ByteArray} (h : Strs w v l) : ∃ a c, v = .slice a l.length c ∧ l.length ≤ 9223372036854775807 := by
  rcases h with ⟨a, c, rfl, rfl⟩ | ⟨b, o, n, c, rfl, h2, h3, h4, h5, h6, h7⟩
  · exact ⟨a, c, rfl, by simp⟩
  · exact ⟨_, c, by rw [h2], by omega⟩
theorem Strs.at {w : World} {a : Option Addr} {n c : Nat} {l : List ByteArray} (h : Strs w (.slice a n c) l) {k : Nat} (hk : k < l.length) : ∃ b o, a = some ⟨b, o, none⟩ ∧ b < w.heap.size ∧ w.cell? ⟨b, o + k, none⟩ = some (.string (st l k)) := by
  rcases h with ⟨a', c', h1, h2⟩ | ⟨b, o, n', c', h1, h2, h3, h4, h5, h6, h7⟩
  · subst h2; simp at hk
  · injection h1 with e1 e2 e3
    exact ⟨b, o, e1, h4, h7 k (by omega)⟩
theorem NuW.shape {w : World} {v : Value} {l : List Int} (h : NuW w v l) : ∃ a c, v = .slice a l.length c ∧ l.length ≤ 9223372036854775807 := by
  rcases h with ⟨a, c, rfl, rfl⟩ | ⟨b, o, n, c, rfl, h2, h3, h4, h5, h6, h7⟩
  · exact ⟨a, c, rfl, by simp⟩
  · exact ⟨_, c, by rw [h2], by omega⟩
theorem NuW.at {w : World} {a : Option Addr} {n c : Nat} {l : List Int} (h : NuW w (.slice a n c) l) {k : Nat} (hk : k < l.length) : ∃ b o, a = some ⟨b, o, none⟩ ∧ b < w.heap.size ∧ w.cell? ⟨b, o + k, none⟩ = some (.int .i64 (gt l k)) := by
  rcases h with ⟨a', c', h1, h2⟩ | ⟨b, o, n', c', h1, h2, h3, h4, h5, h6, h7⟩
  · subst h2; simp at hk
  · injection h1 with e1 e2 e3
    exact ⟨b, o, e1, h4, h7 k (by omega)⟩
theorem tl_neC {t1 t2 : ByteArray} (h : ¬ t1 = t2) : ¬ t1.toList = t2.toList := fun e => by
  rw [Lib.toList_data, Lib.toList_data] at e
  exact h (Go.WideShapes.bytes_inj e)
def RelBy (w : World) (ns : List ByteArray) (ts : List Int) (s : ByteArray) (i : Value) (wr : World) : Prop := ∃ k : Nat, i = .int .i64 k ∧ k ≤ ns.length ∧ Below w.heap.size w wr ∧ Hid (byF ns ts s = byF (ns.drop k) (ts.drop k) s)
theorem RelBy.mk {w : World} {ns : List ByteArray} {ts : List Int} {s : ByteArray} {i : Value} {wr : World} (k : Nat) (h1 : i = .int .i64 k) (h2 : k ≤ ns.length) (h3 : Below w.heap.size w wr) (h4 : byF ns ts s = byF (ns.drop k) (ts.drop k) s) : RelBy w ns ts s i wr := ⟨k, h1, h2, h3, h4⟩
set_option maxRecDepth 100000 in
set_option maxHeartbeats 4000000 in
theorem by1_any (x : Lf) (z : Value) (b1 b2 : Nat) (vn vt : Value) (ns : List ByteArray) (ts : List Int) (w : World) (h1 : w.cell? ⟨b1, 0, none⟩ = some vn) (h2 : w.cell? ⟨b2, 0, none⟩ = some vt) (hn : Strs w vn ns) (ht : NuW w vt ts) :
    Calls Tryd.prog 38 #[lfV x z, .pointer (some ⟨b1, 0, none⟩), .pointer (some ⟨b2, 0, none⟩)] w fun e w' => e = .returned (.int .i64 (byF ns ts x.nm)) ∧ Below w.heap.size w w' := by
  obtain ⟨lk, lt, nm, op, ⟨ek, en, ed, eu, eks⟩, wd, vl, an⟩ := x
  obtain ⟨an', cn, rfl, ln9⟩ := hn.shape
  obtain ⟨at', ct, rfl, lt9⟩ := ht.shape
  have hb1 : b1 < w.heap.size := World.block_lt_of_cell? _ _ h1
  have hb2 : b2 < w.heap.size := World.block_lt_of_cell? _ _ h2
  obtain ⟨w0, hw0⟩ : ∃ w0, w.alloc (.cells #[.int .i64 lk, .int .i64 lt, .string nm, .int .i64 op, .int .i64 ek, .int .i64 en, .int .i64 ed, .int .i64 eu, z, .string wd, .string vl, .bool an] 37) = w0 := ⟨_, rfl⟩
  have B0 : Below w.heap.size w w0 := by rw [← hw0]; exact bplus (Below.refl _ _) _
  have P0 : w0.heap[w.heap.size]? = some (.cells #[.int .i64 lk, .int .i64 lt, .string nm, .int .i64 op, .int .i64 ek, .int .i64 en, .int .i64 ed, .int .i64 eu, z, .string wd, .string vl, .bool an] 37) := by rw [← hw0]; exact heap_alloc_new w _
  have HN := hide hn
  have HT := hide ht
  have K1 := hide (fun (W : World) (h : Below w0.heap.size w0 W) => ((bto B0 h).cell (p := ⟨b1, 0, none⟩) hb1).trans h1)
  have K2 := hide (fun (W : World) (h : Below w0.heap.size w0 W) => ((bto B0 h).cell (p := ⟨b2, 0, none⟩) hb2).trans h2)
  have K3 := hide (fun (W : World) (h : Below w0.heap.size w0 W) => (keep12 h P0).2.2.1)
  have HB0 := hide B0
  have HW0 := hide hw0
  simp only [lfV, Ex.k, Ex.n, Ex.d, Ex.u]
  clear hn ht h1 h2 hb1 hb2 B0 hw0 P0
  go_enter Tryd.func38, Tryd.ntmps38
  go_upto_region 1 with fail
  rw [HW0.out]
  go_wp2
  go_loopw [5] (fun i wr => RelBy w0 ns ts nm i wr) (fun i _ => ns.length - (intOf i).toNat)
  case atStart => exact .mk 0 rfl (by omega) (Below.refl _ _) (by simp)
  case round =>
    obtain ⟨k, rfl, hk, BE, R⟩ := hrel
    replace BE := hide BE
    have y1 := K1.out _ BE.out
    have y2 := K2.out _ BE.out
    have y3 := K3.out _ BE.out
    by_cases hl1 : k < ns.length
    case neg =>
      have F := hide (show byF ns ts nm = 0 by rw [R.out, byF_end (.inl (by omega))])
      have hl1' : ¬ (k : Int) < ns.length := by omega
      go_wp2
      go_ret
      exact ⟨ret_int F.out.symm, bto HB0.out BE.out⟩
    by_cases hl2 : k < ts.length
    case neg =>
      have F := hide (show byF ns ts nm = 0 by rw [R.out, byF_end (.inr (by omega))])
      have hl1' : (k : Int) < ns.length := by omega
      have hl2' : ¬ (k : Int) < ts.length := by omega
      go_wp2
      go_ret
      exact ⟨ret_int F.out.symm, bto HB0.out BE.out⟩
    have hl1' : (k : Int) < ns.length := by omega
    have hl2' : (k : Int) < ts.length := by omega
    obtain ⟨bn, on, rfl, hbn, cn1⟩ := HN.out.at hl1
    obtain ⟨bt', ot, rfl, hbt, ct1⟩ := HT.out.at hl2
    replace cn1 := ((bto HB0.out BE.out).cell (p := ⟨bn, on + k, none⟩) hbn).trans cn1
    replace ct1 := ((bto HB0.out BE.out).cell (p := ⟨bt', ot + k, none⟩) hbt).trans ct1
    have R2 := hide (show byF ns ts nm = if st ns k = nm then gt ts k else byF (ns.drop (k + 1)) (ts.drop (k + 1)) nm by rw [R.out, drop_st hl1, drop_gt hl2]; rfl)
    clear R
    generalize st ns k = sk at *
    generalize gt ts k = tk at *
    have BD := hide (fun (q : Nat) => below_drewN BE.out q)
    by_cases hs : sk = nm
    · subst hs
      have F := hide (show byF ns ts sk = tk by rw [R2.out, if_pos rfl])
      clear R2
      go_upto_region 4 with fail
      go_quiet (fail)
      go_wp2
      go_ret
      exact ⟨ret_int F.out.symm, bto HB0.out (BD.out _)⟩
    · have E2 := hide (show byF ns ts nm = byF (ns.drop (k + 1)) (ts.drop (k + 1)) nm by rw [R2.out, if_neg hs])
      have hs' : (sk.toList == nm.toList) = false := by simpa using tl_neC hs
      clear R2
      go_upto_region 4 with fail
      go_quiet (fail)
      go_wp2
      go_roundw
      case rel => exact .mk (k + 1) (by go_num) (by omega) (BD.out _) E2.out
      case measure => simp [intOf]; omega
end Go.Proofs.YtpcdhdllclenaaaDoor.cd
