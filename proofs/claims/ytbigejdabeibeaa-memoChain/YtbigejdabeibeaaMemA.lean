/-
  sync.Once, sync.Mutex, atomic words, met by one goroutine: contracts. A cell in memory.
-/
import Derived.Test.YtbigejdabeibeaaRows
import Derived.WalkKit
import Derived.WalkSpells
import Derived.WalkLawsBesides
import Derived.Defers
import Derived.Laws.LoneSync
import Derived.RegionCalls
import Derived.Laws.NewBlocks
import Derived.Below
set_option linter.unusedVariables false
set_option linter.unusedSimpArgs false
namespace Go.Proofs.Ytbigejdabeibeaa
open Go.RowKit

theorem hide {p : Prop} (h : p) : Hid p := h
/-- Of the blocks that were there only those of S may have changed. -/
structure Ch (S : Nat → Prop) (w w' : World) : Prop where
  os : w'.os = w.os
  tape : w'.tape = w.tape
  output : w'.output = w.output
  size : w.heap.size ≤ w'.heap.size
  block : ∀ k, k < w.heap.size → ¬ S k → w'.heap[k]? = w.heap[k]?
theorem Ch.refl (S : Nat → Prop) (w : World) : Ch S w w := ⟨rfl, rfl, rfl, Nat.le_refl _, fun _ _ _ => rfl⟩
theorem Ch.trans {S : Nat → Prop} {a b c : World} (h : Ch S a b) (k : Ch S b c) : Ch S a c :=
  ⟨k.os.trans h.os, k.tape.trans h.tape, k.output.trans h.output, Nat.le_trans h.size k.size, fun i hi hn => (k.block i (Nat.lt_of_lt_of_le hi h.size) hn).trans (h.block i hi hn)⟩
/-- What is changed behind may lie in what is new. -/
theorem Ch.transN {S T : Nat → Prop} {a b c : World} (h : Ch S a b) (k : Ch T b c) (hT : ∀ i, i < a.heap.size → T i → S i) : Ch S a c :=
  ⟨k.os.trans h.os, k.tape.trans h.tape, k.output.trans h.output, Nat.le_trans h.size k.size, fun i hi hn => (k.block i (Nat.lt_of_lt_of_le hi h.size) (fun g => hn (hT i hi g))).trans (h.block i hi hn)⟩
theorem Ch.mono {S T : Nat → Prop} {a b : World} (h : Ch S a b) (hs : ∀ k, k < a.heap.size → S k → T k) : Ch T a b :=
  ⟨h.os, h.tape, h.output, h.size, fun k hk hn => h.block k hk (fun g => hn (hs k hk g))⟩
theorem Ch.drew {S : Nat → Prop} {a w : World} (h : Ch S a w) : Ch S a w.drew := ⟨h.os, h.tape, h.output, h.size, h.block⟩
theorem Ch.alloc {S : Nat → Prop} {a w : World} (h : Ch S a w) (o : Obj) : Ch S a (w.alloc o) :=
  h.trans ⟨rfl, rfl, rfl, by simp, fun k hk _ => Below.heap_alloc _ _ _ hk⟩
theorem Ch.set {S : Nat → Prop} {a w : World} (h : Ch S a w) {p : Addr} (hp : p.block < a.heap.size → S p.block) (u : Value) : Ch S a (w.setCell p u) :=
  ⟨h.os, h.tape, h.output, by simp [World.setCell]; exact h.size, fun k hk hn => (Below.heap_setCell w p u k (fun e => by subst e; exact hn (hp hk))).trans (h.block k hk hn)⟩
theorem Ch.setb {b j : Nat} {a w : World} (h : Ch (fun k => k = b) a w) (u : Value) : Ch (fun k => k = b) a (w.setCell ⟨b, j, none⟩ u) := h.set (p := ⟨b, j, none⟩) (fun _ => rfl) u
theorem Ch.below {w w' : World} (h : Ch (fun _ => False) w w') : Below w.heap.size w w' := ⟨h.os, h.tape, h.output, h.size, fun k hk => h.block k hk (fun f => f)⟩
theorem Ch.cell {S : Nat → Prop} {w w' : World} (h : Ch S w w') {b : Nat} (hb : b < w.heap.size) (hn : ¬ S b) (j : Nat) : w'.cell? ⟨b, j, none⟩ = w.cell? ⟨b, j, none⟩ := by
  unfold World.cell?
  simp only [h.block b hb hn]
theorem Ch.frozen {S : Nat → Prop} {w w' : World} (h : Ch S w w') {b : Nat} (hb : b < w.heap.size) (hn : ¬ S b) (j : Nat) : w'.frozen? ⟨b, j, none⟩ = w.frozen? ⟨b, j, none⟩ := by
  unfold World.frozen?
  simp only [h.block b hb hn]

/-- A cell (memo.Cell) in block b: the once's word, the lock's, the function, the value, the runs, done. -/
structure CellAt (w : World) (b : Nat) (d s : Int) (fv v : Value) (r n : Int) : Prop where
  lt : b < w.heap.size
  c0 : w.cell? ⟨b, 0, none⟩ = some (.int .u32 d)
  c1 : w.cell? ⟨b, 1, none⟩ = some (.int .i32 s)
  c3 : w.cell? ⟨b, 3, none⟩ = some fv
  c4 : w.cell? ⟨b, 4, none⟩ = some v
  c5 : w.cell? ⟨b, 5, none⟩ = some (.int .i64 r)
  c6 : w.cell? ⟨b, 6, none⟩ = some (.int .u32 n)
  z : ∀ j, w.frozen? ⟨b, j, none⟩ = false
theorem CellAt.ch {S : Nat → Prop} {w w' : World} {b : Nat} {d s : Int} {fv v : Value} {r n : Int} (h : CellAt w b d s fv v r n) (k : Ch S w w') (hb : ¬ S b) : CellAt w' b d s fv v r n :=
  ⟨Nat.lt_of_lt_of_le h.lt k.size, (k.cell h.lt hb _).trans h.c0, (k.cell h.lt hb _).trans h.c1, (k.cell h.lt hb _).trans h.c3, (k.cell h.lt hb _).trans h.c4, (k.cell h.lt hb _).trans h.c5, (k.cell h.lt hb _).trans h.c6, fun j => (k.frozen h.lt hb j).trans (h.z j)⟩
theorem CellAt.drew {w : World} {b : Nat} {d s : Int} {fv v : Value} {r n : Int} (h : CellAt w b d s fv v r n) : CellAt w.drew b d s fv v r n :=
  h.ch (S := fun _ => False) (Ch.refl _ _).drew (fun f => f)
theorem set_o {w : World} {b i j : Nat} {u x : Value} (h : w.cell? ⟨b, j, none⟩ = some x) (hn : i ≠ j) : (w.setCell ⟨b, i, none⟩ u).cell? ⟨b, j, none⟩ = some x :=
  (World.cell?_setCell_other w ⟨b, i, none⟩ ⟨b, j, none⟩ u (by simp [hn])).trans h
theorem set_s {w : World} {b i : Nat} {u x : Value} (h : w.cell? ⟨b, i, none⟩ = some x) : (w.setCell ⟨b, i, none⟩ u).cell? ⟨b, i, none⟩ = some u :=
  World.cell?_setCell_same w _ _ h
theorem set_z {w : World} {b i j : Nat} {u : Value} (h : w.frozen? ⟨b, j, none⟩ = false) : (w.setCell ⟨b, i, none⟩ u).frozen? ⟨b, j, none⟩ = false := by simpa using h
theorem CellAt.set0 {w : World} {b : Nat} {d s : Int} {fv v : Value} {r n : Int} (h : CellAt w b d s fv v r n) (x : Int) : CellAt (w.setCell ⟨b, 0, none⟩ (.int .u32 x)) b x s fv v r n :=
  ⟨by simpa [World.setCell] using h.lt, set_s h.c0, set_o h.c1 (by omega), set_o h.c3 (by omega), set_o h.c4 (by omega), set_o h.c5 (by omega), set_o h.c6 (by omega), fun j => set_z (h.z j)⟩
theorem CellAt.set1 {w : World} {b : Nat} {d s : Int} {fv v : Value} {r n : Int} (h : CellAt w b d s fv v r n) (x : Int) : CellAt (w.setCell ⟨b, 1, none⟩ (.int .i32 x)) b d x fv v r n :=
  ⟨by simpa [World.setCell] using h.lt, set_o h.c0 (by omega), set_s h.c1, set_o h.c3 (by omega), set_o h.c4 (by omega), set_o h.c5 (by omega), set_o h.c6 (by omega), fun j => set_z (h.z j)⟩
theorem CellAt.set3 {w : World} {b : Nat} {d s : Int} {fv v : Value} {r n : Int} (h : CellAt w b d s fv v r n) (x : Value) : CellAt (w.setCell ⟨b, 3, none⟩ x) b d s x v r n :=
  ⟨by simpa [World.setCell] using h.lt, set_o h.c0 (by omega), set_o h.c1 (by omega), set_s h.c3, set_o h.c4 (by omega), set_o h.c5 (by omega), set_o h.c6 (by omega), fun j => set_z (h.z j)⟩
theorem CellAt.set4 {w : World} {b : Nat} {d s : Int} {fv v : Value} {r n : Int} (h : CellAt w b d s fv v r n) (x : Value) : CellAt (w.setCell ⟨b, 4, none⟩ x) b d s fv x r n :=
  ⟨by simpa [World.setCell] using h.lt, set_o h.c0 (by omega), set_o h.c1 (by omega), set_o h.c3 (by omega), set_s h.c4, set_o h.c5 (by omega), set_o h.c6 (by omega), fun j => set_z (h.z j)⟩
theorem CellAt.set5 {w : World} {b : Nat} {d s : Int} {fv v : Value} {r n : Int} (h : CellAt w b d s fv v r n) (x : Int) : CellAt (w.setCell ⟨b, 5, none⟩ (.int .i64 x)) b d s fv v x n :=
  ⟨by simpa [World.setCell] using h.lt, set_o h.c0 (by omega), set_o h.c1 (by omega), set_o h.c3 (by omega), set_o h.c4 (by omega), set_s h.c5, set_o h.c6 (by omega), fun j => set_z (h.z j)⟩
theorem CellAt.set6 {w : World} {b : Nat} {d s : Int} {fv v : Value} {r n : Int} (h : CellAt w b d s fv v r n) (x : Int) : CellAt (w.setCell ⟨b, 6, none⟩ (.int .u32 x)) b d s fv v r x :=
  ⟨by simpa [World.setCell] using h.lt, set_o h.c0 (by omega), set_o h.c1 (by omega), set_o h.c3 (by omega), set_o h.c4 (by omega), set_o h.c5 (by omega), set_s h.c6, fun j => set_z (h.z j)⟩

theorem disable (w : World) : (callFunc 75 #[]).run Try.prog w = .ok (.value (.tuple #[])) w := run_call_mark0 Try.func75 (by kernel_rfl) (by kernel_rfl) (by kernel_rfl) .disable (by kernel_rfl) w
theorem enable (w : World) : (callFunc 76 #[]).run Try.prog w = .ok (.value (.tuple #[])) w := run_call_mark0 Try.func76 (by kernel_rfl) (by kernel_rfl) (by kernel_rfl) .enable (by kernel_rfl) w
theorem acquire (a : Addr) (w : World) : (callFunc 87 #[.pointer (some a)]).run Try.prog w = .ok (.value (.tuple #[])) w := run_call_marked Try.func87 (by kernel_rfl) (by kernel_rfl) (by kernel_rfl) .acquire (by kernel_rfl) a w
theorem releaseMerge (a : Addr) (w : World) : (callFunc 74 #[.pointer (some a)]).run Try.prog w = .ok (.value (.tuple #[])) w := run_call_marked Try.func74 (by kernel_rfl) (by kernel_rfl) (by kernel_rfl) .releaseMerge (by kernel_rfl) a w

/-- '(*sync/atomic.Bool).Store(true)', entered as a deferred call. -/
theorem store_deferred (a : Addr) (x : Value) (u : FrameMode) (w : World) (hc : w.cell? a = some x) (hz : w.frozen? a = false) :
    CallsD Try.prog 55 #[.pointer (some a), .bool true] u w fun e u' w' => u' = u ∧ (e = .returned (.tuple #[]) ∧ w' = w.drew.setCell a (.int .u32 1)) := by
  have hc' : w.drew.cell? a = some x := by go_simp
  have hz' : w.drew.frozen? a = false := by go_simp
  have hst := run_call_store (P := Try.prog) Try.func71 (by kernel_rfl) (by kernel_rfl) (by kernel_rfl) (by kernel_rfl) (k := .u32) (y := 1) hc' hz'
  go_enter_d Try.func55, Try.ntmps55
  go_wp2
  go_region_calls
  all_goals (go_end0; exact ⟨rfl, rfl⟩)
set_option maxRecDepth 100000 in
set_option maxHeartbeats 1600000 in
/-- '(*sync.Mutex).Unlock', entered as a deferred call, the lock held, nobody waiting. -/
theorem unlock_deferred (a : Addr) (u : FrameMode) (w : World) (hc : w.cell? a = some (.int .i32 1)) (hz : w.frozen? a = false) :
    CallsD Try.prog 70 #[.pointer (some a)] u w fun e u' w' => u' = u ∧ (e = .returned (.tuple #[]) ∧ w' = w.setCell a (.int .i32 0)) := by
  have hd := disable
  have he := enable
  have hr := releaseMerge
  have hadd := run_call_add (P := Try.prog) Try.func101 (by kernel_rfl) (by kernel_rfl) (by kernel_rfl) .i32 (by kernel_rfl) (y := -1) (s := 0) hc hz (by simp [go_sem]; rfl)
  have hcv := run_convert_to_unsafe (P := Try.prog) (src := 150) (dst := 61) Try.underlying150 Try.underlying61 (by kernel_rfl) hc
  go_enter_d Try.func70, Try.ntmps70
  go_wp2
  go_end0
  go_wp2
  go_end0
  exact ⟨rfl, rfl⟩
set_option maxRecDepth 100000 in
set_option maxHeartbeats 1600000 in
/-- '(*sync.Mutex).Lock', the lock free. -/
theorem lock_free (a : Addr) (w : World) (hc : w.cell? a = some (.int .i32 0)) (hz : w.frozen? a = false) :
    Calls Try.prog 69 #[.pointer (some a)] w fun e w' => e = .returned (.tuple #[]) ∧ w' = w.setCell a (.int .i32 1) := by
  have hd := disable
  have he := enable
  have ha := acquire
  have hcas := run_call_cas_hit (P := Try.prog) Try.func99 (by kernel_rfl) (by kernel_rfl) (by kernel_rfl) .i32 (by kernel_rfl) (y := 1) hc hz
  have hc' : (w.setCell a (.int .i32 1)).cell? a = some (.int .i32 1) := World.cell?_setCell_same w a _ hc
  have hcv := run_convert_to_unsafe (P := Try.prog) (src := 150) (dst := 61) Try.underlying150 Try.underlying61 (by kernel_rfl) hc'
  go_enter Try.func69, Try.ntmps69
  go_wp2
  first | go_end0 | (simp only [Exit.inBlock, Exit.then]; refine bodyPost_ret (results_none rfl _ _ _) rfl ?_) | refine bodyPost_ret (results_none rfl _ _ _) rfl ?_
  go_wp2
  go_end0
  exact ⟨rfl, rfl⟩
/-- '(*sync/atomic.Bool).Load'. -/
theorem bool_load (a : Addr) (d : Int) (w : World) (hc : w.cell? a = some (.int .u32 d)) :
    Calls Try.prog 35 #[.pointer (some a)] w fun e w' => e = .returned (.bool (d != 0)) ∧ w' = w := by
  have hl := run_call_load (P := Try.prog) Try.func58 (by kernel_rfl) (by kernel_rfl) (by kernel_rfl) .u32 (by kernel_rfl) hc
  go_enter Try.func35, Try.ntmps35
  go_wp2
  go_ret
  exact ⟨rfl, rfl⟩
/-- '(*sync/atomic.Int64).Load'. -/
theorem i64_load (a : Addr) (d : Int) (w : World) (hc : w.cell? a = some (.int .i64 d)) :
    Calls Try.prog 36 #[.pointer (some a)] w fun e w' => e = .returned (.int .i64 d) ∧ w' = w := by
  have hl := run_call_load (P := Try.prog) Try.func59 (by kernel_rfl) (by kernel_rfl) (by kernel_rfl) .i64 (by kernel_rfl) hc
  go_enter Try.func36, Try.ntmps36
  go_wp2
  go_ret
  exact ⟨rfl, rfl⟩
/-- '(*sync/atomic.Int64).Add(1)' at 0. -/
theorem i64_one (a : Addr) (w : World) (hc : w.cell? a = some (.int .i64 0)) (hz : w.frozen? a = false) :
    Calls Try.prog 56 #[.pointer (some a), .int .i64 1] w fun e w' => e = .returned (.int .i64 1) ∧ w' = w.setCell a (.int .i64 1) := by
  have hadd := run_call_add (P := Try.prog) Try.func73 (by kernel_rfl) (by kernel_rfl) (by kernel_rfl) .i64 (by kernel_rfl) (y := 1) (s := 1) hc hz (by simp [go_sem]; rfl)
  go_enter Try.func56, Try.ntmps56
  go_wp2
  go_ret
  exact ⟨rfl, rfl⟩
end Go.Proofs.Ytbigejdabeibeaa
