/-
  A box of texts: contracts; what was put last is what is told: the law.
-/
import Derived.Test.YtbigejdabeibeaaMemB
import Derived.Lib.Builder
import Derived.Outline
import Derived.Deep.RegionWith
set_option linter.unusedVariables false
set_option linter.unusedSimpArgs false
namespace Go.Proofs.Ytbigejdabeibeaa
open Go.RowKit

/-- A box in block b: nothing, or a text in a block of its own. -/
structure BoxAt (w : World) (b : Nat) (p : Option Addr) : Prop where
  lt : b < w.heap.size
  c : w.cell? ⟨b, 0, none⟩ = some (.pointer p)
  z : w.frozen? ⟨b, 0, none⟩ = false
theorem BoxAt.ch {S : Nat → Prop} {w w' : World} {b : Nat} {p : Option Addr} (h : BoxAt w b p) (k : Ch S w w') (hb : ¬ S b) : BoxAt w' b p :=
  ⟨Nat.lt_of_lt_of_le h.lt k.size, (k.cell h.lt hb _).trans h.c, (k.frozen h.lt hb 0).trans h.z⟩
theorem BoxAt.set {w : World} {b : Nat} {p : Option Addr} (h : BoxAt w b p) (q : Option Addr) : BoxAt (w.setCell ⟨b, 0, none⟩ (.pointer q)) b q :=
  ⟨by simpa [World.setCell] using h.lt, set_s h.c, set_z h.z⟩
/-- A text in block q. -/
def TextAt (w : World) (q : Nat) (s : ByteArray) : Prop := w.heap[q]? = some (.cells #[.string s] 9)
theorem TextAt.lt {w : World} {q : Nat} {s : ByteArray} (h : TextAt w q s) : q < w.heap.size := (Array.getElem?_eq_some_iff.1 h).1
theorem TextAt.ch {S : Nat → Prop} {w w' : World} {q : Nat} {s : ByteArray} (h : TextAt w q s) (k : Ch S w w') (hb : ¬ S q) : TextAt w' q s := (k.block q h.lt hb).trans h
theorem TextAt.new (w : World) (s : ByteArray) : TextAt (w.alloc (.cells #[.string s] 9)) w.heap.size s := by
  show (w.heap.push _)[w.heap.size]? = _
  simp
theorem TextAt.cell {w : World} {q : Nat} {s : ByteArray} (h : TextAt w q s) : w.cell? ⟨q, 0, none⟩ = some (.string s) := by
  unfold TextAt at h
  simp [World.cell?, h]
theorem TextAt.shape {w : World} {q : Nat} {s : ByteArray} (h : TextAt w q s) : w.shape? q = some (9, 1) := by
  unfold TextAt at h
  simp [World.shape?, h]
theorem lies : liesAt Try.prog Try.prog.depth 9 (1 / Try.prog.cellsOf 9) 0 9 1 = true := by kernel_rfl
theorem to_unsafe {w : World} {q : Nat} {s : ByteArray} (h : TextAt w q s) : (convert 59 61 (.pointer (some ⟨q, 0, none⟩))).run Try.prog w = .ok (.pointer (some ⟨q, 0, none⟩)) w :=
  run_convert_to_unsafe (P := Try.prog) Try.underlying59 Try.underlying61 (by kernel_rfl) h.cell
theorem info9 : ∃ j, Try.prog.info? 9 = some j := Option.isSome_iff_exists.1 (by kernel_rfl)
theorem from_unsafe {w : World} {q : Nat} {s : ByteArray} (h : TextAt w q s) : (convert 61 59 (.pointer (some ⟨q, 0, none⟩))).run Try.prog w = .ok (.pointer (some ⟨q, 0, none⟩)) w := by
  obtain ⟨j, hj⟩ := info9
  exact Lib.run_from_unsafe (P := Try.prog) (w := w) ⟨q, 0, none⟩ Try.underlying61 Try.underlying59 hj h.shape lies
theorem from_unsafe0 (w : World) : (convert 61 59 (.pointer none)).run Try.prog w = .ok (.pointer none) w := by kernel_rfl
theorem load_ptr {a : Addr} {p : Option Addr} {w : World} (hc : w.cell? a = some (.pointer p)) :
    (callFunc 65 #[.pointer (some a)]).run Try.prog w = .ok (.value (.pointer p)) w := by
  rw [run_callFunc_extern Try.func65 (by kernel_rfl) (by kernel_rfl) (by kernel_rfl) (show Extern.find Try.f65 = some (Extern.Atomic.loadT .ptr) by kernel_rfl)]
  change (Sem.run Try.prog (do Extern.Atomic.read .ptr (← asAddr (.pointer (some a)))) w).andThen _ = _
  simp [Extern.Atomic.read, asAddr, hc, Result.andThen]
theorem store_ptr {a : Addr} {p : Option Addr} {u : Value} {w : World} (hc : w.cell? a = some u) (hz : w.frozen? a = false) :
    (callFunc 64 #[.pointer (some a), .pointer p]).run Try.prog w = .ok (.value (.tuple #[])) (w.setCell a (.pointer p)) := by
  rw [run_callFunc_extern Try.func64 (by kernel_rfl) (by kernel_rfl) (by kernel_rfl) (show Extern.find Try.f64 = some Extern.Atomic.storeT by kernel_rfl)]
  change (Sem.run Try.prog (do
    store (← asAddr (.pointer (some a))) (.pointer p) .atomic
    pure Extern.Atomic.none_) w).andThen _ = _
  simp [asAddr, hc, hz, run_store Try.prog w a (.pointer p) .atomic rfl, Result.andThen, Extern.Atomic.none_]
theorem swap_ptr {a : Addr} {p q : Option Addr} {w : World} (hc : w.cell? a = some (.pointer q)) (hz : w.frozen? a = false) :
    (callFunc 66 #[.pointer (some a), .pointer p]).run Try.prog w = .ok (.value (.pointer q)) (w.setCell a (.pointer p)) := by
  rw [run_callFunc_extern Try.func66 (by kernel_rfl) (by kernel_rfl) (by kernel_rfl) (show Extern.find Try.f66 = some (Extern.Atomic.swapT .ptr) by kernel_rfl)]
  change (Sem.run Try.prog (do
    let a' ← asAddr (.pointer (some a))
    let old ← Extern.Atomic.read .ptr a'
    store a' (.pointer p) .atomic
    pure old) w).andThen _ = _
  simp [Extern.Atomic.read, asAddr, hc, hz, run_store Try.prog w a (.pointer p) .atomic rfl, Result.andThen]
/-- What a box holds: nothing, or a text. -/
def Holds (w : World) (b : Nat) (o : Option ByteArray) : Prop := (BoxAt w b none ∧ o = none) ∨ ∃ q s, BoxAt w b (some ⟨q, 0, none⟩) ∧ TextAt w q s ∧ q ≠ b ∧ o = some s
theorem Holds.lt {w : World} {b : Nat} {o : Option ByteArray} (h : Holds w b o) : b < w.heap.size := by
  rcases h with ⟨h, _⟩ | ⟨_, _, h, _⟩
  · exact h.lt
  · exact h.lt
theorem Holds.ch0 {w w' : World} {b : Nat} {o : Option ByteArray} (h : Holds w b o) (k : Ch (fun _ => False) w w') : Holds w' b o := by
  rcases h with ⟨h, e⟩ | ⟨q, s, h, t, n, e⟩
  · exact .inl ⟨h.ch k (fun f => f), e⟩
  · exact .inr ⟨q, s, h.ch k (fun f => f), t.ch k (fun f => f), n, e⟩
def txt (o : Option ByteArray) : ByteArray := o.getD ⟨#[]⟩
theorem opened0 (w : World) : Calls Try.prog 51 #[.pointer none] w fun e w' => e = .returned (.tuple #[.string ⟨#[]⟩, .bool false]) ∧ w' = w := by
  go_enter Try.func51, Try.ntmps51
  go_wp2
  go_ret2
  exact ⟨rfl, rfl⟩
theorem opened1 (q : Nat) (s : ByteArray) (w : World) (h : TextAt w q s) : Calls Try.prog 51 #[.pointer (some ⟨q, 0, none⟩)] w fun e w' => e = .returned (.tuple #[.string s, .bool true]) ∧ w' = w := by
  have c := h.cell
  clear h
  go_enter Try.func51, Try.ntmps51
  go_wp2
  go_ret2
  exact ⟨rfl, rfl⟩
theorem get_box0 (b : Nat) (w : World) (h : BoxAt w b none) : Calls Try.prog 30 #[.pointer (some ⟨b, 0, none⟩)] w fun e w' => e = .returned (.tuple #[.string ⟨#[]⟩, .bool false]) ∧ w' = w := by
  have hl := load_ptr h.c
  have hv := from_unsafe0
  have O := hide opened0
  clear h
  go_enter Try.func30, Try.ntmps30
  go_wp2_with (first
    | (go_at_call 51; refine (O.out _).mono ?_; rintro e w1 ⟨rfl, rfl⟩)
    | (go_at_call 52; go_in))
  go_ret2
  exact ⟨rfl, rfl⟩
theorem get_box1 (b q : Nat) (s : ByteArray) (w : World) (h : BoxAt w b (some ⟨q, 0, none⟩)) (t : TextAt w q s) : Calls Try.prog 30 #[.pointer (some ⟨b, 0, none⟩)] w fun e w' => e = .returned (.tuple #[.string s, .bool true]) ∧ w' = w := by
  have hl := load_ptr h.c
  have hv := from_unsafe t
  have O := hide (opened1 q s w t)
  clear h t
  go_enter Try.func30, Try.ntmps30
  go_wp2_with (first
    | (go_at_call 51; refine O.out.mono ?_; rintro e w1 ⟨rfl, rfl⟩)
    | (go_at_call 52; go_in))
  go_ret2
  exact ⟨rfl, rfl⟩
theorem get_box (b : Nat) (o : Option ByteArray) (w : World) (h : Holds w b o) : Calls Try.prog 30 #[.pointer (some ⟨b, 0, none⟩)] w fun e w' => e = .returned (.tuple #[.string (txt o), .bool o.isSome]) ∧ w' = w := by
  rcases h with ⟨h, rfl⟩ | ⟨q, s, h, t, n, rfl⟩
  · exact get_box0 b w h
  · exact get_box1 b q s w h t
theorem put_base (b : Nat) (o : Option ByteArray) (s : ByteArray) (w : World) (h : Holds w b o) : ∃ w1 p, w.alloc (.cells #[.string s] 9) = w1 ∧ BoxAt w1 b p ∧ ((p = none ∧ o = none) ∨ ∃ q u, p = some ⟨q, 0, none⟩ ∧ TextAt (w1.setCell ⟨b, 0, none⟩ (.pointer (some ⟨w.heap.size, 0, none⟩))) q u ∧ TextAt w1 q u ∧ o = some u) ∧ TextAt w1 w.heap.size s ∧
    Holds (w1.setCell ⟨b, 0, none⟩ (.pointer (some ⟨w.heap.size, 0, none⟩))) b (some s) ∧ Ch (fun k => k = b) w (w1.setCell ⟨b, 0, none⟩ (.pointer (some ⟨w.heap.size, 0, none⟩))) := by
  have hb := h.lt
  have T := TextAt.new w s
  have C := (Ch.refl (fun _ => False) w).alloc (.cells #[.string s] 9)
  have C' := ((Ch.refl (fun k => k = b) w).alloc (.cells #[.string s] 9)).setb (j := 0) (.pointer (some ⟨w.heap.size, 0, none⟩))
  rcases h with ⟨h, rfl⟩ | ⟨q, u, h, t, n, rfl⟩
  · have B := h.ch C (fun f => f)
    exact ⟨_, _, rfl, B, .inl ⟨rfl, rfl⟩, T, .inr ⟨w.heap.size, s, B.set _, T.ch ((Ch.refl (fun k => k = b) _).setb _) (by omega), by omega, rfl⟩, C'⟩
  · have B := h.ch C (fun f => f)
    have t1 := t.ch C (fun f => f)
    exact ⟨_, _, rfl, B, .inr ⟨q, u, rfl, t1.ch ((Ch.refl (fun k => k = b) _).setb _) n, t1, rfl⟩, T, .inr ⟨w.heap.size, s, B.set _, T.ch ((Ch.refl (fun k => k = b) _).setb _) (by omega), by omega, rfl⟩, C'⟩
theorem put_box (b : Nat) (o : Option ByteArray) (s : ByteArray) (w : World) (h : Holds w b o) : Calls Try.prog 29 #[.pointer (some ⟨b, 0, none⟩), .string s] w fun e w' => e = .returned (.tuple #[]) ∧ Holds w' b (some s) ∧ Ch (fun k => k = b) w w' := by
  obtain ⟨w1, p, hw1, B, _, T, H, C⟩ := put_base b o s w h
  have hs := fun p => store_ptr (p := p) B.c B.z
  have hv := to_unsafe T
  have FIN := hide (And.intro H C)
  clear T C B H h
  go_enter Try.func29, Try.ntmps29
  go_wp2
  go_end0
  go_wp2
  go_end0
  exact ⟨rfl, FIN.out⟩
set_option maxRecDepth 100000 in
set_option maxHeartbeats 1600000 in
theorem swap_box (b : Nat) (o : Option ByteArray) (s : ByteArray) (w : World) (h : Holds w b o) : Calls Try.prog 31 #[.pointer (some ⟨b, 0, none⟩), .string s] w fun e w' => e = .returned (.tuple #[.string (txt o), .bool o.isSome]) ∧ Holds w' b (some s) ∧ Ch (fun k => k = b) w w' := by
  obtain ⟨w1, p, hw1, B, P, T, H, C⟩ := put_base b o s w h
  have hv := to_unsafe T
  have FIN := hide (And.intro H C)
  rcases P with ⟨rfl, rfl⟩ | ⟨q, u, rfl, t, t1, rfl⟩
  · have hs := swap_ptr (p := some ⟨w.heap.size, 0, none⟩) B.c B.z
    have hu := from_unsafe0
    have O := hide opened0
    clear T C B H h
    go_enter Try.func31, Try.ntmps31
    go_wp2_with (first
      | (go_at_call 51; refine (O.out _).mono ?_; rintro e w1 ⟨rfl, rfl⟩)
      | (go_at_call 53; go_in))
    go_ret2
    exact ⟨rfl, FIN.out⟩
  · have hs := swap_ptr (p := some ⟨w.heap.size, 0, none⟩) B.c B.z
    have hu := from_unsafe t
    have O := hide (opened1 q u _ t)
    clear T C B H h t t1
    go_enter Try.func31, Try.ntmps31
    go_wp2_with (first
      | (go_at_call 51; refine O.out.mono ?_; rintro e w1 ⟨rfl, rfl⟩)
      | (go_at_call 53; go_in))
    go_ret2
    exact ⟨rfl, FIN.out⟩
/-- A slice of steps in memory. -/
def Puts (w : World) (v : Value) (rs : List (Int × ByteArray)) : Prop :=
  (∃ a c, v = .slice a 0 c ∧ rs = []) ∨
  ∃ b off c, v = .slice (some ⟨b, off, none⟩) rs.length c ∧ b < w.heap.size ∧ rs.length ≤ 9223372036854775807 ∧ ∀ i (h : i < rs.length), w.cell? ⟨b, off + i * 2, none⟩ = some (.int .i64 rs[i].1) ∧ w.cell? ⟨b, off + i * 2 + 1, none⟩ = some (.string rs[i].2)
/-- One round. -/
def RelBx (w : World) (n b1 b2 : Nat) (v has i : Value) (wr : World) : Prop :=
  ∃ (k : Nat) (o : Option ByteArray), k ≤ n ∧ k ≤ 60 ∧ i = .int .i64 k ∧ v = .string (txt o) ∧ has = .bool o.isSome ∧ Hid (Holds wr b1 o ∧ Holds wr b2 none ∧ Ch (fun _ => False) w wr)
theorem RelBx.mk {w : World} {n b1 b2 : Nat} (k : Nat) (o : Option ByteArray) {v has i : Value} {wr : World} (h1 : k ≤ n) (h2 : k ≤ 60) (h3 : i = .int .i64 k) (h4 : v = .string (txt o)) (h5 : has = .bool o.isSome) (h6 : Hid (Holds wr b1 o ∧ Holds wr b2 none ∧ Ch (fun _ => False) w wr)) : RelBx w n b1 b2 v has i wr := ⟨k, o, h1, h2, h3, h4, h5, h6⟩
end Go.Proofs.Ytbigejdabeibeaa
