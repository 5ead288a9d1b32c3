/-
  Slices of bytes and of characters that come in: what they hold in memory; what the bound on all that comes in gives.
-/
import Derived.Test.YtcclhdiphcfdfaaGreatDoorKa
import Derived.ProofKit
import Derived.OpenShut
import Derived.JoinedCond
import Derived.SizedLaws
import Derived.Carry
set_option linter.unusedVariables false
namespace Go.Proofs.YtcclhdiphcfdfaaGreatDoor
open Go.ChangeShapes Go.WideShapes Go.ChangeAt Go.RowKit

theorem cells8 : Tryz.prog.cellsOf 5 = 1 := by kernel_rfl
theorem cells32 : Tryz.prog.cellsOf 21 = 1 := by kernel_rfl
theorem bytes8 : Tryz.prog.bytesOf 5 = 1 := by kernel_rfl
theorem bytes32 : Tryz.prog.bytesOf 21 = 4 := by kernel_rfl
theorem laidOut : laidOutB Tryz.prog = true := by kernel_rfl
theorem own : ownKnob Tryz.prog.godebug = none := by kernel_rfl
theorem nums_open {k : IntKind} {t e : TypeId} (ht : Tryz.prog.underlying t = some (.slice e)) (he : Tryz.prog.underlying e = some (.int k)) (hc : Tryz.prog.cellsOf e = 1)
    {H : Type} {enc : TypeId × Value → H} {W : World} {held : Bool} {a : Option Addr} {len cap fuel : Nat} {x : DataW H × List MemPlace}
    (hf : DataW.trod enc Tryz.prog W 0 (fun _ => true) held fuel t [.slice a len cap] = some x) :
    ∃ bs : List Int, bs.length = len ∧ (∀ n ∈ bs, (Lit.int k n).wf = true) ∧ (cap ≤ 4611686018427387904 → Nums k W (.slice a len cap) bs) ∧ ((cap = 0 ∧ len = 0) ∨ ∃ elems spare, x.1 = .slice elems spare ∧ elems.length + spare.length = cap ∧ elems.length = len) := by
  rcases open_ints ht he hc hf with ⟨hcs, hx⟩ | ⟨a1, len', cap', zs, hcs, _, hl, hm, hz, hx, hcell, hwz⟩
  · simp at hcs
    obtain ⟨rfl, rfl, rfl⟩ := hcs
    exact ⟨[], rfl, by simp, fun _ => .inl ⟨_, _, rfl, rfl⟩, .inl ⟨rfl, rfl⟩⟩
  · simp at hcs
    obtain ⟨rfl, rfl, rfl⟩ := hcs
    simp only [if_true] at hz
    have hlen : (zs.take len).length = len := by rw [List.length_take]; omega
    refine ⟨zs.take len, hlen, fun n hn => hwz n (List.mem_of_mem_take hn), fun hcap => ?_, .inr ⟨_, _, congrArg Prod.fst hx, ?_, ?_⟩⟩
    · by_cases h0 : len = 0
      · subst h0; exact .inl ⟨_, _, rfl, by simp⟩
      · obtain ⟨b, off, spot⟩ := a1
        have hspot : spot = none := by simpa [Addr.add] using World.cell?_spot (hcell 0 (by omega))
        subst hspot
        refine .inr ⟨b, off, len, cap, rfl, hlen.symm, by omega, ?_, hl, by omega, by omega, fun i hi => ?_⟩
        · have k := World.block_lt_of_cell? _ _ (hcell 0 (by omega))
          simpa [Addr.add] using k
        · have := hcell i (by omega)
          rw [Addr.add_lit] at this
          rw [this]
          refine congrArg (fun x => some (Value.int k x)) ?_
          simp only [gt, List.getD_eq_getElem?_getD]
          rw [List.getElem?_take, if_pos hi]
    · simp [lits]; omega
    · simp [lits]; omega
theorem by_of {bs : List Int} (h : ∀ n ∈ bs, (Lit.int .u8 n).wf = true) : By bs := fun x hx => bounds_u8 (h x hx)
/-- Numbers of 32 bits. -/
def In32 (l : List Int) : Prop := ∀ x ∈ l, -2147483648 ≤ x ∧ x ≤ 2147483647
theorem in32_of {bs : List Int} (h : ∀ n ∈ bs, (Lit.int .i32 n).wf = true) : In32 bs := fun x hx => bounds_i32 (h x hx)
theorem one_le {H : Type} (d : DataW H) : 1 ≤ Rows.uptoBulk d := by
  cases d with
  | lit l => cases l <;> simp [Rows.uptoBulk]
  | nil => simp [Rows.uptoBulk]
  | ptr d => simp [Rows.uptoBulk]
  | slice elems spare => simp [Rows.uptoBulk]
  | agg parts => simp [Rows.uptoBulk]
  | iface t d => simp [Rows.uptoBulk]
  | map entries => simp [Rows.uptoBulk]
  | held h => simp [Rows.uptoBulk]
theorem length_le {H : Type} (l : List (DataW H)) : l.length ≤ Rows.uptoBulkAll l := by
  induction l with
  | nil => simp [Rows.uptoBulkAll]
  | cons x r ih => have := one_le x; simp only [Rows.uptoBulkAll, List.length_cons]; omega
theorem small_cap {H : Type} {d : DataW H} {cap len : Nat} {l : List (DataW H)} (hd : Rows.uptoBulk d ≤ 1048576) (h : (cap = 0 ∧ len = 0) ∨ ∃ elems spare, d = .slice elems spare ∧ elems.length + spare.length = cap ∧ elems.length = len) : cap ≤ 1048576 ∧ len ≤ 1048576 := by
  rcases h with ⟨h, h'⟩ | ⟨elems, spare, rfl, h, h'⟩
  · omega
  · simp only [Rows.uptoBulk] at hd
    have h1 := length_le elems
    have h2 := length_le spare
    omega
end Go.Proofs.YtcclhdiphcfdfaaGreatDoor
