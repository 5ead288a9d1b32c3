/-
  No cell of these rows narrows 'for every input' (looked for: loops, veiled, ifaces, maps, wideKeys, modest, calm, conditions, laid).
  DERIVED. THE GIVEN ROWS OF THIS SEAT. 6 by the template 'for every input the law returns true; each argument reads behind the call as it read before'; 0 by the template 'total and deterministic' (their statements: YtlgbagcgfoejhaaTotals.lean).
  GIVEN WITH THE SEED: the statements are not yours to turn. If you find one false, say at which input.
  Laid BY PROGRAM, IN A SANDBOX (cutbox-rows.mjs): the forced cells as the released guide's own fill.sh prints them over the translation beff2b2ecdcbafd1… (all of the seat's roots in one cut). By AI agents, Wed Nov 11 2026. No macro, syntax, notation, axiom, sorry.
-/
import Derived.Test.YtlgbagcgfoejhaaChecked
import GoSem.Claim
import GoSem.ClaimJoined
import GoSem.ClaimMapViews
import Derived.JoinedTies
import Derived.KernelRfl
namespace Go.Proofs.Ytlgbagcgfoejhaa
/- THE CELL 'sum', in the pinned program and in every row, IS THE sha256 OF THE DUMP (.gsa) THAT YtlgbagcgfoejhaaProg.lean LOADS. Nothing in Lean hashes anything: it is a label: what it is worth is what the hold of that sum in a sandbox is worth. -/
noncomputable def Try.pinned : Pinned := { name := "ytlgbagcgfoejhaa", sum := "beff2b2ecdcbafd107900d336b7d361b98fd669ad3116e86378babb35463e45f", checked := Try.checked }
namespace Rows
def none {H : Type} : Left H := { results := [], args := [] }

/-- 'jalousielaw1.RatMay': WHATEVER THE INPUT: true; the input reads as it did. -/
def ratMaySpec : ChangeSpec := { name := "ratMay", fn := fun _ => fun
  | [d1, d2] => { results := [.lit (.bool true)], args := [d1, d2] }
  | _ => none }
def ratMayRow : OpenClaim := { program := "ytlgbagcgfoejhaa", sum := "beff2b2ecdcbafd107900d336b7d361b98fd669ad3116e86378babb35463e45f", func := "jalousie/jalousielaw1.RatMay", spec := "ratMay", inPlace := ["math/bits.Sub64"], apart := false }
def RatMaySaid : Prop := ratMayRow.holds Try.pinned (OpenSpec.ofChange ratMaySpec)

/-- ITS FALSE NEIGHBOUR: 'it returns false'. Refute it at one input. -/
def ratMayWrong : ChangeSpec := { name := "ratMay", fn := fun _ => fun
  | [d1, d2] => { results := [.lit (.bool false)], args := [d1, d2] }
  | _ => none }
def RatMayWrongFalsely : Prop := ratMayRow.holds Try.pinned (OpenSpec.ofChange ratMayWrong)

/-- 'jalousielaw1.RatAdds': WHATEVER THE INPUT: true; the input reads as it did. -/
def ratAddsSpec : ChangeSpec := { name := "ratAdds", fn := fun _ => fun
  | [d] => { results := [.lit (.bool true)], args := [d] }
  | _ => none }
def ratAddsRow : OpenClaim := { program := "ytlgbagcgfoejhaa", sum := "beff2b2ecdcbafd107900d336b7d361b98fd669ad3116e86378babb35463e45f", func := "jalousie/jalousielaw1.RatAdds", spec := "ratAdds", inPlace := ["math/bits.Add64", "math/bits.Sub64"], named := ["math/bits.divideError", "math/bits.overflowError"], apart := false }
def RatAddsSaid : Prop := ratAddsRow.holds Try.pinned (OpenSpec.ofChange ratAddsSpec)

/-- ITS FALSE NEIGHBOUR: 'it returns false'. Refute it at one input. -/
def ratAddsWrong : ChangeSpec := { name := "ratAdds", fn := fun _ => fun
  | [d] => { results := [.lit (.bool false)], args := [d] }
  | _ => none }
def RatAddsWrongFalsely : Prop := ratAddsRow.holds Try.pinned (OpenSpec.ofChange ratAddsWrong)

/-- 'jalousielaw1.RatMuls': WHATEVER THE INPUT: true; the input reads as it did. -/
def ratMulsSpec : ChangeSpec := { name := "ratMuls", fn := fun _ => fun
  | [d] => { results := [.lit (.bool true)], args := [d] }
  | _ => none }
def ratMulsRow : OpenClaim := { program := "ytlgbagcgfoejhaa", sum := "beff2b2ecdcbafd107900d336b7d361b98fd669ad3116e86378babb35463e45f", func := "jalousie/jalousielaw1.RatMuls", spec := "ratMuls", inPlace := ["math/bits.Sub64"], apart := false }
def RatMulsSaid : Prop := ratMulsRow.holds Try.pinned (OpenSpec.ofChange ratMulsSpec)

/-- ITS FALSE NEIGHBOUR: 'it returns false'. Refute it at one input. -/
def ratMulsWrong : ChangeSpec := { name := "ratMuls", fn := fun _ => fun
  | [d] => { results := [.lit (.bool false)], args := [d] }
  | _ => none }
def RatMulsWrongFalsely : Prop := ratMulsRow.holds Try.pinned (OpenSpec.ofChange ratMulsWrong)

/-- 'jalousielaw1.RatSubs': WHATEVER THE INPUT: true; the input reads as it did. -/
def ratSubsSpec : ChangeSpec := { name := "ratSubs", fn := fun _ => fun
  | [d1, d2] => { results := [.lit (.bool true)], args := [d1, d2] }
  | _ => none }
def ratSubsRow : OpenClaim := { program := "ytlgbagcgfoejhaa", sum := "beff2b2ecdcbafd107900d336b7d361b98fd669ad3116e86378babb35463e45f", func := "jalousie/jalousielaw1.RatSubs", spec := "ratSubs", inPlace := ["math/bits.Add64", "math/bits.Sub64"], named := ["math/bits.divideError", "math/bits.overflowError"], apart := false }
def RatSubsSaid : Prop := ratSubsRow.holds Try.pinned (OpenSpec.ofChange ratSubsSpec)

/-- ITS FALSE NEIGHBOUR: 'it returns false'. Refute it at one input. -/
def ratSubsWrong : ChangeSpec := { name := "ratSubs", fn := fun _ => fun
  | [d1, d2] => { results := [.lit (.bool false)], args := [d1, d2] }
  | _ => none }
def RatSubsWrongFalsely : Prop := ratSubsRow.holds Try.pinned (OpenSpec.ofChange ratSubsWrong)

/-- 'jalousielaw1.RatDivs': WHATEVER THE INPUT: true; the input reads as it did. -/
def ratDivsSpec : ChangeSpec := { name := "ratDivs", fn := fun _ => fun
  | [d1, d2] => { results := [.lit (.bool true)], args := [d1, d2] }
  | _ => none }
def ratDivsRow : OpenClaim := { program := "ytlgbagcgfoejhaa", sum := "beff2b2ecdcbafd107900d336b7d361b98fd669ad3116e86378babb35463e45f", func := "jalousie/jalousielaw1.RatDivs", spec := "ratDivs", inPlace := ["math/bits.Sub64"], apart := false }
def RatDivsSaid : Prop := ratDivsRow.holds Try.pinned (OpenSpec.ofChange ratDivsSpec)

/-- ITS FALSE NEIGHBOUR: 'it returns false'. Refute it at one input. -/
def ratDivsWrong : ChangeSpec := { name := "ratDivs", fn := fun _ => fun
  | [d1, d2] => { results := [.lit (.bool false)], args := [d1, d2] }
  | _ => none }
def RatDivsWrongFalsely : Prop := ratDivsRow.holds Try.pinned (OpenSpec.ofChange ratDivsWrong)

/-- 'jalousielaw1.RatCmps': WHATEVER THE INPUT: true; the input reads as it did. -/
def ratCmpsSpec : ChangeSpec := { name := "ratCmps", fn := fun _ => fun
  | [d1, d2] => { results := [.lit (.bool true)], args := [d1, d2] }
  | _ => none }
def ratCmpsRow : OpenClaim := { program := "ytlgbagcgfoejhaa", sum := "beff2b2ecdcbafd107900d336b7d361b98fd669ad3116e86378babb35463e45f", func := "jalousie/jalousielaw1.RatCmps", spec := "ratCmps", apart := false }
def RatCmpsSaid : Prop := ratCmpsRow.holds Try.pinned (OpenSpec.ofChange ratCmpsSpec)

/-- ITS FALSE NEIGHBOUR: 'it returns false'. Refute it at one input. -/
def ratCmpsWrong : ChangeSpec := { name := "ratCmps", fn := fun _ => fun
  | [d1, d2] => { results := [.lit (.bool false)], args := [d1, d2] }
  | _ => none }
def RatCmpsWrongFalsely : Prop := ratCmpsRow.holds Try.pinned (OpenSpec.ofChange ratCmpsWrong)

/- THE SECOND FORM. 'bulk': how many values and letters a reading holds, each counted each time it is reached (what is shared counts as often as it is met; a slice's spare places count too). A statement '..UptoSaid' is the law's where the arguments, and the package variables that the reading takes, are together of bulk at most 1048576: NARROWER than '..Said'. Prove '..Said' where nothing that the law and all that it calls make is longer than what came in: it says more and counts as full. Else prove '..UptoSaid'. A law counts once. -/
mutual
def uptoBulk {H : Type} : DataW H → Nat
  | .lit (.string bytes) => bytes.length + 1
  | .lit _ => 1
  | .nil => 1
  | .ptr d => uptoBulk d + 1
  | .slice elems spare => uptoBulkAll elems + uptoBulkAll spare + 1
  | .agg parts => uptoBulkAll parts + 1
  | .iface _ d => uptoBulk d + 1
  | .map entries => uptoBulkEntries entries + 1
  | .held _ => 1
def uptoBulkAll {H : Type} : List (DataW H) → Nat
  | [] => 0
  | d :: r => uptoBulk d + uptoBulkAll r
def uptoBulkEntries {H : Type} : List (Lit × DataW H) → Nat
  | [] => 0
  | x :: r => uptoBulkEntry x + uptoBulkEntries r
def uptoBulkEntry {H : Type} : Lit × DataW H → Nat
  | (.string bytes, d) => bytes.length + uptoBulk d + 1
  | (_, d) => uptoBulk d + 1
 end
def uptoSmall : (H : Type) → List (DataW H) → Bool := fun _ ds => decide (uptoBulkAll ds ≤ 1048576)
def OpenSpec.upto (s : _root_.Go.ChangeSpec) : _root_.Go.OpenSpec := { _root_.Go.OpenSpec.ofChange s with cond := some uptoSmall }

/-- 'jalousielaw1.RatMay', WHERE WHAT IT READS IS OF BULK AT MOST 1048576: true; the input reads as it did. -/
def ratMayUptoRow : OpenClaim := { program := "ytlgbagcgfoejhaa", sum := "beff2b2ecdcbafd107900d336b7d361b98fd669ad3116e86378babb35463e45f", func := "jalousie/jalousielaw1.RatMay", spec := "ratMay", inPlace := ["math/bits.Sub64"], apart := false, narrowed := true }
def RatMayUptoSaid : Prop := ratMayUptoRow.holds Try.pinned (OpenSpec.upto ratMaySpec)

/-- 'jalousielaw1.RatAdds', WHERE WHAT IT READS IS OF BULK AT MOST 1048576: true; the input reads as it did. -/
def ratAddsUptoRow : OpenClaim := { program := "ytlgbagcgfoejhaa", sum := "beff2b2ecdcbafd107900d336b7d361b98fd669ad3116e86378babb35463e45f", func := "jalousie/jalousielaw1.RatAdds", spec := "ratAdds", inPlace := ["math/bits.Add64", "math/bits.Sub64"], named := ["math/bits.divideError", "math/bits.overflowError"], apart := false, narrowed := true }
def RatAddsUptoSaid : Prop := ratAddsUptoRow.holds Try.pinned (OpenSpec.upto ratAddsSpec)

/-- 'jalousielaw1.RatMuls', WHERE WHAT IT READS IS OF BULK AT MOST 1048576: true; the input reads as it did. -/
def ratMulsUptoRow : OpenClaim := { program := "ytlgbagcgfoejhaa", sum := "beff2b2ecdcbafd107900d336b7d361b98fd669ad3116e86378babb35463e45f", func := "jalousie/jalousielaw1.RatMuls", spec := "ratMuls", inPlace := ["math/bits.Sub64"], apart := false, narrowed := true }
def RatMulsUptoSaid : Prop := ratMulsUptoRow.holds Try.pinned (OpenSpec.upto ratMulsSpec)

/-- 'jalousielaw1.RatSubs', WHERE WHAT IT READS IS OF BULK AT MOST 1048576: true; the input reads as it did. -/
def ratSubsUptoRow : OpenClaim := { program := "ytlgbagcgfoejhaa", sum := "beff2b2ecdcbafd107900d336b7d361b98fd669ad3116e86378babb35463e45f", func := "jalousie/jalousielaw1.RatSubs", spec := "ratSubs", inPlace := ["math/bits.Add64", "math/bits.Sub64"], named := ["math/bits.divideError", "math/bits.overflowError"], apart := false, narrowed := true }
def RatSubsUptoSaid : Prop := ratSubsUptoRow.holds Try.pinned (OpenSpec.upto ratSubsSpec)

/-- 'jalousielaw1.RatDivs', WHERE WHAT IT READS IS OF BULK AT MOST 1048576: true; the input reads as it did. -/
def ratDivsUptoRow : OpenClaim := { program := "ytlgbagcgfoejhaa", sum := "beff2b2ecdcbafd107900d336b7d361b98fd669ad3116e86378babb35463e45f", func := "jalousie/jalousielaw1.RatDivs", spec := "ratDivs", inPlace := ["math/bits.Sub64"], apart := false, narrowed := true }
def RatDivsUptoSaid : Prop := ratDivsUptoRow.holds Try.pinned (OpenSpec.upto ratDivsSpec)

/-- 'jalousielaw1.RatCmps', WHERE WHAT IT READS IS OF BULK AT MOST 1048576: true; the input reads as it did. -/
def ratCmpsUptoRow : OpenClaim := { program := "ytlgbagcgfoejhaa", sum := "beff2b2ecdcbafd107900d336b7d361b98fd669ad3116e86378babb35463e45f", func := "jalousie/jalousielaw1.RatCmps", spec := "ratCmps", apart := false, narrowed := true }
def RatCmpsUptoSaid : Prop := ratCmpsUptoRow.holds Try.pinned (OpenSpec.upto ratCmpsSpec)

end Rows
end Go.Proofs.Ytlgbagcgfoejhaa
