/-
  No cell of these rows narrows 'for every input' (looked for: loops, veiled, ifaces, maps, wideKeys, modest, calm, conditions, laid).
  DERIVED. THE GIVEN ROWS OF THIS SEAT. 6 by the template 'for every input the law returns true; each argument reads behind the call as it read before'; 0 by the template 'total and deterministic' (their statements: YtklibbahbclekaaTotals.lean).
  GIVEN WITH THE SEED: the statements are not yours to turn. If you find one false, say at which input.
  Laid BY PROGRAM, IN A SANDBOX (cutbox-rows.mjs): the forced cells as the released guide's own fill.sh prints them over the translation dcb1a4ade395f2bb… (all of the seat's roots in one cut). By AI agents, Wed Nov 11 2026. No macro, syntax, notation, axiom, sorry.
-/
import Derived.Test.YtklibbahbclekaaChecked
import GoSem.Claim
import GoSem.ClaimJoined
import GoSem.ClaimMapViews
import Derived.JoinedTies
import Derived.KernelRfl
namespace Go.Proofs.Ytklibbahbclekaa
/- THE CELL 'sum', in the pinned program and in every row, IS THE sha256 OF THE DUMP (.gsa) THAT YtklibbahbclekaaProg.lean LOADS. Nothing in Lean hashes anything: it is a label: what it is worth is what the hold of that sum in a sandbox is worth. -/
noncomputable def Try.pinned : Pinned := { name := "ytklibbahbclekaa", sum := "dcb1a4ade395f2bb01300694995ce74b60df863aeb4d3692f52b93ebbd9caf57", checked := Try.checked }
namespace Rows
def none {H : Type} : Left H := { results := [], args := [] }

/-- 'jalousielaw2.UtfRaw': WHATEVER THE INPUT: true; the input reads as it did. -/
def utfRawSpec : ChangeSpec := { name := "utfRaw", fn := fun _ => fun
  | [d] => { results := [.lit (.bool true)], args := [d] }
  | _ => none }
def utfRawRow : OpenClaim := { program := "ytklibbahbclekaa", sum := "dcb1a4ade395f2bb01300694995ce74b60df863aeb4d3692f52b93ebbd9caf57", func := "jalousie/jalousielaw2.UtfRaw", spec := "utfRaw", apart := false }
def UtfRawSaid : Prop := utfRawRow.holds Try.pinned (OpenSpec.ofChange utfRawSpec)

/-- ITS FALSE NEIGHBOUR: 'it returns false'. Refute it at one input. -/
def utfRawWrong : ChangeSpec := { name := "utfRaw", fn := fun _ => fun
  | [d] => { results := [.lit (.bool false)], args := [d] }
  | _ => none }
def UtfRawWrongFalsely : Prop := utfRawRow.holds Try.pinned (OpenSpec.ofChange utfRawWrong)

/-- 'jalousielaw2.UtfDecode': WHATEVER THE INPUT: true; the input reads as it did. -/
def utfDecodeSpec : ChangeSpec := { name := "utfDecode", fn := fun _ => fun
  | [d] => { results := [.lit (.bool true)], args := [d] }
  | _ => none }
def utfDecodeRow : OpenClaim := { program := "ytklibbahbclekaa", sum := "dcb1a4ade395f2bb01300694995ce74b60df863aeb4d3692f52b93ebbd9caf57", func := "jalousie/jalousielaw2.UtfDecode", spec := "utfDecode", apart := false }
def UtfDecodeSaid : Prop := utfDecodeRow.holds Try.pinned (OpenSpec.ofChange utfDecodeSpec)

/-- ITS FALSE NEIGHBOUR: 'it returns false'. Refute it at one input. -/
def utfDecodeWrong : ChangeSpec := { name := "utfDecode", fn := fun _ => fun
  | [d] => { results := [.lit (.bool false)], args := [d] }
  | _ => none }
def UtfDecodeWrongFalsely : Prop := utfDecodeRow.holds Try.pinned (OpenSpec.ofChange utfDecodeWrong)

/-- 'jalousielaw2.UtfEncode': WHATEVER THE INPUT: true; the input reads as it did. -/
def utfEncodeSpec : ChangeSpec := { name := "utfEncode", fn := fun _ => fun
  | [d] => { results := [.lit (.bool true)], args := [d] }
  | _ => none }
def utfEncodeRow : OpenClaim := { program := "ytklibbahbclekaa", sum := "dcb1a4ade395f2bb01300694995ce74b60df863aeb4d3692f52b93ebbd9caf57", func := "jalousie/jalousielaw2.UtfEncode", spec := "utfEncode", apart := false }
def UtfEncodeSaid : Prop := utfEncodeRow.holds Try.pinned (OpenSpec.ofChange utfEncodeSpec)

/-- ITS FALSE NEIGHBOUR: 'it returns false'. Refute it at one input. -/
def utfEncodeWrong : ChangeSpec := { name := "utfEncode", fn := fun _ => fun
  | [d] => { results := [.lit (.bool false)], args := [d] }
  | _ => none }
def UtfEncodeWrongFalsely : Prop := utfEncodeRow.holds Try.pinned (OpenSpec.ofChange utfEncodeWrong)

/-- 'jalousielaw2.UtfWhole': WHATEVER THE INPUT: true; the input reads as it did. -/
def utfWholeSpec : ChangeSpec := { name := "utfWhole", fn := fun _ => fun
  | [d] => { results := [.lit (.bool true)], args := [d] }
  | _ => none }
def utfWholeRow : OpenClaim := { program := "ytklibbahbclekaa", sum := "dcb1a4ade395f2bb01300694995ce74b60df863aeb4d3692f52b93ebbd9caf57", func := "jalousie/jalousielaw2.UtfWhole", spec := "utfWhole", apart := false }
def UtfWholeSaid : Prop := utfWholeRow.holds Try.pinned (OpenSpec.ofChange utfWholeSpec)

/-- ITS FALSE NEIGHBOUR: 'it returns false'. Refute it at one input. -/
def utfWholeWrong : ChangeSpec := { name := "utfWhole", fn := fun _ => fun
  | [d] => { results := [.lit (.bool false)], args := [d] }
  | _ => none }
def UtfWholeWrongFalsely : Prop := utfWholeRow.holds Try.pinned (OpenSpec.ofChange utfWholeWrong)

/-- 'jalousielaw2.UtfBack': WHATEVER THE INPUT: true; the input reads as it did. -/
def utfBackSpec : ChangeSpec := { name := "utfBack", fn := fun _ => fun
  | [d1, d2] => { results := [.lit (.bool true)], args := [d1, d2] }
  | _ => none }
def utfBackRow : OpenClaim := { program := "ytklibbahbclekaa", sum := "dcb1a4ade395f2bb01300694995ce74b60df863aeb4d3692f52b93ebbd9caf57", func := "jalousie/jalousielaw2.UtfBack", spec := "utfBack", apart := false }
def UtfBackSaid : Prop := utfBackRow.holds Try.pinned (OpenSpec.ofChange utfBackSpec)

/-- ITS FALSE NEIGHBOUR: 'it returns false'. Refute it at one input. -/
def utfBackWrong : ChangeSpec := { name := "utfBack", fn := fun _ => fun
  | [d1, d2] => { results := [.lit (.bool false)], args := [d1, d2] }
  | _ => none }
def UtfBackWrongFalsely : Prop := utfBackRow.holds Try.pinned (OpenSpec.ofChange utfBackWrong)

/-- 'jalousielaw2.UtfCuts': WHATEVER THE INPUT: true; the input reads as it did. -/
def utfCutsSpec : ChangeSpec := { name := "utfCuts", fn := fun _ => fun
  | [d1, d2] => { results := [.lit (.bool true)], args := [d1, d2] }
  | _ => none }
def utfCutsRow : OpenClaim := { program := "ytklibbahbclekaa", sum := "dcb1a4ade395f2bb01300694995ce74b60df863aeb4d3692f52b93ebbd9caf57", func := "jalousie/jalousielaw2.UtfCuts", spec := "utfCuts", apart := false }
def UtfCutsSaid : Prop := utfCutsRow.holds Try.pinned (OpenSpec.ofChange utfCutsSpec)

/-- ITS FALSE NEIGHBOUR: 'it returns false'. Refute it at one input. -/
def utfCutsWrong : ChangeSpec := { name := "utfCuts", fn := fun _ => fun
  | [d1, d2] => { results := [.lit (.bool false)], args := [d1, d2] }
  | _ => none }
def UtfCutsWrongFalsely : Prop := utfCutsRow.holds Try.pinned (OpenSpec.ofChange utfCutsWrong)

/- THE SECOND FORM. 'bulk': how many values and letters a reading holds, each counted each time it is reached (what is shared counts as often as it is met; a slice's spare places count too). A statement '..UptoSaid' is the law's where the arguments, and the package variables that the reading takes, are together of bulk at most 1048576: NARROWER than '..Said'. Prove '..Said' where nothing that the law and all that it calls make is longer than what came in: it says more and counts as full. Else prove '..UptoSaid'. A law counts once. -/
mutual
def uptoBulk {H : Type} : DataW H → Nat
  | .lit (.string bytes) => bytes.length + 1
  | .lit _ => 1
  | .nil => 1
  | .ptr d => uptoBulk d + 1
  | .slice elems spare => uptoBulkAll elems + uptoBulkAll spare + 1
  | .agg parts => uptoBulkAll parts + 1
  | .iface _ d => uptoBulk d + 1
  | .map entries => uptoBulkEntries entries + 1
  | .held _ => 1
def uptoBulkAll {H : Type} : List (DataW H) → Nat
  | [] => 0
  | d :: r => uptoBulk d + uptoBulkAll r
def uptoBulkEntries {H : Type} : List (Lit × DataW H) → Nat
  | [] => 0
  | x :: r => uptoBulkEntry x + uptoBulkEntries r
def uptoBulkEntry {H : Type} : Lit × DataW H → Nat
  | (.string bytes, d) => bytes.length + uptoBulk d + 1
  | (_, d) => uptoBulk d + 1
 end
def uptoSmall : (H : Type) → List (DataW H) → Bool := fun _ ds => decide (uptoBulkAll ds ≤ 1048576)
def OpenSpec.upto (s : _root_.Go.ChangeSpec) : _root_.Go.OpenSpec := { _root_.Go.OpenSpec.ofChange s with cond := some uptoSmall }

/-- 'jalousielaw2.UtfRaw', WHERE WHAT IT READS IS OF BULK AT MOST 1048576: true; the input reads as it did. -/
def utfRawUptoRow : OpenClaim := { program := "ytklibbahbclekaa", sum := "dcb1a4ade395f2bb01300694995ce74b60df863aeb4d3692f52b93ebbd9caf57", func := "jalousie/jalousielaw2.UtfRaw", spec := "utfRaw", apart := false, narrowed := true }
def UtfRawUptoSaid : Prop := utfRawUptoRow.holds Try.pinned (OpenSpec.upto utfRawSpec)

/-- 'jalousielaw2.UtfDecode', WHERE WHAT IT READS IS OF BULK AT MOST 1048576: true; the input reads as it did. -/
def utfDecodeUptoRow : OpenClaim := { program := "ytklibbahbclekaa", sum := "dcb1a4ade395f2bb01300694995ce74b60df863aeb4d3692f52b93ebbd9caf57", func := "jalousie/jalousielaw2.UtfDecode", spec := "utfDecode", apart := false, narrowed := true }
def UtfDecodeUptoSaid : Prop := utfDecodeUptoRow.holds Try.pinned (OpenSpec.upto utfDecodeSpec)

/-- 'jalousielaw2.UtfEncode', WHERE WHAT IT READS IS OF BULK AT MOST 1048576: true; the input reads as it did. -/
def utfEncodeUptoRow : OpenClaim := { program := "ytklibbahbclekaa", sum := "dcb1a4ade395f2bb01300694995ce74b60df863aeb4d3692f52b93ebbd9caf57", func := "jalousie/jalousielaw2.UtfEncode", spec := "utfEncode", apart := false, narrowed := true }
def UtfEncodeUptoSaid : Prop := utfEncodeUptoRow.holds Try.pinned (OpenSpec.upto utfEncodeSpec)

/-- 'jalousielaw2.UtfWhole', WHERE WHAT IT READS IS OF BULK AT MOST 1048576: true; the input reads as it did. -/
def utfWholeUptoRow : OpenClaim := { program := "ytklibbahbclekaa", sum := "dcb1a4ade395f2bb01300694995ce74b60df863aeb4d3692f52b93ebbd9caf57", func := "jalousie/jalousielaw2.UtfWhole", spec := "utfWhole", apart := false, narrowed := true }
def UtfWholeUptoSaid : Prop := utfWholeUptoRow.holds Try.pinned (OpenSpec.upto utfWholeSpec)

/-- 'jalousielaw2.UtfBack', WHERE WHAT IT READS IS OF BULK AT MOST 1048576: true; the input reads as it did. -/
def utfBackUptoRow : OpenClaim := { program := "ytklibbahbclekaa", sum := "dcb1a4ade395f2bb01300694995ce74b60df863aeb4d3692f52b93ebbd9caf57", func := "jalousie/jalousielaw2.UtfBack", spec := "utfBack", apart := false, narrowed := true }
def UtfBackUptoSaid : Prop := utfBackUptoRow.holds Try.pinned (OpenSpec.upto utfBackSpec)

/-- 'jalousielaw2.UtfCuts', WHERE WHAT IT READS IS OF BULK AT MOST 1048576: true; the input reads as it did. -/
def utfCutsUptoRow : OpenClaim := { program := "ytklibbahbclekaa", sum := "dcb1a4ade395f2bb01300694995ce74b60df863aeb4d3692f52b93ebbd9caf57", func := "jalousie/jalousielaw2.UtfCuts", spec := "utfCuts", apart := false, narrowed := true }
def UtfCutsUptoSaid : Prop := utfCutsUptoRow.holds Try.pinned (OpenSpec.upto utfCutsSpec)

end Rows
end Go.Proofs.Ytklibbahbclekaa
