/-
  NARROWER THAN 'FOR EVERY INPUT', by the rows' own cells (each row's printed sentence says how): SelParses: loops, laid · SelReads: laid · SelMay: loops, laid · SelTexts: loops, laid · SelWeighs: loops, laid · SelBack: loops, laid.
  DERIVED. THE GIVEN ROWS OF THIS SEAT. 6 by the template 'for every input the law returns true; each argument reads behind the call as it read before'; 0 by the template 'total and deterministic' (their statements: YtmkbjcoagfnegaaGreatDoorTotals.lean).
  GIVEN WITH THE SEED: the statements are not yours to turn. If you find one false, say at which input.
  Laid BY PROGRAM, IN A SANDBOX (cutbox-rows.mjs): the forced cells as the released guide's own fill.sh prints them over the translation aadfe4f2679e6f73… (all of the seat's roots in one cut). By AI agents, Wed Nov 11 2026. No macro, syntax, notation, axiom, sorry.
-/
import Derived.Test.YtmkbjcoagfnegaaGreatDoorChecked
import GoSem.PinnedTables
import GoSem.Claim
import GoSem.ClaimJoined
import GoSem.ClaimMapViews
import Derived.JoinedTies
import Derived.KernelRfl
namespace Go.Proofs.YtmkbjcoagfnegaaGreatDoor
/- THE CELL 'sum', in the pinned program and in every row, IS THE sha256 OF THE DUMP (.gsa) THAT YtmkbjcoagfnegaaGreatDoorProg.lean LOADS. Nothing in Lean hashes anything: it is a label: what it is worth is what the hold of that sum in a sandbox is worth. -/
noncomputable def Tryz.pinned : Pinned := { name := "ytmkbjcoagfnegaagreatdoor", sum := "aadfe4f2679e6f7363d27e70513ce5694e899658a3e9ee397e61399b74b6e82d", checked := Tryz.checked }
namespace Rows
def none {H : Type} : Left H := { results := [], args := [] }

/- WHAT THE LISTED PACKAGE-LEVEL VARIABLES READ AS WHEN THE CALL BEGINS. Each datum BY PROGRAM (the guide's laid-datum.mjs) off the statement by which the dump's own 'gosem.cut.vars' lays the variable. In a bare row this is a premise. The card (YtmkbjcoagfnegaaGreatDoorCards.lean) ties it to the program's text. -/
def laid_math_bits_deBruijn32tab {H : Type} : DataW H := .agg [.lit (.int .u8 0), .lit (.int .u8 1), .lit (.int .u8 28), .lit (.int .u8 2), .lit (.int .u8 29), .lit (.int .u8 14), .lit (.int .u8 24), .lit (.int .u8 3), .lit (.int .u8 30), .lit (.int .u8 22), .lit (.int .u8 20), .lit (.int .u8 15), .lit (.int .u8 25), .lit (.int .u8 17), .lit (.int .u8 4), .lit (.int .u8 8), .lit (.int .u8 31), .lit (.int .u8 27), .lit (.int .u8 13), .lit (.int .u8 23), .lit (.int .u8 21), .lit (.int .u8 19), .lit (.int .u8 16), .lit (.int .u8 7), .lit (.int .u8 26), .lit (.int .u8 12), .lit (.int .u8 18), .lit (.int .u8 6), .lit (.int .u8 11), .lit (.int .u8 5), .lit (.int .u8 10), .lit (.int .u8 9)]
def laid_math_bits_deBruijn64tab {H : Type} : DataW H := .agg [.lit (.int .u8 0), .lit (.int .u8 1), .lit (.int .u8 56), .lit (.int .u8 2), .lit (.int .u8 57), .lit (.int .u8 49), .lit (.int .u8 28), .lit (.int .u8 3), .lit (.int .u8 61), .lit (.int .u8 58), .lit (.int .u8 42), .lit (.int .u8 50), .lit (.int .u8 38), .lit (.int .u8 29), .lit (.int .u8 17), .lit (.int .u8 4), .lit (.int .u8 62), .lit (.int .u8 47), .lit (.int .u8 59), .lit (.int .u8 36), .lit (.int .u8 45), .lit (.int .u8 43), .lit (.int .u8 51), .lit (.int .u8 22), .lit (.int .u8 53), .lit (.int .u8 39), .lit (.int .u8 33), .lit (.int .u8 30), .lit (.int .u8 24), .lit (.int .u8 18), .lit (.int .u8 12), .lit (.int .u8 5), .lit (.int .u8 63), .lit (.int .u8 55), .lit (.int .u8 48), .lit (.int .u8 27), .lit (.int .u8 60), .lit (.int .u8 41), .lit (.int .u8 37), .lit (.int .u8 16), .lit (.int .u8 46), .lit (.int .u8 35), .lit (.int .u8 44), .lit (.int .u8 21), .lit (.int .u8 52), .lit (.int .u8 32), .lit (.int .u8 23), .lit (.int .u8 11), .lit (.int .u8 54), .lit (.int .u8 26), .lit (.int .u8 40), .lit (.int .u8 15), .lit (.int .u8 34), .lit (.int .u8 20), .lit (.int .u8 31), .lit (.int .u8 10), .lit (.int .u8 25), .lit (.int .u8 14), .lit (.int .u8 19), .lit (.int .u8 9), .lit (.int .u8 13), .lit (.int .u8 8), .lit (.int .u8 7), .lit (.int .u8 6)]
def laid_internal_strconv_uint64pow10 {H : Type} : DataW H := .agg [.lit (.int .u64 1), .lit (.int .u64 10), .lit (.int .u64 100), .lit (.int .u64 1000), .lit (.int .u64 10000), .lit (.int .u64 100000), .lit (.int .u64 1000000), .lit (.int .u64 10000000), .lit (.int .u64 100000000), .lit (.int .u64 1000000000), .lit (.int .u64 10000000000), .lit (.int .u64 100000000000), .lit (.int .u64 1000000000000), .lit (.int .u64 10000000000000), .lit (.int .u64 100000000000000), .lit (.int .u64 1000000000000000), .lit (.int .u64 10000000000000000), .lit (.int .u64 100000000000000000), .lit (.int .u64 1000000000000000000), .lit (.int .u64 10000000000000000000)]
def laid_unicode_utf8_acceptRanges {H : Type} : DataW H := .agg [.agg [.lit (.int .u8 128), .lit (.int .u8 191)], .agg [.lit (.int .u8 160), .lit (.int .u8 191)], .agg [.lit (.int .u8 128), .lit (.int .u8 159)], .agg [.lit (.int .u8 144), .lit (.int .u8 191)], .agg [.lit (.int .u8 128), .lit (.int .u8 143)], .agg [.lit (.int .u8 0), .lit (.int .u8 0)], .agg [.lit (.int .u8 0), .lit (.int .u8 0)], .agg [.lit (.int .u8 0), .lit (.int .u8 0)], .agg [.lit (.int .u8 0), .lit (.int .u8 0)], .agg [.lit (.int .u8 0), .lit (.int .u8 0)], .agg [.lit (.int .u8 0), .lit (.int .u8 0)], .agg [.lit (.int .u8 0), .lit (.int .u8 0)], .agg [.lit (.int .u8 0), .lit (.int .u8 0)], .agg [.lit (.int .u8 0), .lit (.int .u8 0)], .agg [.lit (.int .u8 0), .lit (.int .u8 0)], .agg [.lit (.int .u8 0), .lit (.int .u8 0)]]
def laid_jalousie_jalousieref3_kinds {H : Type} : DataW H := .agg [.lit (.int .i64 21), .lit (.int .i64 22), .lit (.int .i64 19), .lit (.int .i64 20), .lit (.int .i64 23), .lit (.int .i64 24), .lit (.int .i64 18), .lit (.int .i64 16), .lit (.int .i64 17)]
def laid_jalousie_spell_kinds {H : Type} : DataW H := .agg [.agg [.lit (.bool false), .lit (.bool false), .lit (.bool false), .lit (.bool false), .lit (.bool false), .lit (.string [])], .agg [.lit (.bool true), .lit (.bool true), .lit (.bool false), .lit (.bool true), .lit (.bool true), .lit (.string [])], .agg [.lit (.bool true), .lit (.bool true), .lit (.bool false), .lit (.bool false), .lit (.bool true), .lit (.string [])], .agg [.lit (.bool true), .lit (.bool true), .lit (.bool false), .lit (.bool true), .lit (.bool false), .lit (.string [])], .agg [.lit (.bool true), .lit (.bool true), .lit (.bool false), .lit (.bool true), .lit (.bool false), .lit (.string [])], .agg [.lit (.bool true), .lit (.bool false), .lit (.bool false), .lit (.bool false), .lit (.bool false), .lit (.string [])], .agg [.lit (.bool false), .lit (.bool false), .lit (.bool false), .lit (.bool false), .lit (.bool false), .lit (.string [34, 10])], .agg [.lit (.bool true), .lit (.bool false), .lit (.bool false), .lit (.bool false), .lit (.bool true), .lit (.string [])], .agg [.lit (.bool false), .lit (.bool false), .lit (.bool false), .lit (.bool false), .lit (.bool true), .lit (.string [117, 114, 108, 40, 40, 41])], .agg [.lit (.bool true), .lit (.bool false), .lit (.bool false), .lit (.bool true), .lit (.bool true), .lit (.string [])], .agg [.lit (.bool false), .lit (.bool false), .lit (.bool true), .lit (.bool true), .lit (.bool true), .lit (.string [])], .agg [.lit (.bool false), .lit (.bool false), .lit (.bool true), .lit (.bool false), .lit (.bool true), .lit (.string [])], .agg [.lit (.bool true), .lit (.bool true), .lit (.bool true), .lit (.bool true), .lit (.bool true), .lit (.string [])], .agg [.lit (.bool false), .lit (.bool false), .lit (.bool false), .lit (.bool false), .lit (.bool false), .lit (.string [32])], .agg [.lit (.bool false), .lit (.bool false), .lit (.bool false), .lit (.bool false), .lit (.bool false), .lit (.string [60, 33, 45, 45])], .agg [.lit (.bool false), .lit (.bool false), .lit (.bool false), .lit (.bool false), .lit (.bool true), .lit (.string [45, 45, 62])], .agg [.lit (.bool false), .lit (.bool false), .lit (.bool false), .lit (.bool false), .lit (.bool false), .lit (.string [58])], .agg [.lit (.bool false), .lit (.bool false), .lit (.bool false), .lit (.bool false), .lit (.bool false), .lit (.string [59])], .agg [.lit (.bool false), .lit (.bool false), .lit (.bool false), .lit (.bool false), .lit (.bool false), .lit (.string [44])], .agg [.lit (.bool false), .lit (.bool false), .lit (.bool false), .lit (.bool false), .lit (.bool false), .lit (.string [91])], .agg [.lit (.bool false), .lit (.bool false), .lit (.bool false), .lit (.bool false), .lit (.bool false), .lit (.string [93])], .agg [.lit (.bool false), .lit (.bool false), .lit (.bool false), .lit (.bool false), .lit (.bool true), .lit (.string [40])], .agg [.lit (.bool false), .lit (.bool false), .lit (.bool false), .lit (.bool false), .lit (.bool false), .lit (.string [41])], .agg [.lit (.bool false), .lit (.bool false), .lit (.bool false), .lit (.bool false), .lit (.bool false), .lit (.string [123])], .agg [.lit (.bool false), .lit (.bool false), .lit (.bool false), .lit (.bool false), .lit (.bool false), .lit (.string [125])]]
/-- One of Go's own tables, pinned by name: the form's constant. -/
def laid_unicode_utf8_first : DataW Unit := Go.Pinned.utf8First

/-- 'jalousielaw9.SelParses': WHATEVER THE INPUT: true; the input reads as it did. -/
def selParsesSpec : ChangeSpec := { name := "selParses", fn := fun _ => fun
  | [d] => { results := [.lit (.bool true)], args := [d] }
  | _ => none }
def selParsesRow : OpenClaim := { program := "ytmkbjcoagfnegaagreatdoor", sum := "aadfe4f2679e6f7363d27e70513ce5694e899658a3e9ee397e61399b74b6e82d", func := "jalousie/jalousielaw9.SelParses", spec := "selParses", inPlace := ["internal/bytealg.IndexByteString", "internal/bytealg.IndexString", "internal/abi.NoEscape", "internal/bytealg.MakeNoZero"], recurses := true, named := ["jalousie/spell.kinds", "internal/bytealg.MaxLen", "math/bits.deBruijn64tab", "internal/strconv.uint64pow10", "math/bits.deBruijn32tab", "unicode/utf8.first", "unicode/utf8.acceptRanges", "jalousie/jalousieref3.kinds"], loops := true, apart := false, laid := [("math/bits.deBruijn32tab", laid_math_bits_deBruijn32tab), ("math/bits.deBruijn64tab", laid_math_bits_deBruijn64tab), ("internal/strconv.uint64pow10", laid_internal_strconv_uint64pow10), ("unicode/utf8.acceptRanges", laid_unicode_utf8_acceptRanges), ("jalousie/jalousieref3.kinds", laid_jalousie_jalousieref3_kinds), ("jalousie/spell.kinds", laid_jalousie_spell_kinds), ("unicode/utf8.first", laid_unicode_utf8_first)] }
def SelParsesSaid : Prop := selParsesRow.holds Tryz.pinned (OpenSpec.ofChange selParsesSpec)

/-- ITS FALSE NEIGHBOUR: 'it returns false'. Refute it at one input. -/
def selParsesWrong : ChangeSpec := { name := "selParses", fn := fun _ => fun
  | [d] => { results := [.lit (.bool false)], args := [d] }
  | _ => none }
def SelParsesWrongFalsely : Prop := selParsesRow.holds Tryz.pinned (OpenSpec.ofChange selParsesWrong)

/-- 'jalousielaw9.SelReads': WHATEVER THE INPUT: true; the input reads as it did. -/
def selReadsSpec : ChangeSpec := { name := "selReads", fn := fun _ => fun
  | [d] => { results := [.lit (.bool true)], args := [d] }
  | _ => none }
def selReadsRow : OpenClaim := { program := "ytmkbjcoagfnegaagreatdoor", sum := "aadfe4f2679e6f7363d27e70513ce5694e899658a3e9ee397e61399b74b6e82d", func := "jalousie/jalousielaw9.SelReads", spec := "selReads", inPlace := ["internal/bytealg.IndexByteString", "internal/bytealg.IndexString", "internal/abi.NoEscape", "internal/bytealg.MakeNoZero"], recurses := true, named := ["jalousie/jalousieref3.kinds", "jalousie/spell.kinds", "internal/bytealg.MaxLen", "math/bits.deBruijn64tab", "internal/strconv.uint64pow10", "math/bits.deBruijn32tab", "unicode/utf8.first", "unicode/utf8.acceptRanges"], apart := false, laid := [("math/bits.deBruijn32tab", laid_math_bits_deBruijn32tab), ("math/bits.deBruijn64tab", laid_math_bits_deBruijn64tab), ("internal/strconv.uint64pow10", laid_internal_strconv_uint64pow10), ("unicode/utf8.acceptRanges", laid_unicode_utf8_acceptRanges), ("jalousie/jalousieref3.kinds", laid_jalousie_jalousieref3_kinds), ("jalousie/spell.kinds", laid_jalousie_spell_kinds), ("unicode/utf8.first", laid_unicode_utf8_first)] }
def SelReadsSaid : Prop := selReadsRow.holds Tryz.pinned (OpenSpec.ofChange selReadsSpec)

/-- ITS FALSE NEIGHBOUR: 'it returns false'. Refute it at one input. -/
def selReadsWrong : ChangeSpec := { name := "selReads", fn := fun _ => fun
  | [d] => { results := [.lit (.bool false)], args := [d] }
  | _ => none }
def SelReadsWrongFalsely : Prop := selReadsRow.holds Tryz.pinned (OpenSpec.ofChange selReadsWrong)

/-- 'jalousielaw9.SelMay': WHATEVER THE INPUT: true; the input reads as it did. -/
def selMaySpec : ChangeSpec := { name := "selMay", fn := fun _ => fun
  | [d] => { results := [.lit (.bool true)], args := [d] }
  | _ => none }
def selMayRow : OpenClaim := { program := "ytmkbjcoagfnegaagreatdoor", sum := "aadfe4f2679e6f7363d27e70513ce5694e899658a3e9ee397e61399b74b6e82d", func := "jalousie/jalousielaw9.SelMay", spec := "selMay", inPlace := ["internal/bytealg.IndexByteString", "internal/bytealg.IndexString", "internal/abi.NoEscape", "internal/bytealg.MakeNoZero"], recurses := true, named := ["jalousie/spell.kinds", "internal/bytealg.MaxLen", "math/bits.deBruijn64tab", "internal/strconv.uint64pow10", "math/bits.deBruijn32tab", "unicode/utf8.first", "unicode/utf8.acceptRanges", "jalousie/jalousieref3.kinds"], loops := true, apart := false, laid := [("math/bits.deBruijn32tab", laid_math_bits_deBruijn32tab), ("math/bits.deBruijn64tab", laid_math_bits_deBruijn64tab), ("internal/strconv.uint64pow10", laid_internal_strconv_uint64pow10), ("unicode/utf8.acceptRanges", laid_unicode_utf8_acceptRanges), ("jalousie/jalousieref3.kinds", laid_jalousie_jalousieref3_kinds), ("jalousie/spell.kinds", laid_jalousie_spell_kinds), ("unicode/utf8.first", laid_unicode_utf8_first)] }
def SelMaySaid : Prop := selMayRow.holds Tryz.pinned (OpenSpec.ofChange selMaySpec)

/-- ITS FALSE NEIGHBOUR: 'it returns false'. Refute it at one input. -/
def selMayWrong : ChangeSpec := { name := "selMay", fn := fun _ => fun
  | [d] => { results := [.lit (.bool false)], args := [d] }
  | _ => none }
def SelMayWrongFalsely : Prop := selMayRow.holds Tryz.pinned (OpenSpec.ofChange selMayWrong)

/-- 'jalousielaw9.SelTexts': WHATEVER THE INPUT: true; the input reads as it did. -/
def selTextsSpec : ChangeSpec := { name := "selTexts", fn := fun _ => fun
  | [d] => { results := [.lit (.bool true)], args := [d] }
  | _ => none }
def selTextsRow : OpenClaim := { program := "ytmkbjcoagfnegaagreatdoor", sum := "aadfe4f2679e6f7363d27e70513ce5694e899658a3e9ee397e61399b74b6e82d", func := "jalousie/jalousielaw9.SelTexts", spec := "selTexts", inPlace := ["internal/bytealg.IndexByteString", "internal/bytealg.IndexString", "internal/abi.NoEscape", "internal/bytealg.MakeNoZero"], recurses := true, named := ["jalousie/spell.kinds", "internal/bytealg.MaxLen", "math/bits.deBruijn64tab", "internal/strconv.uint64pow10", "math/bits.deBruijn32tab", "unicode/utf8.first", "unicode/utf8.acceptRanges", "jalousie/jalousieref3.kinds"], loops := true, apart := false, laid := [("math/bits.deBruijn32tab", laid_math_bits_deBruijn32tab), ("math/bits.deBruijn64tab", laid_math_bits_deBruijn64tab), ("internal/strconv.uint64pow10", laid_internal_strconv_uint64pow10), ("unicode/utf8.acceptRanges", laid_unicode_utf8_acceptRanges), ("jalousie/jalousieref3.kinds", laid_jalousie_jalousieref3_kinds), ("jalousie/spell.kinds", laid_jalousie_spell_kinds), ("unicode/utf8.first", laid_unicode_utf8_first)] }
def SelTextsSaid : Prop := selTextsRow.holds Tryz.pinned (OpenSpec.ofChange selTextsSpec)

/-- ITS FALSE NEIGHBOUR: 'it returns false'. Refute it at one input. -/
def selTextsWrong : ChangeSpec := { name := "selTexts", fn := fun _ => fun
  | [d] => { results := [.lit (.bool false)], args := [d] }
  | _ => none }
def SelTextsWrongFalsely : Prop := selTextsRow.holds Tryz.pinned (OpenSpec.ofChange selTextsWrong)

/-- 'jalousielaw9.SelWeighs': WHATEVER THE INPUT: true; the input reads as it did. -/
def selWeighsSpec : ChangeSpec := { name := "selWeighs", fn := fun _ => fun
  | [d1, d2, d3, d4] => { results := [.lit (.bool true)], args := [d1, d2, d3, d4] }
  | _ => none }
def selWeighsRow : OpenClaim := { program := "ytmkbjcoagfnegaagreatdoor", sum := "aadfe4f2679e6f7363d27e70513ce5694e899658a3e9ee397e61399b74b6e82d", func := "jalousie/jalousielaw9.SelWeighs", spec := "selWeighs", inPlace := ["internal/bytealg.IndexByteString", "internal/bytealg.IndexString", "internal/abi.NoEscape", "internal/bytealg.MakeNoZero"], recurses := true, named := ["jalousie/spell.kinds", "internal/bytealg.MaxLen", "math/bits.deBruijn64tab", "internal/strconv.uint64pow10", "math/bits.deBruijn32tab", "unicode/utf8.first", "unicode/utf8.acceptRanges", "jalousie/jalousieref3.kinds"], loops := true, apart := false, laid := [("math/bits.deBruijn32tab", laid_math_bits_deBruijn32tab), ("math/bits.deBruijn64tab", laid_math_bits_deBruijn64tab), ("internal/strconv.uint64pow10", laid_internal_strconv_uint64pow10), ("unicode/utf8.acceptRanges", laid_unicode_utf8_acceptRanges), ("jalousie/jalousieref3.kinds", laid_jalousie_jalousieref3_kinds), ("jalousie/spell.kinds", laid_jalousie_spell_kinds), ("unicode/utf8.first", laid_unicode_utf8_first)] }
def SelWeighsSaid : Prop := selWeighsRow.holds Tryz.pinned (OpenSpec.ofChange selWeighsSpec)

/-- ITS FALSE NEIGHBOUR: 'it returns false'. Refute it at one input. -/
def selWeighsWrong : ChangeSpec := { name := "selWeighs", fn := fun _ => fun
  | [d1, d2, d3, d4] => { results := [.lit (.bool false)], args := [d1, d2, d3, d4] }
  | _ => none }
def SelWeighsWrongFalsely : Prop := selWeighsRow.holds Tryz.pinned (OpenSpec.ofChange selWeighsWrong)

/-- 'jalousielaw9.SelBack': WHATEVER THE INPUT: true; the input reads as it did. -/
def selBackSpec : ChangeSpec := { name := "selBack", fn := fun _ => fun
  | [d1, d2] => { results := [.lit (.bool true)], args := [d1, d2] }
  | _ => none }
def selBackRow : OpenClaim := { program := "ytmkbjcoagfnegaagreatdoor", sum := "aadfe4f2679e6f7363d27e70513ce5694e899658a3e9ee397e61399b74b6e82d", func := "jalousie/jalousielaw9.SelBack", spec := "selBack", inPlace := ["internal/bytealg.IndexByteString", "internal/bytealg.IndexString", "internal/abi.NoEscape", "internal/bytealg.MakeNoZero"], recurses := true, named := ["jalousie/spell.kinds", "internal/bytealg.MaxLen", "math/bits.deBruijn64tab", "internal/strconv.uint64pow10", "math/bits.deBruijn32tab", "unicode/utf8.first", "unicode/utf8.acceptRanges", "jalousie/jalousieref3.kinds"], loops := true, apart := false, laid := [("math/bits.deBruijn32tab", laid_math_bits_deBruijn32tab), ("math/bits.deBruijn64tab", laid_math_bits_deBruijn64tab), ("internal/strconv.uint64pow10", laid_internal_strconv_uint64pow10), ("unicode/utf8.acceptRanges", laid_unicode_utf8_acceptRanges), ("jalousie/jalousieref3.kinds", laid_jalousie_jalousieref3_kinds), ("jalousie/spell.kinds", laid_jalousie_spell_kinds), ("unicode/utf8.first", laid_unicode_utf8_first)] }
def SelBackSaid : Prop := selBackRow.holds Tryz.pinned (OpenSpec.ofChange selBackSpec)

/-- ITS FALSE NEIGHBOUR: 'it returns false'. Refute it at one input. -/
def selBackWrong : ChangeSpec := { name := "selBack", fn := fun _ => fun
  | [d1, d2] => { results := [.lit (.bool false)], args := [d1, d2] }
  | _ => none }
def SelBackWrongFalsely : Prop := selBackRow.holds Tryz.pinned (OpenSpec.ofChange selBackWrong)

/- THE SECOND FORM. 'bulk': how many values and letters a reading holds, each counted each time it is reached (what is shared counts as often as it is met; a slice's spare places count too). A statement '..UptoSaid' is the law's where the arguments, and the package variables that the reading takes, are together of bulk at most 1048576: NARROWER than '..Said'. Prove '..Said' where nothing that the law and all that it calls make is longer than what came in: it says more and counts as full. Else prove '..UptoSaid'. A law counts once. -/
mutual
def uptoBulk {H : Type} : DataW H → Nat
  | .lit (.string bytes) => bytes.length + 1
  | .lit _ => 1
  | .nil => 1
  | .ptr d => uptoBulk d + 1
  | .slice elems spare => uptoBulkAll elems + uptoBulkAll spare + 1
  | .agg parts => uptoBulkAll parts + 1
  | .iface _ d => uptoBulk d + 1
  | .map entries => uptoBulkEntries entries + 1
  | .held _ => 1
def uptoBulkAll {H : Type} : List (DataW H) → Nat
  | [] => 0
  | d :: r => uptoBulk d + uptoBulkAll r
def uptoBulkEntries {H : Type} : List (Lit × DataW H) → Nat
  | [] => 0
  | x :: r => uptoBulkEntry x + uptoBulkEntries r
def uptoBulkEntry {H : Type} : Lit × DataW H → Nat
  | (.string bytes, d) => bytes.length + uptoBulk d + 1
  | (_, d) => uptoBulk d + 1
 end
def uptoSmall : (H : Type) → List (DataW H) → Bool := fun _ ds => decide (uptoBulkAll ds ≤ 1048576)
def OpenSpec.upto (s : _root_.Go.ChangeSpec) : _root_.Go.OpenSpec := { _root_.Go.OpenSpec.ofChange s with cond := some uptoSmall }

/-- 'jalousielaw9.SelParses', WHERE WHAT IT READS IS OF BULK AT MOST 1048576: true; the input reads as it did. -/
def selParsesUptoRow : OpenClaim := { program := "ytmkbjcoagfnegaagreatdoor", sum := "aadfe4f2679e6f7363d27e70513ce5694e899658a3e9ee397e61399b74b6e82d", func := "jalousie/jalousielaw9.SelParses", spec := "selParses", inPlace := ["internal/bytealg.IndexByteString", "internal/bytealg.IndexString", "internal/abi.NoEscape", "internal/bytealg.MakeNoZero"], recurses := true, named := ["jalousie/spell.kinds", "internal/bytealg.MaxLen", "math/bits.deBruijn64tab", "internal/strconv.uint64pow10", "math/bits.deBruijn32tab", "unicode/utf8.first", "unicode/utf8.acceptRanges", "jalousie/jalousieref3.kinds"], loops := true, apart := false, laid := [("math/bits.deBruijn32tab", laid_math_bits_deBruijn32tab), ("math/bits.deBruijn64tab", laid_math_bits_deBruijn64tab), ("internal/strconv.uint64pow10", laid_internal_strconv_uint64pow10), ("unicode/utf8.acceptRanges", laid_unicode_utf8_acceptRanges), ("jalousie/jalousieref3.kinds", laid_jalousie_jalousieref3_kinds), ("jalousie/spell.kinds", laid_jalousie_spell_kinds), ("unicode/utf8.first", laid_unicode_utf8_first)], narrowed := true }
def SelParsesUptoSaid : Prop := selParsesUptoRow.holds Tryz.pinned (OpenSpec.upto selParsesSpec)

/-- 'jalousielaw9.SelReads', WHERE WHAT IT READS IS OF BULK AT MOST 1048576: true; the input reads as it did. -/
def selReadsUptoRow : OpenClaim := { program := "ytmkbjcoagfnegaagreatdoor", sum := "aadfe4f2679e6f7363d27e70513ce5694e899658a3e9ee397e61399b74b6e82d", func := "jalousie/jalousielaw9.SelReads", spec := "selReads", inPlace := ["internal/bytealg.IndexByteString", "internal/bytealg.IndexString", "internal/abi.NoEscape", "internal/bytealg.MakeNoZero"], recurses := true, named := ["jalousie/jalousieref3.kinds", "jalousie/spell.kinds", "internal/bytealg.MaxLen", "math/bits.deBruijn64tab", "internal/strconv.uint64pow10", "math/bits.deBruijn32tab", "unicode/utf8.first", "unicode/utf8.acceptRanges"], apart := false, laid := [("math/bits.deBruijn32tab", laid_math_bits_deBruijn32tab), ("math/bits.deBruijn64tab", laid_math_bits_deBruijn64tab), ("internal/strconv.uint64pow10", laid_internal_strconv_uint64pow10), ("unicode/utf8.acceptRanges", laid_unicode_utf8_acceptRanges), ("jalousie/jalousieref3.kinds", laid_jalousie_jalousieref3_kinds), ("jalousie/spell.kinds", laid_jalousie_spell_kinds), ("unicode/utf8.first", laid_unicode_utf8_first)], narrowed := true }
def SelReadsUptoSaid : Prop := selReadsUptoRow.holds Tryz.pinned (OpenSpec.upto selReadsSpec)

/-- 'jalousielaw9.SelMay', WHERE WHAT IT READS IS OF BULK AT MOST 1048576: true; the input reads as it did. -/
def selMayUptoRow : OpenClaim := { program := "ytmkbjcoagfnegaagreatdoor", sum := "aadfe4f2679e6f7363d27e70513ce5694e899658a3e9ee397e61399b74b6e82d", func := "jalousie/jalousielaw9.SelMay", spec := "selMay", inPlace := ["internal/bytealg.IndexByteString", "internal/bytealg.IndexString", "internal/abi.NoEscape", "internal/bytealg.MakeNoZero"], recurses := true, named := ["jalousie/spell.kinds", "internal/bytealg.MaxLen", "math/bits.deBruijn64tab", "internal/strconv.uint64pow10", "math/bits.deBruijn32tab", "unicode/utf8.first", "unicode/utf8.acceptRanges", "jalousie/jalousieref3.kinds"], loops := true, apart := false, laid := [("math/bits.deBruijn32tab", laid_math_bits_deBruijn32tab), ("math/bits.deBruijn64tab", laid_math_bits_deBruijn64tab), ("internal/strconv.uint64pow10", laid_internal_strconv_uint64pow10), ("unicode/utf8.acceptRanges", laid_unicode_utf8_acceptRanges), ("jalousie/jalousieref3.kinds", laid_jalousie_jalousieref3_kinds), ("jalousie/spell.kinds", laid_jalousie_spell_kinds), ("unicode/utf8.first", laid_unicode_utf8_first)], narrowed := true }
def SelMayUptoSaid : Prop := selMayUptoRow.holds Tryz.pinned (OpenSpec.upto selMaySpec)

/-- 'jalousielaw9.SelTexts', WHERE WHAT IT READS IS OF BULK AT MOST 1048576: true; the input reads as it did. -/
def selTextsUptoRow : OpenClaim := { program := "ytmkbjcoagfnegaagreatdoor", sum := "aadfe4f2679e6f7363d27e70513ce5694e899658a3e9ee397e61399b74b6e82d", func := "jalousie/jalousielaw9.SelTexts", spec := "selTexts", inPlace := ["internal/bytealg.IndexByteString", "internal/bytealg.IndexString", "internal/abi.NoEscape", "internal/bytealg.MakeNoZero"], recurses := true, named := ["jalousie/spell.kinds", "internal/bytealg.MaxLen", "math/bits.deBruijn64tab", "internal/strconv.uint64pow10", "math/bits.deBruijn32tab", "unicode/utf8.first", "unicode/utf8.acceptRanges", "jalousie/jalousieref3.kinds"], loops := true, apart := false, laid := [("math/bits.deBruijn32tab", laid_math_bits_deBruijn32tab), ("math/bits.deBruijn64tab", laid_math_bits_deBruijn64tab), ("internal/strconv.uint64pow10", laid_internal_strconv_uint64pow10), ("unicode/utf8.acceptRanges", laid_unicode_utf8_acceptRanges), ("jalousie/jalousieref3.kinds", laid_jalousie_jalousieref3_kinds), ("jalousie/spell.kinds", laid_jalousie_spell_kinds), ("unicode/utf8.first", laid_unicode_utf8_first)], narrowed := true }
def SelTextsUptoSaid : Prop := selTextsUptoRow.holds Tryz.pinned (OpenSpec.upto selTextsSpec)

/-- 'jalousielaw9.SelWeighs', WHERE WHAT IT READS IS OF BULK AT MOST 1048576: true; the input reads as it did. -/
def selWeighsUptoRow : OpenClaim := { program := "ytmkbjcoagfnegaagreatdoor", sum := "aadfe4f2679e6f7363d27e70513ce5694e899658a3e9ee397e61399b74b6e82d", func := "jalousie/jalousielaw9.SelWeighs", spec := "selWeighs", inPlace := ["internal/bytealg.IndexByteString", "internal/bytealg.IndexString", "internal/abi.NoEscape", "internal/bytealg.MakeNoZero"], recurses := true, named := ["jalousie/spell.kinds", "internal/bytealg.MaxLen", "math/bits.deBruijn64tab", "internal/strconv.uint64pow10", "math/bits.deBruijn32tab", "unicode/utf8.first", "unicode/utf8.acceptRanges", "jalousie/jalousieref3.kinds"], loops := true, apart := false, laid := [("math/bits.deBruijn32tab", laid_math_bits_deBruijn32tab), ("math/bits.deBruijn64tab", laid_math_bits_deBruijn64tab), ("internal/strconv.uint64pow10", laid_internal_strconv_uint64pow10), ("unicode/utf8.acceptRanges", laid_unicode_utf8_acceptRanges), ("jalousie/jalousieref3.kinds", laid_jalousie_jalousieref3_kinds), ("jalousie/spell.kinds", laid_jalousie_spell_kinds), ("unicode/utf8.first", laid_unicode_utf8_first)], narrowed := true }
def SelWeighsUptoSaid : Prop := selWeighsUptoRow.holds Tryz.pinned (OpenSpec.upto selWeighsSpec)

/-- 'jalousielaw9.SelBack', WHERE WHAT IT READS IS OF BULK AT MOST 1048576: true; the input reads as it did. -/
def selBackUptoRow : OpenClaim := { program := "ytmkbjcoagfnegaagreatdoor", sum := "aadfe4f2679e6f7363d27e70513ce5694e899658a3e9ee397e61399b74b6e82d", func := "jalousie/jalousielaw9.SelBack", spec := "selBack", inPlace := ["internal/bytealg.IndexByteString", "internal/bytealg.IndexString", "internal/abi.NoEscape", "internal/bytealg.MakeNoZero"], recurses := true, named := ["jalousie/spell.kinds", "internal/bytealg.MaxLen", "math/bits.deBruijn64tab", "internal/strconv.uint64pow10", "math/bits.deBruijn32tab", "unicode/utf8.first", "unicode/utf8.acceptRanges", "jalousie/jalousieref3.kinds"], loops := true, apart := false, laid := [("math/bits.deBruijn32tab", laid_math_bits_deBruijn32tab), ("math/bits.deBruijn64tab", laid_math_bits_deBruijn64tab), ("internal/strconv.uint64pow10", laid_internal_strconv_uint64pow10), ("unicode/utf8.acceptRanges", laid_unicode_utf8_acceptRanges), ("jalousie/jalousieref3.kinds", laid_jalousie_jalousieref3_kinds), ("jalousie/spell.kinds", laid_jalousie_spell_kinds), ("unicode/utf8.first", laid_unicode_utf8_first)], narrowed := true }
def SelBackUptoSaid : Prop := selBackUptoRow.holds Tryz.pinned (OpenSpec.upto selBackSpec)

end Rows
end Go.Proofs.YtmkbjcoagfnegaaGreatDoor
