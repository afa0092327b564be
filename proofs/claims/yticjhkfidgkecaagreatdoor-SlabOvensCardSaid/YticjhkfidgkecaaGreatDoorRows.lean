/-
  NARROWER THAN 'FOR EVERY INPUT', by the rows' own cells (each row's printed sentence says how): SlabChecks: loops, laid · SlabFormats: loops, laid · SlabParses: laid · SlabCells: loops, laid · SlabVolumes: loops, laid · SlabWindows: loops, laid · SlabEquals: loops, laid · SlabTurns: loops, laid · SlabAlgebra: loops, laid · SlabSheets: loops, laid · SlabSeasons: laid · SlabOvens: laid · TopBlocks: loops, laid.
  DERIVED. THE GIVEN ROWS OF THIS SEAT. 13 by the template 'for every input the law returns true; each argument reads behind the call as it read before'; 0 by the template 'total and deterministic' (their statements: YticjhkfidgkecaaGreatDoorTotals.lean).
  GIVEN WITH THE SEED: the statements are not yours to turn. If you find one false, say at which input.
  Laid BY PROGRAM, IN A SANDBOX (cutbox-rows.mjs): the forced cells as the released guide's own fill.sh prints them over the translation fefbb2a46eada5f8… (all of the seat's roots in one cut). By AI agents, Wed Nov 11 2026. No macro, syntax, notation, axiom, sorry.
-/
import Derived.Test.YticjhkfidgkecaaGreatDoorChecked
import GoSem.PinnedTables
import GoSem.Claim
import GoSem.ClaimJoined
import GoSem.ClaimMapViews
import Derived.JoinedTies
import Derived.KernelRfl
namespace Go.Proofs.YticjhkfidgkecaaGreatDoor
/- THE CELL 'sum', in the pinned program and in every row, IS THE sha256 OF THE DUMP (.gsa) THAT YticjhkfidgkecaaGreatDoorProg.lean LOADS. Nothing in Lean hashes anything: it is a label: what it is worth is what the hold of that sum in a sandbox is worth. -/
noncomputable def Tryz.pinned : Pinned := { name := "yticjhkfidgkecaagreatdoor", sum := "fefbb2a46eada5f8c2a1bff2973454a2705a510d1afc56c5ab42052a23deb66d", checked := Tryz.checked }
namespace Rows
def none {H : Type} : Left H := { results := [], args := [] }

/- WHAT THE LISTED PACKAGE-LEVEL VARIABLES READ AS WHEN THE CALL BEGINS. Each datum BY PROGRAM (the guide's laid-datum.mjs) off the statement by which the dump's own 'gosem.cut.vars' lays the variable. In a bare row this is a premise. The card (YticjhkfidgkecaaGreatDoorCards.lean) ties it to the program's text. -/
def laid_math_bits_deBruijn32tab {H : Type} : DataW H := .agg [.lit (.int .u8 0), .lit (.int .u8 1), .lit (.int .u8 28), .lit (.int .u8 2), .lit (.int .u8 29), .lit (.int .u8 14), .lit (.int .u8 24), .lit (.int .u8 3), .lit (.int .u8 30), .lit (.int .u8 22), .lit (.int .u8 20), .lit (.int .u8 15), .lit (.int .u8 25), .lit (.int .u8 17), .lit (.int .u8 4), .lit (.int .u8 8), .lit (.int .u8 31), .lit (.int .u8 27), .lit (.int .u8 13), .lit (.int .u8 23), .lit (.int .u8 21), .lit (.int .u8 19), .lit (.int .u8 16), .lit (.int .u8 7), .lit (.int .u8 26), .lit (.int .u8 12), .lit (.int .u8 18), .lit (.int .u8 6), .lit (.int .u8 11), .lit (.int .u8 5), .lit (.int .u8 10), .lit (.int .u8 9)]
def laid_math_bits_deBruijn64tab {H : Type} : DataW H := .agg [.lit (.int .u8 0), .lit (.int .u8 1), .lit (.int .u8 56), .lit (.int .u8 2), .lit (.int .u8 57), .lit (.int .u8 49), .lit (.int .u8 28), .lit (.int .u8 3), .lit (.int .u8 61), .lit (.int .u8 58), .lit (.int .u8 42), .lit (.int .u8 50), .lit (.int .u8 38), .lit (.int .u8 29), .lit (.int .u8 17), .lit (.int .u8 4), .lit (.int .u8 62), .lit (.int .u8 47), .lit (.int .u8 59), .lit (.int .u8 36), .lit (.int .u8 45), .lit (.int .u8 43), .lit (.int .u8 51), .lit (.int .u8 22), .lit (.int .u8 53), .lit (.int .u8 39), .lit (.int .u8 33), .lit (.int .u8 30), .lit (.int .u8 24), .lit (.int .u8 18), .lit (.int .u8 12), .lit (.int .u8 5), .lit (.int .u8 63), .lit (.int .u8 55), .lit (.int .u8 48), .lit (.int .u8 27), .lit (.int .u8 60), .lit (.int .u8 41), .lit (.int .u8 37), .lit (.int .u8 16), .lit (.int .u8 46), .lit (.int .u8 35), .lit (.int .u8 44), .lit (.int .u8 21), .lit (.int .u8 52), .lit (.int .u8 32), .lit (.int .u8 23), .lit (.int .u8 11), .lit (.int .u8 54), .lit (.int .u8 26), .lit (.int .u8 40), .lit (.int .u8 15), .lit (.int .u8 34), .lit (.int .u8 20), .lit (.int .u8 31), .lit (.int .u8 10), .lit (.int .u8 25), .lit (.int .u8 14), .lit (.int .u8 19), .lit (.int .u8 9), .lit (.int .u8 13), .lit (.int .u8 8), .lit (.int .u8 7), .lit (.int .u8 6)]
def laid_internal_strconv_uint64pow10 {H : Type} : DataW H := .agg [.lit (.int .u64 1), .lit (.int .u64 10), .lit (.int .u64 100), .lit (.int .u64 1000), .lit (.int .u64 10000), .lit (.int .u64 100000), .lit (.int .u64 1000000), .lit (.int .u64 10000000), .lit (.int .u64 100000000), .lit (.int .u64 1000000000), .lit (.int .u64 10000000000), .lit (.int .u64 100000000000), .lit (.int .u64 1000000000000), .lit (.int .u64 10000000000000), .lit (.int .u64 100000000000000), .lit (.int .u64 1000000000000000), .lit (.int .u64 10000000000000000), .lit (.int .u64 100000000000000000), .lit (.int .u64 1000000000000000000), .lit (.int .u64 10000000000000000000)]
def laid_unicode_utf8_acceptRanges {H : Type} : DataW H := .agg [.agg [.lit (.int .u8 128), .lit (.int .u8 191)], .agg [.lit (.int .u8 160), .lit (.int .u8 191)], .agg [.lit (.int .u8 128), .lit (.int .u8 159)], .agg [.lit (.int .u8 144), .lit (.int .u8 191)], .agg [.lit (.int .u8 128), .lit (.int .u8 143)], .agg [.lit (.int .u8 0), .lit (.int .u8 0)], .agg [.lit (.int .u8 0), .lit (.int .u8 0)], .agg [.lit (.int .u8 0), .lit (.int .u8 0)], .agg [.lit (.int .u8 0), .lit (.int .u8 0)], .agg [.lit (.int .u8 0), .lit (.int .u8 0)], .agg [.lit (.int .u8 0), .lit (.int .u8 0)], .agg [.lit (.int .u8 0), .lit (.int .u8 0)], .agg [.lit (.int .u8 0), .lit (.int .u8 0)], .agg [.lit (.int .u8 0), .lit (.int .u8 0)], .agg [.lit (.int .u8 0), .lit (.int .u8 0)], .agg [.lit (.int .u8 0), .lit (.int .u8 0)]]
def laid_strconv_ErrRange {H : Type} : DataW H := .iface "*errors.errorString" (.ptr (.agg [.lit (.string [118, 97, 108, 117, 101, 32, 111, 117, 116, 32, 111, 102, 32, 114, 97, 110, 103, 101])]))
def laid_strconv_ErrSyntax {H : Type} : DataW H := .iface "*errors.errorString" (.ptr (.agg [.lit (.string [105, 110, 118, 97, 108, 105, 100, 32, 115, 121, 110, 116, 97, 120])]))
def laid_pantoscope_slab_colours {H : Type} : DataW H := .agg [.lit (.int .u8 97), .lit (.int .u8 98), .lit (.int .u8 99), .lit (.int .u8 100), .lit (.int .u8 101), .lit (.int .u8 102), .lit (.int .u8 103), .lit (.int .u8 104), .lit (.int .u8 105)]
def laid_pantoscope_slab_kinds {H : Type} : DataW H := .agg [.agg [.lit (.string []), .lit (.int .i64 3), .lit (.int .i64 0)], .agg [.lit (.string [115, 116, 97, 99, 107]), .lit (.int .i64 0), .lit (.int .i64 2)], .agg [.lit (.string [116, 117, 114, 110]), .lit (.int .i64 0), .lit (.int .i64 1)], .agg [.lit (.string [115, 108, 105, 99, 101]), .lit (.int .i64 2), .lit (.int .i64 1)], .agg [.lit (.string [102, 108, 105, 112]), .lit (.int .i64 0), .lit (.int .i64 1)], .agg [.lit (.string [114, 101, 112, 101, 97, 116]), .lit (.int .i64 1), .lit (.int .i64 1)]]
/-- One of Go's own tables, pinned by name: the form's constant. -/
def laid_unicode_utf8_first : DataW Unit := Go.Pinned.utf8First

/-- 'pantoscopelaw02.SlabChecks': WHATEVER THE INPUT: true; the input reads as it did. -/
def slabChecksSpec : ChangeSpec := { name := "slabChecks", fn := fun _ => fun
  | [d] => { results := [.lit (.bool true)], args := [d] }
  | _ => none }
def slabChecksRow : OpenClaim := { program := "yticjhkfidgkecaagreatdoor", sum := "fefbb2a46eada5f8c2a1bff2973454a2705a510d1afc56c5ab42052a23deb66d", func := "pantoscope/pantoscopelaw02.SlabChecks", spec := "slabChecks", inPlace := ["internal/bytealg.IndexByteString", "internal/bytealg.IndexString"], unfollowed := true, recurses := true, named := ["pantoscope/slab.kinds", "unicode/utf8.first", "unicode/utf8.acceptRanges", "strconv.ErrSyntax", "strconv.ErrRange", "internal/strconv.uint64pow10", "math/bits.deBruijn32tab", "math/bits.deBruijn64tab", "pantoscope/slab.colours", "internal/bytealg.MaxLen"], loops := true, plainKeys := false, apart := false, laid := [("math/bits.deBruijn32tab", laid_math_bits_deBruijn32tab), ("math/bits.deBruijn64tab", laid_math_bits_deBruijn64tab), ("internal/strconv.uint64pow10", laid_internal_strconv_uint64pow10), ("unicode/utf8.acceptRanges", laid_unicode_utf8_acceptRanges), ("strconv.ErrRange", laid_strconv_ErrRange), ("strconv.ErrSyntax", laid_strconv_ErrSyntax), ("pantoscope/slab.colours", laid_pantoscope_slab_colours), ("pantoscope/slab.kinds", laid_pantoscope_slab_kinds), ("unicode/utf8.first", laid_unicode_utf8_first)] }
def SlabChecksSaid : Prop := slabChecksRow.holds Tryz.pinned (OpenSpec.ofChange slabChecksSpec)

/-- ITS FALSE NEIGHBOUR: 'it returns false'. Refute it at one input. -/
def slabChecksWrong : ChangeSpec := { name := "slabChecks", fn := fun _ => fun
  | [d] => { results := [.lit (.bool false)], args := [d] }
  | _ => none }
def SlabChecksWrongFalsely : Prop := slabChecksRow.holds Tryz.pinned (OpenSpec.ofChange slabChecksWrong)

/-- 'pantoscopelaw02.SlabFormats': WHATEVER THE INPUT: true; the input reads as it did. -/
def slabFormatsSpec : ChangeSpec := { name := "slabFormats", fn := fun _ => fun
  | [d] => { results := [.lit (.bool true)], args := [d] }
  | _ => none }
def slabFormatsRow : OpenClaim := { program := "yticjhkfidgkecaagreatdoor", sum := "fefbb2a46eada5f8c2a1bff2973454a2705a510d1afc56c5ab42052a23deb66d", func := "pantoscope/pantoscopelaw02.SlabFormats", spec := "slabFormats", inPlace := ["internal/bytealg.IndexByteString", "internal/bytealg.IndexString"], unfollowed := true, recurses := true, named := ["pantoscope/slab.kinds", "unicode/utf8.first", "unicode/utf8.acceptRanges", "strconv.ErrSyntax", "strconv.ErrRange", "internal/strconv.uint64pow10", "math/bits.deBruijn32tab", "math/bits.deBruijn64tab", "pantoscope/slab.colours", "internal/bytealg.MaxLen"], loops := true, plainKeys := false, apart := false, laid := [("math/bits.deBruijn32tab", laid_math_bits_deBruijn32tab), ("math/bits.deBruijn64tab", laid_math_bits_deBruijn64tab), ("internal/strconv.uint64pow10", laid_internal_strconv_uint64pow10), ("unicode/utf8.acceptRanges", laid_unicode_utf8_acceptRanges), ("strconv.ErrRange", laid_strconv_ErrRange), ("strconv.ErrSyntax", laid_strconv_ErrSyntax), ("pantoscope/slab.colours", laid_pantoscope_slab_colours), ("pantoscope/slab.kinds", laid_pantoscope_slab_kinds), ("unicode/utf8.first", laid_unicode_utf8_first)] }
def SlabFormatsSaid : Prop := slabFormatsRow.holds Tryz.pinned (OpenSpec.ofChange slabFormatsSpec)

/-- ITS FALSE NEIGHBOUR: 'it returns false'. Refute it at one input. -/
def slabFormatsWrong : ChangeSpec := { name := "slabFormats", fn := fun _ => fun
  | [d] => { results := [.lit (.bool false)], args := [d] }
  | _ => none }
def SlabFormatsWrongFalsely : Prop := slabFormatsRow.holds Tryz.pinned (OpenSpec.ofChange slabFormatsWrong)

/-- 'pantoscopelaw02.SlabParses': WHATEVER THE INPUT: true; the input reads as it did. -/
def slabParsesSpec : ChangeSpec := { name := "slabParses", fn := fun _ => fun
  | [d] => { results := [.lit (.bool true)], args := [d] }
  | _ => none }
def slabParsesRow : OpenClaim := { program := "yticjhkfidgkecaagreatdoor", sum := "fefbb2a46eada5f8c2a1bff2973454a2705a510d1afc56c5ab42052a23deb66d", func := "pantoscope/pantoscopelaw02.SlabParses", spec := "slabParses", inPlace := ["internal/bytealg.IndexByteString", "internal/bytealg.IndexString"], unfollowed := true, recurses := true, named := ["pantoscope/slab.kinds", "unicode/utf8.first", "unicode/utf8.acceptRanges", "strconv.ErrSyntax", "strconv.ErrRange", "internal/strconv.uint64pow10", "math/bits.deBruijn32tab", "math/bits.deBruijn64tab", "pantoscope/slab.colours", "internal/bytealg.MaxLen"], plainKeys := false, apart := false, laid := [("math/bits.deBruijn32tab", laid_math_bits_deBruijn32tab), ("math/bits.deBruijn64tab", laid_math_bits_deBruijn64tab), ("internal/strconv.uint64pow10", laid_internal_strconv_uint64pow10), ("unicode/utf8.acceptRanges", laid_unicode_utf8_acceptRanges), ("strconv.ErrRange", laid_strconv_ErrRange), ("strconv.ErrSyntax", laid_strconv_ErrSyntax), ("pantoscope/slab.colours", laid_pantoscope_slab_colours), ("pantoscope/slab.kinds", laid_pantoscope_slab_kinds), ("unicode/utf8.first", laid_unicode_utf8_first)] }
def SlabParsesSaid : Prop := slabParsesRow.holds Tryz.pinned (OpenSpec.ofChange slabParsesSpec)

/-- ITS FALSE NEIGHBOUR: 'it returns false'. Refute it at one input. -/
def slabParsesWrong : ChangeSpec := { name := "slabParses", fn := fun _ => fun
  | [d] => { results := [.lit (.bool false)], args := [d] }
  | _ => none }
def SlabParsesWrongFalsely : Prop := slabParsesRow.holds Tryz.pinned (OpenSpec.ofChange slabParsesWrong)

/-- 'pantoscopelaw02.SlabCells': WHATEVER THE INPUT: true; the input reads as it did. -/
def slabCellsSpec : ChangeSpec := { name := "slabCells", fn := fun _ => fun
  | [d1, d2, d3] => { results := [.lit (.bool true)], args := [d1, d2, d3] }
  | _ => none }
def slabCellsRow : OpenClaim := { program := "yticjhkfidgkecaagreatdoor", sum := "fefbb2a46eada5f8c2a1bff2973454a2705a510d1afc56c5ab42052a23deb66d", func := "pantoscope/pantoscopelaw02.SlabCells", spec := "slabCells", inPlace := ["internal/bytealg.IndexByteString", "internal/bytealg.IndexString"], unfollowed := true, recurses := true, named := ["pantoscope/slab.kinds", "unicode/utf8.first", "unicode/utf8.acceptRanges", "strconv.ErrSyntax", "strconv.ErrRange", "internal/strconv.uint64pow10", "math/bits.deBruijn32tab", "math/bits.deBruijn64tab", "pantoscope/slab.colours", "internal/bytealg.MaxLen"], loops := true, plainKeys := false, apart := false, laid := [("math/bits.deBruijn32tab", laid_math_bits_deBruijn32tab), ("math/bits.deBruijn64tab", laid_math_bits_deBruijn64tab), ("internal/strconv.uint64pow10", laid_internal_strconv_uint64pow10), ("unicode/utf8.acceptRanges", laid_unicode_utf8_acceptRanges), ("strconv.ErrRange", laid_strconv_ErrRange), ("strconv.ErrSyntax", laid_strconv_ErrSyntax), ("pantoscope/slab.colours", laid_pantoscope_slab_colours), ("pantoscope/slab.kinds", laid_pantoscope_slab_kinds), ("unicode/utf8.first", laid_unicode_utf8_first)] }
def SlabCellsSaid : Prop := slabCellsRow.holds Tryz.pinned (OpenSpec.ofChange slabCellsSpec)

/-- ITS FALSE NEIGHBOUR: 'it returns false'. Refute it at one input. -/
def slabCellsWrong : ChangeSpec := { name := "slabCells", fn := fun _ => fun
  | [d1, d2, d3] => { results := [.lit (.bool false)], args := [d1, d2, d3] }
  | _ => none }
def SlabCellsWrongFalsely : Prop := slabCellsRow.holds Tryz.pinned (OpenSpec.ofChange slabCellsWrong)

/-- 'pantoscopelaw02.SlabVolumes': WHATEVER THE INPUT: true; the input reads as it did. -/
def slabVolumesSpec : ChangeSpec := { name := "slabVolumes", fn := fun _ => fun
  | [d] => { results := [.lit (.bool true)], args := [d] }
  | _ => none }
def slabVolumesRow : OpenClaim := { program := "yticjhkfidgkecaagreatdoor", sum := "fefbb2a46eada5f8c2a1bff2973454a2705a510d1afc56c5ab42052a23deb66d", func := "pantoscope/pantoscopelaw02.SlabVolumes", spec := "slabVolumes", inPlace := ["internal/bytealg.IndexByteString", "internal/bytealg.IndexString"], unfollowed := true, recurses := true, named := ["pantoscope/slab.kinds", "unicode/utf8.first", "unicode/utf8.acceptRanges", "strconv.ErrSyntax", "strconv.ErrRange", "internal/strconv.uint64pow10", "math/bits.deBruijn32tab", "math/bits.deBruijn64tab", "pantoscope/slab.colours", "internal/bytealg.MaxLen"], loops := true, plainKeys := false, apart := false, laid := [("math/bits.deBruijn32tab", laid_math_bits_deBruijn32tab), ("math/bits.deBruijn64tab", laid_math_bits_deBruijn64tab), ("internal/strconv.uint64pow10", laid_internal_strconv_uint64pow10), ("unicode/utf8.acceptRanges", laid_unicode_utf8_acceptRanges), ("strconv.ErrRange", laid_strconv_ErrRange), ("strconv.ErrSyntax", laid_strconv_ErrSyntax), ("pantoscope/slab.colours", laid_pantoscope_slab_colours), ("pantoscope/slab.kinds", laid_pantoscope_slab_kinds), ("unicode/utf8.first", laid_unicode_utf8_first)] }
def SlabVolumesSaid : Prop := slabVolumesRow.holds Tryz.pinned (OpenSpec.ofChange slabVolumesSpec)

/-- ITS FALSE NEIGHBOUR: 'it returns false'. Refute it at one input. -/
def slabVolumesWrong : ChangeSpec := { name := "slabVolumes", fn := fun _ => fun
  | [d] => { results := [.lit (.bool false)], args := [d] }
  | _ => none }
def SlabVolumesWrongFalsely : Prop := slabVolumesRow.holds Tryz.pinned (OpenSpec.ofChange slabVolumesWrong)

/-- 'pantoscopelaw02.SlabWindows': WHATEVER THE INPUT: true; the input reads as it did. -/
def slabWindowsSpec : ChangeSpec := { name := "slabWindows", fn := fun _ => fun
  | [d1, d2, d3] => { results := [.lit (.bool true)], args := [d1, d2, d3] }
  | _ => none }
def slabWindowsRow : OpenClaim := { program := "yticjhkfidgkecaagreatdoor", sum := "fefbb2a46eada5f8c2a1bff2973454a2705a510d1afc56c5ab42052a23deb66d", func := "pantoscope/pantoscopelaw02.SlabWindows", spec := "slabWindows", inPlace := ["internal/bytealg.IndexByteString", "internal/bytealg.IndexString"], unfollowed := true, recurses := true, named := ["pantoscope/slab.kinds", "unicode/utf8.first", "unicode/utf8.acceptRanges", "strconv.ErrSyntax", "strconv.ErrRange", "internal/strconv.uint64pow10", "math/bits.deBruijn32tab", "math/bits.deBruijn64tab", "pantoscope/slab.colours", "internal/bytealg.MaxLen"], loops := true, plainKeys := false, apart := false, laid := [("math/bits.deBruijn32tab", laid_math_bits_deBruijn32tab), ("math/bits.deBruijn64tab", laid_math_bits_deBruijn64tab), ("internal/strconv.uint64pow10", laid_internal_strconv_uint64pow10), ("unicode/utf8.acceptRanges", laid_unicode_utf8_acceptRanges), ("strconv.ErrRange", laid_strconv_ErrRange), ("strconv.ErrSyntax", laid_strconv_ErrSyntax), ("pantoscope/slab.colours", laid_pantoscope_slab_colours), ("pantoscope/slab.kinds", laid_pantoscope_slab_kinds), ("unicode/utf8.first", laid_unicode_utf8_first)] }
def SlabWindowsSaid : Prop := slabWindowsRow.holds Tryz.pinned (OpenSpec.ofChange slabWindowsSpec)

/-- ITS FALSE NEIGHBOUR: 'it returns false'. Refute it at one input. -/
def slabWindowsWrong : ChangeSpec := { name := "slabWindows", fn := fun _ => fun
  | [d1, d2, d3] => { results := [.lit (.bool false)], args := [d1, d2, d3] }
  | _ => none }
def SlabWindowsWrongFalsely : Prop := slabWindowsRow.holds Tryz.pinned (OpenSpec.ofChange slabWindowsWrong)

/-- 'pantoscopelaw02.SlabEquals': WHATEVER THE INPUT: true; the input reads as it did. -/
def slabEqualsSpec : ChangeSpec := { name := "slabEquals", fn := fun _ => fun
  | [d1, d2, d3] => { results := [.lit (.bool true)], args := [d1, d2, d3] }
  | _ => none }
def slabEqualsRow : OpenClaim := { program := "yticjhkfidgkecaagreatdoor", sum := "fefbb2a46eada5f8c2a1bff2973454a2705a510d1afc56c5ab42052a23deb66d", func := "pantoscope/pantoscopelaw02.SlabEquals", spec := "slabEquals", inPlace := ["internal/bytealg.IndexByteString", "internal/bytealg.IndexString"], unfollowed := true, recurses := true, named := ["pantoscope/slab.kinds", "unicode/utf8.first", "unicode/utf8.acceptRanges", "strconv.ErrSyntax", "strconv.ErrRange", "internal/strconv.uint64pow10", "math/bits.deBruijn32tab", "math/bits.deBruijn64tab", "pantoscope/slab.colours", "internal/bytealg.MaxLen"], loops := true, plainKeys := false, apart := false, laid := [("math/bits.deBruijn32tab", laid_math_bits_deBruijn32tab), ("math/bits.deBruijn64tab", laid_math_bits_deBruijn64tab), ("internal/strconv.uint64pow10", laid_internal_strconv_uint64pow10), ("unicode/utf8.acceptRanges", laid_unicode_utf8_acceptRanges), ("strconv.ErrRange", laid_strconv_ErrRange), ("strconv.ErrSyntax", laid_strconv_ErrSyntax), ("pantoscope/slab.colours", laid_pantoscope_slab_colours), ("pantoscope/slab.kinds", laid_pantoscope_slab_kinds), ("unicode/utf8.first", laid_unicode_utf8_first)] }
def SlabEqualsSaid : Prop := slabEqualsRow.holds Tryz.pinned (OpenSpec.ofChange slabEqualsSpec)

/-- ITS FALSE NEIGHBOUR: 'it returns false'. Refute it at one input. -/
def slabEqualsWrong : ChangeSpec := { name := "slabEquals", fn := fun _ => fun
  | [d1, d2, d3] => { results := [.lit (.bool false)], args := [d1, d2, d3] }
  | _ => none }
def SlabEqualsWrongFalsely : Prop := slabEqualsRow.holds Tryz.pinned (OpenSpec.ofChange slabEqualsWrong)

/-- 'pantoscopelaw02.SlabTurns': WHATEVER THE INPUT: true; the input reads as it did. -/
def slabTurnsSpec : ChangeSpec := { name := "slabTurns", fn := fun _ => fun
  | [d1, d2] => { results := [.lit (.bool true)], args := [d1, d2] }
  | _ => none }
def slabTurnsRow : OpenClaim := { program := "yticjhkfidgkecaagreatdoor", sum := "fefbb2a46eada5f8c2a1bff2973454a2705a510d1afc56c5ab42052a23deb66d", func := "pantoscope/pantoscopelaw02.SlabTurns", spec := "slabTurns", inPlace := ["internal/bytealg.IndexByteString", "internal/bytealg.IndexString"], unfollowed := true, recurses := true, named := ["pantoscope/slab.kinds", "unicode/utf8.first", "unicode/utf8.acceptRanges", "strconv.ErrSyntax", "strconv.ErrRange", "internal/strconv.uint64pow10", "math/bits.deBruijn32tab", "math/bits.deBruijn64tab", "pantoscope/slab.colours", "internal/bytealg.MaxLen"], loops := true, plainKeys := false, apart := false, laid := [("math/bits.deBruijn32tab", laid_math_bits_deBruijn32tab), ("math/bits.deBruijn64tab", laid_math_bits_deBruijn64tab), ("internal/strconv.uint64pow10", laid_internal_strconv_uint64pow10), ("unicode/utf8.acceptRanges", laid_unicode_utf8_acceptRanges), ("strconv.ErrRange", laid_strconv_ErrRange), ("strconv.ErrSyntax", laid_strconv_ErrSyntax), ("pantoscope/slab.colours", laid_pantoscope_slab_colours), ("pantoscope/slab.kinds", laid_pantoscope_slab_kinds), ("unicode/utf8.first", laid_unicode_utf8_first)] }
def SlabTurnsSaid : Prop := slabTurnsRow.holds Tryz.pinned (OpenSpec.ofChange slabTurnsSpec)

/-- ITS FALSE NEIGHBOUR: 'it returns false'. Refute it at one input. -/
def slabTurnsWrong : ChangeSpec := { name := "slabTurns", fn := fun _ => fun
  | [d1, d2] => { results := [.lit (.bool false)], args := [d1, d2] }
  | _ => none }
def SlabTurnsWrongFalsely : Prop := slabTurnsRow.holds Tryz.pinned (OpenSpec.ofChange slabTurnsWrong)

/-- 'pantoscopelaw02.SlabAlgebra': WHATEVER THE INPUT: true; the input reads as it did. -/
def slabAlgebraSpec : ChangeSpec := { name := "slabAlgebra", fn := fun _ => fun
  | [d1, d2, d3] => { results := [.lit (.bool true)], args := [d1, d2, d3] }
  | _ => none }
def slabAlgebraRow : OpenClaim := { program := "yticjhkfidgkecaagreatdoor", sum := "fefbb2a46eada5f8c2a1bff2973454a2705a510d1afc56c5ab42052a23deb66d", func := "pantoscope/pantoscopelaw02.SlabAlgebra", spec := "slabAlgebra", inPlace := ["internal/bytealg.IndexByteString", "internal/bytealg.IndexString"], unfollowed := true, recurses := true, named := ["pantoscope/slab.kinds", "unicode/utf8.first", "unicode/utf8.acceptRanges", "strconv.ErrSyntax", "strconv.ErrRange", "internal/strconv.uint64pow10", "math/bits.deBruijn32tab", "math/bits.deBruijn64tab", "pantoscope/slab.colours", "internal/bytealg.MaxLen"], loops := true, plainKeys := false, apart := false, laid := [("math/bits.deBruijn32tab", laid_math_bits_deBruijn32tab), ("math/bits.deBruijn64tab", laid_math_bits_deBruijn64tab), ("internal/strconv.uint64pow10", laid_internal_strconv_uint64pow10), ("unicode/utf8.acceptRanges", laid_unicode_utf8_acceptRanges), ("strconv.ErrRange", laid_strconv_ErrRange), ("strconv.ErrSyntax", laid_strconv_ErrSyntax), ("pantoscope/slab.colours", laid_pantoscope_slab_colours), ("pantoscope/slab.kinds", laid_pantoscope_slab_kinds), ("unicode/utf8.first", laid_unicode_utf8_first)] }
def SlabAlgebraSaid : Prop := slabAlgebraRow.holds Tryz.pinned (OpenSpec.ofChange slabAlgebraSpec)

/-- ITS FALSE NEIGHBOUR: 'it returns false'. Refute it at one input. -/
def slabAlgebraWrong : ChangeSpec := { name := "slabAlgebra", fn := fun _ => fun
  | [d1, d2, d3] => { results := [.lit (.bool false)], args := [d1, d2, d3] }
  | _ => none }
def SlabAlgebraWrongFalsely : Prop := slabAlgebraRow.holds Tryz.pinned (OpenSpec.ofChange slabAlgebraWrong)

/-- 'pantoscopelaw02.SlabSheets': WHATEVER THE INPUT: true; the input reads as it did. -/
def slabSheetsSpec : ChangeSpec := { name := "slabSheets", fn := fun _ => fun
  | [d] => { results := [.lit (.bool true)], args := [d] }
  | _ => none }
def slabSheetsRow : OpenClaim := { program := "yticjhkfidgkecaagreatdoor", sum := "fefbb2a46eada5f8c2a1bff2973454a2705a510d1afc56c5ab42052a23deb66d", func := "pantoscope/pantoscopelaw02.SlabSheets", spec := "slabSheets", inPlace := ["internal/bytealg.IndexByteString", "internal/bytealg.IndexString"], unfollowed := true, recurses := true, named := ["pantoscope/slab.kinds", "unicode/utf8.first", "unicode/utf8.acceptRanges", "strconv.ErrSyntax", "strconv.ErrRange", "internal/strconv.uint64pow10", "math/bits.deBruijn32tab", "math/bits.deBruijn64tab", "pantoscope/slab.colours", "internal/bytealg.MaxLen"], loops := true, plainKeys := false, apart := false, laid := [("math/bits.deBruijn32tab", laid_math_bits_deBruijn32tab), ("math/bits.deBruijn64tab", laid_math_bits_deBruijn64tab), ("internal/strconv.uint64pow10", laid_internal_strconv_uint64pow10), ("unicode/utf8.acceptRanges", laid_unicode_utf8_acceptRanges), ("strconv.ErrRange", laid_strconv_ErrRange), ("strconv.ErrSyntax", laid_strconv_ErrSyntax), ("pantoscope/slab.colours", laid_pantoscope_slab_colours), ("pantoscope/slab.kinds", laid_pantoscope_slab_kinds), ("unicode/utf8.first", laid_unicode_utf8_first)] }
def SlabSheetsSaid : Prop := slabSheetsRow.holds Tryz.pinned (OpenSpec.ofChange slabSheetsSpec)

/-- ITS FALSE NEIGHBOUR: 'it returns false'. Refute it at one input. -/
def slabSheetsWrong : ChangeSpec := { name := "slabSheets", fn := fun _ => fun
  | [d] => { results := [.lit (.bool false)], args := [d] }
  | _ => none }
def SlabSheetsWrongFalsely : Prop := slabSheetsRow.holds Tryz.pinned (OpenSpec.ofChange slabSheetsWrong)

/-- 'pantoscopelaw02.SlabSeasons': WHATEVER THE INPUT: true; the input reads as it did. -/
def slabSeasonsSpec : ChangeSpec := { name := "slabSeasons", fn := fun _ => fun
  | [d1, d2, d3] => { results := [.lit (.bool true)], args := [d1, d2, d3] }
  | _ => none }
def slabSeasonsRow : OpenClaim := { program := "yticjhkfidgkecaagreatdoor", sum := "fefbb2a46eada5f8c2a1bff2973454a2705a510d1afc56c5ab42052a23deb66d", func := "pantoscope/pantoscopelaw02.SlabSeasons", spec := "slabSeasons", inPlace := ["internal/bytealg.IndexByteString", "internal/bytealg.IndexString"], unfollowed := true, recurses := true, named := ["pantoscope/slab.kinds", "unicode/utf8.first", "unicode/utf8.acceptRanges", "strconv.ErrSyntax", "strconv.ErrRange", "internal/strconv.uint64pow10", "math/bits.deBruijn32tab", "math/bits.deBruijn64tab", "pantoscope/slab.colours", "internal/bytealg.MaxLen"], plainKeys := false, apart := false, laid := [("math/bits.deBruijn32tab", laid_math_bits_deBruijn32tab), ("math/bits.deBruijn64tab", laid_math_bits_deBruijn64tab), ("internal/strconv.uint64pow10", laid_internal_strconv_uint64pow10), ("unicode/utf8.acceptRanges", laid_unicode_utf8_acceptRanges), ("strconv.ErrRange", laid_strconv_ErrRange), ("strconv.ErrSyntax", laid_strconv_ErrSyntax), ("pantoscope/slab.colours", laid_pantoscope_slab_colours), ("pantoscope/slab.kinds", laid_pantoscope_slab_kinds), ("unicode/utf8.first", laid_unicode_utf8_first)] }
def SlabSeasonsSaid : Prop := slabSeasonsRow.holds Tryz.pinned (OpenSpec.ofChange slabSeasonsSpec)

/-- ITS FALSE NEIGHBOUR: 'it returns false'. Refute it at one input. -/
def slabSeasonsWrong : ChangeSpec := { name := "slabSeasons", fn := fun _ => fun
  | [d1, d2, d3] => { results := [.lit (.bool false)], args := [d1, d2, d3] }
  | _ => none }
def SlabSeasonsWrongFalsely : Prop := slabSeasonsRow.holds Tryz.pinned (OpenSpec.ofChange slabSeasonsWrong)

/-- 'pantoscopelaw02.SlabOvens': WHATEVER THE INPUT: true; the input reads as it did. -/
def slabOvensSpec : ChangeSpec := { name := "slabOvens", fn := fun _ => fun
  | [d1, d2, d3] => { results := [.lit (.bool true)], args := [d1, d2, d3] }
  | _ => none }
def slabOvensRow : OpenClaim := { program := "yticjhkfidgkecaagreatdoor", sum := "fefbb2a46eada5f8c2a1bff2973454a2705a510d1afc56c5ab42052a23deb66d", func := "pantoscope/pantoscopelaw02.SlabOvens", spec := "slabOvens", inPlace := ["internal/bytealg.IndexByteString", "internal/bytealg.IndexString"], unfollowed := true, recurses := true, named := ["pantoscope/slab.kinds", "unicode/utf8.first", "unicode/utf8.acceptRanges", "strconv.ErrSyntax", "strconv.ErrRange", "internal/strconv.uint64pow10", "math/bits.deBruijn32tab", "math/bits.deBruijn64tab", "pantoscope/slab.colours", "internal/bytealg.MaxLen"], plainKeys := false, apart := false, laid := [("math/bits.deBruijn32tab", laid_math_bits_deBruijn32tab), ("math/bits.deBruijn64tab", laid_math_bits_deBruijn64tab), ("internal/strconv.uint64pow10", laid_internal_strconv_uint64pow10), ("unicode/utf8.acceptRanges", laid_unicode_utf8_acceptRanges), ("strconv.ErrRange", laid_strconv_ErrRange), ("strconv.ErrSyntax", laid_strconv_ErrSyntax), ("pantoscope/slab.colours", laid_pantoscope_slab_colours), ("pantoscope/slab.kinds", laid_pantoscope_slab_kinds), ("unicode/utf8.first", laid_unicode_utf8_first)] }
def SlabOvensSaid : Prop := slabOvensRow.holds Tryz.pinned (OpenSpec.ofChange slabOvensSpec)

/-- ITS FALSE NEIGHBOUR: 'it returns false'. Refute it at one input. -/
def slabOvensWrong : ChangeSpec := { name := "slabOvens", fn := fun _ => fun
  | [d1, d2, d3] => { results := [.lit (.bool false)], args := [d1, d2, d3] }
  | _ => none }
def SlabOvensWrongFalsely : Prop := slabOvensRow.holds Tryz.pinned (OpenSpec.ofChange slabOvensWrong)

/-- 'pantoscopetop.TopBlocks': WHATEVER THE INPUT: true; the input reads as it did. -/
def topBlocksSpec : ChangeSpec := { name := "topBlocks", fn := fun _ => fun
  | [d1, d2, d3] => { results := [.lit (.bool true)], args := [d1, d2, d3] }
  | _ => none }
def topBlocksRow : OpenClaim := { program := "yticjhkfidgkecaagreatdoor", sum := "fefbb2a46eada5f8c2a1bff2973454a2705a510d1afc56c5ab42052a23deb66d", func := "pantoscope/pantoscopetop.TopBlocks", spec := "topBlocks", inPlace := ["internal/bytealg.IndexByteString", "internal/bytealg.IndexString"], unfollowed := true, recurses := true, named := ["pantoscope/slab.kinds", "unicode/utf8.first", "unicode/utf8.acceptRanges", "strconv.ErrSyntax", "strconv.ErrRange", "internal/strconv.uint64pow10", "math/bits.deBruijn32tab", "math/bits.deBruijn64tab", "pantoscope/slab.colours", "internal/bytealg.MaxLen"], loops := true, plainKeys := false, apart := false, laid := [("math/bits.deBruijn32tab", laid_math_bits_deBruijn32tab), ("math/bits.deBruijn64tab", laid_math_bits_deBruijn64tab), ("internal/strconv.uint64pow10", laid_internal_strconv_uint64pow10), ("unicode/utf8.acceptRanges", laid_unicode_utf8_acceptRanges), ("strconv.ErrRange", laid_strconv_ErrRange), ("strconv.ErrSyntax", laid_strconv_ErrSyntax), ("pantoscope/slab.colours", laid_pantoscope_slab_colours), ("pantoscope/slab.kinds", laid_pantoscope_slab_kinds), ("unicode/utf8.first", laid_unicode_utf8_first)] }
def TopBlocksSaid : Prop := topBlocksRow.holds Tryz.pinned (OpenSpec.ofChange topBlocksSpec)

/-- ITS FALSE NEIGHBOUR: 'it returns false'. Refute it at one input. -/
def topBlocksWrong : ChangeSpec := { name := "topBlocks", fn := fun _ => fun
  | [d1, d2, d3] => { results := [.lit (.bool false)], args := [d1, d2, d3] }
  | _ => none }
def TopBlocksWrongFalsely : Prop := topBlocksRow.holds Tryz.pinned (OpenSpec.ofChange topBlocksWrong)

/- THE SECOND FORM. 'bulk': how many values and letters a reading holds, each counted each time it is reached (what is shared counts as often as it is met; a slice's spare places count too). A statement '..UptoSaid' is the law's where the arguments, and the package variables that the reading takes, are together of bulk at most 1048576: NARROWER than '..Said'. Prove '..Said' where nothing that the law and all that it calls make is longer than what came in: it says more and counts as full. Else prove '..UptoSaid'. A law counts once. -/
mutual
def uptoBulk {H : Type} : DataW H → Nat
  | .lit (.string bytes) => bytes.length + 1
  | .lit _ => 1
  | .nil => 1
  | .ptr d => uptoBulk d + 1
  | .slice elems spare => uptoBulkAll elems + uptoBulkAll spare + 1
  | .agg parts => uptoBulkAll parts + 1
  | .iface _ d => uptoBulk d + 1
  | .map entries => uptoBulkEntries entries + 1
  | .held _ => 1
def uptoBulkAll {H : Type} : List (DataW H) → Nat
  | [] => 0
  | d :: r => uptoBulk d + uptoBulkAll r
def uptoBulkEntries {H : Type} : List (Lit × DataW H) → Nat
  | [] => 0
  | x :: r => uptoBulkEntry x + uptoBulkEntries r
def uptoBulkEntry {H : Type} : Lit × DataW H → Nat
  | (.string bytes, d) => bytes.length + uptoBulk d + 1
  | (_, d) => uptoBulk d + 1
 end
def uptoSmall : (H : Type) → List (DataW H) → Bool := fun _ ds => decide (uptoBulkAll ds ≤ 1048576)
def OpenSpec.upto (s : _root_.Go.ChangeSpec) : _root_.Go.OpenSpec := { _root_.Go.OpenSpec.ofChange s with cond := some uptoSmall }

/-- 'pantoscopelaw02.SlabChecks', WHERE WHAT IT READS IS OF BULK AT MOST 1048576: true; the input reads as it did. -/
def slabChecksUptoRow : OpenClaim := { program := "yticjhkfidgkecaagreatdoor", sum := "fefbb2a46eada5f8c2a1bff2973454a2705a510d1afc56c5ab42052a23deb66d", func := "pantoscope/pantoscopelaw02.SlabChecks", spec := "slabChecks", inPlace := ["internal/bytealg.IndexByteString", "internal/bytealg.IndexString"], unfollowed := true, recurses := true, named := ["pantoscope/slab.kinds", "unicode/utf8.first", "unicode/utf8.acceptRanges", "strconv.ErrSyntax", "strconv.ErrRange", "internal/strconv.uint64pow10", "math/bits.deBruijn32tab", "math/bits.deBruijn64tab", "pantoscope/slab.colours", "internal/bytealg.MaxLen"], loops := true, plainKeys := false, apart := false, laid := [("math/bits.deBruijn32tab", laid_math_bits_deBruijn32tab), ("math/bits.deBruijn64tab", laid_math_bits_deBruijn64tab), ("internal/strconv.uint64pow10", laid_internal_strconv_uint64pow10), ("unicode/utf8.acceptRanges", laid_unicode_utf8_acceptRanges), ("strconv.ErrRange", laid_strconv_ErrRange), ("strconv.ErrSyntax", laid_strconv_ErrSyntax), ("pantoscope/slab.colours", laid_pantoscope_slab_colours), ("pantoscope/slab.kinds", laid_pantoscope_slab_kinds), ("unicode/utf8.first", laid_unicode_utf8_first)], narrowed := true }
def SlabChecksUptoSaid : Prop := slabChecksUptoRow.holds Tryz.pinned (OpenSpec.upto slabChecksSpec)

/-- 'pantoscopelaw02.SlabFormats', WHERE WHAT IT READS IS OF BULK AT MOST 1048576: true; the input reads as it did. -/
def slabFormatsUptoRow : OpenClaim := { program := "yticjhkfidgkecaagreatdoor", sum := "fefbb2a46eada5f8c2a1bff2973454a2705a510d1afc56c5ab42052a23deb66d", func := "pantoscope/pantoscopelaw02.SlabFormats", spec := "slabFormats", inPlace := ["internal/bytealg.IndexByteString", "internal/bytealg.IndexString"], unfollowed := true, recurses := true, named := ["pantoscope/slab.kinds", "unicode/utf8.first", "unicode/utf8.acceptRanges", "strconv.ErrSyntax", "strconv.ErrRange", "internal/strconv.uint64pow10", "math/bits.deBruijn32tab", "math/bits.deBruijn64tab", "pantoscope/slab.colours", "internal/bytealg.MaxLen"], loops := true, plainKeys := false, apart := false, laid := [("math/bits.deBruijn32tab", laid_math_bits_deBruijn32tab), ("math/bits.deBruijn64tab", laid_math_bits_deBruijn64tab), ("internal/strconv.uint64pow10", laid_internal_strconv_uint64pow10), ("unicode/utf8.acceptRanges", laid_unicode_utf8_acceptRanges), ("strconv.ErrRange", laid_strconv_ErrRange), ("strconv.ErrSyntax", laid_strconv_ErrSyntax), ("pantoscope/slab.colours", laid_pantoscope_slab_colours), ("pantoscope/slab.kinds", laid_pantoscope_slab_kinds), ("unicode/utf8.first", laid_unicode_utf8_first)], narrowed := true }
def SlabFormatsUptoSaid : Prop := slabFormatsUptoRow.holds Tryz.pinned (OpenSpec.upto slabFormatsSpec)

/-- 'pantoscopelaw02.SlabParses', WHERE WHAT IT READS IS OF BULK AT MOST 1048576: true; the input reads as it did. -/
def slabParsesUptoRow : OpenClaim := { program := "yticjhkfidgkecaagreatdoor", sum := "fefbb2a46eada5f8c2a1bff2973454a2705a510d1afc56c5ab42052a23deb66d", func := "pantoscope/pantoscopelaw02.SlabParses", spec := "slabParses", inPlace := ["internal/bytealg.IndexByteString", "internal/bytealg.IndexString"], unfollowed := true, recurses := true, named := ["pantoscope/slab.kinds", "unicode/utf8.first", "unicode/utf8.acceptRanges", "strconv.ErrSyntax", "strconv.ErrRange", "internal/strconv.uint64pow10", "math/bits.deBruijn32tab", "math/bits.deBruijn64tab", "pantoscope/slab.colours", "internal/bytealg.MaxLen"], plainKeys := false, apart := false, laid := [("math/bits.deBruijn32tab", laid_math_bits_deBruijn32tab), ("math/bits.deBruijn64tab", laid_math_bits_deBruijn64tab), ("internal/strconv.uint64pow10", laid_internal_strconv_uint64pow10), ("unicode/utf8.acceptRanges", laid_unicode_utf8_acceptRanges), ("strconv.ErrRange", laid_strconv_ErrRange), ("strconv.ErrSyntax", laid_strconv_ErrSyntax), ("pantoscope/slab.colours", laid_pantoscope_slab_colours), ("pantoscope/slab.kinds", laid_pantoscope_slab_kinds), ("unicode/utf8.first", laid_unicode_utf8_first)], narrowed := true }
def SlabParsesUptoSaid : Prop := slabParsesUptoRow.holds Tryz.pinned (OpenSpec.upto slabParsesSpec)

/-- 'pantoscopelaw02.SlabCells', WHERE WHAT IT READS IS OF BULK AT MOST 1048576: true; the input reads as it did. -/
def slabCellsUptoRow : OpenClaim := { program := "yticjhkfidgkecaagreatdoor", sum := "fefbb2a46eada5f8c2a1bff2973454a2705a510d1afc56c5ab42052a23deb66d", func := "pantoscope/pantoscopelaw02.SlabCells", spec := "slabCells", inPlace := ["internal/bytealg.IndexByteString", "internal/bytealg.IndexString"], unfollowed := true, recurses := true, named := ["pantoscope/slab.kinds", "unicode/utf8.first", "unicode/utf8.acceptRanges", "strconv.ErrSyntax", "strconv.ErrRange", "internal/strconv.uint64pow10", "math/bits.deBruijn32tab", "math/bits.deBruijn64tab", "pantoscope/slab.colours", "internal/bytealg.MaxLen"], loops := true, plainKeys := false, apart := false, laid := [("math/bits.deBruijn32tab", laid_math_bits_deBruijn32tab), ("math/bits.deBruijn64tab", laid_math_bits_deBruijn64tab), ("internal/strconv.uint64pow10", laid_internal_strconv_uint64pow10), ("unicode/utf8.acceptRanges", laid_unicode_utf8_acceptRanges), ("strconv.ErrRange", laid_strconv_ErrRange), ("strconv.ErrSyntax", laid_strconv_ErrSyntax), ("pantoscope/slab.colours", laid_pantoscope_slab_colours), ("pantoscope/slab.kinds", laid_pantoscope_slab_kinds), ("unicode/utf8.first", laid_unicode_utf8_first)], narrowed := true }
def SlabCellsUptoSaid : Prop := slabCellsUptoRow.holds Tryz.pinned (OpenSpec.upto slabCellsSpec)

/-- 'pantoscopelaw02.SlabVolumes', WHERE WHAT IT READS IS OF BULK AT MOST 1048576: true; the input reads as it did. -/
def slabVolumesUptoRow : OpenClaim := { program := "yticjhkfidgkecaagreatdoor", sum := "fefbb2a46eada5f8c2a1bff2973454a2705a510d1afc56c5ab42052a23deb66d", func := "pantoscope/pantoscopelaw02.SlabVolumes", spec := "slabVolumes", inPlace := ["internal/bytealg.IndexByteString", "internal/bytealg.IndexString"], unfollowed := true, recurses := true, named := ["pantoscope/slab.kinds", "unicode/utf8.first", "unicode/utf8.acceptRanges", "strconv.ErrSyntax", "strconv.ErrRange", "internal/strconv.uint64pow10", "math/bits.deBruijn32tab", "math/bits.deBruijn64tab", "pantoscope/slab.colours", "internal/bytealg.MaxLen"], loops := true, plainKeys := false, apart := false, laid := [("math/bits.deBruijn32tab", laid_math_bits_deBruijn32tab), ("math/bits.deBruijn64tab", laid_math_bits_deBruijn64tab), ("internal/strconv.uint64pow10", laid_internal_strconv_uint64pow10), ("unicode/utf8.acceptRanges", laid_unicode_utf8_acceptRanges), ("strconv.ErrRange", laid_strconv_ErrRange), ("strconv.ErrSyntax", laid_strconv_ErrSyntax), ("pantoscope/slab.colours", laid_pantoscope_slab_colours), ("pantoscope/slab.kinds", laid_pantoscope_slab_kinds), ("unicode/utf8.first", laid_unicode_utf8_first)], narrowed := true }
def SlabVolumesUptoSaid : Prop := slabVolumesUptoRow.holds Tryz.pinned (OpenSpec.upto slabVolumesSpec)

/-- 'pantoscopelaw02.SlabWindows', WHERE WHAT IT READS IS OF BULK AT MOST 1048576: true; the input reads as it did. -/
def slabWindowsUptoRow : OpenClaim := { program := "yticjhkfidgkecaagreatdoor", sum := "fefbb2a46eada5f8c2a1bff2973454a2705a510d1afc56c5ab42052a23deb66d", func := "pantoscope/pantoscopelaw02.SlabWindows", spec := "slabWindows", inPlace := ["internal/bytealg.IndexByteString", "internal/bytealg.IndexString"], unfollowed := true, recurses := true, named := ["pantoscope/slab.kinds", "unicode/utf8.first", "unicode/utf8.acceptRanges", "strconv.ErrSyntax", "strconv.ErrRange", "internal/strconv.uint64pow10", "math/bits.deBruijn32tab", "math/bits.deBruijn64tab", "pantoscope/slab.colours", "internal/bytealg.MaxLen"], loops := true, plainKeys := false, apart := false, laid := [("math/bits.deBruijn32tab", laid_math_bits_deBruijn32tab), ("math/bits.deBruijn64tab", laid_math_bits_deBruijn64tab), ("internal/strconv.uint64pow10", laid_internal_strconv_uint64pow10), ("unicode/utf8.acceptRanges", laid_unicode_utf8_acceptRanges), ("strconv.ErrRange", laid_strconv_ErrRange), ("strconv.ErrSyntax", laid_strconv_ErrSyntax), ("pantoscope/slab.colours", laid_pantoscope_slab_colours), ("pantoscope/slab.kinds", laid_pantoscope_slab_kinds), ("unicode/utf8.first", laid_unicode_utf8_first)], narrowed := true }
def SlabWindowsUptoSaid : Prop := slabWindowsUptoRow.holds Tryz.pinned (OpenSpec.upto slabWindowsSpec)

/-- 'pantoscopelaw02.SlabEquals', WHERE WHAT IT READS IS OF BULK AT MOST 1048576: true; the input reads as it did. -/
def slabEqualsUptoRow : OpenClaim := { program := "yticjhkfidgkecaagreatdoor", sum := "fefbb2a46eada5f8c2a1bff2973454a2705a510d1afc56c5ab42052a23deb66d", func := "pantoscope/pantoscopelaw02.SlabEquals", spec := "slabEquals", inPlace := ["internal/bytealg.IndexByteString", "internal/bytealg.IndexString"], unfollowed := true, recurses := true, named := ["pantoscope/slab.kinds", "unicode/utf8.first", "unicode/utf8.acceptRanges", "strconv.ErrSyntax", "strconv.ErrRange", "internal/strconv.uint64pow10", "math/bits.deBruijn32tab", "math/bits.deBruijn64tab", "pantoscope/slab.colours", "internal/bytealg.MaxLen"], loops := true, plainKeys := false, apart := false, laid := [("math/bits.deBruijn32tab", laid_math_bits_deBruijn32tab), ("math/bits.deBruijn64tab", laid_math_bits_deBruijn64tab), ("internal/strconv.uint64pow10", laid_internal_strconv_uint64pow10), ("unicode/utf8.acceptRanges", laid_unicode_utf8_acceptRanges), ("strconv.ErrRange", laid_strconv_ErrRange), ("strconv.ErrSyntax", laid_strconv_ErrSyntax), ("pantoscope/slab.colours", laid_pantoscope_slab_colours), ("pantoscope/slab.kinds", laid_pantoscope_slab_kinds), ("unicode/utf8.first", laid_unicode_utf8_first)], narrowed := true }
def SlabEqualsUptoSaid : Prop := slabEqualsUptoRow.holds Tryz.pinned (OpenSpec.upto slabEqualsSpec)

/-- 'pantoscopelaw02.SlabTurns', WHERE WHAT IT READS IS OF BULK AT MOST 1048576: true; the input reads as it did. -/
def slabTurnsUptoRow : OpenClaim := { program := "yticjhkfidgkecaagreatdoor", sum := "fefbb2a46eada5f8c2a1bff2973454a2705a510d1afc56c5ab42052a23deb66d", func := "pantoscope/pantoscopelaw02.SlabTurns", spec := "slabTurns", inPlace := ["internal/bytealg.IndexByteString", "internal/bytealg.IndexString"], unfollowed := true, recurses := true, named := ["pantoscope/slab.kinds", "unicode/utf8.first", "unicode/utf8.acceptRanges", "strconv.ErrSyntax", "strconv.ErrRange", "internal/strconv.uint64pow10", "math/bits.deBruijn32tab", "math/bits.deBruijn64tab", "pantoscope/slab.colours", "internal/bytealg.MaxLen"], loops := true, plainKeys := false, apart := false, laid := [("math/bits.deBruijn32tab", laid_math_bits_deBruijn32tab), ("math/bits.deBruijn64tab", laid_math_bits_deBruijn64tab), ("internal/strconv.uint64pow10", laid_internal_strconv_uint64pow10), ("unicode/utf8.acceptRanges", laid_unicode_utf8_acceptRanges), ("strconv.ErrRange", laid_strconv_ErrRange), ("strconv.ErrSyntax", laid_strconv_ErrSyntax), ("pantoscope/slab.colours", laid_pantoscope_slab_colours), ("pantoscope/slab.kinds", laid_pantoscope_slab_kinds), ("unicode/utf8.first", laid_unicode_utf8_first)], narrowed := true }
def SlabTurnsUptoSaid : Prop := slabTurnsUptoRow.holds Tryz.pinned (OpenSpec.upto slabTurnsSpec)

/-- 'pantoscopelaw02.SlabAlgebra', WHERE WHAT IT READS IS OF BULK AT MOST 1048576: true; the input reads as it did. -/
def slabAlgebraUptoRow : OpenClaim := { program := "yticjhkfidgkecaagreatdoor", sum := "fefbb2a46eada5f8c2a1bff2973454a2705a510d1afc56c5ab42052a23deb66d", func := "pantoscope/pantoscopelaw02.SlabAlgebra", spec := "slabAlgebra", inPlace := ["internal/bytealg.IndexByteString", "internal/bytealg.IndexString"], unfollowed := true, recurses := true, named := ["pantoscope/slab.kinds", "unicode/utf8.first", "unicode/utf8.acceptRanges", "strconv.ErrSyntax", "strconv.ErrRange", "internal/strconv.uint64pow10", "math/bits.deBruijn32tab", "math/bits.deBruijn64tab", "pantoscope/slab.colours", "internal/bytealg.MaxLen"], loops := true, plainKeys := false, apart := false, laid := [("math/bits.deBruijn32tab", laid_math_bits_deBruijn32tab), ("math/bits.deBruijn64tab", laid_math_bits_deBruijn64tab), ("internal/strconv.uint64pow10", laid_internal_strconv_uint64pow10), ("unicode/utf8.acceptRanges", laid_unicode_utf8_acceptRanges), ("strconv.ErrRange", laid_strconv_ErrRange), ("strconv.ErrSyntax", laid_strconv_ErrSyntax), ("pantoscope/slab.colours", laid_pantoscope_slab_colours), ("pantoscope/slab.kinds", laid_pantoscope_slab_kinds), ("unicode/utf8.first", laid_unicode_utf8_first)], narrowed := true }
def SlabAlgebraUptoSaid : Prop := slabAlgebraUptoRow.holds Tryz.pinned (OpenSpec.upto slabAlgebraSpec)

/-- 'pantoscopelaw02.SlabSheets', WHERE WHAT IT READS IS OF BULK AT MOST 1048576: true; the input reads as it did. -/
def slabSheetsUptoRow : OpenClaim := { program := "yticjhkfidgkecaagreatdoor", sum := "fefbb2a46eada5f8c2a1bff2973454a2705a510d1afc56c5ab42052a23deb66d", func := "pantoscope/pantoscopelaw02.SlabSheets", spec := "slabSheets", inPlace := ["internal/bytealg.IndexByteString", "internal/bytealg.IndexString"], unfollowed := true, recurses := true, named := ["pantoscope/slab.kinds", "unicode/utf8.first", "unicode/utf8.acceptRanges", "strconv.ErrSyntax", "strconv.ErrRange", "internal/strconv.uint64pow10", "math/bits.deBruijn32tab", "math/bits.deBruijn64tab", "pantoscope/slab.colours", "internal/bytealg.MaxLen"], loops := true, plainKeys := false, apart := false, laid := [("math/bits.deBruijn32tab", laid_math_bits_deBruijn32tab), ("math/bits.deBruijn64tab", laid_math_bits_deBruijn64tab), ("internal/strconv.uint64pow10", laid_internal_strconv_uint64pow10), ("unicode/utf8.acceptRanges", laid_unicode_utf8_acceptRanges), ("strconv.ErrRange", laid_strconv_ErrRange), ("strconv.ErrSyntax", laid_strconv_ErrSyntax), ("pantoscope/slab.colours", laid_pantoscope_slab_colours), ("pantoscope/slab.kinds", laid_pantoscope_slab_kinds), ("unicode/utf8.first", laid_unicode_utf8_first)], narrowed := true }
def SlabSheetsUptoSaid : Prop := slabSheetsUptoRow.holds Tryz.pinned (OpenSpec.upto slabSheetsSpec)

/-- 'pantoscopelaw02.SlabSeasons', WHERE WHAT IT READS IS OF BULK AT MOST 1048576: true; the input reads as it did. -/
def slabSeasonsUptoRow : OpenClaim := { program := "yticjhkfidgkecaagreatdoor", sum := "fefbb2a46eada5f8c2a1bff2973454a2705a510d1afc56c5ab42052a23deb66d", func := "pantoscope/pantoscopelaw02.SlabSeasons", spec := "slabSeasons", inPlace := ["internal/bytealg.IndexByteString", "internal/bytealg.IndexString"], unfollowed := true, recurses := true, named := ["pantoscope/slab.kinds", "unicode/utf8.first", "unicode/utf8.acceptRanges", "strconv.ErrSyntax", "strconv.ErrRange", "internal/strconv.uint64pow10", "math/bits.deBruijn32tab", "math/bits.deBruijn64tab", "pantoscope/slab.colours", "internal/bytealg.MaxLen"], plainKeys := false, apart := false, laid := [("math/bits.deBruijn32tab", laid_math_bits_deBruijn32tab), ("math/bits.deBruijn64tab", laid_math_bits_deBruijn64tab), ("internal/strconv.uint64pow10", laid_internal_strconv_uint64pow10), ("unicode/utf8.acceptRanges", laid_unicode_utf8_acceptRanges), ("strconv.ErrRange", laid_strconv_ErrRange), ("strconv.ErrSyntax", laid_strconv_ErrSyntax), ("pantoscope/slab.colours", laid_pantoscope_slab_colours), ("pantoscope/slab.kinds", laid_pantoscope_slab_kinds), ("unicode/utf8.first", laid_unicode_utf8_first)], narrowed := true }
def SlabSeasonsUptoSaid : Prop := slabSeasonsUptoRow.holds Tryz.pinned (OpenSpec.upto slabSeasonsSpec)

/-- 'pantoscopelaw02.SlabOvens', WHERE WHAT IT READS IS OF BULK AT MOST 1048576: true; the input reads as it did. -/
def slabOvensUptoRow : OpenClaim := { program := "yticjhkfidgkecaagreatdoor", sum := "fefbb2a46eada5f8c2a1bff2973454a2705a510d1afc56c5ab42052a23deb66d", func := "pantoscope/pantoscopelaw02.SlabOvens", spec := "slabOvens", inPlace := ["internal/bytealg.IndexByteString", "internal/bytealg.IndexString"], unfollowed := true, recurses := true, named := ["pantoscope/slab.kinds", "unicode/utf8.first", "unicode/utf8.acceptRanges", "strconv.ErrSyntax", "strconv.ErrRange", "internal/strconv.uint64pow10", "math/bits.deBruijn32tab", "math/bits.deBruijn64tab", "pantoscope/slab.colours", "internal/bytealg.MaxLen"], plainKeys := false, apart := false, laid := [("math/bits.deBruijn32tab", laid_math_bits_deBruijn32tab), ("math/bits.deBruijn64tab", laid_math_bits_deBruijn64tab), ("internal/strconv.uint64pow10", laid_internal_strconv_uint64pow10), ("unicode/utf8.acceptRanges", laid_unicode_utf8_acceptRanges), ("strconv.ErrRange", laid_strconv_ErrRange), ("strconv.ErrSyntax", laid_strconv_ErrSyntax), ("pantoscope/slab.colours", laid_pantoscope_slab_colours), ("pantoscope/slab.kinds", laid_pantoscope_slab_kinds), ("unicode/utf8.first", laid_unicode_utf8_first)], narrowed := true }
def SlabOvensUptoSaid : Prop := slabOvensUptoRow.holds Tryz.pinned (OpenSpec.upto slabOvensSpec)

/-- 'pantoscopetop.TopBlocks', WHERE WHAT IT READS IS OF BULK AT MOST 1048576: true; the input reads as it did. -/
def topBlocksUptoRow : OpenClaim := { program := "yticjhkfidgkecaagreatdoor", sum := "fefbb2a46eada5f8c2a1bff2973454a2705a510d1afc56c5ab42052a23deb66d", func := "pantoscope/pantoscopetop.TopBlocks", spec := "topBlocks", inPlace := ["internal/bytealg.IndexByteString", "internal/bytealg.IndexString"], unfollowed := true, recurses := true, named := ["pantoscope/slab.kinds", "unicode/utf8.first", "unicode/utf8.acceptRanges", "strconv.ErrSyntax", "strconv.ErrRange", "internal/strconv.uint64pow10", "math/bits.deBruijn32tab", "math/bits.deBruijn64tab", "pantoscope/slab.colours", "internal/bytealg.MaxLen"], loops := true, plainKeys := false, apart := false, laid := [("math/bits.deBruijn32tab", laid_math_bits_deBruijn32tab), ("math/bits.deBruijn64tab", laid_math_bits_deBruijn64tab), ("internal/strconv.uint64pow10", laid_internal_strconv_uint64pow10), ("unicode/utf8.acceptRanges", laid_unicode_utf8_acceptRanges), ("strconv.ErrRange", laid_strconv_ErrRange), ("strconv.ErrSyntax", laid_strconv_ErrSyntax), ("pantoscope/slab.colours", laid_pantoscope_slab_colours), ("pantoscope/slab.kinds", laid_pantoscope_slab_kinds), ("unicode/utf8.first", laid_unicode_utf8_first)], narrowed := true }
def TopBlocksUptoSaid : Prop := topBlocksUptoRow.holds Tryz.pinned (OpenSpec.upto topBlocksSpec)

end Rows
end Go.Proofs.YticjhkfidgkecaaGreatDoor
