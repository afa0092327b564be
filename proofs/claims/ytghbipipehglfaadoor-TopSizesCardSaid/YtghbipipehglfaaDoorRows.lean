/-
  NARROWER THAN 'FOR EVERY INPUT', by the rows' own cells (each row's printed sentence says how): LastLists: laid · LastCovers: laid · LastFewest: laid · LastProofs: laid · LastMore: laid · TopSizes: laid.
  DERIVED. THE GIVEN ROWS OF THIS SEAT. 6 by the template 'for every input the law returns true; each argument reads behind the call as it read before'; 0 by the template 'total and deterministic' (their statements: YtghbipipehglfaaDoorTotals.lean).
  GIVEN WITH THE SEED: the statements are not yours to turn. If you find one false, say at which input.
  Laid BY PROGRAM, IN A SANDBOX (cutbox-rows.mjs): the forced cells as the released guide's own fill.sh prints them over the translation 2276f644d6f7a22d… (all of the seat's roots in one cut). By AI agents, Wed Nov 11 2026. No macro, syntax, notation, axiom, sorry.
-/
import Derived.Test.YtghbipipehglfaaDoorChecked
import GoSem.Claim
import GoSem.ClaimJoined
import GoSem.ClaimMapViews
import Derived.JoinedTies
import Derived.KernelRfl
namespace Go.Proofs.YtghbipipehglfaaDoor
/- THE CELL 'sum', in the pinned program and in every row, IS THE sha256 OF THE DUMP (.gsa) THAT YtghbipipehglfaaDoorProg.lean LOADS. Nothing in Lean hashes anything: it is a label: what it is worth is what the hold of that sum in a sandbox is worth. -/
noncomputable def Tryd.pinned : Pinned := { name := "ytghbipipehglfaadoor", sum := "2276f644d6f7a22df405a405f3cbddbacbc34ee1800d7f331009502d80e72881", checked := Tryd.checked }
namespace Rows
def none {H : Type} : Left H := { results := [], args := [] }

/- WHAT THE LISTED PACKAGE-LEVEL VARIABLES READ AS WHEN THE CALL BEGINS. Each datum BY PROGRAM (the guide's laid-datum.mjs) off the statement by which the dump's own 'gosem.cut.vars' lays the variable. In a bare row this is a premise. The card (YtghbipipehglfaaDoorCards.lean) ties it to the program's text. -/
def laid_math_bits_deBruijn64tab {H : Type} : DataW H := .agg [.lit (.int .u8 0), .lit (.int .u8 1), .lit (.int .u8 56), .lit (.int .u8 2), .lit (.int .u8 57), .lit (.int .u8 49), .lit (.int .u8 28), .lit (.int .u8 3), .lit (.int .u8 61), .lit (.int .u8 58), .lit (.int .u8 42), .lit (.int .u8 50), .lit (.int .u8 38), .lit (.int .u8 29), .lit (.int .u8 17), .lit (.int .u8 4), .lit (.int .u8 62), .lit (.int .u8 47), .lit (.int .u8 59), .lit (.int .u8 36), .lit (.int .u8 45), .lit (.int .u8 43), .lit (.int .u8 51), .lit (.int .u8 22), .lit (.int .u8 53), .lit (.int .u8 39), .lit (.int .u8 33), .lit (.int .u8 30), .lit (.int .u8 24), .lit (.int .u8 18), .lit (.int .u8 12), .lit (.int .u8 5), .lit (.int .u8 63), .lit (.int .u8 55), .lit (.int .u8 48), .lit (.int .u8 27), .lit (.int .u8 60), .lit (.int .u8 41), .lit (.int .u8 37), .lit (.int .u8 16), .lit (.int .u8 46), .lit (.int .u8 35), .lit (.int .u8 44), .lit (.int .u8 21), .lit (.int .u8 52), .lit (.int .u8 32), .lit (.int .u8 23), .lit (.int .u8 11), .lit (.int .u8 54), .lit (.int .u8 26), .lit (.int .u8 40), .lit (.int .u8 15), .lit (.int .u8 34), .lit (.int .u8 20), .lit (.int .u8 31), .lit (.int .u8 10), .lit (.int .u8 25), .lit (.int .u8 14), .lit (.int .u8 19), .lit (.int .u8 9), .lit (.int .u8 13), .lit (.int .u8 8), .lit (.int .u8 7), .lit (.int .u8 6)]

/-- 'pantoscopelaw03.LastLists': WHATEVER THE INPUT: true; the input reads as it did. -/
def lastListsSpec : ChangeSpec := { name := "lastLists", fn := fun _ => fun
  | [d1, d2] => { results := [.lit (.bool true)], args := [d1, d2] }
  | _ => none }
def lastListsRow : OpenClaim := { program := "ytghbipipehglfaadoor", sum := "2276f644d6f7a22df405a405f3cbddbacbc34ee1800d7f331009502d80e72881", func := "pantoscope/pantoscopelaw03.LastLists", spec := "lastLists", unfollowed := true, recurses := true, named := ["math/bits.deBruijn64tab"], apart := false, laid := [("math/bits.deBruijn64tab", laid_math_bits_deBruijn64tab)] }
def LastListsSaid : Prop := lastListsRow.holds Tryd.pinned (OpenSpec.ofChange lastListsSpec)

/-- ITS FALSE NEIGHBOUR: 'it returns false'. Refute it at one input. -/
def lastListsWrong : ChangeSpec := { name := "lastLists", fn := fun _ => fun
  | [d1, d2] => { results := [.lit (.bool false)], args := [d1, d2] }
  | _ => none }
def LastListsWrongFalsely : Prop := lastListsRow.holds Tryd.pinned (OpenSpec.ofChange lastListsWrong)

/-- 'pantoscopelaw03.LastCovers': WHATEVER THE INPUT: true; the input reads as it did. -/
def lastCoversSpec : ChangeSpec := { name := "lastCovers", fn := fun _ => fun
  | [d1, d2, d3] => { results := [.lit (.bool true)], args := [d1, d2, d3] }
  | _ => none }
def lastCoversRow : OpenClaim := { program := "ytghbipipehglfaadoor", sum := "2276f644d6f7a22df405a405f3cbddbacbc34ee1800d7f331009502d80e72881", func := "pantoscope/pantoscopelaw03.LastCovers", spec := "lastCovers", unfollowed := true, recurses := true, named := ["math/bits.deBruijn64tab"], apart := false, laid := [("math/bits.deBruijn64tab", laid_math_bits_deBruijn64tab)] }
def LastCoversSaid : Prop := lastCoversRow.holds Tryd.pinned (OpenSpec.ofChange lastCoversSpec)

/-- ITS FALSE NEIGHBOUR: 'it returns false'. Refute it at one input. -/
def lastCoversWrong : ChangeSpec := { name := "lastCovers", fn := fun _ => fun
  | [d1, d2, d3] => { results := [.lit (.bool false)], args := [d1, d2, d3] }
  | _ => none }
def LastCoversWrongFalsely : Prop := lastCoversRow.holds Tryd.pinned (OpenSpec.ofChange lastCoversWrong)

/-- 'pantoscopelaw03.LastFewest': WHATEVER THE INPUT: true; the input reads as it did. -/
def lastFewestSpec : ChangeSpec := { name := "lastFewest", fn := fun _ => fun
  | [d1, d2] => { results := [.lit (.bool true)], args := [d1, d2] }
  | _ => none }
def lastFewestRow : OpenClaim := { program := "ytghbipipehglfaadoor", sum := "2276f644d6f7a22df405a405f3cbddbacbc34ee1800d7f331009502d80e72881", func := "pantoscope/pantoscopelaw03.LastFewest", spec := "lastFewest", unfollowed := true, recurses := true, named := ["math/bits.deBruijn64tab"], apart := false, laid := [("math/bits.deBruijn64tab", laid_math_bits_deBruijn64tab)] }
def LastFewestSaid : Prop := lastFewestRow.holds Tryd.pinned (OpenSpec.ofChange lastFewestSpec)

/-- ITS FALSE NEIGHBOUR: 'it returns false'. Refute it at one input. -/
def lastFewestWrong : ChangeSpec := { name := "lastFewest", fn := fun _ => fun
  | [d1, d2] => { results := [.lit (.bool false)], args := [d1, d2] }
  | _ => none }
def LastFewestWrongFalsely : Prop := lastFewestRow.holds Tryd.pinned (OpenSpec.ofChange lastFewestWrong)

/-- 'pantoscopelaw03.LastProofs': WHATEVER THE INPUT: true; the input reads as it did. -/
def lastProofsSpec : ChangeSpec := { name := "lastProofs", fn := fun _ => fun
  | [d1, d2, d3, d4] => { results := [.lit (.bool true)], args := [d1, d2, d3, d4] }
  | _ => none }
def lastProofsRow : OpenClaim := { program := "ytghbipipehglfaadoor", sum := "2276f644d6f7a22df405a405f3cbddbacbc34ee1800d7f331009502d80e72881", func := "pantoscope/pantoscopelaw03.LastProofs", spec := "lastProofs", unfollowed := true, recurses := true, named := ["math/bits.deBruijn64tab"], apart := false, laid := [("math/bits.deBruijn64tab", laid_math_bits_deBruijn64tab)] }
def LastProofsSaid : Prop := lastProofsRow.holds Tryd.pinned (OpenSpec.ofChange lastProofsSpec)

/-- ITS FALSE NEIGHBOUR: 'it returns false'. Refute it at one input. -/
def lastProofsWrong : ChangeSpec := { name := "lastProofs", fn := fun _ => fun
  | [d1, d2, d3, d4] => { results := [.lit (.bool false)], args := [d1, d2, d3, d4] }
  | _ => none }
def LastProofsWrongFalsely : Prop := lastProofsRow.holds Tryd.pinned (OpenSpec.ofChange lastProofsWrong)

/-- 'pantoscopelaw03.LastMore': WHATEVER THE INPUT: true; the input reads as it did. -/
def lastMoreSpec : ChangeSpec := { name := "lastMore", fn := fun _ => fun
  | [d1, d2, d3, d4] => { results := [.lit (.bool true)], args := [d1, d2, d3, d4] }
  | _ => none }
def lastMoreRow : OpenClaim := { program := "ytghbipipehglfaadoor", sum := "2276f644d6f7a22df405a405f3cbddbacbc34ee1800d7f331009502d80e72881", func := "pantoscope/pantoscopelaw03.LastMore", spec := "lastMore", unfollowed := true, recurses := true, named := ["math/bits.deBruijn64tab"], apart := false, laid := [("math/bits.deBruijn64tab", laid_math_bits_deBruijn64tab)] }
def LastMoreSaid : Prop := lastMoreRow.holds Tryd.pinned (OpenSpec.ofChange lastMoreSpec)

/-- ITS FALSE NEIGHBOUR: 'it returns false'. Refute it at one input. -/
def lastMoreWrong : ChangeSpec := { name := "lastMore", fn := fun _ => fun
  | [d1, d2, d3, d4] => { results := [.lit (.bool false)], args := [d1, d2, d3, d4] }
  | _ => none }
def LastMoreWrongFalsely : Prop := lastMoreRow.holds Tryd.pinned (OpenSpec.ofChange lastMoreWrong)

/-- 'pantoscopetop.TopSizes': WHATEVER THE INPUT: true; the input reads as it did. -/
def topSizesSpec : ChangeSpec := { name := "topSizes", fn := fun _ => fun
  | [d1, d2, d3, d4, d5] => { results := [.lit (.bool true)], args := [d1, d2, d3, d4, d5] }
  | _ => none }
def topSizesRow : OpenClaim := { program := "ytghbipipehglfaadoor", sum := "2276f644d6f7a22df405a405f3cbddbacbc34ee1800d7f331009502d80e72881", func := "pantoscope/pantoscopetop.TopSizes", spec := "topSizes", unfollowed := true, recurses := true, named := ["math/bits.deBruijn64tab"], apart := false, laid := [("math/bits.deBruijn64tab", laid_math_bits_deBruijn64tab)] }
def TopSizesSaid : Prop := topSizesRow.holds Tryd.pinned (OpenSpec.ofChange topSizesSpec)

/-- ITS FALSE NEIGHBOUR: 'it returns false'. Refute it at one input. -/
def topSizesWrong : ChangeSpec := { name := "topSizes", fn := fun _ => fun
  | [d1, d2, d3, d4, d5] => { results := [.lit (.bool false)], args := [d1, d2, d3, d4, d5] }
  | _ => none }
def TopSizesWrongFalsely : Prop := topSizesRow.holds Tryd.pinned (OpenSpec.ofChange topSizesWrong)

/- THE SECOND FORM. 'bulk': how many values and letters a reading holds, each counted each time it is reached (what is shared counts as often as it is met; a slice's spare places count too). A statement '..UptoSaid' is the law's where the arguments, and the package variables that the reading takes, are together of bulk at most 1048576: NARROWER than '..Said'. Prove '..Said' where nothing that the law and all that it calls make is longer than what came in: it says more and counts as full. Else prove '..UptoSaid'. A law counts once. -/
mutual
def uptoBulk {H : Type} : DataW H → Nat
  | .lit (.string bytes) => bytes.length + 1
  | .lit _ => 1
  | .nil => 1
  | .ptr d => uptoBulk d + 1
  | .slice elems spare => uptoBulkAll elems + uptoBulkAll spare + 1
  | .agg parts => uptoBulkAll parts + 1
  | .iface _ d => uptoBulk d + 1
  | .map entries => uptoBulkEntries entries + 1
  | .held _ => 1
def uptoBulkAll {H : Type} : List (DataW H) → Nat
  | [] => 0
  | d :: r => uptoBulk d + uptoBulkAll r
def uptoBulkEntries {H : Type} : List (Lit × DataW H) → Nat
  | [] => 0
  | x :: r => uptoBulkEntry x + uptoBulkEntries r
def uptoBulkEntry {H : Type} : Lit × DataW H → Nat
  | (.string bytes, d) => bytes.length + uptoBulk d + 1
  | (_, d) => uptoBulk d + 1
 end
def uptoSmall : (H : Type) → List (DataW H) → Bool := fun _ ds => decide (uptoBulkAll ds ≤ 1048576)
def OpenSpec.upto (s : _root_.Go.ChangeSpec) : _root_.Go.OpenSpec := { _root_.Go.OpenSpec.ofChange s with cond := some uptoSmall }

/-- 'pantoscopelaw03.LastLists', WHERE WHAT IT READS IS OF BULK AT MOST 1048576: true; the input reads as it did. -/
def lastListsUptoRow : OpenClaim := { program := "ytghbipipehglfaadoor", sum := "2276f644d6f7a22df405a405f3cbddbacbc34ee1800d7f331009502d80e72881", func := "pantoscope/pantoscopelaw03.LastLists", spec := "lastLists", unfollowed := true, recurses := true, named := ["math/bits.deBruijn64tab"], apart := false, laid := [("math/bits.deBruijn64tab", laid_math_bits_deBruijn64tab)], narrowed := true }
def LastListsUptoSaid : Prop := lastListsUptoRow.holds Tryd.pinned (OpenSpec.upto lastListsSpec)

/-- 'pantoscopelaw03.LastCovers', WHERE WHAT IT READS IS OF BULK AT MOST 1048576: true; the input reads as it did. -/
def lastCoversUptoRow : OpenClaim := { program := "ytghbipipehglfaadoor", sum := "2276f644d6f7a22df405a405f3cbddbacbc34ee1800d7f331009502d80e72881", func := "pantoscope/pantoscopelaw03.LastCovers", spec := "lastCovers", unfollowed := true, recurses := true, named := ["math/bits.deBruijn64tab"], apart := false, laid := [("math/bits.deBruijn64tab", laid_math_bits_deBruijn64tab)], narrowed := true }
def LastCoversUptoSaid : Prop := lastCoversUptoRow.holds Tryd.pinned (OpenSpec.upto lastCoversSpec)

/-- 'pantoscopelaw03.LastFewest', WHERE WHAT IT READS IS OF BULK AT MOST 1048576: true; the input reads as it did. -/
def lastFewestUptoRow : OpenClaim := { program := "ytghbipipehglfaadoor", sum := "2276f644d6f7a22df405a405f3cbddbacbc34ee1800d7f331009502d80e72881", func := "pantoscope/pantoscopelaw03.LastFewest", spec := "lastFewest", unfollowed := true, recurses := true, named := ["math/bits.deBruijn64tab"], apart := false, laid := [("math/bits.deBruijn64tab", laid_math_bits_deBruijn64tab)], narrowed := true }
def LastFewestUptoSaid : Prop := lastFewestUptoRow.holds Tryd.pinned (OpenSpec.upto lastFewestSpec)

/-- 'pantoscopelaw03.LastProofs', WHERE WHAT IT READS IS OF BULK AT MOST 1048576: true; the input reads as it did. -/
def lastProofsUptoRow : OpenClaim := { program := "ytghbipipehglfaadoor", sum := "2276f644d6f7a22df405a405f3cbddbacbc34ee1800d7f331009502d80e72881", func := "pantoscope/pantoscopelaw03.LastProofs", spec := "lastProofs", unfollowed := true, recurses := true, named := ["math/bits.deBruijn64tab"], apart := false, laid := [("math/bits.deBruijn64tab", laid_math_bits_deBruijn64tab)], narrowed := true }
def LastProofsUptoSaid : Prop := lastProofsUptoRow.holds Tryd.pinned (OpenSpec.upto lastProofsSpec)

/-- 'pantoscopelaw03.LastMore', WHERE WHAT IT READS IS OF BULK AT MOST 1048576: true; the input reads as it did. -/
def lastMoreUptoRow : OpenClaim := { program := "ytghbipipehglfaadoor", sum := "2276f644d6f7a22df405a405f3cbddbacbc34ee1800d7f331009502d80e72881", func := "pantoscope/pantoscopelaw03.LastMore", spec := "lastMore", unfollowed := true, recurses := true, named := ["math/bits.deBruijn64tab"], apart := false, laid := [("math/bits.deBruijn64tab", laid_math_bits_deBruijn64tab)], narrowed := true }
def LastMoreUptoSaid : Prop := lastMoreUptoRow.holds Tryd.pinned (OpenSpec.upto lastMoreSpec)

/-- 'pantoscopetop.TopSizes', WHERE WHAT IT READS IS OF BULK AT MOST 1048576: true; the input reads as it did. -/
def topSizesUptoRow : OpenClaim := { program := "ytghbipipehglfaadoor", sum := "2276f644d6f7a22df405a405f3cbddbacbc34ee1800d7f331009502d80e72881", func := "pantoscope/pantoscopetop.TopSizes", spec := "topSizes", unfollowed := true, recurses := true, named := ["math/bits.deBruijn64tab"], apart := false, laid := [("math/bits.deBruijn64tab", laid_math_bits_deBruijn64tab)], narrowed := true }
def TopSizesUptoSaid : Prop := topSizesUptoRow.holds Tryd.pinned (OpenSpec.upto topSizesSpec)

end Rows
end Go.Proofs.YtghbipipehglfaaDoor
