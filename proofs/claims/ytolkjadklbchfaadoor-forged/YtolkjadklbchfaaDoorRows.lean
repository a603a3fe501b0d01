/-
  NARROWER THAN 'FOR EVERY INPUT', by the rows' own cells (each row's printed sentence says how): Held: laid · Parts: laid · Returns: laid · Cut: laid · Turned: laid · Forged: laid · Firm: laid · Apart: laid.
  DERIVED. THE GIVEN ROWS OF THIS SEAT. 8 by the template 'for every input the law returns true; each argument reads behind the call as it read before'; 0 by the template 'total and deterministic' (their statements: YtolkjadklbchfaaDoorTotals.lean).
  GIVEN WITH THE SEED: the statements are not yours to turn. If you find one false, say at which input.
  Laid BY PROGRAM, IN A SANDBOX (cutbox-rows.mjs): the forced cells as the released guide's own fill.sh prints them over the translation 332e7c98450c4bf4… (all of the seat's roots in one cut). By AI agents, Wed Nov 11 2026. No macro, syntax, notation, axiom, sorry.
-/
import Derived.Test.YtolkjadklbchfaaDoorChecked
import GoSem.Claim
import GoSem.ClaimJoined
import GoSem.ClaimMapViews
import Derived.JoinedTies
import Derived.KernelRfl
namespace Go.Proofs.YtolkjadklbchfaaDoor
/- THE CELL 'sum', in the pinned program and in every row, IS THE sha256 OF THE DUMP (.gsa) THAT YtolkjadklbchfaaDoorProg.lean LOADS. Nothing in Lean hashes anything: it is a label: what it is worth is what the hold of that sum in a sandbox is worth. -/
noncomputable def Tryd.pinned : Pinned := { name := "ytolkjadklbchfaadoor", sum := "332e7c98450c4bf4ae000919554c41cbb398a375a9c5626394bb09512096ee4a", checked := Tryd.checked }
namespace Rows
def none {H : Type} : Left H := { results := [], args := [] }

/- WHAT THE LISTED PACKAGE-LEVEL VARIABLES READ AS WHEN THE CALL BEGINS. Each datum BY PROGRAM (the guide's laid-datum.mjs) off the statement by which the dump's own 'gosem.cut.vars' lays the variable. In a bare row this is a premise. The card (YtolkjadklbchfaaDoorCards.lean) ties it to the program's text. -/
def laid_math_bits_deBruijn64tab {H : Type} : DataW H := .agg [.lit (.int .u8 0), .lit (.int .u8 1), .lit (.int .u8 56), .lit (.int .u8 2), .lit (.int .u8 57), .lit (.int .u8 49), .lit (.int .u8 28), .lit (.int .u8 3), .lit (.int .u8 61), .lit (.int .u8 58), .lit (.int .u8 42), .lit (.int .u8 50), .lit (.int .u8 38), .lit (.int .u8 29), .lit (.int .u8 17), .lit (.int .u8 4), .lit (.int .u8 62), .lit (.int .u8 47), .lit (.int .u8 59), .lit (.int .u8 36), .lit (.int .u8 45), .lit (.int .u8 43), .lit (.int .u8 51), .lit (.int .u8 22), .lit (.int .u8 53), .lit (.int .u8 39), .lit (.int .u8 33), .lit (.int .u8 30), .lit (.int .u8 24), .lit (.int .u8 18), .lit (.int .u8 12), .lit (.int .u8 5), .lit (.int .u8 63), .lit (.int .u8 55), .lit (.int .u8 48), .lit (.int .u8 27), .lit (.int .u8 60), .lit (.int .u8 41), .lit (.int .u8 37), .lit (.int .u8 16), .lit (.int .u8 46), .lit (.int .u8 35), .lit (.int .u8 44), .lit (.int .u8 21), .lit (.int .u8 52), .lit (.int .u8 32), .lit (.int .u8 23), .lit (.int .u8 11), .lit (.int .u8 54), .lit (.int .u8 26), .lit (.int .u8 40), .lit (.int .u8 15), .lit (.int .u8 34), .lit (.int .u8 20), .lit (.int .u8 31), .lit (.int .u8 10), .lit (.int .u8 25), .lit (.int .u8 14), .lit (.int .u8 19), .lit (.int .u8 9), .lit (.int .u8 13), .lit (.int .u8 8), .lit (.int .u8 7), .lit (.int .u8 6)]
def laid_strata_sum_halves {H : Type} : DataW H := .agg [.lit (.int .u32 0), .lit (.int .u32 498536548), .lit (.int .u32 997073096), .lit (.int .u32 651767980), .lit (.int .u32 1994146192), .lit (.int .u32 1802195444), .lit (.int .u32 1303535960), .lit (.int .u32 1342533948), .lit (.int .u32 3988292384), .lit (.int .u32 4027552580), .lit (.int .u32 3604390888), .lit (.int .u32 3412177804), .lit (.int .u32 2607071920), .lit (.int .u32 2262029012), .lit (.int .u32 2685067896), .lit (.int .u32 3183342108)]

/-- 'stratakeep.Held': WHATEVER THE INPUT: true; the input reads as it did. -/
def heldSpec : ChangeSpec := { name := "held", fn := fun _ => fun
  | [d1, d2, d3, d4, d5] => { results := [.lit (.bool true)], args := [d1, d2, d3, d4, d5] }
  | _ => none }
def heldRow : OpenClaim := { program := "ytolkjadklbchfaadoor", sum := "332e7c98450c4bf4ae000919554c41cbb398a375a9c5626394bb09512096ee4a", func := "strata/stratakeep.Held", spec := "held", unfollowed := true, recurses := true, named := ["math/bits.deBruijn64tab"], apart := false, laid := [("math/bits.deBruijn64tab", laid_math_bits_deBruijn64tab)] }
def HeldSaid : Prop := heldRow.holds Tryd.pinned (OpenSpec.ofChange heldSpec)

/-- ITS FALSE NEIGHBOUR: 'it returns false'. Refute it at one input. -/
def heldWrong : ChangeSpec := { name := "held", fn := fun _ => fun
  | [d1, d2, d3, d4, d5] => { results := [.lit (.bool false)], args := [d1, d2, d3, d4, d5] }
  | _ => none }
def HeldWrongFalsely : Prop := heldRow.holds Tryd.pinned (OpenSpec.ofChange heldWrong)

/-- 'stratakeep.Parts': WHATEVER THE INPUT: true; the input reads as it did. -/
def partsSpec : ChangeSpec := { name := "parts", fn := fun _ => fun
  | [d1, d2, d3, d4, d5, d6] => { results := [.lit (.bool true)], args := [d1, d2, d3, d4, d5, d6] }
  | _ => none }
def partsRow : OpenClaim := { program := "ytolkjadklbchfaadoor", sum := "332e7c98450c4bf4ae000919554c41cbb398a375a9c5626394bb09512096ee4a", func := "strata/stratakeep.Parts", spec := "parts", unfollowed := true, recurses := true, named := ["math/bits.deBruijn64tab"], apart := false, laid := [("math/bits.deBruijn64tab", laid_math_bits_deBruijn64tab)] }
def PartsSaid : Prop := partsRow.holds Tryd.pinned (OpenSpec.ofChange partsSpec)

/-- ITS FALSE NEIGHBOUR: 'it returns false'. Refute it at one input. -/
def partsWrong : ChangeSpec := { name := "parts", fn := fun _ => fun
  | [d1, d2, d3, d4, d5, d6] => { results := [.lit (.bool false)], args := [d1, d2, d3, d4, d5, d6] }
  | _ => none }
def PartsWrongFalsely : Prop := partsRow.holds Tryd.pinned (OpenSpec.ofChange partsWrong)

/-- 'stratakeep.Returns': WHATEVER THE INPUT: true; the input reads as it did. -/
def returnsSpec : ChangeSpec := { name := "returns", fn := fun _ => fun
  | [d1, d2, d3, d4, d5, d6] => { results := [.lit (.bool true)], args := [d1, d2, d3, d4, d5, d6] }
  | _ => none }
def returnsRow : OpenClaim := { program := "ytolkjadklbchfaadoor", sum := "332e7c98450c4bf4ae000919554c41cbb398a375a9c5626394bb09512096ee4a", func := "strata/stratakeep.Returns", spec := "returns", unfollowed := true, recurses := true, named := ["strata/sum.halves", "math/bits.deBruijn64tab"], apart := false, laid := [("math/bits.deBruijn64tab", laid_math_bits_deBruijn64tab), ("strata/sum.halves", laid_strata_sum_halves)] }
def ReturnsSaid : Prop := returnsRow.holds Tryd.pinned (OpenSpec.ofChange returnsSpec)

/-- ITS FALSE NEIGHBOUR: 'it returns false'. Refute it at one input. -/
def returnsWrong : ChangeSpec := { name := "returns", fn := fun _ => fun
  | [d1, d2, d3, d4, d5, d6] => { results := [.lit (.bool false)], args := [d1, d2, d3, d4, d5, d6] }
  | _ => none }
def ReturnsWrongFalsely : Prop := returnsRow.holds Tryd.pinned (OpenSpec.ofChange returnsWrong)

/-- 'stratakeep.Cut': WHATEVER THE INPUT: true; the input reads as it did. -/
def cutSpec : ChangeSpec := { name := "cut", fn := fun _ => fun
  | [d1, d2, d3, d4, d5] => { results := [.lit (.bool true)], args := [d1, d2, d3, d4, d5] }
  | _ => none }
def cutRow : OpenClaim := { program := "ytolkjadklbchfaadoor", sum := "332e7c98450c4bf4ae000919554c41cbb398a375a9c5626394bb09512096ee4a", func := "strata/stratakeep.Cut", spec := "cut", unfollowed := true, recurses := true, named := ["strata/sum.halves", "math/bits.deBruijn64tab"], apart := false, laid := [("math/bits.deBruijn64tab", laid_math_bits_deBruijn64tab), ("strata/sum.halves", laid_strata_sum_halves)] }
def CutSaid : Prop := cutRow.holds Tryd.pinned (OpenSpec.ofChange cutSpec)

/-- ITS FALSE NEIGHBOUR: 'it returns false'. Refute it at one input. -/
def cutWrong : ChangeSpec := { name := "cut", fn := fun _ => fun
  | [d1, d2, d3, d4, d5] => { results := [.lit (.bool false)], args := [d1, d2, d3, d4, d5] }
  | _ => none }
def CutWrongFalsely : Prop := cutRow.holds Tryd.pinned (OpenSpec.ofChange cutWrong)

/-- 'stratakeep.Turned': WHATEVER THE INPUT: true; the input reads as it did. -/
def turnedSpec : ChangeSpec := { name := "turned", fn := fun _ => fun
  | [d1, d2, d3, d4, d5] => { results := [.lit (.bool true)], args := [d1, d2, d3, d4, d5] }
  | _ => none }
def turnedRow : OpenClaim := { program := "ytolkjadklbchfaadoor", sum := "332e7c98450c4bf4ae000919554c41cbb398a375a9c5626394bb09512096ee4a", func := "strata/stratakeep.Turned", spec := "turned", unfollowed := true, recurses := true, named := ["strata/sum.halves", "math/bits.deBruijn64tab"], apart := false, laid := [("math/bits.deBruijn64tab", laid_math_bits_deBruijn64tab), ("strata/sum.halves", laid_strata_sum_halves)] }
def TurnedSaid : Prop := turnedRow.holds Tryd.pinned (OpenSpec.ofChange turnedSpec)

/-- ITS FALSE NEIGHBOUR: 'it returns false'. Refute it at one input. -/
def turnedWrong : ChangeSpec := { name := "turned", fn := fun _ => fun
  | [d1, d2, d3, d4, d5] => { results := [.lit (.bool false)], args := [d1, d2, d3, d4, d5] }
  | _ => none }
def TurnedWrongFalsely : Prop := turnedRow.holds Tryd.pinned (OpenSpec.ofChange turnedWrong)

/-- 'stratakeep.Forged': WHATEVER THE INPUT: true; the input reads as it did. -/
def forgedSpec : ChangeSpec := { name := "forged", fn := fun _ => fun
  | [d1, d2, d3, d4, d5, d6] => { results := [.lit (.bool true)], args := [d1, d2, d3, d4, d5, d6] }
  | _ => none }
def forgedRow : OpenClaim := { program := "ytolkjadklbchfaadoor", sum := "332e7c98450c4bf4ae000919554c41cbb398a375a9c5626394bb09512096ee4a", func := "strata/stratakeep.Forged", spec := "forged", unfollowed := true, recurses := true, named := ["strata/sum.halves", "math/bits.deBruijn64tab"], apart := false, laid := [("math/bits.deBruijn64tab", laid_math_bits_deBruijn64tab), ("strata/sum.halves", laid_strata_sum_halves)] }
def ForgedSaid : Prop := forgedRow.holds Tryd.pinned (OpenSpec.ofChange forgedSpec)

/-- ITS FALSE NEIGHBOUR: 'it returns false'. Refute it at one input. -/
def forgedWrong : ChangeSpec := { name := "forged", fn := fun _ => fun
  | [d1, d2, d3, d4, d5, d6] => { results := [.lit (.bool false)], args := [d1, d2, d3, d4, d5, d6] }
  | _ => none }
def ForgedWrongFalsely : Prop := forgedRow.holds Tryd.pinned (OpenSpec.ofChange forgedWrong)

/-- 'stratakeep.Firm': WHATEVER THE INPUT: true; the input reads as it did. -/
def firmSpec : ChangeSpec := { name := "firm", fn := fun _ => fun
  | [d1, d2, d3, d4] => { results := [.lit (.bool true)], args := [d1, d2, d3, d4] }
  | _ => none }
def firmRow : OpenClaim := { program := "ytolkjadklbchfaadoor", sum := "332e7c98450c4bf4ae000919554c41cbb398a375a9c5626394bb09512096ee4a", func := "strata/stratakeep.Firm", spec := "firm", unfollowed := true, recurses := true, named := ["strata/sum.halves", "math/bits.deBruijn64tab"], apart := false, laid := [("math/bits.deBruijn64tab", laid_math_bits_deBruijn64tab), ("strata/sum.halves", laid_strata_sum_halves)] }
def FirmSaid : Prop := firmRow.holds Tryd.pinned (OpenSpec.ofChange firmSpec)

/-- ITS FALSE NEIGHBOUR: 'it returns false'. Refute it at one input. -/
def firmWrong : ChangeSpec := { name := "firm", fn := fun _ => fun
  | [d1, d2, d3, d4] => { results := [.lit (.bool false)], args := [d1, d2, d3, d4] }
  | _ => none }
def FirmWrongFalsely : Prop := firmRow.holds Tryd.pinned (OpenSpec.ofChange firmWrong)

/-- 'stratakeep.Apart': WHATEVER THE INPUT: true; the input reads as it did. -/
def apartSpec : ChangeSpec := { name := "apart", fn := fun _ => fun
  | [d1, d2, d3, d4] => { results := [.lit (.bool true)], args := [d1, d2, d3, d4] }
  | _ => none }
def apartRow : OpenClaim := { program := "ytolkjadklbchfaadoor", sum := "332e7c98450c4bf4ae000919554c41cbb398a375a9c5626394bb09512096ee4a", func := "strata/stratakeep.Apart", spec := "apart", unfollowed := true, recurses := true, named := ["strata/sum.halves", "math/bits.deBruijn64tab"], apart := false, laid := [("math/bits.deBruijn64tab", laid_math_bits_deBruijn64tab), ("strata/sum.halves", laid_strata_sum_halves)] }
def ApartSaid : Prop := apartRow.holds Tryd.pinned (OpenSpec.ofChange apartSpec)

/-- ITS FALSE NEIGHBOUR: 'it returns false'. Refute it at one input. -/
def apartWrong : ChangeSpec := { name := "apart", fn := fun _ => fun
  | [d1, d2, d3, d4] => { results := [.lit (.bool false)], args := [d1, d2, d3, d4] }
  | _ => none }
def ApartWrongFalsely : Prop := apartRow.holds Tryd.pinned (OpenSpec.ofChange apartWrong)

/- THE SECOND FORM. 'bulk': how many values and letters a reading holds, each counted each time it is reached (what is shared counts as often as it is met; a slice's spare places count too). A statement '..UptoSaid' is the law's where the arguments, and the package variables that the reading takes, are together of bulk at most 1048576: NARROWER than '..Said'. Prove '..Said' where nothing that the law and all that it calls make is longer than what came in: it says more and counts as full. Else prove '..UptoSaid'. A law counts once. -/
mutual
def uptoBulk {H : Type} : DataW H → Nat
  | .lit (.string bytes) => bytes.length + 1
  | .lit _ => 1
  | .nil => 1
  | .ptr d => uptoBulk d + 1
  | .slice elems spare => uptoBulkAll elems + uptoBulkAll spare + 1
  | .agg parts => uptoBulkAll parts + 1
  | .iface _ d => uptoBulk d + 1
  | .map entries => uptoBulkEntries entries + 1
  | .held _ => 1
def uptoBulkAll {H : Type} : List (DataW H) → Nat
  | [] => 0
  | d :: r => uptoBulk d + uptoBulkAll r
def uptoBulkEntries {H : Type} : List (Lit × DataW H) → Nat
  | [] => 0
  | x :: r => uptoBulkEntry x + uptoBulkEntries r
def uptoBulkEntry {H : Type} : Lit × DataW H → Nat
  | (.string bytes, d) => bytes.length + uptoBulk d + 1
  | (_, d) => uptoBulk d + 1
 end
def uptoSmall : (H : Type) → List (DataW H) → Bool := fun _ ds => decide (uptoBulkAll ds ≤ 1048576)
def OpenSpec.upto (s : _root_.Go.ChangeSpec) : _root_.Go.OpenSpec := { _root_.Go.OpenSpec.ofChange s with cond := some uptoSmall }

/-- 'stratakeep.Held', WHERE WHAT IT READS IS OF BULK AT MOST 1048576: true; the input reads as it did. -/
def heldUptoRow : OpenClaim := { program := "ytolkjadklbchfaadoor", sum := "332e7c98450c4bf4ae000919554c41cbb398a375a9c5626394bb09512096ee4a", func := "strata/stratakeep.Held", spec := "held", unfollowed := true, recurses := true, named := ["math/bits.deBruijn64tab"], apart := false, laid := [("math/bits.deBruijn64tab", laid_math_bits_deBruijn64tab)], narrowed := true }
def HeldUptoSaid : Prop := heldUptoRow.holds Tryd.pinned (OpenSpec.upto heldSpec)

/-- 'stratakeep.Parts', WHERE WHAT IT READS IS OF BULK AT MOST 1048576: true; the input reads as it did. -/
def partsUptoRow : OpenClaim := { program := "ytolkjadklbchfaadoor", sum := "332e7c98450c4bf4ae000919554c41cbb398a375a9c5626394bb09512096ee4a", func := "strata/stratakeep.Parts", spec := "parts", unfollowed := true, recurses := true, named := ["math/bits.deBruijn64tab"], apart := false, laid := [("math/bits.deBruijn64tab", laid_math_bits_deBruijn64tab)], narrowed := true }
def PartsUptoSaid : Prop := partsUptoRow.holds Tryd.pinned (OpenSpec.upto partsSpec)

/-- 'stratakeep.Returns', WHERE WHAT IT READS IS OF BULK AT MOST 1048576: true; the input reads as it did. -/
def returnsUptoRow : OpenClaim := { program := "ytolkjadklbchfaadoor", sum := "332e7c98450c4bf4ae000919554c41cbb398a375a9c5626394bb09512096ee4a", func := "strata/stratakeep.Returns", spec := "returns", unfollowed := true, recurses := true, named := ["strata/sum.halves", "math/bits.deBruijn64tab"], apart := false, laid := [("math/bits.deBruijn64tab", laid_math_bits_deBruijn64tab), ("strata/sum.halves", laid_strata_sum_halves)], narrowed := true }
def ReturnsUptoSaid : Prop := returnsUptoRow.holds Tryd.pinned (OpenSpec.upto returnsSpec)

/-- 'stratakeep.Cut', WHERE WHAT IT READS IS OF BULK AT MOST 1048576: true; the input reads as it did. -/
def cutUptoRow : OpenClaim := { program := "ytolkjadklbchfaadoor", sum := "332e7c98450c4bf4ae000919554c41cbb398a375a9c5626394bb09512096ee4a", func := "strata/stratakeep.Cut", spec := "cut", unfollowed := true, recurses := true, named := ["strata/sum.halves", "math/bits.deBruijn64tab"], apart := false, laid := [("math/bits.deBruijn64tab", laid_math_bits_deBruijn64tab), ("strata/sum.halves", laid_strata_sum_halves)], narrowed := true }
def CutUptoSaid : Prop := cutUptoRow.holds Tryd.pinned (OpenSpec.upto cutSpec)

/-- 'stratakeep.Turned', WHERE WHAT IT READS IS OF BULK AT MOST 1048576: true; the input reads as it did. -/
def turnedUptoRow : OpenClaim := { program := "ytolkjadklbchfaadoor", sum := "332e7c98450c4bf4ae000919554c41cbb398a375a9c5626394bb09512096ee4a", func := "strata/stratakeep.Turned", spec := "turned", unfollowed := true, recurses := true, named := ["strata/sum.halves", "math/bits.deBruijn64tab"], apart := false, laid := [("math/bits.deBruijn64tab", laid_math_bits_deBruijn64tab), ("strata/sum.halves", laid_strata_sum_halves)], narrowed := true }
def TurnedUptoSaid : Prop := turnedUptoRow.holds Tryd.pinned (OpenSpec.upto turnedSpec)

/-- 'stratakeep.Forged', WHERE WHAT IT READS IS OF BULK AT MOST 1048576: true; the input reads as it did. -/
def forgedUptoRow : OpenClaim := { program := "ytolkjadklbchfaadoor", sum := "332e7c98450c4bf4ae000919554c41cbb398a375a9c5626394bb09512096ee4a", func := "strata/stratakeep.Forged", spec := "forged", unfollowed := true, recurses := true, named := ["strata/sum.halves", "math/bits.deBruijn64tab"], apart := false, laid := [("math/bits.deBruijn64tab", laid_math_bits_deBruijn64tab), ("strata/sum.halves", laid_strata_sum_halves)], narrowed := true }
def ForgedUptoSaid : Prop := forgedUptoRow.holds Tryd.pinned (OpenSpec.upto forgedSpec)

/-- 'stratakeep.Firm', WHERE WHAT IT READS IS OF BULK AT MOST 1048576: true; the input reads as it did. -/
def firmUptoRow : OpenClaim := { program := "ytolkjadklbchfaadoor", sum := "332e7c98450c4bf4ae000919554c41cbb398a375a9c5626394bb09512096ee4a", func := "strata/stratakeep.Firm", spec := "firm", unfollowed := true, recurses := true, named := ["strata/sum.halves", "math/bits.deBruijn64tab"], apart := false, laid := [("math/bits.deBruijn64tab", laid_math_bits_deBruijn64tab), ("strata/sum.halves", laid_strata_sum_halves)], narrowed := true }
def FirmUptoSaid : Prop := firmUptoRow.holds Tryd.pinned (OpenSpec.upto firmSpec)

/-- 'stratakeep.Apart', WHERE WHAT IT READS IS OF BULK AT MOST 1048576: true; the input reads as it did. -/
def apartUptoRow : OpenClaim := { program := "ytolkjadklbchfaadoor", sum := "332e7c98450c4bf4ae000919554c41cbb398a375a9c5626394bb09512096ee4a", func := "strata/stratakeep.Apart", spec := "apart", unfollowed := true, recurses := true, named := ["strata/sum.halves", "math/bits.deBruijn64tab"], apart := false, laid := [("math/bits.deBruijn64tab", laid_math_bits_deBruijn64tab), ("strata/sum.halves", laid_strata_sum_halves)], narrowed := true }
def ApartUptoSaid : Prop := apartUptoRow.holds Tryd.pinned (OpenSpec.upto apartSpec)

end Rows
end Go.Proofs.YtolkjadklbchfaaDoor
