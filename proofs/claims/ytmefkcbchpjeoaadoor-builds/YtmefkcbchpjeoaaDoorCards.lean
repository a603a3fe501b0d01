/-
  DERIVED. GIVEN WITH THE SEED: THE CARDS: each row of YtmefkcbchpjeoaaDoorRows.lean that lists a variable, with what it lists TIED to the program's text (the seventh form; the later family's looks); each row that meets fmt, with fmt's text TOLD by the authors' own Lean function (tested against real Go, not proved from fmt's source: count such statements apart). THE CARD IS WHAT COUNTS. Prove the row's statement (the work); the ties are given (YtmefkcbchpjeoaaDoorTie.lean); close each card by the builder's one call (the guide's Derived/Test/ToyasCard.lean, 'card_holds'). Laid BY PROGRAM, IN A SANDBOX (cutbox-door.mjs). By AI agents, Wed Nov 11 2026. No macro, syntax, notation, axiom, sorry.
-/
import Derived.Test.YtmefkcbchpjeoaaDoorRows
import GoSem.ClaimSeven
namespace Go.Proofs.YtmefkcbchpjeoaaDoor
namespace Rows

/-- THE TIED CARD OF 'stratalaw.Builds'. -/
def buildsCard : Claim7 := { stood := { row := buildsRow, standIns := [], harness := (true, "a85d87247982c50d8b0063dc748dfa7380cb4099bd76f28e11348c17b82a9848"), looks := false }, kinds := [], alts := [], laidByText := true, laidKinds := [.data], laidTests := true, laidLooks := .later }
def BuildsCardSaid : Prop := Claim7.holds Tryd.pinned (.plain (OpenSpec.ofChange buildsSpec)) buildsCard

/-- THE SECOND FORM's CARD OF 'stratalaw.Builds'. -/
def buildsUptoCard : Claim7 := { stood := { row := buildsUptoRow, standIns := [], harness := (true, "a85d87247982c50d8b0063dc748dfa7380cb4099bd76f28e11348c17b82a9848"), looks := false }, kinds := [], alts := [], laidByText := true, laidKinds := [.data], laidTests := true, laidLooks := .later }
def BuildsUptoCardSaid : Prop := Claim7.holds Tryd.pinned (.plain (OpenSpec.upto buildsSpec)) buildsUptoCard
end Rows
end Go.Proofs.YtmefkcbchpjeoaaDoor
