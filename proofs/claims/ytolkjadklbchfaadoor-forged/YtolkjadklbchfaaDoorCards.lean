/-
  DERIVED. GIVEN WITH THE SEED: THE CARDS: each row of YtolkjadklbchfaaDoorRows.lean that lists a variable, with what it lists TIED to the program's text (the seventh form; the later family's looks); each row that meets fmt, with fmt's text TOLD by the authors' own Lean function (tested against real Go, not proved from fmt's source: count such statements apart). THE CARD IS WHAT COUNTS. Prove the row's statement (the work); the ties are given (YtolkjadklbchfaaDoorTie.lean); close each card by the builder's one call (the guide's Derived/Test/ToyasCard.lean, 'card_holds'). Laid BY PROGRAM, IN A SANDBOX (cutbox-door.mjs). By AI agents, Wed Nov 11 2026. No macro, syntax, notation, axiom, sorry.
-/
import Derived.Test.YtolkjadklbchfaaDoorRows
import GoSem.ClaimSeven
namespace Go.Proofs.YtolkjadklbchfaaDoor
namespace Rows

/-- THE TIED CARD OF 'stratakeep.Held'. -/
def heldCard : Claim7 := { stood := { row := heldRow, standIns := [], harness := (true, "7367bf7cbc575c4969bc39ed93f85d41485f4f94a4603fe8ebbf2c002fcff004"), looks := false }, kinds := [], alts := [], laidByText := true, laidKinds := [.data], laidTests := true, laidLooks := .later }
def HeldCardSaid : Prop := Claim7.holds Tryd.pinned (.plain (OpenSpec.ofChange heldSpec)) heldCard

/-- THE TIED CARD OF 'stratakeep.Parts'. -/
def partsCard : Claim7 := { stood := { row := partsRow, standIns := [], harness := (true, "7367bf7cbc575c4969bc39ed93f85d41485f4f94a4603fe8ebbf2c002fcff004"), looks := false }, kinds := [], alts := [], laidByText := true, laidKinds := [.data], laidTests := true, laidLooks := .later }
def PartsCardSaid : Prop := Claim7.holds Tryd.pinned (.plain (OpenSpec.ofChange partsSpec)) partsCard

/-- THE TIED CARD OF 'stratakeep.Returns'. -/
def returnsCard : Claim7 := { stood := { row := returnsRow, standIns := [], harness := (true, "7367bf7cbc575c4969bc39ed93f85d41485f4f94a4603fe8ebbf2c002fcff004"), looks := false }, kinds := [], alts := [], laidByText := true, laidKinds := [.data, .data], laidTests := true, laidLooks := .later }
def ReturnsCardSaid : Prop := Claim7.holds Tryd.pinned (.plain (OpenSpec.ofChange returnsSpec)) returnsCard

/-- THE TIED CARD OF 'stratakeep.Cut'. -/
def cutCard : Claim7 := { stood := { row := cutRow, standIns := [], harness := (true, "7367bf7cbc575c4969bc39ed93f85d41485f4f94a4603fe8ebbf2c002fcff004"), looks := false }, kinds := [], alts := [], laidByText := true, laidKinds := [.data, .data], laidTests := true, laidLooks := .later }
def CutCardSaid : Prop := Claim7.holds Tryd.pinned (.plain (OpenSpec.ofChange cutSpec)) cutCard

/-- THE TIED CARD OF 'stratakeep.Turned'. -/
def turnedCard : Claim7 := { stood := { row := turnedRow, standIns := [], harness := (true, "7367bf7cbc575c4969bc39ed93f85d41485f4f94a4603fe8ebbf2c002fcff004"), looks := false }, kinds := [], alts := [], laidByText := true, laidKinds := [.data, .data], laidTests := true, laidLooks := .later }
def TurnedCardSaid : Prop := Claim7.holds Tryd.pinned (.plain (OpenSpec.ofChange turnedSpec)) turnedCard

/-- THE TIED CARD OF 'stratakeep.Forged'. -/
def forgedCard : Claim7 := { stood := { row := forgedRow, standIns := [], harness := (true, "7367bf7cbc575c4969bc39ed93f85d41485f4f94a4603fe8ebbf2c002fcff004"), looks := false }, kinds := [], alts := [], laidByText := true, laidKinds := [.data, .data], laidTests := true, laidLooks := .later }
def ForgedCardSaid : Prop := Claim7.holds Tryd.pinned (.plain (OpenSpec.ofChange forgedSpec)) forgedCard

/-- THE TIED CARD OF 'stratakeep.Firm'. -/
def firmCard : Claim7 := { stood := { row := firmRow, standIns := [], harness := (true, "7367bf7cbc575c4969bc39ed93f85d41485f4f94a4603fe8ebbf2c002fcff004"), looks := false }, kinds := [], alts := [], laidByText := true, laidKinds := [.data, .data], laidTests := true, laidLooks := .later }
def FirmCardSaid : Prop := Claim7.holds Tryd.pinned (.plain (OpenSpec.ofChange firmSpec)) firmCard

/-- THE TIED CARD OF 'stratakeep.Apart'. -/
def apartCard : Claim7 := { stood := { row := apartRow, standIns := [], harness := (true, "7367bf7cbc575c4969bc39ed93f85d41485f4f94a4603fe8ebbf2c002fcff004"), looks := false }, kinds := [], alts := [], laidByText := true, laidKinds := [.data, .data], laidTests := true, laidLooks := .later }
def ApartCardSaid : Prop := Claim7.holds Tryd.pinned (.plain (OpenSpec.ofChange apartSpec)) apartCard

/-- THE SECOND FORM's CARD OF 'stratakeep.Held'. -/
def heldUptoCard : Claim7 := { stood := { row := heldUptoRow, standIns := [], harness := (true, "7367bf7cbc575c4969bc39ed93f85d41485f4f94a4603fe8ebbf2c002fcff004"), looks := false }, kinds := [], alts := [], laidByText := true, laidKinds := [.data], laidTests := true, laidLooks := .later }
def HeldUptoCardSaid : Prop := Claim7.holds Tryd.pinned (.plain (OpenSpec.upto heldSpec)) heldUptoCard

/-- THE SECOND FORM's CARD OF 'stratakeep.Parts'. -/
def partsUptoCard : Claim7 := { stood := { row := partsUptoRow, standIns := [], harness := (true, "7367bf7cbc575c4969bc39ed93f85d41485f4f94a4603fe8ebbf2c002fcff004"), looks := false }, kinds := [], alts := [], laidByText := true, laidKinds := [.data], laidTests := true, laidLooks := .later }
def PartsUptoCardSaid : Prop := Claim7.holds Tryd.pinned (.plain (OpenSpec.upto partsSpec)) partsUptoCard

/-- THE SECOND FORM's CARD OF 'stratakeep.Returns'. -/
def returnsUptoCard : Claim7 := { stood := { row := returnsUptoRow, standIns := [], harness := (true, "7367bf7cbc575c4969bc39ed93f85d41485f4f94a4603fe8ebbf2c002fcff004"), looks := false }, kinds := [], alts := [], laidByText := true, laidKinds := [.data, .data], laidTests := true, laidLooks := .later }
def ReturnsUptoCardSaid : Prop := Claim7.holds Tryd.pinned (.plain (OpenSpec.upto returnsSpec)) returnsUptoCard

/-- THE SECOND FORM's CARD OF 'stratakeep.Cut'. -/
def cutUptoCard : Claim7 := { stood := { row := cutUptoRow, standIns := [], harness := (true, "7367bf7cbc575c4969bc39ed93f85d41485f4f94a4603fe8ebbf2c002fcff004"), looks := false }, kinds := [], alts := [], laidByText := true, laidKinds := [.data, .data], laidTests := true, laidLooks := .later }
def CutUptoCardSaid : Prop := Claim7.holds Tryd.pinned (.plain (OpenSpec.upto cutSpec)) cutUptoCard

/-- THE SECOND FORM's CARD OF 'stratakeep.Turned'. -/
def turnedUptoCard : Claim7 := { stood := { row := turnedUptoRow, standIns := [], harness := (true, "7367bf7cbc575c4969bc39ed93f85d41485f4f94a4603fe8ebbf2c002fcff004"), looks := false }, kinds := [], alts := [], laidByText := true, laidKinds := [.data, .data], laidTests := true, laidLooks := .later }
def TurnedUptoCardSaid : Prop := Claim7.holds Tryd.pinned (.plain (OpenSpec.upto turnedSpec)) turnedUptoCard

/-- THE SECOND FORM's CARD OF 'stratakeep.Forged'. -/
def forgedUptoCard : Claim7 := { stood := { row := forgedUptoRow, standIns := [], harness := (true, "7367bf7cbc575c4969bc39ed93f85d41485f4f94a4603fe8ebbf2c002fcff004"), looks := false }, kinds := [], alts := [], laidByText := true, laidKinds := [.data, .data], laidTests := true, laidLooks := .later }
def ForgedUptoCardSaid : Prop := Claim7.holds Tryd.pinned (.plain (OpenSpec.upto forgedSpec)) forgedUptoCard

/-- THE SECOND FORM's CARD OF 'stratakeep.Firm'. -/
def firmUptoCard : Claim7 := { stood := { row := firmUptoRow, standIns := [], harness := (true, "7367bf7cbc575c4969bc39ed93f85d41485f4f94a4603fe8ebbf2c002fcff004"), looks := false }, kinds := [], alts := [], laidByText := true, laidKinds := [.data, .data], laidTests := true, laidLooks := .later }
def FirmUptoCardSaid : Prop := Claim7.holds Tryd.pinned (.plain (OpenSpec.upto firmSpec)) firmUptoCard

/-- THE SECOND FORM's CARD OF 'stratakeep.Apart'. -/
def apartUptoCard : Claim7 := { stood := { row := apartUptoRow, standIns := [], harness := (true, "7367bf7cbc575c4969bc39ed93f85d41485f4f94a4603fe8ebbf2c002fcff004"), looks := false }, kinds := [], alts := [], laidByText := true, laidKinds := [.data, .data], laidTests := true, laidLooks := .later }
def ApartUptoCardSaid : Prop := Claim7.holds Tryd.pinned (.plain (OpenSpec.upto apartSpec)) apartUptoCard
end Rows
end Go.Proofs.YtolkjadklbchfaaDoor
