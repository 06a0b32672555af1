/-
  DERIVED. GIVEN WITH THE SEED: THE CARDS: each row of YtdcinlkkjbclmabDoorRows.lean that lists a variable, with what it lists TIED to the program's text (the seventh form; the later family's looks); each row that meets fmt, with fmt's text TOLD by the authors' own Lean function (tested against real Go, not proved from fmt's source: count such statements apart). THE CARD IS WHAT COUNTS. Prove the row's statement (the work); the ties are given (YtdcinlkkjbclmabDoorTie.lean); close each card by the builder's one call (the guide's Derived/Test/ToyasCard.lean, 'card_holds'). Laid BY PROGRAM, IN A SANDBOX (cutbox-door.mjs). By AI agents, Wed Nov 11 2026. No macro, syntax, notation, axiom, sorry.
-/
import Derived.Test.YtdcinlkkjbclmabDoorRows
import GoSem.ClaimSeven
namespace Go.Proofs.YtdcinlkkjbclmabDoor
namespace Rows

/-- THE TIED CARD OF 'platterkeep.Told'. -/
def toldCard : Claim7 := { stood := { row := toldRow, standIns := [], harness := (true, "eee86b9b66d52928f459a01cbd5a147e65324edadc2401502e80b47ed17d40bd"), looks := false }, kinds := [], alts := [], laidByText := true, laidKinds := [.data, .data], laidTests := true, laidLooks := .later }
def ToldCardSaid : Prop := Claim7.holds Tryd.pinned (.plain (OpenSpec.ofChange toldSpec)) toldCard

/-- THE TIED CARD OF 'platterkeep.Added'. -/
def addedCard : Claim7 := { stood := { row := addedRow, standIns := [], harness := (true, "eee86b9b66d52928f459a01cbd5a147e65324edadc2401502e80b47ed17d40bd"), looks := false }, kinds := [], alts := [], laidByText := true, laidKinds := [.data, .data], laidTests := true, laidLooks := .later }
def AddedCardSaid : Prop := Claim7.holds Tryd.pinned (.plain (OpenSpec.ofChange addedSpec)) addedCard

/-- THE SECOND FORM's CARD OF 'platterkeep.Told'. -/
def toldUptoCard : Claim7 := { stood := { row := toldUptoRow, standIns := [], harness := (true, "eee86b9b66d52928f459a01cbd5a147e65324edadc2401502e80b47ed17d40bd"), looks := false }, kinds := [], alts := [], laidByText := true, laidKinds := [.data, .data], laidTests := true, laidLooks := .later }
def ToldUptoCardSaid : Prop := Claim7.holds Tryd.pinned (.plain (OpenSpec.upto toldSpec)) toldUptoCard

/-- THE SECOND FORM's CARD OF 'platterkeep.Added'. -/
def addedUptoCard : Claim7 := { stood := { row := addedUptoRow, standIns := [], harness := (true, "eee86b9b66d52928f459a01cbd5a147e65324edadc2401502e80b47ed17d40bd"), looks := false }, kinds := [], alts := [], laidByText := true, laidKinds := [.data, .data], laidTests := true, laidLooks := .later }
def AddedUptoCardSaid : Prop := Claim7.holds Tryd.pinned (.plain (OpenSpec.upto addedSpec)) addedUptoCard
end Rows
end Go.Proofs.YtdcinlkkjbclmabDoor
