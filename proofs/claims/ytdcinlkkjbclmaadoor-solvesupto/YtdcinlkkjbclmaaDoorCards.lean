/-
  DERIVED. GIVEN WITH THE SEED: THE CARDS: each row of YtdcinlkkjbclmaaDoorRows.lean that lists a variable, with what it lists TIED to the program's text (the seventh form; the later family's looks); each row that meets fmt, with fmt's text TOLD by the authors' own Lean function (tested against real Go, not proved from fmt's source: count such statements apart). THE CARD IS WHAT COUNTS. Prove the row's statement (the work); the ties are given (YtdcinlkkjbclmaaDoorTie.lean); close each card by the builder's one call (the guide's Derived/Test/ToyasCard.lean, 'card_holds'). Laid BY PROGRAM, IN A SANDBOX (cutbox-door.mjs). By AI agents, Wed Nov 11 2026. No macro, syntax, notation, axiom, sorry.
-/
import Derived.Test.YtdcinlkkjbclmaaDoorRows
import GoSem.ClaimSeven
namespace Go.Proofs.YtdcinlkkjbclmaaDoor
namespace Rows

/-- THE TIED CARD OF 'platterlaw.Parities'. -/
def paritiesCard : Claim7 := { stood := { row := paritiesRow, standIns := [], harness := (true, "5f4dfbe189994a448e48e20e106a0487d7504c6bb8a9d61003e79305a3cebbfd"), looks := false }, kinds := [], alts := [], laidByText := true, laidKinds := [.data, .data], laidTests := true, laidLooks := .later }
def ParitiesCardSaid : Prop := Claim7.holds Tryd.pinned (.plain (OpenSpec.ofChange paritiesSpec)) paritiesCard

/-- THE TIED CARD OF 'platterlaw.Solves'. -/
def solvesCard : Claim7 := { stood := { row := solvesRow, standIns := [], harness := (true, "5f4dfbe189994a448e48e20e106a0487d7504c6bb8a9d61003e79305a3cebbfd"), looks := false }, kinds := [], alts := [], laidByText := true, laidKinds := [.data, .data], laidTests := true, laidLooks := .later }
def SolvesCardSaid : Prop := Claim7.holds Tryd.pinned (.plain (OpenSpec.ofChange solvesSpec)) solvesCard

/-- THE TIED CARD OF 'platterlaw.Locates'. -/
def locatesCard : Claim7 := { stood := { row := locatesRow, standIns := [], harness := (true, "5f4dfbe189994a448e48e20e106a0487d7504c6bb8a9d61003e79305a3cebbfd"), looks := false }, kinds := [], alts := [], laidByText := true, laidKinds := [.data, .data], laidTests := true, laidLooks := .later }
def LocatesCardSaid : Prop := Claim7.holds Tryd.pinned (.plain (OpenSpec.ofChange locatesSpec)) locatesCard

/-- THE TIED CARD OF 'platterkeep.Erased'. -/
def erasedCard : Claim7 := { stood := { row := erasedRow, standIns := [], harness := (true, "5f4dfbe189994a448e48e20e106a0487d7504c6bb8a9d61003e79305a3cebbfd"), looks := false }, kinds := [], alts := [], laidByText := true, laidKinds := [.data, .data], laidTests := true, laidLooks := .later }
def ErasedCardSaid : Prop := Claim7.holds Tryd.pinned (.plain (OpenSpec.ofChange erasedSpec)) erasedCard

/-- THE SECOND FORM's CARD OF 'platterlaw.Parities'. -/
def paritiesUptoCard : Claim7 := { stood := { row := paritiesUptoRow, standIns := [], harness := (true, "5f4dfbe189994a448e48e20e106a0487d7504c6bb8a9d61003e79305a3cebbfd"), looks := false }, kinds := [], alts := [], laidByText := true, laidKinds := [.data, .data], laidTests := true, laidLooks := .later }
def ParitiesUptoCardSaid : Prop := Claim7.holds Tryd.pinned (.plain (OpenSpec.upto paritiesSpec)) paritiesUptoCard

/-- THE SECOND FORM's CARD OF 'platterlaw.Solves'. -/
def solvesUptoCard : Claim7 := { stood := { row := solvesUptoRow, standIns := [], harness := (true, "5f4dfbe189994a448e48e20e106a0487d7504c6bb8a9d61003e79305a3cebbfd"), looks := false }, kinds := [], alts := [], laidByText := true, laidKinds := [.data, .data], laidTests := true, laidLooks := .later }
def SolvesUptoCardSaid : Prop := Claim7.holds Tryd.pinned (.plain (OpenSpec.upto solvesSpec)) solvesUptoCard

/-- THE SECOND FORM's CARD OF 'platterlaw.Locates'. -/
def locatesUptoCard : Claim7 := { stood := { row := locatesUptoRow, standIns := [], harness := (true, "5f4dfbe189994a448e48e20e106a0487d7504c6bb8a9d61003e79305a3cebbfd"), looks := false }, kinds := [], alts := [], laidByText := true, laidKinds := [.data, .data], laidTests := true, laidLooks := .later }
def LocatesUptoCardSaid : Prop := Claim7.holds Tryd.pinned (.plain (OpenSpec.upto locatesSpec)) locatesUptoCard

/-- THE SECOND FORM's CARD OF 'platterkeep.Erased'. -/
def erasedUptoCard : Claim7 := { stood := { row := erasedUptoRow, standIns := [], harness := (true, "5f4dfbe189994a448e48e20e106a0487d7504c6bb8a9d61003e79305a3cebbfd"), looks := false }, kinds := [], alts := [], laidByText := true, laidKinds := [.data, .data], laidTests := true, laidLooks := .later }
def ErasedUptoCardSaid : Prop := Claim7.holds Tryd.pinned (.plain (OpenSpec.upto erasedSpec)) erasedUptoCard
end Rows
end Go.Proofs.YtdcinlkkjbclmaaDoor
