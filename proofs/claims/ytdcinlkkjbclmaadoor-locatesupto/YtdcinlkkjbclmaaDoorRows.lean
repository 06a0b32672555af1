/-
  NARROWER THAN 'FOR EVERY INPUT', by the rows' own cells (each row's printed sentence says how): Parities: laid · Solves: laid · Locates: laid · Erased: laid.
  DERIVED. THE GIVEN ROWS OF THIS SEAT. 4 by the template 'for every input the law returns true; each argument reads behind the call as it read before'; 0 by the template 'total and deterministic' (their statements: YtdcinlkkjbclmaaDoorTotals.lean).
  GIVEN WITH THE SEED: the statements are not yours to turn. If you find one false, say at which input.
  Laid BY PROGRAM, IN A SANDBOX (cutbox-rows.mjs): the forced cells as the released guide's own fill.sh prints them over the translation 93bd726dfe44ebc4… (all of the seat's roots in one cut). By AI agents, Wed Nov 11 2026. No macro, syntax, notation, axiom, sorry.
-/
import Derived.Test.YtdcinlkkjbclmaaDoorChecked
import GoSem.Claim
import GoSem.ClaimJoined
import GoSem.ClaimMapViews
import Derived.JoinedTies
import Derived.KernelRfl
namespace Go.Proofs.YtdcinlkkjbclmaaDoor
/- THE CELL 'sum', in the pinned program and in every row, IS THE sha256 OF THE DUMP (.gsa) THAT YtdcinlkkjbclmaaDoorProg.lean LOADS. Nothing in Lean hashes anything: it is a label: what it is worth is what the hold of that sum in a sandbox is worth. -/
noncomputable def Tryd.pinned : Pinned := { name := "ytdcinlkkjbclmaadoor", sum := "93bd726dfe44ebc453566a767ad39d40e3d306b5b1fcfc24a0a1fb9100276793", checked := Tryd.checked }
namespace Rows
def none {H : Type} : Left H := { results := [], args := [] }

/- WHAT THE LISTED PACKAGE-LEVEL VARIABLES READ AS WHEN THE CALL BEGINS. Each datum BY PROGRAM (the guide's laid-datum.mjs) off the statement by which the dump's own 'gosem.cut.vars' lays the variable. In a bare row this is a premise. The card (YtdcinlkkjbclmaaDoorCards.lean) ties it to the program's text. -/
def laid_platter_field_fallen {H : Type} : DataW H := .agg [.lit (.int .u8 29), .lit (.int .u8 58), .lit (.int .u8 116), .lit (.int .u8 232), .lit (.int .u8 205), .lit (.int .u8 135), .lit (.int .u8 19)]
def laid_platter_field_powers {H : Type} : DataW H := .agg [.lit (.int .u8 1), .lit (.int .u8 2), .lit (.int .u8 4), .lit (.int .u8 8), .lit (.int .u8 16), .lit (.int .u8 32)]

/-- 'platterlaw.Parities': WHATEVER THE INPUT: true; the input reads as it did. -/
def paritiesSpec : ChangeSpec := { name := "parities", fn := fun _ => fun
  | [d] => { results := [.lit (.bool true)], args := [d] }
  | _ => none }
def paritiesRow : OpenClaim := { program := "ytdcinlkkjbclmaadoor", sum := "93bd726dfe44ebc453566a767ad39d40e3d306b5b1fcfc24a0a1fb9100276793", func := "platter/platterlaw.Parities", spec := "parities", named := ["platter/field.powers", "platter/field.fallen"], apart := false, laid := [("platter/field.fallen", laid_platter_field_fallen), ("platter/field.powers", laid_platter_field_powers)] }
def ParitiesSaid : Prop := paritiesRow.holds Tryd.pinned (OpenSpec.ofChange paritiesSpec)

/-- ITS FALSE NEIGHBOUR: 'it returns false'. Refute it at one input. -/
def paritiesWrong : ChangeSpec := { name := "parities", fn := fun _ => fun
  | [d] => { results := [.lit (.bool false)], args := [d] }
  | _ => none }
def ParitiesWrongFalsely : Prop := paritiesRow.holds Tryd.pinned (OpenSpec.ofChange paritiesWrong)

/-- 'platterlaw.Solves': WHATEVER THE INPUT: true; the input reads as it did. -/
def solvesSpec : ChangeSpec := { name := "solves", fn := fun _ => fun
  | [d] => { results := [.lit (.bool true)], args := [d] }
  | _ => none }
def solvesRow : OpenClaim := { program := "ytdcinlkkjbclmaadoor", sum := "93bd726dfe44ebc453566a767ad39d40e3d306b5b1fcfc24a0a1fb9100276793", func := "platter/platterlaw.Solves", spec := "solves", named := ["platter/field.powers", "platter/field.fallen"], apart := false, laid := [("platter/field.fallen", laid_platter_field_fallen), ("platter/field.powers", laid_platter_field_powers)] }
def SolvesSaid : Prop := solvesRow.holds Tryd.pinned (OpenSpec.ofChange solvesSpec)

/-- ITS FALSE NEIGHBOUR: 'it returns false'. Refute it at one input. -/
def solvesWrong : ChangeSpec := { name := "solves", fn := fun _ => fun
  | [d] => { results := [.lit (.bool false)], args := [d] }
  | _ => none }
def SolvesWrongFalsely : Prop := solvesRow.holds Tryd.pinned (OpenSpec.ofChange solvesWrong)

/-- 'platterlaw.Locates': WHATEVER THE INPUT: true; the input reads as it did. -/
def locatesSpec : ChangeSpec := { name := "locates", fn := fun _ => fun
  | [d] => { results := [.lit (.bool true)], args := [d] }
  | _ => none }
def locatesRow : OpenClaim := { program := "ytdcinlkkjbclmaadoor", sum := "93bd726dfe44ebc453566a767ad39d40e3d306b5b1fcfc24a0a1fb9100276793", func := "platter/platterlaw.Locates", spec := "locates", named := ["platter/field.powers", "platter/field.fallen"], apart := false, laid := [("platter/field.fallen", laid_platter_field_fallen), ("platter/field.powers", laid_platter_field_powers)] }
def LocatesSaid : Prop := locatesRow.holds Tryd.pinned (OpenSpec.ofChange locatesSpec)

/-- ITS FALSE NEIGHBOUR: 'it returns false'. Refute it at one input. -/
def locatesWrong : ChangeSpec := { name := "locates", fn := fun _ => fun
  | [d] => { results := [.lit (.bool false)], args := [d] }
  | _ => none }
def LocatesWrongFalsely : Prop := locatesRow.holds Tryd.pinned (OpenSpec.ofChange locatesWrong)

/-- 'platterkeep.Erased': WHATEVER THE INPUT: true; the input reads as it did. -/
def erasedSpec : ChangeSpec := { name := "erased", fn := fun _ => fun
  | [d1, d2, d3, d4] => { results := [.lit (.bool true)], args := [d1, d2, d3, d4] }
  | _ => none }
def erasedRow : OpenClaim := { program := "ytdcinlkkjbclmaadoor", sum := "93bd726dfe44ebc453566a767ad39d40e3d306b5b1fcfc24a0a1fb9100276793", func := "platter/platterkeep.Erased", spec := "erased", named := ["platter/field.powers", "platter/field.fallen"], apart := false, laid := [("platter/field.fallen", laid_platter_field_fallen), ("platter/field.powers", laid_platter_field_powers)] }
def ErasedSaid : Prop := erasedRow.holds Tryd.pinned (OpenSpec.ofChange erasedSpec)

/-- ITS FALSE NEIGHBOUR: 'it returns false'. Refute it at one input. -/
def erasedWrong : ChangeSpec := { name := "erased", fn := fun _ => fun
  | [d1, d2, d3, d4] => { results := [.lit (.bool false)], args := [d1, d2, d3, d4] }
  | _ => none }
def ErasedWrongFalsely : Prop := erasedRow.holds Tryd.pinned (OpenSpec.ofChange erasedWrong)

/- THE SECOND FORM. 'bulk': how many values and letters a reading holds, each counted each time it is reached (what is shared counts as often as it is met; a slice's spare places count too). A statement '..UptoSaid' is the law's where the arguments, and the package variables that the reading takes, are together of bulk at most 1048576: NARROWER than '..Said'. Prove '..Said' where nothing that the law and all that it calls make is longer than what came in: it says more and counts as full. Else prove '..UptoSaid'. A law counts once. -/
mutual
def uptoBulk {H : Type} : DataW H → Nat
  | .lit (.string bytes) => bytes.length + 1
  | .lit _ => 1
  | .nil => 1
  | .ptr d => uptoBulk d + 1
  | .slice elems spare => uptoBulkAll elems + uptoBulkAll spare + 1
  | .agg parts => uptoBulkAll parts + 1
  | .iface _ d => uptoBulk d + 1
  | .map entries => uptoBulkEntries entries + 1
  | .held _ => 1
def uptoBulkAll {H : Type} : List (DataW H) → Nat
  | [] => 0
  | d :: r => uptoBulk d + uptoBulkAll r
def uptoBulkEntries {H : Type} : List (Lit × DataW H) → Nat
  | [] => 0
  | x :: r => uptoBulkEntry x + uptoBulkEntries r
def uptoBulkEntry {H : Type} : Lit × DataW H → Nat
  | (.string bytes, d) => bytes.length + uptoBulk d + 1
  | (_, d) => uptoBulk d + 1
 end
def uptoSmall : (H : Type) → List (DataW H) → Bool := fun _ ds => decide (uptoBulkAll ds ≤ 1048576)
def OpenSpec.upto (s : _root_.Go.ChangeSpec) : _root_.Go.OpenSpec := { _root_.Go.OpenSpec.ofChange s with cond := some uptoSmall }

/-- 'platterlaw.Parities', WHERE WHAT IT READS IS OF BULK AT MOST 1048576: true; the input reads as it did. -/
def paritiesUptoRow : OpenClaim := { program := "ytdcinlkkjbclmaadoor", sum := "93bd726dfe44ebc453566a767ad39d40e3d306b5b1fcfc24a0a1fb9100276793", func := "platter/platterlaw.Parities", spec := "parities", named := ["platter/field.powers", "platter/field.fallen"], apart := false, laid := [("platter/field.fallen", laid_platter_field_fallen), ("platter/field.powers", laid_platter_field_powers)], narrowed := true }
def ParitiesUptoSaid : Prop := paritiesUptoRow.holds Tryd.pinned (OpenSpec.upto paritiesSpec)

/-- 'platterlaw.Solves', WHERE WHAT IT READS IS OF BULK AT MOST 1048576: true; the input reads as it did. -/
def solvesUptoRow : OpenClaim := { program := "ytdcinlkkjbclmaadoor", sum := "93bd726dfe44ebc453566a767ad39d40e3d306b5b1fcfc24a0a1fb9100276793", func := "platter/platterlaw.Solves", spec := "solves", named := ["platter/field.powers", "platter/field.fallen"], apart := false, laid := [("platter/field.fallen", laid_platter_field_fallen), ("platter/field.powers", laid_platter_field_powers)], narrowed := true }
def SolvesUptoSaid : Prop := solvesUptoRow.holds Tryd.pinned (OpenSpec.upto solvesSpec)

/-- 'platterlaw.Locates', WHERE WHAT IT READS IS OF BULK AT MOST 1048576: true; the input reads as it did. -/
def locatesUptoRow : OpenClaim := { program := "ytdcinlkkjbclmaadoor", sum := "93bd726dfe44ebc453566a767ad39d40e3d306b5b1fcfc24a0a1fb9100276793", func := "platter/platterlaw.Locates", spec := "locates", named := ["platter/field.powers", "platter/field.fallen"], apart := false, laid := [("platter/field.fallen", laid_platter_field_fallen), ("platter/field.powers", laid_platter_field_powers)], narrowed := true }
def LocatesUptoSaid : Prop := locatesUptoRow.holds Tryd.pinned (OpenSpec.upto locatesSpec)

/-- 'platterkeep.Erased', WHERE WHAT IT READS IS OF BULK AT MOST 1048576: true; the input reads as it did. -/
def erasedUptoRow : OpenClaim := { program := "ytdcinlkkjbclmaadoor", sum := "93bd726dfe44ebc453566a767ad39d40e3d306b5b1fcfc24a0a1fb9100276793", func := "platter/platterkeep.Erased", spec := "erased", named := ["platter/field.powers", "platter/field.fallen"], apart := false, laid := [("platter/field.fallen", laid_platter_field_fallen), ("platter/field.powers", laid_platter_field_powers)], narrowed := true }
def ErasedUptoSaid : Prop := erasedUptoRow.holds Tryd.pinned (OpenSpec.upto erasedSpec)

end Rows
end Go.Proofs.YtdcinlkkjbclmaaDoor
