/-
  No cell of these rows narrows 'for every input' (looked for: loops, veiled, ifaces, maps, wideKeys, modest, calm, conditions, laid).
  DERIVED. THE GIVEN ROWS OF THIS SEAT. 3 by the template 'for every input the law returns true; each argument reads behind the call as it read before'; 0 by the template 'total and deterministic' (their statements: YtdcinlkkjbclmabGreatTotals.lean).
  GIVEN WITH THE SEED: the statements are not yours to turn. If you find one false, say at which input.
  Laid BY PROGRAM, IN A SANDBOX (cutbox-rows.mjs): the forced cells as the released guide's own fill.sh prints them over the translation cac8ec3ae844c462… (all of the seat's roots in one cut). By AI agents, Wed Nov 11 2026. No macro, syntax, notation, axiom, sorry.
-/
import Derived.Test.YtdcinlkkjbclmabGreatChecked
import GoSem.Claim
import GoSem.ClaimJoined
import GoSem.ClaimMapViews
import Derived.JoinedTies
import Derived.KernelRfl
namespace Go.Proofs.YtdcinlkkjbclmabGreat
/- THE CELL 'sum', in the pinned program and in every row, IS THE sha256 OF THE DUMP (.gsa) THAT YtdcinlkkjbclmabGreatProg.lean LOADS. Nothing in Lean hashes anything: it is a label: what it is worth is what the hold of that sum in a sandbox is worth. -/
noncomputable def Tryz.pinned : Pinned := { name := "ytdcinlkkjbclmabgreat", sum := "cac8ec3ae844c46269436567ccee051661363187f07ab2f5a6801c469bc154c6", checked := Tryz.checked }
namespace Rows
def none {H : Type} : Left H := { results := [], args := [] }

/-- 'platterkeep.Survives': WHATEVER THE INPUT: true; the input reads as it did. -/
def survivesSpec : ChangeSpec := { name := "survives", fn := fun _ => fun
  | [d1, d2, d3, d4, d5] => { results := [.lit (.bool true)], args := [d1, d2, d3, d4, d5] }
  | _ => none }
def survivesRow : OpenClaim := { program := "ytdcinlkkjbclmabgreat", sum := "cac8ec3ae844c46269436567ccee051661363187f07ab2f5a6801c469bc154c6", func := "platter/platterkeep.Survives", spec := "survives", unfollowed := true, recurses := true, plainKeys := false, apart := false }
def SurvivesSaid : Prop := survivesRow.holds Tryz.pinned (OpenSpec.ofChange survivesSpec)

/-- ITS FALSE NEIGHBOUR: 'it returns false'. Refute it at one input. -/
def survivesWrong : ChangeSpec := { name := "survives", fn := fun _ => fun
  | [d1, d2, d3, d4, d5] => { results := [.lit (.bool false)], args := [d1, d2, d3, d4, d5] }
  | _ => none }
def SurvivesWrongFalsely : Prop := survivesRow.holds Tryz.pinned (OpenSpec.ofChange survivesWrong)

/-- 'platterkeep.Stopped': WHATEVER THE INPUT: true; the input reads as it did. -/
def stoppedSpec : ChangeSpec := { name := "stopped", fn := fun _ => fun
  | [d1, d2, d3, d4, d5, d6, d7] => { results := [.lit (.bool true)], args := [d1, d2, d3, d4, d5, d6, d7] }
  | _ => none }
def stoppedRow : OpenClaim := { program := "ytdcinlkkjbclmabgreat", sum := "cac8ec3ae844c46269436567ccee051661363187f07ab2f5a6801c469bc154c6", func := "platter/platterkeep.Stopped", spec := "stopped", unfollowed := true, recurses := true, plainKeys := false, apart := false }
def StoppedSaid : Prop := stoppedRow.holds Tryz.pinned (OpenSpec.ofChange stoppedSpec)

/-- ITS FALSE NEIGHBOUR: 'it returns false'. Refute it at one input. -/
def stoppedWrong : ChangeSpec := { name := "stopped", fn := fun _ => fun
  | [d1, d2, d3, d4, d5, d6, d7] => { results := [.lit (.bool false)], args := [d1, d2, d3, d4, d5, d6, d7] }
  | _ => none }
def StoppedWrongFalsely : Prop := stoppedRow.holds Tryz.pinned (OpenSpec.ofChange stoppedWrong)

/-- 'platterkeep.Thrice': WHATEVER THE INPUT: true; the input reads as it did. -/
def thriceSpec : ChangeSpec := { name := "thrice", fn := fun _ => fun
  | [d1, d2, d3, d4] => { results := [.lit (.bool true)], args := [d1, d2, d3, d4] }
  | _ => none }
def thriceRow : OpenClaim := { program := "ytdcinlkkjbclmabgreat", sum := "cac8ec3ae844c46269436567ccee051661363187f07ab2f5a6801c469bc154c6", func := "platter/platterkeep.Thrice", spec := "thrice", unfollowed := true, recurses := true, plainKeys := false, apart := false }
def ThriceSaid : Prop := thriceRow.holds Tryz.pinned (OpenSpec.ofChange thriceSpec)

/-- ITS FALSE NEIGHBOUR: 'it returns false'. Refute it at one input. -/
def thriceWrong : ChangeSpec := { name := "thrice", fn := fun _ => fun
  | [d1, d2, d3, d4] => { results := [.lit (.bool false)], args := [d1, d2, d3, d4] }
  | _ => none }
def ThriceWrongFalsely : Prop := thriceRow.holds Tryz.pinned (OpenSpec.ofChange thriceWrong)

/- THE SECOND FORM. 'bulk': how many values and letters a reading holds, each counted each time it is reached (what is shared counts as often as it is met; a slice's spare places count too). A statement '..UptoSaid' is the law's where the arguments, and the package variables that the reading takes, are together of bulk at most 1048576: NARROWER than '..Said'. Prove '..Said' where nothing that the law and all that it calls make is longer than what came in: it says more and counts as full. Else prove '..UptoSaid'. A law counts once. -/
mutual
def uptoBulk {H : Type} : DataW H → Nat
  | .lit (.string bytes) => bytes.length + 1
  | .lit _ => 1
  | .nil => 1
  | .ptr d => uptoBulk d + 1
  | .slice elems spare => uptoBulkAll elems + uptoBulkAll spare + 1
  | .agg parts => uptoBulkAll parts + 1
  | .iface _ d => uptoBulk d + 1
  | .map entries => uptoBulkEntries entries + 1
  | .held _ => 1
def uptoBulkAll {H : Type} : List (DataW H) → Nat
  | [] => 0
  | d :: r => uptoBulk d + uptoBulkAll r
def uptoBulkEntries {H : Type} : List (Lit × DataW H) → Nat
  | [] => 0
  | x :: r => uptoBulkEntry x + uptoBulkEntries r
def uptoBulkEntry {H : Type} : Lit × DataW H → Nat
  | (.string bytes, d) => bytes.length + uptoBulk d + 1
  | (_, d) => uptoBulk d + 1
 end
def uptoSmall : (H : Type) → List (DataW H) → Bool := fun _ ds => decide (uptoBulkAll ds ≤ 1048576)
def OpenSpec.upto (s : _root_.Go.ChangeSpec) : _root_.Go.OpenSpec := { _root_.Go.OpenSpec.ofChange s with cond := some uptoSmall }

/-- 'platterkeep.Survives', WHERE WHAT IT READS IS OF BULK AT MOST 1048576: true; the input reads as it did. -/
def survivesUptoRow : OpenClaim := { program := "ytdcinlkkjbclmabgreat", sum := "cac8ec3ae844c46269436567ccee051661363187f07ab2f5a6801c469bc154c6", func := "platter/platterkeep.Survives", spec := "survives", unfollowed := true, recurses := true, plainKeys := false, apart := false, narrowed := true }
def SurvivesUptoSaid : Prop := survivesUptoRow.holds Tryz.pinned (OpenSpec.upto survivesSpec)

/-- 'platterkeep.Stopped', WHERE WHAT IT READS IS OF BULK AT MOST 1048576: true; the input reads as it did. -/
def stoppedUptoRow : OpenClaim := { program := "ytdcinlkkjbclmabgreat", sum := "cac8ec3ae844c46269436567ccee051661363187f07ab2f5a6801c469bc154c6", func := "platter/platterkeep.Stopped", spec := "stopped", unfollowed := true, recurses := true, plainKeys := false, apart := false, narrowed := true }
def StoppedUptoSaid : Prop := stoppedUptoRow.holds Tryz.pinned (OpenSpec.upto stoppedSpec)

/-- 'platterkeep.Thrice', WHERE WHAT IT READS IS OF BULK AT MOST 1048576: true; the input reads as it did. -/
def thriceUptoRow : OpenClaim := { program := "ytdcinlkkjbclmabgreat", sum := "cac8ec3ae844c46269436567ccee051661363187f07ab2f5a6801c469bc154c6", func := "platter/platterkeep.Thrice", spec := "thrice", unfollowed := true, recurses := true, plainKeys := false, apart := false, narrowed := true }
def ThriceUptoSaid : Prop := thriceUptoRow.holds Tryz.pinned (OpenSpec.upto thriceSpec)

end Rows
end Go.Proofs.YtdcinlkkjbclmabGreat
