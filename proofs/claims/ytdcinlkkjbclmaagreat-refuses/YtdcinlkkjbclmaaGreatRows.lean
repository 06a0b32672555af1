/-
  No cell of these rows narrows 'for every input' (looked for: loops, veiled, ifaces, maps, wideKeys, modest, calm, conditions, laid).
  DERIVED. THE GIVEN ROWS OF THIS SEAT. 7 by the template 'for every input the law returns true; each argument reads behind the call as it read before'; 0 by the template 'total and deterministic' (their statements: YtdcinlkkjbclmaaGreatTotals.lean).
  GIVEN WITH THE SEED: the statements are not yours to turn. If you find one false, say at which input.
  Laid BY PROGRAM, IN A SANDBOX (cutbox-rows.mjs): the forced cells as the released guide's own fill.sh prints them over the translation 945ea1f9b3af4ba1… (all of the seat's roots in one cut). By AI agents, Wed Nov 11 2026. No macro, syntax, notation, axiom, sorry.
-/
import Derived.Test.YtdcinlkkjbclmaaGreatChecked
import GoSem.Claim
import GoSem.ClaimJoined
import GoSem.ClaimMapViews
import Derived.JoinedTies
import Derived.KernelRfl
namespace Go.Proofs.YtdcinlkkjbclmaaGreat
/- THE CELL 'sum', in the pinned program and in every row, IS THE sha256 OF THE DUMP (.gsa) THAT YtdcinlkkjbclmaaGreatProg.lean LOADS. Nothing in Lean hashes anything: it is a label: what it is worth is what the hold of that sum in a sandbox is worth. -/
noncomputable def Tryz.pinned : Pinned := { name := "ytdcinlkkjbclmaagreat", sum := "945ea1f9b3af4ba18f8eab551dcd3ab8dcefd5ce7ccb11c809b7fe6385a576bc", checked := Tryz.checked }
namespace Rows
def none {H : Type} : Left H := { results := [], args := [] }

/-- 'platterlaw.Serves': WHATEVER THE INPUT: true; the input reads as it did. -/
def servesSpec : ChangeSpec := { name := "serves", fn := fun _ => fun
  | [d1, d2, d3] => { results := [.lit (.bool true)], args := [d1, d2, d3] }
  | _ => none }
def servesRow : OpenClaim := { program := "ytdcinlkkjbclmaagreat", sum := "945ea1f9b3af4ba18f8eab551dcd3ab8dcefd5ce7ccb11c809b7fe6385a576bc", func := "platter/platterlaw.Serves", spec := "serves", unfollowed := true, recurses := true, plainKeys := false, apart := false }
def ServesSaid : Prop := servesRow.holds Tryz.pinned (OpenSpec.ofChange servesSpec)

/-- ITS FALSE NEIGHBOUR: 'it returns false'. Refute it at one input. -/
def servesWrong : ChangeSpec := { name := "serves", fn := fun _ => fun
  | [d1, d2, d3] => { results := [.lit (.bool false)], args := [d1, d2, d3] }
  | _ => none }
def ServesWrongFalsely : Prop := servesRow.holds Tryz.pinned (OpenSpec.ofChange servesWrong)

/-- 'platterlaw.Degrades': WHATEVER THE INPUT: true; the input reads as it did. -/
def degradesSpec : ChangeSpec := { name := "degrades", fn := fun _ => fun
  | [d1, d2, d3] => { results := [.lit (.bool true)], args := [d1, d2, d3] }
  | _ => none }
def degradesRow : OpenClaim := { program := "ytdcinlkkjbclmaagreat", sum := "945ea1f9b3af4ba18f8eab551dcd3ab8dcefd5ce7ccb11c809b7fe6385a576bc", func := "platter/platterlaw.Degrades", spec := "degrades", unfollowed := true, recurses := true, plainKeys := false, apart := false }
def DegradesSaid : Prop := degradesRow.holds Tryz.pinned (OpenSpec.ofChange degradesSpec)

/-- ITS FALSE NEIGHBOUR: 'it returns false'. Refute it at one input. -/
def degradesWrong : ChangeSpec := { name := "degrades", fn := fun _ => fun
  | [d1, d2, d3] => { results := [.lit (.bool false)], args := [d1, d2, d3] }
  | _ => none }
def DegradesWrongFalsely : Prop := degradesRow.holds Tryz.pinned (OpenSpec.ofChange degradesWrong)

/-- 'platterlaw.Crashes': WHATEVER THE INPUT: true; the input reads as it did. -/
def crashesSpec : ChangeSpec := { name := "crashes", fn := fun _ => fun
  | [d1, d2, d3] => { results := [.lit (.bool true)], args := [d1, d2, d3] }
  | _ => none }
def crashesRow : OpenClaim := { program := "ytdcinlkkjbclmaagreat", sum := "945ea1f9b3af4ba18f8eab551dcd3ab8dcefd5ce7ccb11c809b7fe6385a576bc", func := "platter/platterlaw.Crashes", spec := "crashes", unfollowed := true, recurses := true, plainKeys := false, apart := false }
def CrashesSaid : Prop := crashesRow.holds Tryz.pinned (OpenSpec.ofChange crashesSpec)

/-- ITS FALSE NEIGHBOUR: 'it returns false'. Refute it at one input. -/
def crashesWrong : ChangeSpec := { name := "crashes", fn := fun _ => fun
  | [d1, d2, d3] => { results := [.lit (.bool false)], args := [d1, d2, d3] }
  | _ => none }
def CrashesWrongFalsely : Prop := crashesRow.holds Tryz.pinned (OpenSpec.ofChange crashesWrong)

/-- 'platterlaw.Scrubs': WHATEVER THE INPUT: true; the input reads as it did. -/
def scrubsSpec : ChangeSpec := { name := "scrubs", fn := fun _ => fun
  | [d1, d2, d3] => { results := [.lit (.bool true)], args := [d1, d2, d3] }
  | _ => none }
def scrubsRow : OpenClaim := { program := "ytdcinlkkjbclmaagreat", sum := "945ea1f9b3af4ba18f8eab551dcd3ab8dcefd5ce7ccb11c809b7fe6385a576bc", func := "platter/platterlaw.Scrubs", spec := "scrubs", unfollowed := true, recurses := true, plainKeys := false, apart := false }
def ScrubsSaid : Prop := scrubsRow.holds Tryz.pinned (OpenSpec.ofChange scrubsSpec)

/-- ITS FALSE NEIGHBOUR: 'it returns false'. Refute it at one input. -/
def scrubsWrong : ChangeSpec := { name := "scrubs", fn := fun _ => fun
  | [d1, d2, d3] => { results := [.lit (.bool false)], args := [d1, d2, d3] }
  | _ => none }
def ScrubsWrongFalsely : Prop := scrubsRow.holds Tryz.pinned (OpenSpec.ofChange scrubsWrong)

/-- 'platterlaw.Pair': WHATEVER THE INPUT: true; the input reads as it did. -/
def pairSpec : ChangeSpec := { name := "pair", fn := fun _ => fun
  | [d1, d2, d3, d4] => { results := [.lit (.bool true)], args := [d1, d2, d3, d4] }
  | _ => none }
def pairRow : OpenClaim := { program := "ytdcinlkkjbclmaagreat", sum := "945ea1f9b3af4ba18f8eab551dcd3ab8dcefd5ce7ccb11c809b7fe6385a576bc", func := "platter/platterlaw.Pair", spec := "pair", unfollowed := true, recurses := true, plainKeys := false, apart := false }
def PairSaid : Prop := pairRow.holds Tryz.pinned (OpenSpec.ofChange pairSpec)

/-- ITS FALSE NEIGHBOUR: 'it returns false'. Refute it at one input. -/
def pairWrong : ChangeSpec := { name := "pair", fn := fun _ => fun
  | [d1, d2, d3, d4] => { results := [.lit (.bool false)], args := [d1, d2, d3, d4] }
  | _ => none }
def PairWrongFalsely : Prop := pairRow.holds Tryz.pinned (OpenSpec.ofChange pairWrong)

/-- 'platterlaw.Refuses': WHATEVER THE INPUT: true; the input reads as it did. -/
def refusesSpec : ChangeSpec := { name := "refuses", fn := fun _ => fun
  | [d1, d2, d3, d4, d5] => { results := [.lit (.bool true)], args := [d1, d2, d3, d4, d5] }
  | _ => none }
def refusesRow : OpenClaim := { program := "ytdcinlkkjbclmaagreat", sum := "945ea1f9b3af4ba18f8eab551dcd3ab8dcefd5ce7ccb11c809b7fe6385a576bc", func := "platter/platterlaw.Refuses", spec := "refuses", unfollowed := true, recurses := true, plainKeys := false, apart := false }
def RefusesSaid : Prop := refusesRow.holds Tryz.pinned (OpenSpec.ofChange refusesSpec)

/-- ITS FALSE NEIGHBOUR: 'it returns false'. Refute it at one input. -/
def refusesWrong : ChangeSpec := { name := "refuses", fn := fun _ => fun
  | [d1, d2, d3, d4, d5] => { results := [.lit (.bool false)], args := [d1, d2, d3, d4, d5] }
  | _ => none }
def RefusesWrongFalsely : Prop := refusesRow.holds Tryz.pinned (OpenSpec.ofChange refusesWrong)

/-- 'platterlaw.All': WHATEVER THE INPUT: true; the input reads as it did. -/
def allSpec : ChangeSpec := { name := "all", fn := fun _ => fun
  | [d1, d2, d3] => { results := [.lit (.bool true)], args := [d1, d2, d3] }
  | _ => none }
def allRow : OpenClaim := { program := "ytdcinlkkjbclmaagreat", sum := "945ea1f9b3af4ba18f8eab551dcd3ab8dcefd5ce7ccb11c809b7fe6385a576bc", func := "platter/platterlaw.All", spec := "all", unfollowed := true, recurses := true, plainKeys := false, apart := false }
def AllSaid : Prop := allRow.holds Tryz.pinned (OpenSpec.ofChange allSpec)

/-- ITS FALSE NEIGHBOUR: 'it returns false'. Refute it at one input. -/
def allWrong : ChangeSpec := { name := "all", fn := fun _ => fun
  | [d1, d2, d3] => { results := [.lit (.bool false)], args := [d1, d2, d3] }
  | _ => none }
def AllWrongFalsely : Prop := allRow.holds Tryz.pinned (OpenSpec.ofChange allWrong)

/- THE SECOND FORM. 'bulk': how many values and letters a reading holds, each counted each time it is reached (what is shared counts as often as it is met; a slice's spare places count too). A statement '..UptoSaid' is the law's where the arguments, and the package variables that the reading takes, are together of bulk at most 1048576: NARROWER than '..Said'. Prove '..Said' where nothing that the law and all that it calls make is longer than what came in: it says more and counts as full. Else prove '..UptoSaid'. A law counts once. -/
mutual
def uptoBulk {H : Type} : DataW H → Nat
  | .lit (.string bytes) => bytes.length + 1
  | .lit _ => 1
  | .nil => 1
  | .ptr d => uptoBulk d + 1
  | .slice elems spare => uptoBulkAll elems + uptoBulkAll spare + 1
  | .agg parts => uptoBulkAll parts + 1
  | .iface _ d => uptoBulk d + 1
  | .map entries => uptoBulkEntries entries + 1
  | .held _ => 1
def uptoBulkAll {H : Type} : List (DataW H) → Nat
  | [] => 0
  | d :: r => uptoBulk d + uptoBulkAll r
def uptoBulkEntries {H : Type} : List (Lit × DataW H) → Nat
  | [] => 0
  | x :: r => uptoBulkEntry x + uptoBulkEntries r
def uptoBulkEntry {H : Type} : Lit × DataW H → Nat
  | (.string bytes, d) => bytes.length + uptoBulk d + 1
  | (_, d) => uptoBulk d + 1
 end
def uptoSmall : (H : Type) → List (DataW H) → Bool := fun _ ds => decide (uptoBulkAll ds ≤ 1048576)
def OpenSpec.upto (s : _root_.Go.ChangeSpec) : _root_.Go.OpenSpec := { _root_.Go.OpenSpec.ofChange s with cond := some uptoSmall }

/-- 'platterlaw.Serves', WHERE WHAT IT READS IS OF BULK AT MOST 1048576: true; the input reads as it did. -/
def servesUptoRow : OpenClaim := { program := "ytdcinlkkjbclmaagreat", sum := "945ea1f9b3af4ba18f8eab551dcd3ab8dcefd5ce7ccb11c809b7fe6385a576bc", func := "platter/platterlaw.Serves", spec := "serves", unfollowed := true, recurses := true, plainKeys := false, apart := false, narrowed := true }
def ServesUptoSaid : Prop := servesUptoRow.holds Tryz.pinned (OpenSpec.upto servesSpec)

/-- 'platterlaw.Degrades', WHERE WHAT IT READS IS OF BULK AT MOST 1048576: true; the input reads as it did. -/
def degradesUptoRow : OpenClaim := { program := "ytdcinlkkjbclmaagreat", sum := "945ea1f9b3af4ba18f8eab551dcd3ab8dcefd5ce7ccb11c809b7fe6385a576bc", func := "platter/platterlaw.Degrades", spec := "degrades", unfollowed := true, recurses := true, plainKeys := false, apart := false, narrowed := true }
def DegradesUptoSaid : Prop := degradesUptoRow.holds Tryz.pinned (OpenSpec.upto degradesSpec)

/-- 'platterlaw.Crashes', WHERE WHAT IT READS IS OF BULK AT MOST 1048576: true; the input reads as it did. -/
def crashesUptoRow : OpenClaim := { program := "ytdcinlkkjbclmaagreat", sum := "945ea1f9b3af4ba18f8eab551dcd3ab8dcefd5ce7ccb11c809b7fe6385a576bc", func := "platter/platterlaw.Crashes", spec := "crashes", unfollowed := true, recurses := true, plainKeys := false, apart := false, narrowed := true }
def CrashesUptoSaid : Prop := crashesUptoRow.holds Tryz.pinned (OpenSpec.upto crashesSpec)

/-- 'platterlaw.Scrubs', WHERE WHAT IT READS IS OF BULK AT MOST 1048576: true; the input reads as it did. -/
def scrubsUptoRow : OpenClaim := { program := "ytdcinlkkjbclmaagreat", sum := "945ea1f9b3af4ba18f8eab551dcd3ab8dcefd5ce7ccb11c809b7fe6385a576bc", func := "platter/platterlaw.Scrubs", spec := "scrubs", unfollowed := true, recurses := true, plainKeys := false, apart := false, narrowed := true }
def ScrubsUptoSaid : Prop := scrubsUptoRow.holds Tryz.pinned (OpenSpec.upto scrubsSpec)

/-- 'platterlaw.Pair', WHERE WHAT IT READS IS OF BULK AT MOST 1048576: true; the input reads as it did. -/
def pairUptoRow : OpenClaim := { program := "ytdcinlkkjbclmaagreat", sum := "945ea1f9b3af4ba18f8eab551dcd3ab8dcefd5ce7ccb11c809b7fe6385a576bc", func := "platter/platterlaw.Pair", spec := "pair", unfollowed := true, recurses := true, plainKeys := false, apart := false, narrowed := true }
def PairUptoSaid : Prop := pairUptoRow.holds Tryz.pinned (OpenSpec.upto pairSpec)

/-- 'platterlaw.Refuses', WHERE WHAT IT READS IS OF BULK AT MOST 1048576: true; the input reads as it did. -/
def refusesUptoRow : OpenClaim := { program := "ytdcinlkkjbclmaagreat", sum := "945ea1f9b3af4ba18f8eab551dcd3ab8dcefd5ce7ccb11c809b7fe6385a576bc", func := "platter/platterlaw.Refuses", spec := "refuses", unfollowed := true, recurses := true, plainKeys := false, apart := false, narrowed := true }
def RefusesUptoSaid : Prop := refusesUptoRow.holds Tryz.pinned (OpenSpec.upto refusesSpec)

/-- 'platterlaw.All', WHERE WHAT IT READS IS OF BULK AT MOST 1048576: true; the input reads as it did. -/
def allUptoRow : OpenClaim := { program := "ytdcinlkkjbclmaagreat", sum := "945ea1f9b3af4ba18f8eab551dcd3ab8dcefd5ce7ccb11c809b7fe6385a576bc", func := "platter/platterlaw.All", spec := "all", unfollowed := true, recurses := true, plainKeys := false, apart := false, narrowed := true }
def AllUptoSaid : Prop := allUptoRow.holds Tryz.pinned (OpenSpec.upto allSpec)

end Rows
end Go.Proofs.YtdcinlkkjbclmaaGreat
