/- What stripe.Solve finds. -/
import Derived.Test.YtdcinlkkjbclmaaDoorBlank
import Derived.Test.YtdcinlkkjbclmaaDoorPair
namespace Go.Proofs.YtdcinlkkjbclmaaDoor

/-- the data columns that are there, the missing ones being 0 -/
def datB (cs : List (List Nat)) (ms : List Int) (k : Nat) : List (List Nat) := blankTo (cs.take k) ms ms.length
def offP (cs : List (List Nat)) (ms : List Int) (k : Nat) : List Nat := xorL (parP (datB cs ms k) k) (cs.getD k [])
def offQ (cs : List (List Nat)) (ms : List Int) (k : Nat) : List Nat := xorL (parQ (datB cs ms k) k) (cs.getD (k + 1) [])
/-- all data columns, by which are lost -/
def datS (cs : List (List Nat)) (ms : List Int) (k : Nat) : List Int → List (List Nat)
  | [a, b] => ((datB cs ms k).set a.toNat (pairL a.toNat b.toNat (offP cs ms k) (offQ cs ms k))).set b.toNat (xorL (offP cs ms k) (pairL a.toNat b.toNat (offP cs ms k) (offQ cs ms k)))
  | [a] => (datB cs ms k).set a.toNat (if inI ms (k : Int) = true then mulL (offQ cs ms k) (ginv (powN a.toNat)) else offP cs ms k)
  | _ => datB cs ms k
def solveL (cs : List (List Nat)) (ms : List Int) (k : Nat) : List (List Nat) :=
  datS cs ms k (lostL ms k) ++ [parP (datS cs ms k (lostL ms k)) k, parQ (datS cs ms k (lostL ms k)) k]

theorem datB_len (cs : List (List Nat)) (ms : List Int) (k : Nat) (h : k ≤ cs.length) : (datB cs ms k).length = k := by
  unfold datB
  rw [blankTo_len, List.length_take]
  omega
theorem datS_len (cs : List (List Nat)) (ms : List Int) (k : Nat) (ls : List Int) (h : k ≤ cs.length) : (datS cs ms k ls).length = k := by
  unfold datS
  split
  · rw [List.length_set, List.length_set, datB_len _ _ _ h]
  · rw [List.length_set, datB_len _ _ _ h]
  · exact datB_len _ _ _ h

end Go.Proofs.YtdcinlkkjbclmaaDoor
