/- Added: the sums, column by column. -/
import Derived.Test.YtdcinlkkjbclmabDoorLaw
namespace Go.Proofs.YtdcinlkkjbclmabDoor
open Go.RowKit

def mixC (A Bb : Nat → List Nat) (k j i : Nat) : List Nat := if i < k then xorL (A i) (Bb i) else if i = k then mixL (fun m => (A k).getD m 0 ^^^ (Bb k).getD m 0) (A k) j else A i
theorem mixC_zero {A Bb : Nat → List Nat} {n : Nat} (ha : ∀ i, i < n → IsCol (A i)) (i : Nat) (hi : i < n) : mixC A Bb 0 0 i = A i := by
  unfold mixC
  rw [if_neg (by omega)]
  split
  · rename_i e; subst e; exact mixL_zero _ (ha _ hi).len
  · rfl
theorem mixC_next {A Bb : Nat → List Nat} {n : Nat} (ha : ∀ i, i < n → IsCol (A i)) (hb : ∀ i, i < n → IsCol (Bb i)) (k : Nat) (hk : k < n) (i : Nat) (hi : i < n) : mixC A Bb k 16 i = mixC A Bb (k + 1) 0 i := by
  unfold mixC
  rcases Nat.lt_trichotomy i k with h | h | h
  · rw [if_pos h, if_pos (by omega)]
  · subst h
    rw [if_neg (by omega), if_pos rfl, if_pos (by omega), mixL_all, xorL_eq (ha _ hi).len (hb _ hi).len]
  · rw [if_neg (by omega), if_neg (by omega), if_neg (by omega)]
    by_cases e : i = k + 1
    · subst e
      rw [if_pos rfl, mixL_zero _ (ha _ hi).len]
    · rw [if_neg e]
theorem mixC_step (A Bb : Nat → List Nat) (k j i : Nat) : mixC A Bb k (j + 1) i = if i = k then (mixC A Bb k j k).set j ((A k).getD j 0 ^^^ (Bb k).getD j 0) else mixC A Bb k j i := by
  unfold mixC
  by_cases e : i = k
  · subst e
    simp only [Nat.lt_irrefl, if_false, if_true]
    rw [← mixL_succ]
  · simp only [if_neg e, Nat.lt_irrefl, if_false, if_true]
theorem mixC_at (A Bb : Nat → List Nat) (k j : Nat) (hj : j < 16) : (mixC A Bb k j k).getD j 0 = (A k).getD j 0 := by
  unfold mixC
  rw [if_neg (by omega), if_pos rfl, mixL_at _ _ _ hj]

end Go.Proofs.YtdcinlkkjbclmabDoor
