/- Added answers true: the parity of a sum of data is the sum of the parities; that of a column alone is this column in P. -/
import Derived.Test.YtjljeokohalgaabDoorMath
namespace Go.Proofs.YtjljeokohalgaabDoor
open Go.RowKit

theorem ListR.keep {w w' : World} {base n : Nat} {v : Value} {k : Nat} {G C : Nat → Nat} {L : Nat → List Nat} (h : ListR w base v k G C L) (hb : Below n w w') (hv : ∀ g, v.ownBlock = some g → g < n) (hG : ∀ i, i < k → G i < n) : ListR w' base v k G C L := by
  refine ⟨?_, fun i hi => (h.buf i hi).below hb (hG i hi), h.col, h.ne⟩
  obtain ⟨h1, h2⟩ := h.own
  refine ⟨h1, ?_⟩
  rcases h2 with h2 | ⟨g, cap, cur, e, hg, hh, r⟩
  · exact Or.inl h2
  · exact Or.inr ⟨g, cap, cur, e, hg, by rw [hb.block g (hv g (by rw [e]; rfl))]; exact hh, r⟩

theorem ownsRow_other {w : World} {base : Nat} {e : TypeId} {size : Nat} {v : Value} {n : Nat} {xs : List Value} (h : w.ownsRow base e size v n xs) (a : Addr) (u : Value) (hne : v.ownBlock ≠ some a.block) : (w.setCell a u).ownsRow base e size v n xs := by
  obtain ⟨h1, h2⟩ := h
  refine ⟨h1, ?_⟩
  rcases h2 with h2 | ⟨g, cap, cur, e, hg, hh, r⟩
  · exact Or.inl h2
  · refine Or.inr ⟨g, cap, cur, e, hg, ?_, r⟩
    rw [heap_setCell_other w a g u (fun q => hne (by rw [e, ← q]; rfl))]
    exact hh
theorem ListR.other {w : World} {base : Nat} {v : Value} {k : Nat} {G C : Nat → Nat} {L : Nat → List Nat} (h : ListR w base v k G C L) (a : Addr) (u : Value) (hv : v.ownBlock ≠ some a.block) (hG : ∀ i, i < k → G i ≠ a.block) : ListR (w.setCell a u) base v k G C L :=
  ⟨ownsRow_other h.own a u hv, fun i hi => (h.buf i hi).other a u (hG i hi), h.col, h.ne⟩
theorem ListR.congr {w : World} {base : Nat} {v : Value} {k : Nat} {G C : Nat → Nat} {L L' : Nat → List Nat} (h : ListR w base v k G C L) (he : ∀ i, i < k → L i = L' i) : ListR w base v k G C L' :=
  ⟨h.own, fun i hi => by rw [← he i hi]; exact h.buf i hi, fun i hi => by rw [← he i hi]; exact h.col i hi, h.ne⟩
/-- a byte of slice i written -/
theorem ListR.write {w : World} {base : Nat} {v : Value} {k : Nat} {G C : Nat → Nat} {L L' : Nat → List Nat} (h : ListR w base v k G C L) (hinj : ∀ i j, i < k → j < k → i ≠ j → G i ≠ G j) (i j x : Nat) (hi : i < k) (hj : j < 16) (hx : x < 256)
    (he : ∀ m, m < k → L' m = if m = i then (L i).set j x else L m) : ListR (w.setCell ⟨G i, j, none⟩ (.int .u8 (x : Int))) base v k G C L' := by
  refine ⟨ownsRow_other h.own _ _ (h.ne i hi), fun m hm => ?_, fun m hm => ?_, h.ne⟩
  · rw [he m hm]
    by_cases e : m = i
    · subst e
      rw [if_pos rfl]
      exact (h.buf m hi).set j x (by rw [(h.col m hi).len]; exact hj)
    · rw [if_neg e]
      exact (h.buf m hm).other _ _ (hinj m i hm hi e)
  · rw [he m hm]
    by_cases e : m = i
    · subst e
      rw [if_pos rfl]
      refine ⟨by rw [List.length_set]; exact (h.col m hi).len, fun y hy => ?_⟩
      rcases List.mem_or_eq_of_mem_set hy with h1 | h1
      · exact (h.col m hi).byte y h1
      · omega
    · rw [if_neg e]; exact h.col m hm

theorem ListR.cell {w : World} {base g cap : Nat} {k : Nat} {G C : Nat → Nat} {L : Nat → List Nat} (h : ListR w base (.slice (some ⟨g, 0, none⟩) k cap) k G C L) (i : Nat) (hi : i < k) : w.cell? ⟨g, i, none⟩ = some (.slice (some ⟨G i, 0, none⟩) 16 (C i)) := by
  rw [h.own.cellAt i (by omega), inners_at _ _ _ _ hi]; rfl

def mixC (A Bb : Nat → List Nat) (k j i : Nat) : List Nat := if i < k then xorL (A i) (Bb i) else if i = k then mixL (fun m => (A k).getD m 0 ^^^ (Bb k).getD m 0) (A k) j else A i
theorem mixC_zero {A Bb : Nat → List Nat} {n : Nat} (ha : ∀ i, i < n → IsCol (A i)) (i : Nat) (hi : i < n) : mixC A Bb 0 0 i = A i := by
  unfold mixC
  rw [if_neg (by omega)]
  split
  · rename_i e; subst e; exact mixL_zero _ (ha _ hi).len
  · rfl
theorem mixC_next {A Bb : Nat → List Nat} {n : Nat} (ha : ∀ i, i < n → IsCol (A i)) (hb : ∀ i, i < n → IsCol (Bb i)) (k : Nat) (hk : k < n) (i : Nat) (hi : i < n) : mixC A Bb k 16 i = mixC A Bb (k + 1) 0 i := by
  unfold mixC
  rcases Nat.lt_trichotomy i k with h | h | h
  · rw [if_pos h, if_pos (by omega)]
  · subst h
    rw [if_neg (by omega), if_pos rfl, if_pos (by omega), mixL_all, xorL_eq (ha _ hi).len (hb _ hi).len]
  · rw [if_neg (by omega), if_neg (by omega), if_neg (by omega)]
    by_cases e : i = k + 1
    · subst e
      rw [if_pos rfl, mixL_zero _ (ha _ hi).len]
    · rw [if_neg e]
theorem mixC_step (A Bb : Nat → List Nat) (k j i : Nat) : mixC A Bb k (j + 1) i = if i = k then (mixC A Bb k j k).set j ((A k).getD j 0 ^^^ (Bb k).getD j 0) else mixC A Bb k j i := by
  unfold mixC
  by_cases e : i = k
  · subst e
    simp only [Nat.lt_irrefl, if_false, if_true]
    rw [← mixL_succ]
  · simp only [if_neg e, Nat.lt_irrefl, if_false, if_true]
theorem mixC_at (A Bb : Nat → List Nat) (k j : Nat) (hj : j < 16) : (mixC A Bb k j k).getD j 0 = (A k).getD j 0 := by
  unfold mixC
  rw [if_neg (by omega), if_pos rfl, mixL_at _ _ _ hj]

end Go.Proofs.YtjljeokohalgaabDoor
