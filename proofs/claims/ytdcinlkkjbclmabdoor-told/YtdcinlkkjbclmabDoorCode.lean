/- Stripes that hold, in plain mathematics. -/
import Derived.Test.YtdcinlkkjbclmabDoorLaw
import Derived.Test.YtdcinlkkjbclmabDoorPre
namespace Go.Proofs.YtdcinlkkjbclmabDoor

/-- columns that hold -/
structure Code (A : Nat → List Nat) (N : Nat) : Prop where
  col : ∀ i, IsCol (A i)
  p : A N = parP (colsOf A N) N
  q : A (N + 1) = parQ (colsOf A N) N

theorem xorL_self {a : List Nat} (ha : a.length = 16) : xorL a a = zero16 :=
  list16 (by simp [xorL, ha]) (by rfl) (fun i hi => by rw [xorL_at ha ha i hi, zero16_at, Nat.xor_self])
theorem xorL_len {a b : List Nat} (ha : a.length = 16) (hb : b.length = 16) : (xorL a b).length = 16 := by simp [xorL, ha, hb]
theorem xor_zero_eq {a b : Nat} (h : a ^^^ b = 0) : a = b := by
  have h1 : a ^^^ b ^^^ b = b := by rw [h, Nat.zero_xor]
  rwa [Nat.xor_assoc, Nat.xor_self, Nat.xor_zero] at h1
theorem xorL_eq_zero {a b : List Nat} (ha : a.length = 16) (hb : b.length = 16) (h : xorL a b = zero16) : a = b := by
  refine list16 ha hb (fun i hi => ?_)
  have h1 := xorL_at ha hb i hi
  rw [h, zero16_at] at h1
  exact xor_zero_eq h1.symm
theorem xorL_back {a b : List Nat} (ha : a.length = 16) (hb : b.length = 16) : xorL (xorL a b) b = a := by
  have l1 := xorL_len ha hb
  refine list16 (xorL_len l1 hb) ha (fun i hi => ?_)
  rw [xorL_at l1 hb i hi, xorL_at ha hb i hi, Nat.xor_assoc, Nat.xor_self, Nat.xor_zero]
theorem xorL_assoc {a b c : List Nat} (ha : a.length = 16) (hb : b.length = 16) (hc : c.length = 16) : xorL (xorL a b) c = xorL a (xorL b c) := by
  have l1 := xorL_len ha hb
  have l2 := xorL_len hb hc
  refine list16 (xorL_len l1 hc) (xorL_len ha l2) (fun i hi => ?_)
  rw [xorL_at l1 hc i hi, xorL_at ha hb i hi, xorL_at ha l2 i hi, xorL_at hb hc i hi, Nat.xor_assoc]

theorem colsOf_take (A : Nat → List Nat) (n k : Nat) (h : k ≤ n) : (colsOf A n).take k = colsOf A k := by
  unfold colsOf
  rw [← List.map_take, List.take_range, Nat.min_eq_left h]
theorem par_less (A : Nat → List Nat) (n k : Nat) (h : k ≤ n) : parP (colsOf A n) k = parP (colsOf A k) k ∧ parQ (colsOf A n) k = parQ (colsOf A k) k := by
  have h1 := parP_take (colsOf A n) k k (Nat.le_refl _)
  rw [colsOf_take A n k h] at h1
  exact ⟨h1.1.symm, h1.2.symm⟩

/-- by what P and Q are off, is what the errors' own are -/
theorem off_err {A e : Nat → List Nat} {N : Nat} (hA : Code A N) (he : ∀ i, IsCol (e i)) :
    parP (colsOf (fun i => xorL (A i) (e i)) (N + 2)) N = xorL (A N) (parP (colsOf e (N + 2)) N) ∧ parQ (colsOf (fun i => xorL (A i) (e i)) (N + 2)) N = xorL (A (N + 1)) (parQ (colsOf e (N + 2)) N) ∧
    xorL (parP (colsOf (fun i => xorL (A i) (e i)) (N + 2)) N) ((colsOf (fun i => xorL (A i) (e i)) (N + 2)).getD N []) = xorL (parP (colsOf e (N + 2)) N) (e N) ∧
    xorL (parQ (colsOf (fun i => xorL (A i) (e i)) (N + 2)) N) ((colsOf (fun i => xorL (A i) (e i)) (N + 2)).getD (N + 1) []) = xorL (parQ (colsOf e (N + 2)) N) (e (N + 1)) := by
  obtain ⟨a1, a2⟩ := par_add (A := A) (Bb := e) (n := N + 2) (fun i _ => hA.col i) (fun i _ => he i) N (by omega)
  rw [(par_less A (N + 2) N (by omega)).1, ← hA.p] at a1
  rw [(par_less A (N + 2) N (by omega)).2, ← hA.q] at a2
  have lP := (parP_col (colsOf_cols (L := e) (n := N + 2) (fun i _ => he i)) N (by rw [colsOf_len]; omega)).len
  have lQ := (parQ_col (colsOf_cols (L := e) (n := N + 2) (fun i _ => he i)) N (by rw [colsOf_len]; omega)).len
  refine ⟨a1, a2, ?_, ?_⟩
  · rw [a1, colsOf_at _ _ _ (by omega), xorL_swap (hA.col N).len lP (hA.col N).len (he N).len, xorL_self (hA.col N).len, xorL_zero (xorL_len lP (he N).len)]
  · rw [a2, colsOf_at _ _ _ (by omega), xorL_swap (hA.col (N + 1)).len lQ (hA.col (N + 1)).len (he (N + 1)).len, xorL_self (hA.col (N + 1)).len, xorL_zero (xorL_len lQ (he (N + 1)).len)]

theorem strL_code (disks : Int) (ms : List Int) : Code (strL disks ms) (nOf disks) := by
  have hd : colsOf (strL disks ms) (nOf disks) = datL disks ms := by
    unfold colsOf datL
    apply List.map_congr_left
    intro i hi
    rw [List.mem_range] at hi
    rw [strL, if_pos hi]
  refine ⟨strL_col disks ms, ?_, ?_⟩
  · rw [hd, strL, if_neg (by omega), if_pos rfl]
  · rw [hd, strL, if_neg (by omega), if_neg (by omega)]

end Go.Proofs.YtdcinlkkjbclmabDoor
