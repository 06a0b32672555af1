/- The plain mathematics of Solve: what is found of a stripe that holds is that stripe. -/
import Derived.Test.YtdcinlkkjbclmaaDoorCode
import Derived.Test.YtdcinlkkjbclmaaDoorBlank
import Derived.Test.YtdcinlkkjbclmaaDoorSolveDef
namespace Go.Proofs.YtdcinlkkjbclmaaDoor

theorem inv_all : ((List.range 256).all fun y => (List.range 6).all fun x => decide (gmul (gmul y (powN x)) (ginv (powN x)) = y) && ((List.range 6).all fun z => decide (z = x) || decide (gmul (gmul y (powN x) ^^^ gmul y (powN z)) (ginv (powN x ^^^ powN z)) = y))) = true := by decide +kernel
theorem inv_at (y : Nat) (hy : y < 256) (x : Nat) (hx : x < 6) : gmul (gmul y (powN x)) (ginv (powN x)) = y ∧ ∀ z, z < 6 → z ≠ x → gmul (gmul y (powN x) ^^^ gmul y (powN z)) (ginv (powN x ^^^ powN z)) = y := by
  have h := List.all_eq_true.1 (List.all_eq_true.1 inv_all y (List.mem_range.2 hy)) x (List.mem_range.2 hx)
  rw [Bool.and_eq_true] at h
  refine ⟨of_decide_eq_true h.1, fun z hz hne => ?_⟩
  have h2 := List.all_eq_true.1 h.2 z (List.mem_range.2 hz)
  rw [Bool.or_eq_true] at h2
  rcases h2 with h2 | h2
  · exact absurd (of_decide_eq_true h2) hne
  · exact of_decide_eq_true h2

theorem mulL_len {a : List Nat} (ha : a.length = 16) (c : Nat) : (mulL a c).length = 16 := by simp [mulL, ha]
theorem mul_inv {a : List Nat} (ha : IsCol a) (x : Nat) (hx : x < 6) : mulL (mulL a (powN x)) (ginv (powN x)) = a :=
  list16 (mulL_len (mulL_len ha.len _) _) ha.len (fun i hi => by
    rw [mulL_at (mulL_len ha.len _) _ i hi, mulL_at ha.len _ i hi]
    exact (inv_at _ (ha.at i hi) x hx).1)
theorem pair_found {a b : List Nat} (ha : IsCol a) (hb : IsCol b) (x z : Nat) (hx : x < 6) (hz : z < 6) (hne : z ≠ x) :
    pairL x z (xorL a b) (xorL (mulL a (powN x)) (mulL b (powN z))) = a := by
  have l1 := mulL_len ha.len (powN x)
  have l2 := mulL_len hb.len (powN z)
  have l3 := xorL_len ha.len hb.len
  have l4 := xorL_len l1 l2
  have l5 := mulL_len l3 (powN z)
  have l6 := xorL_len l4 l5
  unfold pairL
  refine list16 (mulL_len l6 _) ha.len (fun i hi => ?_)
  rw [mulL_at l6 _ i hi, xorL_at l4 l5 i hi, xorL_at l1 l2 i hi, mulL_at l3 _ i hi, xorL_at ha.len hb.len i hi, mulL_at ha.len _ i hi, mulL_at hb.len _ i hi, gmul_xor (a.getD i 0) (b.getD i 0) (powN z)]
  have e : (gmul (a.getD i 0) (powN x) ^^^ gmul (b.getD i 0) (powN z)) ^^^ (gmul (a.getD i 0) (powN z) ^^^ gmul (b.getD i 0) (powN z)) = gmul (a.getD i 0) (powN x) ^^^ gmul (a.getD i 0) (powN z) := by
    rw [xor_swap, Nat.xor_self, Nat.xor_zero]
  rw [e]
  exact (inv_at _ (ha.at i hi) x hx).2 z hz hne
theorem xorL_comm {a b : List Nat} (ha : a.length = 16) (hb : b.length = 16) : xorL a b = xorL b a :=
  list16 (xorL_len ha hb) (xorL_len hb ha) (fun i hi => by rw [xorL_at ha hb i hi, xorL_at hb ha i hi, Nat.xor_comm])

/-- the errors: what is lost, each in its place -/
def lostE (A : Nat → List Nat) (ms : List Int) (i : Nat) : List Nat := if inI ms (i : Int) = true then A i else zero16
theorem lostE_col {A : Nat → List Nat} (hA : ∀ i, IsCol (A i)) (ms : List Int) (i : Nat) : IsCol (lostE A ms i) := by
  unfold lostE
  split
  · exact hA i
  · exact zero_col
/-- the columns as they are taken: those missing being 0 -/
theorem taken_err {A : Nat → List Nat} (hA : ∀ i, IsCol (A i)) (ms : List Int) (i : Nat) : (if inI ms (i : Int) = true then zero16 else A i) = xorL (A i) (lostE A ms i) := by
  unfold lostE
  split
  · rw [xorL_self (hA i).len]
  · rw [xorL_zero' (hA i).len]

theorem par_lost {A : Nat → List Nat} (hA : ∀ i, IsCol (A i)) (n : Nat) (ms : List Int) (x : Nat) (h : ∀ i, i < n → (inI ms (i : Int) = true ↔ i = x)) (hx : x < n) :
    parP (colsOf (lostE A ms) n) n = A x ∧ parQ (colsOf (lostE A ms) n) n = mulL (A x) (powN x) := by
  have e : colsOf (lostE A ms) n = colsOf (loneL A x) n := by
    unfold colsOf
    apply List.map_congr_left
    intro i hi
    rw [List.mem_range] at hi
    unfold lostE loneL
    by_cases e : i = x
    · rw [if_pos e, if_pos ((h i hi).2 e), e]
    · rw [if_neg e, if_neg (fun hh => e ((h i hi).1 hh))]
  rw [e]
  have := par_lone (A := A) (n := n) (x := x) (hA x) n (Nat.le_refl _)
  rw [if_pos hx, if_pos hx] at this
  exact this

theorem getD_ext {a b : List (List Nat)} {n : Nat} (ha : a.length = n) (hb : b.length = n) (h : ∀ i, i < n → a.getD i [] = b.getD i []) : a = b :=
  list_getD (by rw [ha, hb]) (fun i hi => h i (by omega))

/-- the columns of a stripe that holds, as they are taken -/
structure Taken (A : Nat → List Nat) (N : Nat) (ms : List Int) (cs : List (List Nat)) : Prop where
  len : cs.length = N + 2
  col : ∀ i, i < N + 2 → cs.getD i [] = if inI ms (i : Int) = true then zero16 else A i

theorem Taken.dat {A : Nat → List Nat} {N : Nat} {ms : List Int} {cs : List (List Nat)} (h : Taken A N ms cs) (hA : Code A N) : datB cs ms N = colsOf (fun i => xorL (A i) (lostE A ms i)) N := by
  refine getD_ext (datB_len _ _ _ (by rw [h.len]; omega)) (colsOf_len _ _) (fun i hi => ?_)
  have hl : (cs.take N).length = N := by rw [List.length_take, h.len]; omega
  unfold datB
  rw [blankTo_at _ _ _ _ (by rw [hl]; exact hi), colsOf_at _ _ _ hi, List.take_length, take_getD _ _ _ hi, h.col i (by omega), ← taken_err hA.col]
  split <;> rfl

theorem Taken.off {A : Nat → List Nat} {N : Nat} {ms : List Int} {cs : List (List Nat)} (h : Taken A N ms cs) (hA : Code A N) :
    offP cs ms N = xorL (parP (colsOf (lostE A ms) N) N) (lostE A ms N) ∧ offQ cs ms N = xorL (parQ (colsOf (lostE A ms) N) N) (lostE A ms (N + 1)) := by
  have he := lostE_col hA.col ms
  obtain ⟨a1, a2⟩ := par_add (A := A) (Bb := lostE A ms) (n := N) (fun i _ => hA.col i) (fun i _ => he i) N (Nat.le_refl _)
  rw [← hA.p] at a1
  rw [← hA.q] at a2
  have lP := (parP_col (colsOf_cols (L := lostE A ms) (n := N) (fun i _ => he i)) N (by rw [colsOf_len]; exact Nat.le_refl _)).len
  have lQ := (parQ_col (colsOf_cols (L := lostE A ms) (n := N) (fun i _ => he i)) N (by rw [colsOf_len]; exact Nat.le_refl _)).len
  unfold offP offQ
  rw [h.dat hA, a1, a2, h.col N (by omega), h.col (N + 1) (by omega), taken_err hA.col, taken_err hA.col]
  refine ⟨?_, ?_⟩
  · rw [xorL_swap (hA.col N).len lP (hA.col N).len (he N).len, xorL_self (hA.col N).len, xorL_zero (xorL_len lP (he N).len)]
  · rw [xorL_swap (hA.col (N + 1)).len lQ (hA.col (N + 1)).len (he (N + 1)).len, xorL_self (hA.col (N + 1)).len, xorL_zero (xorL_len lQ (he (N + 1)).len)]

theorem Taken.dat_at {A : Nat → List Nat} {N : Nat} {ms : List Int} {cs : List (List Nat)} (h : Taken A N ms cs) (hA : Code A N) (i : Nat) (hi : i < N) (hn : inI ms (i : Int) = false) : (datB cs ms N).getD i [] = A i := by
  rw [h.dat hA, colsOf_at _ _ _ hi, ← taken_err hA.col, if_neg (by rw [hn]; exact Bool.false_ne_true)]

theorem Taken.none {A : Nat → List Nat} {N : Nat} {ms : List Int} {cs : List (List Nat)} (h : Taken A N ms cs) (hA : Code A N) (hl : lostL ms N = []) (hn : ∀ i, i < N → inI ms (i : Int) = false) : datS cs ms N (lostL ms N) = colsOf A N := by
  rw [hl]
  show datB cs ms N = _
  exact getD_ext (datB_len _ _ _ (by rw [h.len]; omega)) (colsOf_len _ _) (fun i hi => by rw [h.dat_at hA i hi (hn i hi), colsOf_at _ _ _ hi])

theorem Taken.one {A : Nat → List Nat} {N : Nat} {ms : List Int} {cs : List (List Nat)} (h : Taken A N ms cs) (hA : Code A N) (hN : N ≤ 6) (x : Nat) (hx : x < N) (hl : lostL ms N = [(x : Int)]) (hn : ∀ i, i < N → (inI ms (i : Int) = true ↔ i = x))
    (hpq : inI ms (N : Int) = true → inI ms ((N + 1 : Nat) : Int) = false) : datS cs ms N (lostL ms N) = colsOf A N := by
  rw [hl]
  show (datB cs ms N).set (x : Int).toNat _ = _
  rw [Int.toNat_natCast]
  obtain ⟨p1, p2⟩ := par_lost hA.col N ms x hn hx
  obtain ⟨o1, o2⟩ := h.off hA
  rw [p1] at o1
  rw [p2] at o2
  have hlen := datB_len cs ms N (by rw [h.len]; omega)
  have hv : (if inI ms (N : Int) = true then mulL (offQ cs ms N) (ginv (powN x)) else offP cs ms N) = A x := by
    split
    · rename_i hh
      rw [o2, lostE, if_neg (by rw [hpq hh]; exact Bool.false_ne_true), xorL_zero' (mulL_len (hA.col x).len _), mul_inv (hA.col x) x (by omega)]
    · rename_i hh
      rw [o1, lostE, if_neg hh, xorL_zero' (hA.col x).len]
  rw [hv]
  refine getD_ext (by rw [List.length_set, hlen]) (colsOf_len _ _) (fun i hi => ?_)
  rw [getD_set _ _ _ _ (by rw [hlen]; exact hx), colsOf_at _ _ _ hi]
  by_cases e : i = x
  · rw [if_pos e, e]
  · rw [if_neg e, h.dat_at hA i hi (Bool.eq_false_iff.2 fun hh => e ((hn i hi).1 hh))]

theorem par_two {A : Nat → List Nat} (hA : ∀ i, IsCol (A i)) (n : Nat) (ms : List Int) (x y : Nat) (h : ∀ i, i < n → (inI ms (i : Int) = true ↔ i = x ∨ i = y)) (hx : x < n) (hy : y < n) (hne : y ≠ x) :
    parP (colsOf (lostE A ms) n) n = xorL (A x) (A y) ∧ parQ (colsOf (lostE A ms) n) n = xorL (mulL (A x) (powN x)) (mulL (A y) (powN y)) := by
  have e : colsOf (lostE A ms) n = colsOf (fun i => xorL (loneL A x i) (loneL A y i)) n := by
    unfold colsOf
    apply List.map_congr_left
    intro i hi
    rw [List.mem_range] at hi
    unfold lostE loneL
    by_cases e : i = x
    · rw [if_pos ((h i hi).2 (Or.inl e)), if_pos e, if_neg (show ¬ i = y by omega), e, xorL_zero' (hA x).len]
    · by_cases e2 : i = y
      · rw [if_pos ((h i hi).2 (Or.inr e2)), if_neg e, if_pos e2, e2, xorL_zero (hA y).len]
      · rw [if_neg (fun hh => ((h i hi).1 hh).elim e e2), if_neg e, if_neg e2, xorL_zero (by rfl)]
  have c : ∀ z i, IsCol (loneL A z i) := fun z i => by
    unfold loneL
    split
    · exact hA z
    · exact zero_col
  rw [e]
  obtain ⟨a1, a2⟩ := par_add (A := loneL A x) (Bb := loneL A y) (n := n) (fun i _ => c x i) (fun i _ => c y i) n (Nat.le_refl _)
  have b1 := par_lone (A := A) (n := n) (x := x) (hA x) n (Nat.le_refl _)
  have b2 := par_lone (A := A) (n := n) (x := y) (hA y) n (Nat.le_refl _)
  rw [if_pos hx, if_pos hx] at b1
  rw [if_pos hy, if_pos hy] at b2
  rw [a1, a2, b1.1, b1.2, b2.1, b2.2]
  exact ⟨rfl, rfl⟩

theorem Taken.two {A : Nat → List Nat} {N : Nat} {ms : List Int} {cs : List (List Nat)} (h : Taken A N ms cs) (hA : Code A N) (hN : N ≤ 6) (x y : Nat) (hx : x < N) (hy : y < N) (hne : y ≠ x) (hl : lostL ms N = [(x : Int), (y : Int)]) (hn : ∀ i, i < N → (inI ms (i : Int) = true ↔ i = x ∨ i = y))
    (hp : inI ms (N : Int) = false) (hq : inI ms ((N + 1 : Nat) : Int) = false) : datS cs ms N (lostL ms N) = colsOf A N := by
  rw [hl]
  show ((datB cs ms N).set (x : Int).toNat _).set (y : Int).toNat _ = _
  rw [Int.toNat_natCast, Int.toNat_natCast]
  obtain ⟨p1, p2⟩ := par_two hA.col N ms x y hn hx hy hne
  obtain ⟨o1, o2⟩ := h.off hA
  rw [p1, lostE, if_neg (by rw [hp]; exact Bool.false_ne_true), xorL_zero' (xorL_len (hA.col x).len (hA.col y).len)] at o1
  rw [p2, lostE, if_neg (by rw [hq]; exact Bool.false_ne_true), xorL_zero' (xorL_len (mulL_len (hA.col x).len _) (mulL_len (hA.col y).len _))] at o2
  have hlen := datB_len cs ms N (by rw [h.len]; omega)
  rw [o1, o2, pair_found (hA.col x) (hA.col y) x y (by omega) (by omega) hne, xorL_comm (hA.col x).len (hA.col y).len, xorL_back (hA.col y).len (hA.col x).len]
  refine getD_ext (by rw [List.length_set, List.length_set, hlen]) (colsOf_len _ _) (fun i hi => ?_)
  rw [getD_set _ _ _ _ (by rw [List.length_set, hlen]; exact hy), colsOf_at _ _ _ hi]
  by_cases e : i = y
  · rw [if_pos e, e]
  · rw [if_neg e, getD_set _ _ _ _ (by rw [hlen]; exact hx)]
    by_cases e2 : i = x
    · rw [if_pos e2, e2]
    · rw [if_neg e2, h.dat_at hA i hi (Bool.eq_false_iff.2 fun hh => ((hn i hi).1 hh).elim e2 e)]

theorem solve_done {A : Nat → List Nat} {N : Nat} (hA : Code A N) {ms : List Int} {cs : List (List Nat)} (h : datS cs ms N (lostL ms N) = colsOf A N) : solveL cs ms N = colsOf A (N + 2) := by
  unfold solveL
  rw [h, ← hA.p, ← hA.q]
  unfold colsOf
  rw [List.range_succ, List.range_succ]
  simp

theorem inI_one (x i : Nat) : (inI [(x : Int)] (i : Int) = true) ↔ i = x := by
  unfold inI
  simp
  omega
theorem inI_two (x y i : Nat) : (inI [(x : Int), (y : Int)] (i : Int) = true) ↔ i = x ∨ i = y := by
  unfold inI
  simp
  omega
theorem lost_one (x N : Nat) : lostL [(x : Int)] N = if x < N then [(x : Int)] else [] := by
  unfold lostL
  by_cases h : x < N <;> simp [h]
theorem lost_two (x y N : Nat) : lostL [(x : Int), (y : Int)] N = (if x < N then [(x : Int)] else []) ++ (if y < N then [(y : Int)] else []) := by
  unfold lostL
  by_cases h : x < N <;> by_cases h2 : y < N <;> simp [h, h2]

theorem erased_none {A : Nat → List Nat} {N : Nat} (hA : Code A N) {cs : List (List Nat)} (h : Taken A N [] cs) : solveL cs [] N = colsOf A (N + 2) :=
  solve_done hA (h.none hA rfl (fun _ _ => rfl))
theorem erased_one {A : Nat → List Nat} {N : Nat} (hA : Code A N) (hN : N ≤ 6) (x : Nat) {cs : List (List Nat)} (h : Taken A N [(x : Int)] cs) : solveL cs [(x : Int)] N = colsOf A (N + 2) := by
  refine solve_done hA ?_
  by_cases hx : x < N
  · refine h.one hA hN x hx (by rw [lost_one, if_pos hx]) (fun i _ => inI_one x i) (fun hh => ?_)
    rw [inI_one] at hh
    omega
  · exact h.none hA (by rw [lost_one, if_neg hx]) (fun i hi => Bool.eq_false_iff.2 fun hh => by rw [inI_one] at hh; omega)
theorem erased_two {A : Nat → List Nat} {N : Nat} (hA : Code A N) (hN : N ≤ 6) (x y : Nat) (hx : x < N + 2) (hy : y < N + 2) (hne : y ≠ x) {cs : List (List Nat)} (h : Taken A N [(x : Int), (y : Int)] cs) : solveL cs [(x : Int), (y : Int)] N = colsOf A (N + 2) := by
  refine solve_done hA ?_
  have hf : ∀ i : Nat, i ≠ x → i ≠ y → inI [(x : Int), (y : Int)] (i : Int) = false := fun i h1 h2 => Bool.eq_false_iff.2 fun hh => by rw [inI_two] at hh; omega
  by_cases h1 : x < N
  · by_cases h2 : y < N
    · exact h.two hA hN x y h1 h2 hne (by rw [lost_two, if_pos h1, if_pos h2]; rfl) (fun i _ => inI_two x y i) (hf N (by omega) (by omega)) (hf (N + 1) (by omega) (by omega))
    · exact h.one hA hN x h1 (by rw [lost_two, if_pos h1, if_neg h2]; rfl) (fun i hi => by rw [inI_two]; omega) (fun hh => by rw [inI_two] at hh; exact hf (N + 1) (by omega) (by omega))
  · by_cases h2 : y < N
    · exact h.one hA hN y h2 (by rw [lost_two, if_neg h1, if_pos h2]; rfl) (fun i hi => by rw [inI_two]; omega) (fun hh => by rw [inI_two] at hh; exact hf (N + 1) (by omega) (by omega))
    · exact h.none hA (by rw [lost_two, if_neg h1, if_neg h2]; rfl) (fun i hi => hf i (by omega) (by omega))

end Go.Proofs.YtdcinlkkjbclmaaDoor
