/- The plain mathematics of parities: they add up; of a column alone; strings of bytes. -/
import Derived.Test.YtdcinlkkjbclmabDoorKStripe
namespace Go.Proofs.YtdcinlkkjbclmabDoor

theorem list16 {a b : List Nat} (ha : a.length = 16) (hb : b.length = 16) (h : ∀ i, i < 16 → a.getD i 0 = b.getD i 0) : a = b := by
  apply List.ext_getElem (by rw [ha, hb])
  intro i h1 h2
  have := h i (by omega)
  simpa [h1, h2] using this
theorem xorL_at {a b : List Nat} (ha : a.length = 16) (hb : b.length = 16) (i : Nat) (hi : i < 16) : (xorL a b).getD i 0 = a.getD i 0 ^^^ b.getD i 0 := by
  simp [xorL, ha, hb, hi]
theorem mulL_at {a : List Nat} (ha : a.length = 16) (c i : Nat) (hi : i < 16) : (mulL a c).getD i 0 = gmul (a.getD i 0) c := by
  simp [mulL, ha, hi]
theorem zero16_at (i : Nat) : zero16.getD i 0 = 0 := by
  simp only [zero16, List.getD_eq_getElem?_getD, List.getElem?_replicate]
  split <;> rfl
theorem xorL_zero {a : List Nat} (ha : a.length = 16) : xorL zero16 a = a :=
  list16 (by simp [xorL, ha, zero16]) ha (fun i hi => by rw [xorL_at (by rfl) ha i hi, zero16_at, Nat.zero_xor])
theorem xorL_zero' {a : List Nat} (ha : a.length = 16) : xorL a zero16 = a :=
  list16 (by simp [xorL, ha, zero16]) ha (fun i hi => by rw [xorL_at ha (by rfl) i hi, zero16_at, Nat.xor_zero])
theorem gmul_zero (c : Nat) : gmul 0 c = 0 := by
  have h := gmul_xor 0 0 c
  rw [Nat.xor_self, Nat.xor_self] at h
  exact h
theorem mulL_zero (c : Nat) : mulL zero16 c = zero16 :=
  list16 (by simp [mulL, zero16]) (by rfl) (fun i hi => by rw [mulL_at (by rfl) c i hi, zero16_at, gmul_zero])
theorem xorL_swap {a b c d : List Nat} (ha : a.length = 16) (hb : b.length = 16) (hc : c.length = 16) (hd : d.length = 16) : xorL (xorL a b) (xorL c d) = xorL (xorL a c) (xorL b d) := by
  have l1 : (xorL a b).length = 16 := by simp [xorL, ha, hb]
  have l2 : (xorL c d).length = 16 := by simp [xorL, hc, hd]
  have l3 : (xorL a c).length = 16 := by simp [xorL, ha, hc]
  have l4 : (xorL b d).length = 16 := by simp [xorL, hb, hd]
  refine list16 (by simp [xorL, ha, hb, hc, hd]) (by simp [xorL, ha, hb, hc, hd]) (fun i hi => ?_)
  rw [xorL_at l1 l2 i hi, xorL_at l3 l4 i hi, xorL_at ha hb i hi, xorL_at hc hd i hi, xorL_at ha hc i hi, xorL_at hb hd i hi, xor_swap]
theorem mulL_xor {a b : List Nat} (ha : a.length = 16) (hb : b.length = 16) (c : Nat) : mulL (xorL a b) c = xorL (mulL a c) (mulL b c) := by
  have l1 : (xorL a b).length = 16 := by simp [xorL, ha, hb]
  have l2 : (mulL a c).length = 16 := by simp [mulL, ha]
  have l3 : (mulL b c).length = 16 := by simp [mulL, hb]
  refine list16 (by simp [mulL, l1]) (by simp [xorL, l2, l3]) (fun i hi => ?_)
  rw [mulL_at l1 c i hi, xorL_at l2 l3 i hi, xorL_at ha hb i hi, mulL_at ha c i hi, mulL_at hb c i hi, gmul_xor]

/-- a list of columns by a function -/
def colsOf (L : Nat → List Nat) (n : Nat) : List (List Nat) := (List.range n).map L
theorem colsOf_at (L : Nat → List Nat) (n i : Nat) (h : i < n) : (colsOf L n).getD i [] = L i := by simp [colsOf, h]
theorem colsOf_len (L : Nat → List Nat) (n : Nat) : (colsOf L n).length = n := by simp [colsOf]
theorem colsOf_cols {L : Nat → List Nat} {n : Nat} (h : ∀ i, i < n → IsCol (L i)) : AreCols (colsOf L n) := cols_range h

theorem par_add {A Bb : Nat → List Nat} {n : Nat} (ha : ∀ i, i < n → IsCol (A i)) (hb : ∀ i, i < n → IsCol (Bb i)) (k : Nat) (hk : k ≤ n) :
    parP (colsOf (fun i => xorL (A i) (Bb i)) n) k = xorL (parP (colsOf A n) k) (parP (colsOf Bb n) k) ∧ parQ (colsOf (fun i => xorL (A i) (Bb i)) n) k = xorL (parQ (colsOf A n) k) (parQ (colsOf Bb n) k) := by
  induction k with
  | zero => exact ⟨(xorL_zero (by rfl)).symm, (xorL_zero (by rfl)).symm⟩
  | succ k ih =>
    obtain ⟨i1, i2⟩ := ih (by omega)
    have ca := ha k (by omega)
    have cb := hb k (by omega)
    have pa := (parP_col (colsOf_cols ha) k (by rw [colsOf_len]; omega)).len
    have pb := (parP_col (colsOf_cols hb) k (by rw [colsOf_len]; omega)).len
    have qa := (parQ_col (colsOf_cols ha) k (by rw [colsOf_len]; omega)).len
    have qb := (parQ_col (colsOf_cols hb) k (by rw [colsOf_len]; omega)).len
    simp only [parP, parQ]
    rw [i1, i2, colsOf_at _ _ _ (by omega), colsOf_at _ _ _ (by omega), colsOf_at _ _ _ (by omega)]
    refine ⟨xorL_swap pa pb ca.len cb.len, ?_⟩
    rw [mulL_xor ca.len cb.len]
    exact xorL_swap qa qb (mulL_col ca _).len (mulL_col cb _).len

def loneL (A : Nat → List Nat) (x i : Nat) : List Nat := if i = x then A x else zero16
theorem par_lone {A : Nat → List Nat} {n x : Nat} (ha : IsCol (A x)) (k : Nat) (hk : k ≤ n) :
    parP (colsOf (loneL A x) n) k = (if x < k then A x else zero16) ∧ parQ (colsOf (loneL A x) n) k = (if x < k then mulL (A x) (powN x) else zero16) := by
  induction k with
  | zero => exact ⟨rfl, rfl⟩
  | succ k ih =>
    obtain ⟨i1, i2⟩ := ih (by omega)
    simp only [parP, parQ]
    rw [i1, i2, colsOf_at _ _ _ (by omega)]
    unfold loneL
    by_cases e : k = x
    · subst e
      simp only [Nat.lt_irrefl, if_false, if_true, Nat.lt_succ_self]
      exact ⟨xorL_zero ha.len, xorL_zero (mulL_col ha _).len⟩
    · rw [if_neg e, mulL_zero]
      by_cases e2 : x < k
      · rw [if_pos e2, if_pos e2, if_pos (by omega), if_pos (by omega)]
        exact ⟨xorL_zero' ha.len, xorL_zero' (mulL_col ha _).len⟩
      · rw [if_neg e2, if_neg e2, if_neg (by omega), if_neg (by omega)]
        exact ⟨xorL_zero (by rfl), xorL_zero (by rfl)⟩

/-- times 1 leaves a byte; times a higher power leaves none but 0 -/
theorem fix_all : ((List.range 256).all fun y => decide (gmul y 1 = y) && ((List.range 6).all fun x => decide (x = 0) || decide (gmul y (powN x) = y → y = 0))) = true := by decide +kernel
theorem fix_at (y : Nat) (hy : y < 256) : gmul y 1 = y ∧ ∀ x, x < 6 → x ≠ 0 → gmul y (powN x) = y → y = 0 := by
  have h := fix_all
  simp only [List.all_eq_true, List.mem_range, Bool.and_eq_true, decide_eq_true_eq, Bool.or_eq_true] at h
  obtain ⟨h1, h2⟩ := h y hy
  refine ⟨h1, fun x hx hne he => ?_⟩
  rcases h2 x hx with h3 | h3
  · exact absurd h3 hne
  · exact h3 he
theorem mul_fix {a : List Nat} (ha : IsCol a) (x : Nat) (hx : x < 6) : (mulL a (powN x) = a) ↔ (x = 0 ∨ a = zero16) := by
  constructor
  · intro h
    by_cases e : x = 0
    · exact .inl e
    · right
      refine list16 ha.len (by rfl) (fun i hi => ?_)
      rw [zero16_at]
      have h1 := mulL_at ha.len (powN x) i hi
      rw [h] at h1
      exact (fix_at _ (ha.at i hi)).2 x hx e h1.symm
  · rintro (rfl | rfl)
    · refine list16 (mulL_col ha _).len ha.len (fun i hi => ?_)
      rw [mulL_at ha.len _ i hi]
      exact (fix_at _ (ha.at i hi)).1
    · exact mulL_zero _

/-! ### strings of bytes -/
def strOf (xs : List Nat) : ByteArray := ⟨(xs.map UInt8.ofNat).toArray⟩
theorem ofNat_inj {a b : Nat} (ha : a < 256) (hb : b < 256) (h : UInt8.ofNat a = UInt8.ofNat b) : a = b := by
  have := congrArg UInt8.toNat h
  simpa [UInt8.toNat_ofNat, Nat.mod_eq_of_lt ha, Nat.mod_eq_of_lt hb] using this
theorem strOf_inj {xs ys : List Nat} (hx : IsCol xs) (hy : IsCol ys) (h : strOf xs = strOf ys) : xs = ys := by
  have h1 : xs.map UInt8.ofNat = ys.map UInt8.ofNat := by
    have := congrArg (fun b : ByteArray => b.data.toList) h
    simpa [strOf] using this
  refine list16 hx.len hy.len (fun i hi => ?_)
  have h2 := congrArg (fun l : List UInt8 => l[i]?) h1
  simp only [List.getElem?_map] at h2
  have e1 : xs[i]? = some (xs.getD i 0) := by simp [hx.len, hi]
  have e2 : ys[i]? = some (ys.getD i 0) := by simp [hy.len, hi]
  rw [e1, e2] at h2
  simp only [Option.map_some, Option.some.injEq] at h2
  exact ofNat_inj (hx.at i hi) (hy.at i hi) h2

end Go.Proofs.YtdcinlkkjbclmabDoor
