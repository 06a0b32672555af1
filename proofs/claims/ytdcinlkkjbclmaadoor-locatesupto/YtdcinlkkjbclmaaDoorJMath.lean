/- The plain mathematics of Locates: what Judge finds, a column taken for missing. -/
import Derived.Test.YtdcinlkkjbclmaaDoorSSame
import Derived.Test.YtdcinlkkjbclmaaDoorTMath
namespace Go.Proofs.YtdcinlkkjbclmaaDoor

/-- the first k columns and the two behind them hold -/
def HoldL (cs : List (List Nat)) (k : Nat) : Prop := parP cs k = cs.getD k [] ∧ parQ cs k = cs.getD (k + 1) []
def ofP (cs : List (List Nat)) (k : Nat) : List Nat := xorL (parP cs k) (cs.getD k [])
def ofQ (cs : List (List Nat)) (k : Nat) : List Nat := xorL (parQ cs k) (cs.getD (k + 1) [])
/-- with another value of column i the stripe holds -/
def condL (cs : List (List Nat)) (k i : Nat) : Prop := (i < k ∧ mulL (ofP cs k) (powN i) = ofQ cs k) ∨ (i = k ∧ ofQ cs k = zero16) ∨ (i = k + 1 ∧ ofP cs k = zero16)
def fixL (cs : List (List Nat)) (k i : Nat) : List Nat := if i < k then xorL (cs.getD i []) (ofP cs k) else if i = k then parP cs k else parQ cs k

theorem par_congr {a b : List (List Nat)} {k : Nat} (h : ∀ i, i < k → a.getD i [] = b.getD i []) : parP a k = parP b k ∧ parQ a k = parQ b k := by
  induction k with
  | zero => exact ⟨rfl, rfl⟩
  | succ k ih =>
    obtain ⟨h1, h2⟩ := ih (fun i hi => h i (by omega))
    simp only [parP, parQ]
    rw [h1, h2, h k (by omega)]
    exact ⟨rfl, rfl⟩
theorem inI_lone (i j : Nat) : inI [(i : Int)] (j : Int) = decide (j = i) := by
  unfold inI
  by_cases e : j = i
  · subst e; simp
  · simp [e]
    omega
theorem lost_lone (i k : Nat) (h : i < k) : (lostN [(i : Int)] k).length = 1 :=
  sorted_one (x := i) (lostN_sorted _ _) (fun j => by
    rw [lostN_mem, inI_lone, decide_eq_true_eq]
    omega)
theorem xorL_eq_iff {a b : List Nat} (ha : a.length = 16) (hb : b.length = 16) : xorL a b = zero16 ↔ a = b :=
  ⟨xorL_eq_zero ha hb, fun e => by subst e; exact xorL_self ha⟩
theorem set_getD (cs : List (List Nat)) (i j : Nat) (c : List Nat) (hi : i < cs.length) : (cs.set i c).getD j [] = if j = i then c else cs.getD j [] := by
  by_cases e : j = i
  · subst e
    rw [if_pos rfl]
    simp [hi]
  · rw [if_neg e, List.getD_eq_getElem?_getD, List.getElem?_set_ne (fun q => e q.symm), ← List.getD_eq_getElem?_getD]

/-- a column taken for missing: what is found for it, and whether the stripe holds with that -/
theorem judge_col {cs : List (List Nat)} {k i : Nat} {X : Nat → Nat} (hc : AreCols cs) (hl : cs.length = k + 2) (hk : k ≤ 6) (hi : i < k + 2) (hX : ∀ j, j < 16 → foundOK (takenTo cs [(i : Int)] (k + 2)) [(i : Int)] k j (X j)) :
    fullTo (takenTo cs [(i : Int)] (k + 2)) [(i : Int)] k X 16 i = fixL cs k i ∧ (HoldL (cs.set i (fixL cs k i)) k ↔ condL cs k i) := by
  have htc : AreCols (takenTo cs [(i : Int)] (k + 2)) := takenTo_cols cs _ (k + 2) (fun j _ hj _ => hc.col j hj)
  have htl : (takenTo cs [(i : Int)] (k + 2)).length = k + 2 := by rw [takenTo_len, hl]
  have hta : ∀ j, j < k + 2 → j ≠ i → (takenTo cs [(i : Int)] (k + 2)).getD j [] = cs.getD j [] := fun j hj hne => by
    rw [takenTo_at _ _ _ _ (by rw [hl]; exact hj), if_pos ⟨hj, by rw [inI_lone]; exact decide_eq_false hne⟩]
  generalize takenTo cs [(i : Int)] (k + 2) = ts at *
  have hA := findA_code htc htl hX
  have hAd : ∀ j, j < k → j ≠ i → findA ts [(i : Int)] k X j = cs.getD j [] := fun j hj hne => by
    rw [findA_data htc htl j hj (by rw [inI_lone]; exact decide_eq_false hne), hta j (by omega) hne]
  have hAp : i < k → findA ts [(i : Int)] k X k = cs.getD k [] := fun h => by
    rw [findA_p htc htl hX (Or.inr ⟨lost_lone i k h, by rw [inI_lone]; exact decide_eq_false (by omega)⟩), hta k (by omega) (by omega)]
  have hfull : fullTo ts [(i : Int)] k X 16 i = findA ts [(i : Int)] k X i := (if_pos hi).symm
  rw [hfull]
  generalize findA ts [(i : Int)] k X = A at *
  have lc : ∀ j, j < k + 2 → (cs.getD j []).length = 16 := fun j hj => (hc.col j (by omega)).len
  have lP := (parP_col hc k (by omega)).len
  have lQ := (parQ_col hc k (by omega)).len
  have lA : ∀ j, (A j).length = 16 := fun j => (hA.col j).len
  have hfix : A i = fixL cs k i ∧ (i < k → ofP cs k = xorL (A i) (cs.getD i []) ∧ ofQ cs k = xorL (mulL (xorL (A i) (cs.getD i [])) (powN i)) (xorL (A (k + 1)) (cs.getD (k + 1) []))) := by
    rcases Nat.lt_or_ge i k with h | h
    · have hec : ∀ j, IsCol (if j < k + 2 then xorL (A j) (cs.getD j []) else zero16) := fun j => by
        split
        · exact xorL_col (hA.col j) (hc.col j (by omega))
        · exact zero_col
      obtain ⟨_, _, o1, o2⟩ := off_err hA hec
      have hback : ∀ j, j < k + 2 → (fun i => xorL (A i) (if i < k + 2 then xorL (A i) (cs.getD i []) else zero16)) j = cs.getD j [] := fun j hj => by
        show xorL (A j) (if j < k + 2 then xorL (A j) (cs.getD j []) else zero16) = cs.getD j []
        rw [if_pos hj, ← xorL_assoc (lA j) (lA j) (lc j hj), xorL_self (lA j), xorL_zero (lc j hj)]
      have hcs : ∀ j, j < k + 2 → (colsOf (fun i => xorL (A i) (if i < k + 2 then xorL (A i) (cs.getD i []) else zero16)) (k + 2)).getD j [] = cs.getD j [] := fun j hj => by
        rw [colsOf_at _ _ _ hj]
        exact hback j hj
      obtain ⟨c1, c2⟩ := par_congr (a := colsOf (fun i => xorL (A i) (if i < k + 2 then xorL (A i) (cs.getD i []) else zero16)) (k + 2)) (b := cs) (k := k) (fun j hj => hcs j (by omega))
      rw [c1, hcs k (by omega)] at o1
      rw [c2, hcs (k + 1) (by omega)] at o2
      have hlone : ∀ j, j < k → (colsOf (fun j => if j < k + 2 then xorL (A j) (cs.getD j []) else zero16) (k + 2)).getD j [] = (colsOf (loneL (fun j => xorL (A j) (cs.getD j [])) i) (k + 2)).getD j [] := fun j hj => by
        rw [colsOf_at _ _ _ (by omega), colsOf_at _ _ _ (by omega), if_pos (by omega)]
        unfold loneL
        by_cases e : j = i
        · rw [if_pos e, e]
        · rw [if_neg e, hAd j hj e, xorL_self (lc j (by omega))]
      obtain ⟨d1, d2⟩ := par_congr hlone
      obtain ⟨e1, e2⟩ := par_lone (A := fun j => xorL (A j) (cs.getD j [])) (n := k + 2) (x := i) (xorL_col (hA.col i) (hc.col i (by omega))) k (by omega)
      rw [if_pos h] at e1 e2
      rw [d1, e1, if_pos (by omega), hAp h, xorL_self (lc k (by omega)), xorL_zero' (xorL_len (lA i) (lc i (by omega)))] at o1
      rw [d2, e2, if_pos (by omega)] at o2
      refine ⟨?_, fun _ => ⟨o1, o2⟩⟩
      unfold fixL ofP
      rw [if_pos h, o1, xorL_comm (lc i (by omega)) (xorL_len (lA i) (lc i (by omega))), xorL_back (lA i) (lc i (by omega))]
    · have hcs : ∀ j, j < k → (colsOf A k).getD j [] = cs.getD j [] := fun j hj => by
        rw [colsOf_at _ _ _ hj, hAd j hj (by omega)]
      obtain ⟨c1, c2⟩ := par_congr hcs
      refine ⟨?_, fun h' => by omega⟩
      unfold fixL
      rw [if_neg (by omega)]
      by_cases e : i = k
      · rw [if_pos e, e, hA.p, c1]
      · rw [if_neg e, show i = k + 1 by omega, hA.q, c2]
  obtain ⟨hf, hoff⟩ := hfix
  refine ⟨hf, ?_⟩
  rw [← hf]
  have hcs : ∀ j, j < k → (cs.set i (A i)).getD j [] = (colsOf A k).getD j [] := fun j hj => by
    rw [set_getD _ _ _ _ (by omega), colsOf_at _ _ _ hj]
    by_cases e : j = i
    · rw [if_pos e, e]
    · rw [if_neg e, hAd j hj e]
  obtain ⟨c1, c2⟩ := par_congr hcs
  unfold HoldL condL
  rw [c1, c2, ← hA.p, ← hA.q, set_getD _ _ _ _ (by omega), set_getD _ _ _ _ (by omega)]
  rcases Nat.lt_trichotomy i k with h | h | h
  · rw [if_neg (by omega), if_neg (by omega)]
    obtain ⟨o1, o2⟩ := hoff h
    have lx := xorL_len (lA i) (lc i (by omega))
    have ly := xorL_len (lA (k + 1)) (lc (k + 1) (by omega))
    constructor
    · rintro ⟨_, hq⟩
      refine Or.inl ⟨h, ?_⟩
      rw [o2, o1, hq, xorL_self (lc (k + 1) (by omega)), xorL_zero' (mulL_len lx _)]
    · rintro (⟨_, he⟩ | ⟨he, _⟩ | ⟨he, _⟩)
      · refine ⟨hAp h, ?_⟩
        rw [o2, o1] at he
        have lm := mulL_len lx (powN i)
        have h1 : xorL (mulL (xorL (A i) (cs.getD i [])) (powN i)) (xorL (mulL (xorL (A i) (cs.getD i [])) (powN i)) (xorL (A (k + 1)) (cs.getD (k + 1) []))) = zero16 := by rw [← he]; exact xorL_self lm
        rw [← xorL_assoc lm lm ly, xorL_self lm, xorL_zero ly] at h1
        exact xorL_eq_zero (lA _) (lc _ (by omega)) h1
      · omega
      · omega
  · subst h
    rw [if_pos rfl, if_neg (by omega)]
    have hd : ∀ j, j < i → (colsOf A i).getD j [] = cs.getD j [] := fun j hj => by
      rw [colsOf_at _ _ _ hj, hAd j hj (by omega)]
    have e2 := (par_congr hd).2
    rw [← hA.q] at e2
    constructor
    · rintro ⟨_, hq⟩
      refine Or.inr (Or.inl ⟨rfl, ?_⟩)
      unfold ofQ
      rw [← e2, hq]
      exact xorL_self (lc _ (by omega))
    · rintro (⟨he, _⟩ | ⟨_, he⟩ | ⟨he, _⟩)
      · omega
      · unfold ofQ at he
        rw [← e2] at he
        exact ⟨rfl, xorL_eq_zero (lA _) (lc _ (by omega)) he⟩
      · omega
  · obtain rfl : i = k + 1 := by omega
    rw [if_neg (by omega), if_pos rfl]
    have hd : ∀ j, j < k → (colsOf A k).getD j [] = cs.getD j [] := fun j hj => by
      rw [colsOf_at _ _ _ hj, hAd j hj (by omega)]
    have e1 := (par_congr hd).1
    rw [← hA.p] at e1
    constructor
    · rintro ⟨hp, _⟩
      refine Or.inr (Or.inr ⟨rfl, ?_⟩)
      unfold ofP
      rw [← e1, hp]
      exact xorL_self (lc _ (by omega))
    · rintro (⟨he, _⟩ | ⟨he, _⟩ | ⟨_, he⟩)
      · omega
      · omega
      · unfold ofP at he
        rw [← e1] at he
        exact ⟨xorL_eq_zero (lA _) (lc _ (by omega)) he, rfl⟩

/-- what Judge says: the first column with which the stripe holds -/
def JudR (cs : List (List Nat)) (k : Nat) (v at' : Int) (val : List Nat) : Prop :=
  (HoldL cs k ∧ v = 0 ∧ at' = 0) ∨
  (¬ HoldL cs k ∧ ∃ c : Nat, c < k + 2 ∧ (∀ j, j < c → ¬ condL cs k j) ∧ condL cs k c ∧ v = 1 ∧ at' = (c : Int) ∧ val = fixL cs k c) ∨
  (¬ HoldL cs k ∧ (∀ j, j < k + 2 → ¬ condL cs k j) ∧ v = 2 ∧ at' = 0)

theorem mul_ne {a : List Nat} (ha : IsCol a) (h0 : a ≠ zero16) (x : Nat) (hx : x < 6) : mulL a (powN x) ≠ zero16 := fun h => by
  refine h0 (list16 ha.len (by rfl) (fun i hi => ?_))
  have h1 := mulL_at ha.len (powN x) i hi
  rw [h, zero16_at] at h1
  rw [zero16_at]
  rcases Nat.eq_zero_or_pos (a.getD i 0) with h2 | h2
  · exact h2
  · exact absurd h1.symm (pow_at _ (ha.at i hi) (by omega) x hx).1

/-- both say the same -/
theorem judge_same {cs : List (List Nat)} {k : Nat} (hc : AreCols cs) (hl : cs.length = k + 2) (hk : k ≤ 6) {v at' v' at'' : Int} {val val' : List Nat} (h : LocR cs k v at' val) (h' : JudR cs k v' at'' val') :
    v = v' ∧ (v = 1 → at' = at'' ∧ val = val') ∧ (v ≠ 1 → at'' = 0) := by
  have lP := (parP_col hc k (by omega)).len
  have lQ := (parQ_col hc k (by omega)).len
  have lk := (hc.col k (by omega)).len
  have lk1 := (hc.col (k + 1) (by omega)).len
  have hoP : IsCol (ofP cs k) := xorL_col (parP_col hc k (by omega)) (hc.col k (by omega))
  have hoQ : IsCol (ofQ cs k) := xorL_col (parQ_col hc k (by omega)) (hc.col (k + 1) (by omega))
  have hh : HoldL cs k ↔ ofP cs k = zero16 ∧ ofQ cs k = zero16 := by
    unfold HoldL ofP ofQ
    rw [xorL_eq_iff lP lk, xorL_eq_iff lQ lk1]
  change (ofP cs k = zero16 ∧ ofQ cs k = zero16 ∧ v = 0 ∧ at' = 0 ∧ val = zero16) ∨ (ofP cs k ≠ zero16 ∧ ofQ cs k = zero16 ∧ v = 1 ∧ at' = k ∧ val = parP cs k) ∨ (ofQ cs k ≠ zero16 ∧ ofP cs k = zero16 ∧ v = 1 ∧ at' = (k : Int) + 1 ∧ val = parQ cs k) ∨
    (ofP cs k ≠ zero16 ∧ ofQ cs k ≠ zero16 ∧ ∃ c : Nat, c < k ∧ (∀ j, j < c → mulL (ofP cs k) (powN j) ≠ ofQ cs k) ∧ mulL (ofP cs k) (powN c) = ofQ cs k ∧ v = 1 ∧ at' = c ∧ val = xorL (cs.getD c []) (ofP cs k)) ∨
    (ofP cs k ≠ zero16 ∧ ofQ cs k ≠ zero16 ∧ (∀ j, j < k → mulL (ofP cs k) (powN j) ≠ ofQ cs k) ∧ v = 2 ∧ at' = 0 ∧ val = zero16) at h
  unfold JudR at h'
  rw [hh] at h'
  have hun : ∀ a b : Nat, a < k + 2 → b < k + 2 → (∀ j, j < a → ¬ condL cs k j) → condL cs k a → (∀ j, j < b → ¬ condL cs k j) → condL cs k b → a = b := fun a b _ _ ha1 ha2 hb1 hb2 => by
    rcases Nat.lt_trichotomy a b with h | h | h
    · exact absurd ha2 (hb1 a h)
    · exact h
    · exact absurd hb2 (ha1 b h)
  have key : ∀ c : Nat, c < k + 2 → (∀ j, j < c → ¬ condL cs k j) → condL cs k c → ¬ (ofP cs k = zero16 ∧ ofQ cs k = zero16) → v = 1 → at' = (c : Int) → val = fixL cs k c → v = v' ∧ (v = 1 → at' = at'' ∧ val = val') ∧ (v ≠ 1 → at'' = 0) := fun c hck h1 h2 h3 h4 h5 h6 => by
    rcases h' with ⟨q, _⟩ | ⟨_, c', hc', q1, q2, rfl, rfl, rfl⟩ | ⟨_, q, _⟩
    · exact absurd q h3
    · have := hun c c' hck hc' h1 h2 q1 q2
      subst this
      exact ⟨h4, fun _ => ⟨h5, h6⟩, fun hne => absurd h4 hne⟩
    · exact absurd h2 (q c hck)
  rcases h with ⟨p, q, rfl, rfl, rfl⟩ | ⟨p, q, h1, h2, h3⟩ | ⟨q, p, h1, h2, h3⟩ | ⟨p, q, c, hck, hj, he, h1, h2, h3⟩ | ⟨p, q, hj, rfl, rfl, rfl⟩
  · rcases h' with ⟨_, rfl, rfl⟩ | ⟨hn, _⟩ | ⟨hn, _⟩
    · exact ⟨rfl, fun h => absurd h (by decide), fun _ => rfl⟩
    · exact absurd ⟨p, q⟩ hn
    · exact absurd ⟨p, q⟩ hn
  · refine key k (by omega) (fun j hj hcn => ?_) (Or.inr (Or.inl ⟨rfl, q⟩)) (fun h => p h.1) h1 h2 (by rw [h3]; unfold fixL; rw [if_neg (by omega), if_pos rfl])
    rcases hcn with ⟨_, e⟩ | ⟨e, _⟩ | ⟨e, _⟩
    · exact mul_ne hoP p j (by omega) (e.trans q)
    · omega
    · omega
  · refine key (k + 1) (by omega) (fun j hj hcn => ?_) (Or.inr (Or.inr ⟨rfl, p⟩)) (fun h => q h.2) h1 (by rw [h2]; simp) (by rw [h3]; unfold fixL; rw [if_neg (by omega), if_neg (by omega)])
    rcases hcn with ⟨_, e⟩ | ⟨_, e⟩ | ⟨e, _⟩
    · rw [p, mulL_zero] at e
      exact q e.symm
    · exact q e
    · omega
  · refine key c (by omega) (fun j hjc hcn => ?_) (Or.inl ⟨hck, he⟩) (fun h => p h.1) h1 h2 (by rw [h3]; unfold fixL; rw [if_pos hck])
    rcases hcn with ⟨_, e⟩ | ⟨e, _⟩ | ⟨e, _⟩
    · exact hj j hjc e
    · omega
    · omega
  · rcases h' with ⟨hn, _⟩ | ⟨_, c', hc', _, q2, _⟩ | ⟨_, _, rfl, rfl⟩
    · exact absurd hn.1 p
    · rcases q2 with ⟨hck, e⟩ | ⟨_, e⟩ | ⟨_, e⟩
      · exact absurd e (hj c' hck)
      · exact absurd e q
      · exact absurd e p
    · exact ⟨rfl, fun h => absurd h (by decide), fun _ => rfl⟩

end Go.Proofs.YtdcinlkkjbclmaaDoor
