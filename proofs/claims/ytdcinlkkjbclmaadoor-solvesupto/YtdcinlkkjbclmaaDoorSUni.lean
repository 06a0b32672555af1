/- And there is one way alone: what the reference finds is what the program finds. -/
import Derived.Test.YtdcinlkkjbclmaaDoorSExist
namespace Go.Proofs.YtdcinlkkjbclmaaDoor
open Go.RowKit

theorem tryX_off (D : List Nat) (P k x : Nat) (lost : List Nat) (hl : ∀ a ∈ lost, a < D.length) (i : Nat) (hi : i ∉ lost) : (tryX D P k x lost).getD i 0 = D.getD i 0 := by
  unfold tryX
  split
  · rw [nat_set _ _ _ _ (hl _ (by simp)), if_neg (fun e => hi (by rw [e]; simp))]
  · rename_i a b
    rw [nat_set _ _ _ _ (by rw [List.length_set]; exact hl b (by simp)), if_neg (fun e => hi (by rw [e]; simp)), nat_set _ _ _ _ (hl a (by simp)), if_neg (fun e => hi (by rw [e]; simp))]
  · rfl
theorem tryX_two (D : List Nat) (P k x a b : Nat) (hb : b < D.length) (hbk : b < k) : sumP (tryX D P k x [a, b]) k = P := by
  show sumP ((D.set a x).set b (sumP ((D.set a x).set b 0) k ^^^ P)) k = P
  rw [(sum_set (D.set a x) b _ (by rw [List.length_set]; exact hb) k).1, if_pos hbk, xor_back]

/-- what is found, as columns -/
def findA (ts : List (List Nat)) (ms : List Int) (k : Nat) (X : Nat → Nat) (i : Nat) : List Nat := if i < k + 2 then fullTo ts ms k X 16 i else zero16
theorem findA_eq (ts : List (List Nat)) (ms : List Int) (k : Nat) (X : Nat → Nat) (i : Nat) (hi : i < k + 2) : findA ts ms k X i = (List.range 16).map fun j => foundB ts ms k j (X j) i := by
  unfold findA
  rw [if_pos hi, fullTo, mixL_all]
theorem findA_at (ts : List (List Nat)) (ms : List Int) (k : Nat) (X : Nat → Nat) (i j : Nat) (hi : i < k + 2) (hj : j < 16) : (findA ts ms k X i).getD j 0 = foundB ts ms k j (X j) i := by
  rw [findA_eq _ _ _ _ _ hi]
  simp [hj]
theorem findA_len (ts : List (List Nat)) (ms : List Int) (k : Nat) (X : Nat → Nat) (i : Nat) : (findA ts ms k X i).length = 16 := by
  unfold findA
  split
  · exact mixL_len _ _ _
  · rfl

theorem findA_col {ts : List (List Nat)} {ms : List Int} {k : Nat} {X : Nat → Nat} (h : AreCols ts) (hl : ts.length = k + 2) (hX : ∀ j, j < 16 → foundOK ts ms k j (X j)) (i : Nat) : IsCol (findA ts ms k X i) := by
  refine ⟨findA_len _ _ _ _ _, fun x hx => ?_⟩
  by_cases hi : i < k + 2
  · rw [findA_eq _ _ _ _ _ hi, List.mem_map] at hx
    obtain ⟨j, hj, rfl⟩ := hx
    rw [List.mem_range] at hj
    have hb := found_lt (ms := ms) h hl hj (hX j hj).1
    unfold foundB
    split
    · exact hb i
    · split
      · exact sumP_lt _ hb k
      · exact sumQ_lt _ k
  · unfold findA at hx
    rw [if_neg hi] at hx
    have := List.eq_of_mem_replicate hx
    omega
theorem findA_place {ts : List (List Nat)} {ms : List Int} {k : Nat} {X : Nat → Nat} (j : Nat) (hj : j < 16) : placeL (colsOf (findA ts ms k X) k) j k = foundL ts ms k j (X j) := by
  refine nat_list_ext (by rw [placeL_len, found_len]) (fun i => ?_)
  rcases Nat.lt_or_ge i k with hi | hi
  · rw [placeL_at _ _ _ _ hi, colsOf_at _ _ _ hi, findA_at _ _ _ _ _ _ (by omega) hj]
    exact if_pos hi
  · rw [List.getD_eq_getElem?_getD, List.getElem?_eq_none (by rw [placeL_len]; exact hi), List.getD_eq_getElem?_getD, List.getElem?_eq_none (by rw [found_len]; exact hi)]
theorem findA_code {ts : List (List Nat)} {ms : List Int} {k : Nat} {X : Nat → Nat} (h : AreCols ts) (hl : ts.length = k + 2) (hX : ∀ j, j < 16 → foundOK ts ms k j (X j)) : Code (findA ts ms k X) k := by
  have hc := findA_col h hl hX
  have hcc : AreCols (colsOf (findA ts ms k X) k) := colsOf_cols (fun i _ => hc i)
  have hle : k ≤ (colsOf (findA ts ms k X) k).length := by rw [colsOf_len]; exact Nat.le_refl _
  refine ⟨hc, ?_, ?_⟩
  · refine list16 (findA_len _ _ _ _ _) (parP_col hcc k hle).len (fun j hj => ?_)
    rw [(par_sum hcc j hj k hle).1, colsOf_len, findA_place j hj, findA_at _ _ _ _ _ _ (by omega) hj]
    exact (if_neg (by omega)).trans (if_pos rfl)
  · refine list16 (findA_len _ _ _ _ _) (parQ_col hcc k hle).len (fun j hj => ?_)
    rw [(par_sum hcc j hj k hle).2, colsOf_len, findA_place j hj, findA_at _ _ _ _ _ _ (by omega) hj]
    exact (if_neg (by omega)).trans (if_neg (by omega))

theorem findA_data {ts : List (List Nat)} {ms : List Int} {k : Nat} {X : Nat → Nat} (h : AreCols ts) (hl : ts.length = k + 2) (i : Nat) (hi : i < k) (hn : inI ms (i : Int) = false) : findA ts ms k X i = ts.getD i [] := by
  refine list16 (findA_len _ _ _ _ _) (h.col i (by omega)).len (fun j hj => ?_)
  rw [findA_at _ _ _ _ _ _ (by omega) hj]
  unfold foundB foundL
  rw [if_pos hi, tryX_off _ _ _ _ _ (fun a ha => by rw [List.length_take, placeL_len]; have := (lostN_lt ha).1; omega) i (fun hm => by have := (lostN_lt hm).2; rw [hn] at this; cases this)]
  rw [List.getD_eq_getElem?_getD, List.getElem?_take, if_pos hi, ← List.getD_eq_getElem?_getD, placeL_at _ _ _ _ (by omega)]
theorem findA_p {ts : List (List Nat)} {ms : List Int} {k : Nat} {X : Nat → Nat} (h : AreCols ts) (hl : ts.length = k + 2) (hX : ∀ j, j < 16 → foundOK ts ms k j (X j)) (h1 : (lostN ms k).length = 2 ∨ (lostN ms k).length = 1 ∧ inI ms (k : Int) = false) : findA ts ms k X k = ts.getD k [] := by
  refine list16 (findA_len _ _ _ _ _) (h.col k (by omega)).len (fun j hj => ?_)
  rw [findA_at _ _ _ _ _ _ (by omega) hj]
  have hok := (hX j hj).2
  have hm : ∀ a ∈ lostN ms k, a < k := fun a ha => (lostN_lt ha).1
  unfold foundB foundL
  rw [if_neg (by omega), if_pos rfl]
  rcases h1 with h1 | ⟨h1, h2⟩
  · rcases hlo : lostN ms k with _ | ⟨a, _ | ⟨b, _ | ⟨c, r⟩⟩⟩ <;> rw [hlo] at h1 hm <;> simp at h1
    exact tryX_two _ _ _ _ _ _ (by rw [List.length_take, placeL_len]; have := hm b (by simp); omega) (hm b (by simp))
  · rcases hlo : lostN ms k with _ | ⟨a, _ | ⟨b, r⟩⟩ <;> rw [hlo] at h1 hok <;> simp at h1
    rw [h2] at hok
    exact of_decide_eq_true hok
theorem findA_q {ts : List (List Nat)} {ms : List Int} {k : Nat} {X : Nat → Nat} (h : AreCols ts) (hl : ts.length = k + 2) (hX : ∀ j, j < 16 → foundOK ts ms k j (X j)) (h1 : (lostN ms k).length = 2 ∨ (lostN ms k).length = 1 ∧ inI ms (k : Int) = true) : findA ts ms k X (k + 1) = ts.getD (k + 1) [] := by
  refine list16 (findA_len _ _ _ _ _) (h.col (k + 1) (by omega)).len (fun j hj => ?_)
  rw [findA_at _ _ _ _ _ _ (by omega) hj]
  have hok := (hX j hj).2
  unfold foundB foundL
  rw [if_neg (by omega), if_neg (by omega)]
  rcases h1 with h1 | ⟨h1, h2⟩
  · rcases hlo : lostN ms k with _ | ⟨a, _ | ⟨b, _ | ⟨c, r⟩⟩⟩ <;> rw [hlo] at h1 hok <;> simp at h1
    exact of_decide_eq_true hok
  · rcases hlo : lostN ms k with _ | ⟨a, _ | ⟨b, r⟩⟩ <;> rw [hlo] at h1 hok <;> simp at h1
    rw [h2] at hok
    exact of_decide_eq_true hok

end Go.Proofs.YtdcinlkkjbclmaaDoor
