/- The reference's answer is the program's. -/
import Derived.Test.YtdcinlkkjbclmaaDoorSUni
import Derived.Test.YtdcinlkkjbclmaaDoorDistinct
namespace Go.Proofs.YtdcinlkkjbclmaaDoor
open Go.RowKit

theorem lostN_mem (ms : List Int) (k i : Nat) : i ∈ lostN ms k ↔ i < k ∧ inI ms (i : Int) = true := by
  unfold lostN
  rw [List.mem_filter, List.mem_range]
theorem sorted_one {l : List Nat} {x : Nat} (hs : l.Pairwise (· < ·)) (h : ∀ i, i ∈ l ↔ i = x) : l.length = 1 := by
  rcases l with _ | ⟨a, _ | ⟨b, r⟩⟩
  · have := (h x).2 rfl; simp at this
  · rfl
  · have h1 := (h a).1 (by simp)
    have h2 := (h b).1 (by simp)
    have h3 := (List.pairwise_cons.1 hs).1 b (by simp)
    omega
theorem sorted_two {l : List Nat} {x y : Nat} (hs : l.Pairwise (· < ·)) (hne : y ≠ x) (h : ∀ i, i ∈ l ↔ i = x ∨ i = y) : l.length = 2 := by
  rcases l with _ | ⟨a, _ | ⟨b, _ | ⟨c, r⟩⟩⟩
  · have := (h x).2 (Or.inl rfl); simp at this
  · have h1 := (h x).2 (Or.inl rfl)
    have h2 := (h y).2 (Or.inr rfl)
    simp at h1 h2
    omega
  · rfl
  · have h1 := (h a).1 (by simp)
    have h2 := (h b).1 (by simp)
    have h3 := (h c).1 (by simp)
    have h4 := (List.pairwise_cons.1 hs).1 b (by simp)
    have h5 := (List.pairwise_cons.1 (List.pairwise_cons.1 hs).2).1 c (by simp)
    omega
theorem sorted_none {l : List Nat} (h : ∀ i, ¬ i ∈ l) : l.length = 0 := by
  rcases l with _ | ⟨a, r⟩
  · rfl
  · exact absurd (List.mem_cons_self) (h a)
theorem lost_same {ms : List Int} {n : Nat} (hd : DistTo ms n ms.length) (h2 : ms.length ≤ 2) (k : Nat) : (lostN ms k).length = (lostL ms k).length := by
  have hs := lostN_sorted ms k
  have hm := lostN_mem ms k
  rcases ms with _ | ⟨x, _ | ⟨y, _ | ⟨z, r⟩⟩⟩
  · exact sorted_none (fun i hi => by have := ((hm i).1 hi).2; simp [inI] at this)
  · obtain ⟨a, ha⟩ := Int.eq_ofNat_of_zero_le (hd 0 (by simp)).1
    simp at ha
    subst ha
    rw [lost_one]
    by_cases h : a < k
    · rw [if_pos h]
      exact sorted_one (x := a) hs (fun i => by rw [hm, inI_one]; omega)
    · rw [if_neg h]
      exact sorted_none (fun i => by rw [hm, inI_one]; omega)
  · obtain ⟨a, ha⟩ := Int.eq_ofNat_of_zero_le (hd 0 (by simp)).1
    obtain ⟨b, hb⟩ := Int.eq_ofNat_of_zero_le (hd 1 (by simp)).1
    have hab := (hd 1 (by simp)).2.2
    simp at ha hb hab
    subst ha hb
    have hne : b ≠ a := fun e => by subst e; simp [inI] at hab
    rw [lost_two]
    by_cases h : a < k <;> by_cases h' : b < k
    · rw [if_pos h, if_pos h']
      exact sorted_two (x := a) (y := b) hs hne (fun i => by rw [hm, inI_two]; omega)
    · rw [if_pos h, if_neg h']
      exact sorted_one (x := a) hs (fun i => by rw [hm, inI_two]; omega)
    · rw [if_neg h, if_pos h']
      exact sorted_one (x := b) hs (fun i => by rw [hm, inI_two]; omega)
    · rw [if_neg h, if_neg h']
      exact sorted_none (fun i => by rw [hm, inI_two]; omega)
  · simp at h2

theorem found_solve {ts : List (List Nat)} {ms : List Int} {k : Nat} {X : Nat → Nat} (h : AreCols ts) (hl : ts.length = k + 2) (hk : k ≤ 6) (hX : ∀ j, j < 16 → foundOK ts ms k j (X j))
    (hz : ∀ i, i < k + 2 → inI ms (i : Int) = true → ts.getD i [] = zero16) (hd : DistTo ms ((k + 2 : Nat) : Int) ms.length) (h2 : ms.length ≤ 2) : solveL ts ms k = colsOf (findA ts ms k X) (k + 2) := by
  have hA := findA_code h hl hX
  have hln := lost_same hd h2 k
  obtain ⟨tt, htt⟩ : ∃ tt, colsOf (fun i => if inI ms (i : Int) = true then zero16 else findA ts ms k X i) (k + 2) = tt := ⟨_, rfl⟩
  have htl : tt.length = k + 2 := by rw [← htt, colsOf_len]
  have hta : ∀ i, i < k + 2 → tt.getD i [] = if inI ms (i : Int) = true then zero16 else findA ts ms k X i := fun i hi => by rw [← htt, colsOf_at _ _ _ hi]
  have hT : Taken (findA ts ms k X) k ms tt := ⟨htl, hta⟩
  have hsol : solveL tt ms k = colsOf (findA ts ms k X) (k + 2) := by
    rcases ms with _ | ⟨x, _ | ⟨y, _ | ⟨z, r⟩⟩⟩
    · exact erased_none hA hT
    · obtain ⟨a, ha⟩ := Int.eq_ofNat_of_zero_le (hd 0 (by simp)).1
      simp at ha
      subst ha
      exact erased_one hA hk a hT
    · obtain ⟨a, ha⟩ := Int.eq_ofNat_of_zero_le (hd 0 (by simp)).1
      obtain ⟨b, hb⟩ := Int.eq_ofNat_of_zero_le (hd 1 (by simp)).1
      have ha2 := (hd 0 (by simp)).2.1
      have hb2 := (hd 1 (by simp)).2.1
      have hab := (hd 1 (by simp)).2.2
      simp at ha hb hab ha2 hb2
      subst ha hb
      have hne : b ≠ a := fun e => by subst e; simp [inI] at hab
      exact erased_two hA hk a b (by omega) (by omega) hne hT
    · simp at h2
  rw [← hsol]
  have hB : datB ts ms k = datB tt ms k := by
    refine getD_ext (datB_len _ _ _ (by rw [hl]; omega)) (datB_len _ _ _ (by rw [htl]; omega)) (fun i hi => ?_)
    unfold datB
    rw [blankTo_at _ _ _ _ (by rw [List.length_take, hl]; omega), blankTo_at _ _ _ _ (by rw [List.length_take, htl]; omega), List.take_length, take_getD _ _ _ hi, take_getD _ _ _ hi, hta i (by omega)]
    by_cases e : inI ms (i : Int) = true
    · rw [if_pos e, if_pos e]
    · rw [if_neg e, if_neg e, if_neg e, findA_data h hl i hi (Bool.eq_false_iff.2 e)]
  have hP : (lostN ms k).length = 2 ∨ (lostN ms k).length = 1 → offP ts ms k = offP tt ms k := fun hc => by
    unfold offP
    rw [hB, hta k (by omega)]
    by_cases e : inI ms (k : Int) = true
    · rw [if_pos e, hz k (by omega) e]
    · rw [if_neg e, findA_p h hl hX (hc.imp id fun q => ⟨q, Bool.eq_false_iff.2 e⟩)]
  have hQ : (lostN ms k).length = 2 ∨ (lostN ms k).length = 1 ∧ inI ms (k : Int) = true → offQ ts ms k = offQ tt ms k := fun hc => by
    unfold offQ
    rw [hB, hta (k + 1) (by omega)]
    by_cases e : inI ms ((k + 1 : Nat) : Int) = true
    · rw [if_pos e, hz (k + 1) (by omega) e]
    · rw [if_neg e, findA_q h hl hX hc]
  have hS : datS ts ms k (lostL ms k) = datS tt ms k (lostL ms k) := by
    rcases hlo : lostL ms k with _ | ⟨a, _ | ⟨b, _ | ⟨c, r⟩⟩⟩ <;> rw [hlo] at hln
    · exact hB
    · show (datB ts ms k).set _ _ = (datB tt ms k).set _ _
      rw [hB]
      by_cases e : inI ms (k : Int) = true
      · rw [if_pos e, if_pos e, hQ (Or.inr ⟨hln, e⟩)]
      · rw [if_neg e, if_neg e, hP (Or.inr hln)]
    · show ((datB ts ms k).set _ _).set _ _ = ((datB tt ms k).set _ _).set _ _
      rw [hB, hP (Or.inl hln), hQ (Or.inl hln)]
    · exact hB
  unfold solveL
  rw [hS]

/-- column by column -/
theorem full_same {ts : List (List Nat)} {ms : List Int} {k : Nat} {X : Nat → Nat} (h : AreCols ts) (hl : ts.length = k + 2) (hk : k ≤ 6) (hX : ∀ j, j < 16 → foundOK ts ms k j (X j))
    (hz : ∀ i, i < k + 2 → inI ms (i : Int) = true → ts.getD i [] = zero16) (hd : DistTo ms ((k + 2 : Nat) : Int) ms.length) (h2 : ms.length ≤ 2) (i : Nat) (hi : i < k + 2) : fullTo ts ms k X 16 i = (solveL ts ms k).getD i [] := by
  rw [found_solve h hl hk hX hz hd h2, colsOf_at _ _ _ hi]
  exact (if_pos hi).symm

end Go.Proofs.YtdcinlkkjbclmaaDoor
