/- Of at most two lost data bytes: those that the reference looks for are there. -/
import Derived.Test.YtdcinlkkjbclmaaDoorRefFull
import Derived.Test.YtdcinlkkjbclmaaDoorEMath
namespace Go.Proofs.YtdcinlkkjbclmaaDoor
open Go.RowKit

theorem xor_back (s q : Nat) : s ^^^ (s ^^^ q) = q := by rw [← Nat.xor_assoc, Nat.xor_self, Nat.zero_xor]
theorem sum_set (D : List Nat) (a x : Nat) (ha : a < D.length) (n : Nat) : sumP (D.set a x) n = sumP (D.set a 0) n ^^^ (if a < n then x else 0) ∧ sumQ (D.set a x) n = sumQ (D.set a 0) n ^^^ (if a < n then gmul x (powN a) else 0) := by
  induction n with
  | zero => exact ⟨by simp [sumP], by simp [sumQ]⟩
  | succ n ih =>
    obtain ⟨i1, i2⟩ := ih
    simp only [sumP, sumQ]
    rw [i1, i2, nat_set _ _ _ _ ha, nat_set _ _ _ _ ha]
    by_cases e : n = a
    · subst e
      simp [gmul_zero]
    · rw [if_neg e, if_neg e]
      by_cases h : a < n
      · have h' : a < n + 1 := by omega
        simp only [h, h', if_true]
        exact ⟨by ac_rfl, by ac_rfl⟩
      · have h' : ¬ a < n + 1 := by omega
        simp [h, h']

theorem back_all : ((List.range 256).all fun c => (List.range 6).all fun x => decide (gmul (gmul c (ginv (powN x))) (powN x) = c) && ((List.range 6).all fun z => decide (z = x) || decide (gmul (gmul c (ginv (powN x ^^^ powN z))) (powN x) ^^^ gmul (gmul c (ginv (powN x ^^^ powN z))) (powN z) = c))) = true := by decide +kernel
theorem back_at (c : Nat) (hc : c < 256) (x : Nat) (hx : x < 6) : gmul (gmul c (ginv (powN x))) (powN x) = c ∧ ∀ z, z < 6 → z ≠ x → gmul (gmul c (ginv (powN x ^^^ powN z))) (powN x) ^^^ gmul (gmul c (ginv (powN x ^^^ powN z))) (powN z) = c := by
  have h := back_all
  rw [List.all_eq_true] at h
  have h1 := h c (List.mem_range.2 hc)
  rw [List.all_eq_true] at h1
  have h2 := h1 x (List.mem_range.2 hx)
  rw [Bool.and_eq_true, List.all_eq_true] at h2
  refine ⟨of_decide_eq_true h2.1, fun z hz hne => ?_⟩
  have h3 := h2.2 z (List.mem_range.2 hz)
  rw [Bool.or_eq_true] at h3
  rcases h3 with h4 | h4
  · exact absurd (of_decide_eq_true h4) hne
  · exact of_decide_eq_true h4

theorem exist_found {ts : List (List Nat)} {ms : List Int} {k : Nat} (h : AreCols ts) (hl : ts.length = k + 2) (hk : k ≤ 6) (h2 : (lostN ms k).length ≤ 2) (at' : Nat) (h16 : at' < 16) : ∃ x, foundOK ts ms k at' x := by
  have hDb := place_take_lt h hl at'
  have hP := (h.col k (by omega)).at at' h16
  have hQ := (h.col (k + 1) (by omega)).at at' h16
  have hDl : ((placeL ts at' (k + 2)).take k).length = k := by rw [List.length_take, placeL_len]; omega
  have hm : ∀ a ∈ lostN ms k, a < k := fun a ha => (lostN_lt ha).1
  have hs := lostN_sorted ms k
  unfold foundOK
  generalize (placeL ts at' (k + 2)).take k = D at *
  generalize (ts.getD k []).getD at' 0 = P at *
  generalize (ts.getD (k + 1) []).getD at' 0 = Q at *
  generalize lostN ms k = lo at *
  have one : ∀ (E : List Nat) (a y : Nat), (∀ j, E.getD j 0 < 256) → a < E.length → y < 256 → ∀ j, (E.set a y).getD j 0 < 256 := fun E a y hE ha hy j => by
    rw [nat_set _ _ _ _ ha]
    split
    · exact hy
    · exact hE j
  rcases lo with _ | ⟨a, _ | ⟨b, _ | ⟨c, r⟩⟩⟩
  · exact ⟨0, by omega, rfl⟩
  · have ha := hm a (by simp)
    have hx := Nat.xor_lt_two_pow (n := 8) (sumP_lt _ (one D a 0 hDb (by omega) (by omega)) k) hP
    cases inI ms (k : Int)
    · refine ⟨sumP (D.set a 0) k ^^^ P, hx, ?_⟩
      show decide (sumP (D.set a _) k = P) = true
      rw [(sum_set D a _ (by omega) k).1, if_pos ha, xor_back]
      simp
    · refine ⟨gmul (sumQ (D.set a 0) k ^^^ Q) (ginv (powN a)), gmul_lt _ _, ?_⟩
      show decide (sumQ (D.set a _) k = Q) = true
      rw [(sum_set D a _ (by omega) k).2, if_pos ha, (back_at _ (Nat.xor_lt_two_pow (n := 8) (sumQ_lt _ k) hQ) a (by omega)).1, xor_back]
      simp
  · have ha := hm a (by simp)
    have hb := hm b (by simp)
    simp only [List.pairwise_cons, List.mem_cons] at hs
    have hab := hs.1 b (Or.inl rfl)
    obtain ⟨p0, hp0⟩ : ∃ p0, sumP ((D.set b 0).set a 0) k = p0 := ⟨_, rfl⟩
    obtain ⟨q0, hq0⟩ : ∃ q0, sumQ ((D.set b 0).set a 0) k = q0 := ⟨_, rfl⟩
    have hq0l : q0 < 256 := by rw [← hq0]; exact sumQ_lt _ _
    obtain ⟨c, hc⟩ : ∃ c, q0 ^^^ (gmul p0 (powN b) ^^^ gmul P (powN b)) ^^^ Q = c := ⟨_, rfl⟩
    have hcl : c < 256 := by
      rw [← hc]
      exact Nat.xor_lt_two_pow (n := 8) (Nat.xor_lt_two_pow (n := 8) hq0l (Nat.xor_lt_two_pow (n := 8) (gmul_lt _ _) (gmul_lt _ _))) hQ
    have hbk := (back_at c hcl a (by omega)).2 b (by omega) (by omega)
    refine ⟨gmul c (ginv (powN a ^^^ powN b)), gmul_lt _ _, ?_⟩
    generalize gmul c (ginv (powN a ^^^ powN b)) = x at *
    show decide (sumQ ((D.set a x).set b (sumP ((D.set a x).set b 0) k ^^^ P)) k = Q) = true
    rw [(sum_set (D.set a x) b _ (by rw [List.length_set]; omega) k).2, if_pos hb, List.set_comm x 0 (show a ≠ b by omega)]
    have e1 := sum_set (D.set b 0) a x (by rw [List.length_set]; omega) k
    rw [if_pos ha, if_pos ha, hp0, hq0] at e1
    rw [e1.1, e1.2, gmul_xor, gmul_xor]
    have e2 : q0 ^^^ gmul x (powN a) ^^^ (gmul p0 (powN b) ^^^ gmul x (powN b) ^^^ gmul P (powN b)) = (q0 ^^^ (gmul p0 (powN b) ^^^ gmul P (powN b))) ^^^ (gmul x (powN a) ^^^ gmul x (powN b)) := by ac_rfl
    rw [e2, hbk, ← hc, xor_back]
    simp
  · simp at h2

end Go.Proofs.YtdcinlkkjbclmaaDoor
