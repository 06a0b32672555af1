/- The plain mathematics of Told: by what the parities are off where columns are wrong. -/
import Derived.Test.YtdcinlkkjbclmabDoorCode
import Derived.Test.YtdcinlkkjbclmabDoorLocate
namespace Go.Proofs.YtdcinlkkjbclmabDoor

def deltaL (k d : Nat) : List Nat := zero16.set k d
theorem delta_col (k d : Nat) (hd : d < 256) : IsCol (deltaL k d) := by
  refine ⟨by simp [deltaL, zero16], fun y hy => ?_⟩
  rcases List.mem_or_eq_of_mem_set hy with h1 | h1
  · exact zero_col.byte y h1
  · omega
theorem delta_at (k d i : Nat) (hk : k < 16) : (deltaL k d).getD i 0 = if i = k then d else 0 := by
  unfold deltaL
  by_cases e : i = k
  · subst e; rw [if_pos rfl]; simp [zero16, hk]
  · rw [if_neg e]
    have h := zero16_at i
    rw [List.getD_eq_getElem?_getD] at h ⊢
    rw [List.getElem?_set_ne (fun q => e q.symm)]
    exact h
theorem delta_ne (k d : Nat) (hk : k < 16) (hd : d ≠ 0) : deltaL k d ≠ zero16 := fun h => by
  have h1 := delta_at k d k hk
  rw [h, zero16_at, if_pos rfl] at h1
  exact hd h1.symm
theorem set_delta {a : List Nat} (ha : a.length = 16) (k d : Nat) (hk : k < 16) : a.set k (a.getD k 0 ^^^ d) = xorL a (deltaL k d) := by
  have ld : (deltaL k d).length = 16 := by simp [deltaL, zero16]
  refine list16 (by rw [List.length_set, ha]) (xorL_len ha ld) (fun i hi => ?_)
  rw [xorL_at ha ld i hi, delta_at k d i hk]
  by_cases e : i = k
  · subst e; rw [if_pos rfl]; simp [ha, hk]
  · rw [if_neg e, Nat.xor_zero, List.getD_eq_getElem?_getD, List.getElem?_set_ne (fun q => e q.symm), ← List.getD_eq_getElem?_getD]

theorem pow_all : ((List.range 256).all fun y => decide (y = 0) || ((List.range 6).all fun x => decide (gmul y (powN x) ≠ 0) && ((List.range 6).all fun c => decide (gmul y (powN c) = gmul y (powN x) → c = x)))) = true := by decide +kernel
theorem pow_at (y : Nat) (hy : y < 256) (h0 : y ≠ 0) : ∀ x, x < 6 → gmul y (powN x) ≠ 0 ∧ ∀ c, c < 6 → gmul y (powN c) = gmul y (powN x) → c = x := by
  have h := pow_all
  simp only [List.all_eq_true, List.mem_range, Bool.and_eq_true, decide_eq_true_eq, Bool.or_eq_true] at h
  rcases h y hy with h1 | h1
  · exact absurd h1 h0
  · exact h1
theorem mul_delta_ne (k d x : Nat) (hk : k < 16) (hd0 : d ≠ 0) (hd : d < 256) (hx : x < 6) : mulL (deltaL k d) (powN x) ≠ zero16 := fun h => by
  have h1 := mulL_at (delta_col k d hd).len (powN x) k hk
  rw [h, zero16_at, delta_at k d k hk, if_pos rfl] at h1
  exact (pow_at d hd hd0 x hx).1 h1.symm
theorem mul_delta_inj (k d x c : Nat) (hk : k < 16) (hd0 : d ≠ 0) (hd : d < 256) (hx : x < 6) (hc : c < 6) (h : mulL (deltaL k d) (powN c) = mulL (deltaL k d) (powN x)) : c = x := by
  have h1 := mulL_at (delta_col k d hd).len (powN x) k hk
  have h2 := mulL_at (delta_col k d hd).len (powN c) k hk
  rw [h, h1, delta_at k d k hk, if_pos rfl] at h2
  exact (pow_at d hd hd0 x hx).2 c hc h2.symm

/-- one wrong column -/
def errL (x k d i : Nat) : List Nat := loneL (fun _ => deltaL k d) x i
theorem err_col (x k d i : Nat) (hd : d < 256) : IsCol (errL x k d i) := by
  unfold errL loneL
  split
  · exact delta_col k d hd
  · exact zero_col
def sP (N x k d : Nat) : List Nat := if x ≤ N then deltaL k d else zero16
def sQ (N x k d : Nat) : List Nat := if x < N then mulL (deltaL k d) (powN x) else if x = N then zero16 else deltaL k d
theorem err_par (N x k d : Nat) (hd : d < 256) (hx : x < N + 2) :
    xorL (parP (colsOf (errL x k d) (N + 2)) N) (errL x k d N) = sP N x k d ∧ xorL (parQ (colsOf (errL x k d) (N + 2)) N) (errL x k d (N + 1)) = sQ N x k d := by
  obtain ⟨h1, h2⟩ := par_lone (A := fun _ => deltaL k d) (n := N + 2) (x := x) (delta_col k d hd) N (by omega)
  have e : errL x k d = loneL (fun _ => deltaL k d) x := rfl
  rw [e, h1, h2]
  have ld := (delta_col k d hd).len
  unfold loneL sP sQ
  rcases Nat.lt_trichotomy x N with h | h | h
  · simp only [h, if_true, Nat.le_of_lt h, show ¬ N = x from by omega, show ¬ N + 1 = x from by omega, if_false]
    exact ⟨xorL_zero' ld, xorL_zero' (mulL_col (delta_col k d hd) _).len⟩
  · subst h
    simp only [Nat.lt_irrefl, if_true, if_false, Nat.le_refl, show ¬ x + 1 = x from by omega]
    exact ⟨xorL_zero ld, xorL_zero (by rfl)⟩
  · have hx1 : x = N + 1 := by omega
    subst hx1
    simp only [show ¬ N + 1 < N from by omega, show ¬ N = N + 1 from by omega, show ¬ N + 1 ≤ N from by omega, show ¬ N + 1 = N from by omega, if_true, if_false]
    exact ⟨xorL_zero (by rfl), xorL_zero ld⟩

theorem loc_clean {A : Nat → List Nat} {N : Nat} (hA : Code A N) {v a : Int} {val : List Nat} (h : LocR (colsOf A (N + 2)) N v a val) : v = 0 := by
  have h1 : xorL (parP (colsOf A (N + 2)) N) ((colsOf A (N + 2)).getD N []) = zero16 := by
    rw [(par_less A (N + 2) N (by omega)).1, ← hA.p, colsOf_at _ _ _ (by omega), xorL_self (hA.col N).len]
  have h2 : xorL (parQ (colsOf A (N + 2)) N) ((colsOf A (N + 2)).getD (N + 1) []) = zero16 := by
    rw [(par_less A (N + 2) N (by omega)).2, ← hA.q, colsOf_at _ _ _ (by omega), xorL_self (hA.col (N + 1)).len]
  unfold LocR at h
  rw [h1, h2] at h
  rcases h with h | h | h | h | h
  · exact h.2.2.1
  · exact absurd rfl h.1
  · exact absurd rfl h.1
  · exact absurd rfl h.1
  · exact absurd rfl h.1

theorem loc_one {A : Nat → List Nat} {N : Nat} (hA : Code A N) (hN : N ≤ 6) (x k d : Nat) (hx : x < N + 2) (hk : k < 16) (hd0 : d ≠ 0) (hd : d < 256) {v a : Int} {val : List Nat}
    (h : LocR (colsOf (fun i => xorL (A i) (errL x k d i)) (N + 2)) N v a val) : v = 1 ∧ a = (x : Int) ∧ val = A x := by
  obtain ⟨p1, q1, o1, o2⟩ := off_err hA (fun i => err_col x k d i hd)
  obtain ⟨s1, s2⟩ := err_par N x k d hd hx
  obtain ⟨l1, l2⟩ := par_lone (A := fun _ => deltaL k d) (n := N + 2) (x := x) (delta_col k d hd) N (by omega)
  have e : errL x k d = loneL (fun _ => deltaL k d) x := rfl
  rw [← e] at l1 l2
  rw [s1] at o1
  rw [s2] at o2
  rw [l1] at p1
  rw [l2] at q1
  unfold LocR at h
  rw [o1, o2, p1, q1] at h
  have ld := (delta_col k d hd).len
  have dn := delta_ne k d hk hd0
  unfold sP sQ at h
  rcases Nat.lt_trichotomy x N with hlt | heq | hgt
  · rw [if_pos (by omega), if_pos hlt, if_pos hlt, if_pos hlt] at h
    have mn := mul_delta_ne k d x hk hd0 hd (by omega)
    rcases h with h | h | h | h | h
    · exact absurd h.1 dn
    · exact absurd h.2.1 mn
    · exact absurd h.2.1 dn
    · obtain ⟨_, _, c, hc, _, he, h1, h2, h3⟩ := h
      have := mul_delta_inj k d x c hk hd0 hd (by omega) (by omega) he
      subst this
      refine ⟨h1, h2, ?_⟩
      rw [h3, colsOf_at _ _ _ (by omega)]
      simp only [errL, loneL, if_true]
      exact xorL_back (hA.col c).len ld
    · exact absurd rfl (h.2.2.1 x hlt)
  · subst heq
    rw [if_pos (by omega), if_neg (by omega), if_pos rfl, if_neg (by omega), if_neg (by omega)] at h
    rcases h with h | h | h | h | h
    · exact absurd h.1 dn
    · exact ⟨h.2.2.1, h.2.2.2.1, by rw [h.2.2.2.2]; exact xorL_zero' (hA.col x).len⟩
    · exact absurd rfl h.1
    · exact absurd rfl h.2.1
    · exact absurd rfl h.2.1
  · rw [if_neg (by omega), if_neg (by omega), if_neg (by omega), if_neg (by omega), if_neg (by omega)] at h
    have hx1 : x = N + 1 := by omega
    rcases h with h | h | h | h | h
    · exact absurd h.2.1 dn
    · exact absurd rfl h.1
    · refine ⟨h.2.2.1, by rw [h.2.2.2.1]; omega, ?_⟩
      rw [h.2.2.2.2, hx1]; exact xorL_zero' (hA.col (N + 1)).len
    · exact absurd rfl h.1
    · exact absurd rfl h.1

theorem loc_two {A : Nat → List Nat} {N : Nat} (hA : Code A N) (hN : N ≤ 6) (x k d y j c : Nat) (hx : x < N + 2) (hk : k < 16) (hd0 : d ≠ 0) (hd : d < 256) (hy : y < N + 2) (hj : j < 16) (hc0 : c ≠ 0) (hc : c < 256) (hxy : x ≠ y) {v a : Int} {val : List Nat}
    (h : LocR (colsOf (fun i => xorL (xorL (A i) (errL x k d i)) (errL y j c i)) (N + 2)) N v a val) : v ≠ 0 := by
  have he : (fun i => xorL (xorL (A i) (errL x k d i)) (errL y j c i)) = (fun i => xorL (A i) (xorL (errL x k d i) (errL y j c i))) := by
    funext i
    exact xorL_assoc (hA.col i).len (err_col x k d i hd).len (err_col y j c i hc).len
  rw [he] at h
  obtain ⟨_, _, o1, o2⟩ := off_err hA (e := fun i => xorL (errL x k d i) (errL y j c i)) (fun i => xorL_col (err_col x k d i hd) (err_col y j c i hc))
  obtain ⟨a1, a2⟩ := par_add (A := errL x k d) (Bb := errL y j c) (n := N + 2) (fun i _ => err_col x k d i hd) (fun i _ => err_col y j c i hc) N (by omega)
  have cx := colsOf_cols (L := errL x k d) (n := N + 2) (fun i _ => err_col x k d i hd)
  have cy := colsOf_cols (L := errL y j c) (n := N + 2) (fun i _ => err_col y j c i hc)
  have pxl := (parP_col cx N (by rw [colsOf_len]; omega)).len
  have pyl := (parP_col cy N (by rw [colsOf_len]; omega)).len
  have qxl := (parQ_col cx N (by rw [colsOf_len]; omega)).len
  have qyl := (parQ_col cy N (by rw [colsOf_len]; omega)).len
  obtain ⟨s1, s2⟩ := err_par N x k d hd hx
  obtain ⟨t1, t2⟩ := err_par N y j c hc hy
  rw [a1, xorL_swap pxl pyl (err_col x k d N hd).len (err_col y j c N hc).len, s1, t1] at o1
  rw [a2, xorL_swap qxl qyl (err_col x k d (N + 1) hd).len (err_col y j c (N + 1) hc).len, s2, t2] at o2
  have lP : ∀ x k d, d < 256 → (sP N x k d).length = 16 := fun x k d hd => by
    unfold sP; split
    · exact (delta_col k d hd).len
    · rfl
  have lQ : ∀ x k d, d < 256 → (sQ N x k d).length = 16 := fun x k d hd => by
    unfold sQ; split
    · exact (mulL_col (delta_col k d hd) _).len
    · split
      · rfl
      · exact (delta_col k d hd).len
  intro hv
  unfold LocR at h
  rw [o1, o2] at h
  have hz : xorL (sP N x k d) (sP N y j c) = zero16 ∧ xorL (sQ N x k d) (sQ N y j c) = zero16 := by
    rcases h with h | h | h | h | h
    · exact ⟨h.1, h.2.1⟩
    · exact absurd (hv.symm.trans h.2.2.1) (by omega)
    · exact absurd (hv.symm.trans h.2.2.1) (by omega)
    · obtain ⟨_, _, _, _, _, _, h1, _⟩ := h
      exact absurd (hv.symm.trans h1) (by omega)
    · exact absurd (hv.symm.trans h.2.2.2.1) (by omega)
  have eP := xorL_eq_zero (lP x k d hd) (lP y j c hc) hz.1
  have eQ := xorL_eq_zero (lQ x k d hd) (lQ y j c hc) hz.2
  have dn := delta_ne k d hk hd0
  have cn := delta_ne j c hj hc0
  unfold sP at eP
  unfold sQ at eQ
  by_cases x1 : x ≤ N
  · rw [if_pos x1] at eP
    by_cases y1 : y ≤ N
    · rw [if_pos y1] at eP
      rw [← eP] at eQ
      by_cases x2 : x < N
      · rw [if_pos x2] at eQ
        by_cases y2 : y < N
        · rw [if_pos y2] at eQ
          exact hxy (mul_delta_inj k d y x hk hd0 hd (by omega) (by omega) eQ)
        · rw [if_neg y2, if_pos (by omega)] at eQ
          exact mul_delta_ne k d x hk hd0 hd (by omega) eQ
      · rw [if_neg x2, if_pos (by omega), if_pos (by omega)] at eQ
        exact mul_delta_ne k d y hk hd0 hd (by omega) eQ.symm
    · rw [if_neg y1] at eP
      exact dn eP
  · rw [if_neg x1, if_pos (by omega)] at eP
    exact cn eP.symm

end Go.Proofs.YtdcinlkkjbclmabDoor
