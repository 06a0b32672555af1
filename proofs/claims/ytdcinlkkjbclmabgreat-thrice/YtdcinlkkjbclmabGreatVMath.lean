/- What the calls of Thrice come to, in plain lists. -/
import Derived.Test.YtdcinlkkjbclmabGreatVOpen
namespace Go.Proofs.YtdcinlkkjbclmabGreat
open Go.RowKit

theorem gave_one (A : VA) (kind : Int) (d : Nat) (s : Int) (v : Value) (h : A.stand.getD d 0 ≠ 1) : gaveA A kind d s v = { A with wait := A.wait ++ [⟨0, kind, (d : Int), s, v⟩] } := by
  unfold gaveA
  rw [if_neg (by simpa using h)]
theorem safe_all (L : List Nat) : ∀ (A : VA), (∀ d ∈ L, A.stand.getD d 0 ≠ 1) → safeA A L = { A with wait := A.wait ++ L.map (fun d => ⟨0, 3, (d : Int), 0, .slice none 0 0⟩) } := by
  induction L with
  | nil => intro A _; simp [safeA]
  | cons d r ih =>
    intro A h
    have h1 : safeA A (d :: r) = safeA (gaveA A 3 d 0 (.slice none 0 0)) r := rfl
    rw [h1, gave_one _ _ _ _ _ (h d (by simp))]
    refine (ih _ (fun e he => ?_)).trans ?_
    · exact h e (by simp [he])
    · simp
theorem label_all (L : List (Nat × Value)) : ∀ (A : VA), (∀ p ∈ L, A.stand.getD p.1 0 ≠ 1) → labelA A L = { A with wait := A.wait ++ L.map (fun p => ⟨0, 2, (p.1 : Int), 0, p.2⟩) } := by
  induction L with
  | nil => intro A _; simp [labelA]
  | cons d r ih =>
    intro A h
    have h1 : labelA A (d :: r) = labelA (gaveA A 2 d.1 0 d.2) r := rfl
    rw [h1, gave_one _ _ _ _ _ (h d (by simp))]
    refine (ih _ (fun e he => ?_)).trans ?_
    · exact h e (by simp [he])
    · simp
theorem stripe_all (s : Int) (L : List Nat) : ∀ (A : VA), (∀ d ∈ L, A.stand.getD d 0 ≠ 1) → stripeRead A s L = { A with wait := A.wait ++ L.flatMap (fun d => [⟨0, 1, (d : Int), 17 + 2 * s, .slice none 0 0⟩, ⟨0, 1, (d : Int), 17 + 2 * s + 1, .slice none 0 0⟩]) } := by
  induction L with
  | nil => intro A _; simp [stripeRead]
  | cons d r ih =>
    intro A h
    have h1 : stripeRead A s (d :: r) = stripeRead (colRead A s d) s r := rfl
    have h2 := h d (by simp)
    rw [h1, colRead, gave_one _ _ _ _ _ h2, gave_one]
    · refine (ih _ (fun e he => ?_)).trans ?_
      · exact h e (by simp [he])
      · simp
    · exact h2
/-- labels are read of the first k disks -/
def looked (A : VA) (k : Nat) : VA := (List.range k).foldl (fun A d => gaveA A 1 d 0 (.slice none 0 0)) A
theorem looked_succ (A : VA) (k : Nat) : looked A (k + 1) = gaveA (looked A k) 1 k 0 (.slice none 0 0) := by unfold looked; rw [List.range_succ, List.foldl_append]; rfl
theorem looked_facts (A : VA) (k : Nat) : (looked A k).stand = A.stand ∧ (looked A k).wait.length ≤ A.wait.length + k := by
  induction k with
  | zero => exact ⟨rfl, Nat.le_refl _⟩
  | succ k ih =>
    rw [looked_succ]
    have h3 := gaveA_wait (looked A k) 1 k 0 (.slice none 0 0)
    exact ⟨(gaveA_stand _ _ _ _ _).trans ih.1, by omega⟩
theorem looked_all (A : VA) (k : Nat) (h : ∀ d, d < k → A.stand.getD d 0 ≠ 1) : looked A k = { A with wait := A.wait ++ (List.range k).map (fun d => ⟨0, 1, (d : Int), 0, .slice none 0 0⟩) } := by
  induction k with
  | zero => simp [looked]
  | succ k ih =>
    rw [looked_succ, ih (fun d hd => h d (by omega)), gave_one, List.range_succ]
    · simp
    · exact h k (by omega)
/-- commands are numbered behind k -/
def numb : Nat → List Cmd → List Cmd
  | _, [] => []
  | k, c :: r => { c with id := ((k : Int) + 1) } :: numb (k + 1) r
theorem numb_len (k : Nat) (l : List Cmd) : (numb k l).length = l.length := by
  induction l generalizing k with
  | nil => rfl
  | cons c r ih => simp [numb, ih]
theorem numb_snoc (k : Nat) (l : List Cmd) (c : Cmd) : numb k (l ++ [c]) = numb k l ++ [{ c with id := ((k + l.length : Nat) : Int) + 1 }] := by
  induction l generalizing k with
  | nil => simp [numb]
  | cons d r ih => simp only [List.cons_append, numb, ih, List.length_cons]; congr 4; omega
theorem numb_id (k : Nat) (l : List Cmd) (c : Cmd) (h : c ∈ numb k l) : (k : Int) < c.id ∧ c.id ≤ (k : Int) + l.length := by
  induction l generalizing k with
  | nil => simp [numb] at h
  | cons d r ih =>
    simp only [numb, List.mem_cons] at h
    rcases h with rfl | h
    · simp only [List.length_cons]; omega
    · have := ih (k + 1) h
      simp only [List.length_cons]; omega
def noData (c : Cmd) : Cmd := { c with data := .slice none 0 0 }

/-- a disk is lost: what waits for it is forgotten; if too many are, all ends -/
def failed (x : List Value) : List Value := [x.getD 0 undef, .int .i64 3, .slice none 0 0, .int .i64 0, .int .i64 0]
def lostA (A : VA) (d : Nat) : VA := { A with stand := A.stand.set d 1, wait := A.wait.filter (fun c => c.disk != (d : Int)) }
def endA (A : VA) : VA := { A with state := 2, at' := .nilIface, wait := [], reqs := [], ress := A.ress ++ A.reqs.map failed }
def failA (A : VA) : VA := if (A.stand.length : Int) - 2 ≤ ((cur A.stand).length : Int) then A else endA A

end Go.Proofs.YtdcinlkkjbclmabGreat
