/- What platter.Parity refuses. -/
import Derived.Test.YtdcinlkkjbclmaaDoorRefPar
namespace Go.Proofs.YtdcinlkkjbclmaaDoor
open Go.RowKit

set_option maxHeartbeats 1000000 in
theorem par_no (v : Value) (Ls : List (List Nat)) (w : World) (hv : SlL w v Ls) (hno : ¬ ParOK Ls)
    (hby : ∀ i, i < Ls.length → ∀ x ∈ Ls.getD i [], x < 256) (hbd : ∀ i, i < Ls.length → (Ls.getD i []).length ≤ 140737488355328) :
    Calls Tryd.prog 8 #[v] w fun e w' => e = .returned (.tuple #[.slice none 0 0, .slice none 0 0, .int .i64 1]) ∧ Below w.heap.size w w' := by
  obtain ⟨a, cap, hve, hd⟩ := id hv
  subst hve
  have HV := hide hv
  clear hd hv
  go_enter Tryd.func8, Tryd.ntmps8
  go_wp2_with fail
  refine (between_any _ _ _ _).mono ?_
  rintro e w1 ⟨rfl, rfl⟩
  by_cases hbt : 2 ≤ Ls.length ∧ Ls.length ≤ 6
  · have hbv : btw (Ls.length : Int) 2 6 = true := by simp [btw]; omega
    obtain ⟨h2, h6⟩ := hbt
    rw [hbv]
    go_wp2_with fail
    refine (take_any _ _ Ls [] _ (unhide HV) ⟨none, 0, rfl, .inl rfl⟩ (by omega) (by omega) (by simp) hby hbd).mono ?_
    rintro e w2 ⟨hb2, hh⟩
    rcases hh with ⟨g, rfl, hg, hcols, hsz⟩ | ⟨rfl, _⟩
    · exact absurd ⟨h2, h6, sized_cols.1 hsz⟩ hno
    · have HB := hide hb2
      clear hb2 hno
      go_wp2
      refine bodyPost_ret (results_tmp3 rfl _ _ _) rfl ?_
      exact ⟨rfl, unhide HB⟩
  · have hbv : btw (Ls.length : Int) 2 6 = false := by simp [btw]; omega
    rw [hbv]
    clear hbt hno
    go_wp2
    refine bodyPost_ret (results_tmp3 rfl _ _ _) rfl ?_
    exact ⟨rfl, Below.refl _ _⟩

end Go.Proofs.YtdcinlkkjbclmaaDoor
