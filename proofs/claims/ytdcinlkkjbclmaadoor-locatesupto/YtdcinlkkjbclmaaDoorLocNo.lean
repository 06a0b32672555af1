/- What platter.Locate refuses. -/
import Derived.Test.YtdcinlkkjbclmaaDoorRefPar
import Derived.Test.YtdcinlkkjbclmaaDoorLoc
namespace Go.Proofs.YtdcinlkkjbclmaaDoor
open Go.RowKit

/-- columns that are right by number and lengths -/
def LocOK (Ls : List (List Nat)) : Prop := 4 ≤ Ls.length ∧ Ls.length ≤ 8 ∧ AreCols Ls

set_option maxHeartbeats 1000000 in
theorem loc_no (v : Value) (Ls : List (List Nat)) (w : World) (hv : SlL w v Ls) (hno : ¬ LocOK Ls)
    (hby : ∀ i, i < Ls.length → ∀ x ∈ Ls.getD i [], x < 256) (hbd : ∀ i, i < Ls.length → (Ls.getD i []).length ≤ 140737488355328) :
    Calls Tryd.prog 16 #[v] w fun e w' => e = .returned (.tuple #[.int .i64 0, .int .i64 0, .slice none 0 0, .int .i64 1]) ∧ Below w.heap.size w w' := by
  obtain ⟨a, cap, hve, hd⟩ := id hv
  subst hve
  have HV := hide hv
  clear hd hv
  go_enter Tryd.func16, Tryd.ntmps16
  go_wp2_with fail
  refine (between_any _ _ _ _).mono ?_
  rintro e w1 ⟨rfl, rfl⟩
  by_cases hbt : 4 ≤ Ls.length ∧ Ls.length ≤ 8
  · have hbv : btw (Ls.length : Int) 4 8 = true := by simp [btw]; omega
    obtain ⟨h2, h6⟩ := hbt
    rw [hbv]
    go_wp2_with fail
    refine (take_any _ _ Ls [] _ (unhide HV) ⟨none, 0, rfl, .inl rfl⟩ (by omega) (by omega) (by simp) hby hbd).mono ?_
    rintro e w2 ⟨hb2, hh⟩
    rcases hh with ⟨g, rfl, hg, hcols, hsz⟩ | ⟨rfl, _⟩
    · exact absurd ⟨h2, h6, sized_cols.1 hsz⟩ hno
    · have HB := hide hb2
      clear hb2 hno
      go_wp2
      refine bodyPost_ret (results_tmp4 rfl _ _ _) rfl ?_
      exact ⟨rfl, unhide HB⟩
  · have hbv : btw (Ls.length : Int) 4 8 = false := by simp [btw]; omega
    rw [hbv]
    clear hbt hno
    go_wp2
    refine bodyPost_ret (results_tmp4 rfl _ _ _) rfl ?_
    exact ⟨rfl, Below.refl _ _⟩

end Go.Proofs.YtdcinlkkjbclmaaDoor
