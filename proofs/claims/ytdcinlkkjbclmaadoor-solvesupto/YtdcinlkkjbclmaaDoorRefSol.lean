/- The contract of platterref.Solve, in the words of platter.Solve's. -/
import Derived.Test.YtdcinlkkjbclmaaDoorRefSolve
import Derived.Test.YtdcinlkkjbclmaaDoorSSame
namespace Go.Proofs.YtdcinlkkjbclmaaDoor
open Go.RowKit

theorem solOK_cols {Ls : List (List Nat)} {ms : List Int} (h : SolOK Ls ms) : AreCols (takenTo Ls ms Ls.length) ∧ (takenTo Ls ms Ls.length).length = (Ls.length - 2) + 2 ∧ Ls.length - 2 ≤ 6 ∧ (∀ i, i < (Ls.length - 2) + 2 → inI ms (i : Int) = true → (takenTo Ls ms Ls.length).getD i [] = zero16) ∧ DistTo ms (((Ls.length - 2) + 2 : Nat) : Int) ms.length := by
  obtain ⟨h4, h8, hd, hs⟩ := h
  have e : Ls.length - 2 + 2 = Ls.length := by omega
  rw [e]
  refine ⟨takenTo_cols Ls ms Ls.length (fun i _ hi2 hi3 => hs i hi2 hi3), takenTo_len _ _ _, by omega, fun i hi hin => ?_, hd⟩
  rw [takenTo_at _ _ _ _ hi, if_neg (fun hh => by rw [hin] at hh; exact absurd hh.2 (by decide))]

theorem ref_sol_any (v m : Value) (Ls : List (List Nat)) (ms : List Int) (w : World) (hv : SlL w v Ls) (hm : SlI w m ms) (hll : Ls.length ≤ 1000000000) (hml : ms.length ≤ 1000000000) (hcap : ∀ p n c, m = .slice p n c → n ≤ c)
    (hby : ∀ i, i < Ls.length → ∀ x ∈ Ls.getD i [], x < 256) :
    Calls Tryd.prog 14 #[v, m] w fun e w' => Below w.heap.size w w' ∧
      ((¬ SolOK Ls ms ∧ e = .returned (.tuple #[.slice none 0 0, .int .i64 1])) ∨
       (SolOK Ls ms ∧ 2 < ms.length ∧ e = .returned (.tuple #[.slice none 0 0, .int .i64 5])) ∨
       (SolOK Ls ms ∧ ms.length ≤ 2 ∧ ∃ v' G C, e = .returned (.tuple #[v', .int .i64 0]) ∧ ListR w' w.heap.size v' Ls.length G C (fun i => (solveL (takenTo Ls ms Ls.length) ms (Ls.length - 2)).getD i []) ∧ (∀ i, i < Ls.length → w.heap.size ≤ G i))) := by
  refine (ref_solve_any v m Ls ms w hv hm hll hml hcap hby (fun hs h2 at' hat => ?_)).mono ?_
  · obtain ⟨h1, h3, h4, _, _⟩ := solOK_cols hs
    exact exist_found h1 h3 h4 (lostN_two h2 _) at' hat
  · rintro e w' ⟨hb, h | h | ⟨hs, h2, v', G, C, X, he, hl, hX, hG⟩⟩
    · exact ⟨hb, .inl h⟩
    · exact ⟨hb, .inr (.inl h)⟩
    · obtain ⟨h1, h3, h4, h5, h6⟩ := solOK_cols hs
      refine ⟨hb, .inr (.inr ⟨hs, h2, v', G, C, he, hl.congr (fun i hi => ?_), hG⟩)⟩
      exact full_same h1 h3 h4 hX h5 h6 h2 i (by have := hs.1; omega)

end Go.Proofs.YtdcinlkkjbclmaaDoor
