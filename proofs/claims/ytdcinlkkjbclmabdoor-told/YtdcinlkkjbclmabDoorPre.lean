/- Laws that stripe.Locate and stripe.Solve share. -/
import Derived.Test.YtdcinlkkjbclmabDoorPar
namespace Go.Proofs.YtdcinlkkjbclmabDoor
open Go.RowKit

theorem take_getD (cs : List (List Nat)) (k i : Nat) (h : i < k) : (cs.take k).getD i [] = cs.getD i [] := by
  simp [List.getD_eq_getElem?_getD, h]
theorem parP_take (cs : List (List Nat)) (k j : Nat) (h : j ≤ k) : parP (cs.take k) j = parP cs j ∧ parQ (cs.take k) j = parQ cs j := by
  induction j with
  | zero => exact ⟨rfl, rfl⟩
  | succ j ih =>
    obtain ⟨i1, i2⟩ := ih (by omega)
    simp only [parP, parQ]
    rw [i1, i2, take_getD _ _ _ (by omega)]
    exact ⟨rfl, rfl⟩

/-- two new variables of a column's type, filled -/
theorem two_fill {w3 W : World} {x y : List Nat} {g g' : Nat} (hx : IsCol x) (hy : IsCol y) (h : RowAt W g zero16) (h' : RowAt W g' zero16) (hne : g ≠ g') (hg : w3.heap.size ≤ g) (hg' : w3.heap.size ≤ g') (hS : Below w3.heap.size w3 W) :
    W.there g 0 (colA x).size ∧ (W.setCells g 0 (colA x).toList).there g' 0 (colA y).size ∧ Below w3.heap.size w3 (W.setCells g 0 (colA x).toList) ∧
    (w3.heap.size ≤ g ∧ w3.heap.size ≤ g' ∧ g ≠ g' ∧ RowAt ((W.setCells g 0 (colA x).toList).setCells g' 0 (colA y).toList) g x ∧ RowAt ((W.setCells g 0 (colA x).toList).setCells g' 0 (colA y).toList) g' y ∧ Below w3.heap.size w3 ((W.setCells g 0 (colA x).toList).setCells g' 0 (colA y).toList)) := by
  have h1 := h'.setCells_other g 0 (colA x).toList (fun e => hne e.symm)
  have h2 := h.stored (by rfl) hx.len
  have b1 := below_setCells hS g 0 (colA x).toList hg
  exact ⟨by rw [colA_size hx]; exact h.there (by rfl), by rw [colA_size hy]; exact h1.there (by rfl), b1, hg, hg', hne, h2.setCells_other _ _ _ hne, h1.stored (by rfl) hy.len, below_setCells b1 g' 0 (colA y).toList hg'⟩

theorem wpList_load_row_if {P : Program} {ops : Array Oper} {rest : List Oper} {o : Oper} {a : Act} {w : World} {Q : Exit → Act → World → Prop} (hgd : Region.wanted o (yielded ops a.tmps) = true) (ty : TypeId) (x : Operand) (ho : o.op = .load ty x)
    (g : Nat) (hx : a.eval x = .pointer (some ⟨g, 0, none⟩)) (t : TypeId) (cs : Array Value) (fr : Nat × Nat) (d : TypeDesc) (hg : w.heap[g]? = some (.cells cs t fr))
    (hu : P.underlying ty = some d) (hd : (match d with | .struct _ | .array _ _ => true | _ => false) = true) (hi : (P.info? ty).map (·.size) = some cs.size)
    (h : wpList P ops Q rest (a.put o.dst (.agg cs)) w) : wpList P ops Q (o :: rest) a w :=
  wpList_step fun K hK => by rw [if_pos hgd]; exact wp_load_row ty x ho g hx t cs fr d hg hu hd hi (hK _ _ h)

theorem results_ttc {P : Program} {fn : Func} {t u p : Tmp} {ty : TypeId} (h : fn.results = #[.tmp t, .tmp u, .cell p ty]) (tmps : Array Value) (w : World) (g : Nat) (t' : TypeId) (cs : Array Value) (fr : Nat × Nat) (d : TypeDesc)
    (hp : tmps.getD p undef = .pointer (some ⟨g, 0, none⟩)) (hg : w.heap[g]? = some (.cells cs t' fr))
    (hu : P.underlying ty = some d) (hd : (match d with | .struct _ | .array _ _ => true | _ => false) = true) (hi : (P.info? ty).map (·.size) = some cs.size) :
    (results fn tmps).run P w = .ok (.tuple #[tmps.getD t undef, tmps.getD u undef, .agg cs]) w := by
  have h1 : tmps[p]?.getD undef = .pointer (some ⟨g, 0, none⟩) := by simpa using hp
  simp [results, h, h1, asAddr, run_loadVar_row w g t' ty cs fr d hg hu hd hi]

theorem wrap64_small (k : Nat) (h : k ≤ 6) : IntKind.i64.wrap ((k : Int) + 1) = (k : Int) + 1 := by
  rw [IntKind.wrap_i64]
  omega

end Go.Proofs.YtdcinlkkjbclmabDoor
