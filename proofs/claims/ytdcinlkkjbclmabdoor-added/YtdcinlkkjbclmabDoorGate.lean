/- What the cards have in common: the tables, the lists of raw numbers, a world for the witness. -/
import Derived.Test.YtdcinlkkjbclmabDoorCards
import Derived.Test.YtdcinlkkjbclmabDoorTie
import Derived.Test.YtdcinlkkjbclmabDoorPar
import Derived.ProofKit
import Derived.OpenShut
import Derived.Deep.DeepHandedRow
import Derived.Lib.LaidTab
namespace Go.Proofs.YtdcinlkkjbclmabDoor
open Go.ChangeShapes Go.WideShapes Go.ChangeAt Go.RowKit

theorem own : ownKnob Tryd.prog.godebug = none := by kernel_rfl
theorem laidOut : laidOutB Tryd.prog = true := by kernel_rfl
theorem gFal : Tryd.prog.globalNamed "platter/field.fallen" = some 1 := by kernel_rfl
theorem gFalT : (Tryd.prog.globals[1]?).map (·.type) = some 57 := by kernel_rfl
theorem gPow : Tryd.prog.globalNamed "platter/field.powers" = some 0 := by kernel_rfl
theorem gPowT : (Tryd.prog.globals[0]?).map (·.type) = some 54 := by kernel_rfl
theorem cellsF : Tryd.prog.cellsOf 57 = 7 := by kernel_rfl
theorem cellsP : Tryd.prog.cellsOf 54 = 6 := by kernel_rfl
theorem cells5 : Tryd.prog.cellsOf 5 = 1 := by kernel_rfl

def tabList : List (String × DataW Unit) := [("platter/field.fallen", Rows.laid_platter_field_fallen), ("platter/field.powers", Rows.laid_platter_field_powers)]

theorem tabs_of {W : World} (h : laidMetH Tryd.prog tabList W) : Tabs W := by
  have h1 : Lib.TabIs Tryd.prog W "platter/field.fallen" .u8 [29, 58, 116, 232, 205, 135, 19] := Lib.tabIs_of_head gFal gFalT Tryd.underlying57 Tryd.underlying5 cells5 cellsF h
  have hf := laidMetH.filter (fun x => x.1 == "platter/field.powers") h
  have h2 : Lib.TabIs Tryd.prog W "platter/field.powers" .u8 [1, 2, 4, 8, 16, 32] := Lib.tabIs_of_head (rest := []) gPow gPowT Tryd.underlying54 Tryd.underlying5 cells5 cellsP hf
  have hs : 2 ≤ W.heap.size := by
    have b1 := block_lt_of_cell (h1.cell gFal 0 (by decide))
    have b2 := block_lt_of_cell (h2.cell gPow 0 (by decide))
    simp only at b1 b2
    omega
  refine ⟨hs, fun i hi => ?_, fun i hi => ?_⟩
  · rw [h1.cell gFal i (by simpa using hi)]
    rcases (show i = 0 ∨ i = 1 ∨ i = 2 ∨ i = 3 ∨ i = 4 ∨ i = 5 ∨ i = 6 from by omega) with rfl | rfl | rfl | rfl | rfl | rfl | rfl <;> rfl
  · rw [h2.cell gPow i (by simpa using hi)]
    rcases (show i = 0 ∨ i = 1 ∨ i = 2 ∨ i = 3 ∨ i = 4 ∨ i = 5 from by omega) with rfl | rfl | rfl | rfl | rfl | rfl <;> rfl

theorem ints_of {H : Type} {enc : TypeId × Value → H} {W : World} {v : Value} {d : DataW H} {p : List MemPlace} {base : Nat} (hok : Value.okWide Tryd.prog W .any base 22 v) (h : DataW.Trod enc Tryd.prog W 0 (fun _ => true) true 22 v d p) :
    ∃ ms, SlI W v ms ∧ ms.length ≤ 9223372036854775807 := by
  obtain ⟨a, len, cap, rfl⟩ := okWide_slice Tryd.underlying22 hok
  obtain ⟨fuel, hf⟩ := h
  rcases open_ints Tryd.underlying22 Tryd.underlying3 (by kernel_rfl) hf with ⟨hcs, _⟩ | ⟨x, l, c, zs, hcs, _, hl, hm, hz, _, hcell, hwz⟩
  · simp [Value.cells] at hcs
    obtain ⟨rfl, rfl, rfl⟩ := hcs
    exact ⟨[], ⟨none, 0, rfl, .inl rfl⟩, by simp⟩
  · simp [Value.cells] at hcs
    obtain ⟨rfl, rfl, rfl⟩ := hcs
    have hz' : zs.length = cap := by simpa using hz
    have hlen : (zs.take len).length = len := by rw [List.length_take, hz']; omega
    refine ⟨zs.take len, ⟨some x, cap, by rw [hlen], ?_⟩, by rw [hlen]; unfold maxLen at hm; omega⟩
    by_cases h0 : len = 0
    · left; subst h0; simp
    · right
      obtain ⟨b, o, spot⟩ := x
      have hc0 := hcell 0 (by omega)
      have hs : spot = none := by simpa [Addr.add] using World.cell?_spot hc0
      subst hs
      refine ⟨b, o, rfl, fun j u hj => ?_⟩
      have hj' : j < len := by
        have := (List.getElem?_eq_some_iff.1 hj).1
        rw [List.length_map, hlen] at this
        exact this
      have hcj := hcell j (by omega)
      rw [Addr.add_mid] at hcj
      rw [hcj]
      have e : (zs.take len)[j]? = some (zs.getD j 0) := by
        have hjz : j < zs.length := by omega
        rw [List.getElem?_take, if_pos hj', List.getElem?_eq_getElem hjz, List.getD_eq_getElem?_getD, List.getElem?_eq_getElem hjz, Option.getD_some]
      rw [List.getElem?_map, e] at hj
      exact hj

/- a world for the witness: the settled one, the two tables holding what their initialisers lay -/
def layF : Obj → Obj
  | .cells _ t frozen => .cells #[.int .u8 29, .int .u8 58, .int .u8 116, .int .u8 232, .int .u8 205, .int .u8 135, .int .u8 19] t frozen
  | o => o
def layP : Obj → Obj
  | .cells _ t frozen => .cells #[.int .u8 1, .int .u8 2, .int .u8 4, .int .u8 8, .int .u8 16, .int .u8 32] t frozen
  | o => o
def layTabs (w : World) : World := { w with heap := (w.heap.modify 1 layF).modify 0 layP }

end Go.Proofs.YtdcinlkkjbclmabDoor
