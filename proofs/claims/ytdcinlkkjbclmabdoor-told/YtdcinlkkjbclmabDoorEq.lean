/- Two columns compared as values: an array of sixteen bytes against another. -/
import Derived.Test.YtdcinlkkjbclmabDoorPar
import Derived.ChangeKeysEq
namespace Go.Proofs.YtdcinlkkjbclmabDoor
open Go.RowKit

theorem cells5' : Tryd.prog.cellsOf 5 = 1 := by kernel_rfl
theorem plain5 : Tryd.prog.plainKey 5 = true := by kernel_rfl
theorem eq_items (a b : List Nat) (ha : a.length = 16) (hb : b.length = 16) (w : World) : ∀ is : List Nat, (∀ i ∈ is, i < 16) → (Op.eqItems 9999 5 1 (colA a) (colA b) is).run Tryd.prog w = .ok (is.all fun i => a.getD i 0 == b.getD i 0) w
  | [], _ => by simp [Op.eqItems]
  | i :: is, h => by
    have hi := h i (List.mem_cons_self ..)
    have ih := eq_items a b ha hb w is (fun j hj => h j (List.mem_cons_of_mem _ hj))
    have p1 : (part 5 (colA a) (i * 1)).run Tryd.prog w = .ok (.int .u8 (a.getD i 0 : Nat)) w := run_part_plain w plain5 (by rw [Nat.mul_one]; exact colA_at i (by omega))
    have p2 : (part 5 (colA b) (i * 1)).run Tryd.prog w = .ok (.int .u8 (b.getD i 0 : Nat)) w := run_part_plain w plain5 (by rw [Nat.mul_one]; exact colA_at i (by omega))
    simp only [Op.eqItems, Sem.run_bind, p1, p2, Result.andThen_ok, run_equalIn_int w 9998 5 .u8 .u8 _ _ Tryd.underlying5]
    have e : (((a.getD i 0 : Nat) : Int) == ((b.getD i 0 : Nat) : Int)) = (a.getD i 0 == b.getD i 0) := by
      rw [Bool.eq_iff_iff]
      simp only [beq_iff_eq, Int.ofNat_inj]
    rw [e, List.all_cons]
    cases hq : (a.getD i 0 == b.getD i 0) with
    | true => simp only [Bool.not_true, Bool.false_eq_true, if_false, Bool.true_and]; exact ih
    | false => simp only [Bool.not_false, if_true, Bool.false_and, Sem.run_pure]

theorem info5s : ∃ i, Tryd.prog.info? 5 = some i := by
  cases h : Tryd.prog.info? 5 with
  | none => have := Tryd.info5; rw [h] at this; cases this
  | some i => exact ⟨i, rfl⟩
theorem run_eq_cols (a b : List Nat) (ha : IsCol a) (hb : IsCol b) (w : World) : (binOp .eql 41 (.agg (colA a)) (.agg (colA b))).run Tryd.prog w = .ok (.bool (decide (a = b))) w := by
  obtain ⟨i, hi⟩ := info5s
  rw [run_eql_struct, run_equalIn_array w 9999 _ _ Tryd.underlying41 hi, cells5', eq_items a b ha.len hb.len w _ (fun j hj => List.mem_range.1 hj)]
  simp only [Result.andThen_ok]
  congr 2
  rw [Bool.eq_iff_iff]
  simp only [List.all_eq_true, List.mem_range, beq_iff_eq, decide_eq_true_eq]
  constructor
  · intro h
    apply List.ext_getElem (by rw [ha.len, hb.len])
    intro j h1 h2
    have := h j (by rw [ha.len] at h1; exact h1)
    simpa [h1, h2] using this
  · intro h j _; rw [h]

end Go.Proofs.YtdcinlkkjbclmabDoor
