/- A list literal of two columns. -/
import Derived.Test.YtdcinlkkjbclmaaDoorOwn
import Derived.Great.BuildSlice
namespace Go.Proofs.YtdcinlkkjbclmaaDoor
open Go.RowKit

theorem list_of16 {p : List Nat} (h : p.length = 16) : ∃ a b c d e f g i j k l m n o q r, p = [a, b, c, d, e, f, g, i, j, k, l, m, n, o, q, r] := by
  match p, h with
  | [a, b, c, d, e, f, g, i, j, k, l, m, n, o, q, r], _ => exact ⟨a, b, c, d, e, f, g, i, j, k, l, m, n, o, q, r, rfl⟩
theorem fill_two {p q : List Nat} (hp : p.length = 16) (hq : q.length = 16) :
    Instr.fill (fun i => some (i * 16, 16)) ((Array.range (2 * 16)).map ((Value.agg zA).cells[· % (Value.agg zA).cells.size]!)) [(0, .agg (colA p)), (1, .agg (colA q))] = some (flatL [p, q]).toArray := by
  obtain ⟨a, b, c, d, e, f, g, i, j, k, l, m, n, o, t, r, rfl⟩ := list_of16 hp
  obtain ⟨a', b', c', d', e', f', g', i', j', k', l', m', n', o', t', r', rfl⟩ := list_of16 hq
  kernel_rfl

theorem wpList_two {ops : Array Oper} {rest : List Oper} {op : Oper} {a : Act} {w : World} {Q : Exit → Act → World → Prop} (hgd : op.guard = none) (x y : Operand) (ho : op.op = .buildSlice 47 2 #[(0, x), (1, y)])
    {p q : List Nat} (hx : a.eval x = .agg (colA p)) (hy : a.eval y = .agg (colA q)) (hp : p.length = 16) (hq : q.length = 16)
    (h : wpList Tryd.prog ops Q rest (a.put op.dst (.slice (some ⟨w.heap.size, 0, none⟩) 2 2)) (w.alloc (.cells (flatL [p, q]).toArray 51))) : wpList Tryd.prog ops Q (op :: rest) a w := by
  obtain ⟨i0, hi, hz0, hz1, hz2⟩ := info_parts Tryd.infoC
  refine wpList_buildSlice hgd 47 51 2 _ ho _ i0 _ Tryd.underlying47 hi hz0 (by rw [hz1]; decide) (by rw [hz1]; decide) ?_ h
  rw [hz1, Array.toList_map]
  show Instr.fill _ _ [(0, a.eval x), (1, a.eval y)] = _
  rw [hx, hy]
  exact fill_two hp hq

theorem flat_new (w : World) (cs : List (List Nat)) (j : Nat) (u : Value) (h : (flatL cs)[j]? = some u) : (w.alloc (.cells (flatL cs).toArray 51)).cell? ⟨w.heap.size, j, none⟩ = some u := by
  rw [World.cell?_alloc_at _ _ _ _ rfl]
  simpa using h
theorem flatL_push2 (cs : List (List Nat)) (p q : List Nat) : flatL (cs ++ [p, q]) = flatL cs ++ flatL [p, q] := by
  apply List.ext_getElem?
  intro i
  have h2 : (flatL [p, q]).length = 32 := flatL_len _
  have h3 : (flatL (cs ++ [p, q])).length = (cs.length + 2) * 16 := by rw [flatL_len, List.length_append]; rfl
  rcases Nat.lt_or_ge i (cs.length * 16) with h | h
  · rw [flatL_at _ _ (by rw [List.length_append]; omega), List.getElem?_append_left (by rw [flatL_len]; exact h), flatL_at _ _ h]
    congr 3
    simp [List.getD_eq_getElem?_getD, List.getElem?_append_left (show i / 16 < cs.length by omega)]
  · rw [List.getElem?_append_right (by rw [flatL_len]; exact h), flatL_len]
    rcases Nat.lt_or_ge i ((cs.length + 2) * 16) with h' | h'
    · rw [flatL_at _ _ (by rw [List.length_append]; exact h'), flatL_at _ _ (by show i - cs.length * 16 < 2 * 16; omega)]
      have e1 : (i - cs.length * 16) / 16 = i / 16 - cs.length := by omega
      have e2 : (i - cs.length * 16) % 16 = i % 16 := by omega
      rw [e1, e2]
      congr 3
      simp [List.getD_eq_getElem?_getD, List.getElem?_append_right (show cs.length ≤ i / 16 by omega)]
    · rw [List.getElem?_eq_none (by rw [h3]; exact h'), List.getElem?_eq_none (by rw [h2]; omega)]
theorem cols_push2 {cs : List (List Nat)} (h : AreCols cs) {p q : List Nat} (hp : IsCol p) (hq : IsCol q) : AreCols (cs ++ [p, q]) := ⟨fun i hi => by
  rw [List.length_append] at hi
  simp only [List.length_cons, List.length_nil] at hi
  rcases Nat.lt_or_ge i cs.length with h' | h'
  · have := h.col i h'
    simpa [List.getD_eq_getElem?_getD, List.getElem?_append_left h'] using this
  · rw [List.getD_eq_getElem?_getD, List.getElem?_append_right h']
    rcases (show i - cs.length = 0 ∨ i - cs.length = 1 by omega) with e | e
    · rw [e]; exact hp
    · rw [e]; exact hq⟩

end Go.Proofs.YtdcinlkkjbclmaaDoor
