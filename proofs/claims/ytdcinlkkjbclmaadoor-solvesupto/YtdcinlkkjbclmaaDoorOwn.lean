/- Lists of columns of the call's own that may be written and appended to; the contract of slices.Clone on columns. -/
import Derived.Test.YtdcinlkkjbclmaaDoorPar
namespace Go.Proofs.YtdcinlkkjbclmaaDoor
open Go.RowKit

/-- the cells of a list of columns -/
def flatL (cs : List (List Nat)) : List Value := (List.range (cs.length * 16)).map fun i => B ((cs.getD (i / 16) []).getD (i % 16) 0)
theorem flatL_len (cs : List (List Nat)) : (flatL cs).length = cs.length * 16 := by simp [flatL]
theorem flatL_at (cs : List (List Nat)) (i : Nat) (h : i < cs.length * 16) : (flatL cs)[i]? = some (B ((cs.getD (i / 16) []).getD (i % 16) 0)) := by simp [flatL, h]
theorem flatL_one (cs : List (List Nat)) : ∀ u ∈ flatL cs, u.oneCell' = true := by
  intro u hu
  simp only [flatL, List.mem_map] at hu
  obtain ⟨i, _, rfl⟩ := hu
  rfl
theorem map_at (xs : List Nat) (j : Nat) (h : j < xs.length) : (xs.map B)[j]? = some (B (xs.getD j 0)) := by simp [h]

def Own (w : World) (base g cap : Nat) (cs : List (List Nat)) : Prop := w.ownsRow base 51 16 (.slice (some ⟨g, 0, none⟩) cs.length cap) cs.length (flatL cs)

theorem Own.cols {w : World} {base g cap : Nat} {cs : List (List Nat)} (h : Own w base g cap cs) (hcs : AreCols cs) (hlt : g < w.heap.size) : Cols w g cs := by
  have hc : ∀ j, j < cs.length * 16 → w.cell? ⟨g, j, none⟩ = some (B ((cs.getD (j / 16) []).getD (j % 16) 0)) := fun j hj => by
    rw [World.ownsRow.cellAt h j hj, flatL_at _ _ hj]
  refine ⟨fun k hk j v hv => ?_, fun j hj => ?_, hlt⟩
  · have hl := (hcs.col k hk).len
    have hj : j < 16 := by
      have := (List.getElem?_eq_some_iff.1 hv).1
      rw [List.length_map, hl] at this
      exact this
    rw [hc _ (by omega), show (k * 16 + j) / 16 = k from by omega, show (k * 16 + j) % 16 = j from by omega]
    rw [map_at _ _ (by rw [hl]; exact hj)] at hv
    exact hv
  · simp only [Nat.zero_add]
    rw [hc j hj, World.ownsRow.frozenAt h j]
    simp

theorem Own.store {w : World} {base g cap : Nat} {cs : List (List Nat)} (h : Own w base g cap cs) (k : Nat) (hk : k < cs.length) {x : List Nat} (hx : x.length = 16) :
    Own (w.setCells g (k * 16) (colA x).toList) base g cap (cs.set k x) := by
  obtain ⟨h1, h2⟩ := h
  refine ⟨by rw [flatL_len], ?_⟩
  rcases h2 with ⟨h2, _⟩ | ⟨g', cap', cur, e, hg, hh, hn, hm, hs, ht⟩
  · simp at h2
  simp only [Value.slice.injEq, Option.some.injEq, Addr.mk.injEq] at e
  obtain ⟨⟨rfl, _, _⟩, _, rfl⟩ := e
  obtain ⟨cur', q1, q2, q3⟩ := setCells_block g _ (colA x).toList (k * 16) w cur hh
  have hl : (colA x).toList.length = 16 := by simp [colA, hx]
  have hle : cs.length * 16 ≤ cap * 16 := Nat.mul_le_mul_right _ hn
  refine Or.inr ⟨g, cap, cur', by rw [List.length_set], hg, q1, by rw [List.length_set]; exact hn, hm, by rw [q2]; exact hs, ?_⟩
  rw [List.length_set]
  apply List.ext_getElem?
  intro i
  rcases Nat.lt_or_ge i (cs.length * 16) with hi | hi
  · rw [flatL_at _ _ (by rw [List.length_set]; exact hi), List.getElem?_take, if_pos hi, Array.getElem?_toList, q3 i (by omega), hl, getD_set cs k _ x hk]
    by_cases e : i / 16 = k
    · rw [if_pos (by omega), if_pos e]
      have hm16 : i - k * 16 = i % 16 := by omega
      rw [hm16]
      show (x.map B)[i % 16]? = _
      exact map_at x (i % 16) (by omega)
    · rw [if_neg (by omega), if_neg e]
      have := congrArg (fun l : List Value => l[i]?) ht
      simp only [List.getElem?_take, if_pos hi, Array.getElem?_toList] at this
      rw [this, flatL_at _ _ hi]
  · rw [List.getElem?_eq_none (by rw [List.length_take]; omega), List.getElem?_eq_none (by rw [flatL_len, List.length_set]; omega)]

theorem Own.below {w w' : World} {base g cap n : Nat} {cs : List (List Nat)} (h : Own w base g cap cs) (hb : Below n w w') (hn : g < n) : Own w' base g cap cs := by
  obtain ⟨h1, h2⟩ := h
  refine ⟨h1, ?_⟩
  rcases h2 with h2 | ⟨g', cap', cur, e, hg, hh, r⟩
  · exact Or.inl h2
  · refine Or.inr ⟨g', cap', cur, e, hg, ?_, r⟩
    simp only [Value.slice.injEq, Option.some.injEq, Addr.mk.injEq] at e
    obtain ⟨⟨rfl, _, _⟩, _, _⟩ := e
    rw [hb.block _ hn]; exact hh
theorem Own.other {w : World} {base g cap : Nat} {cs : List (List Nat)} (h : Own w base g cap cs) (b o : Nat) (vs : List Value) (hne : g ≠ b) : Own (w.setCells b o vs) base g cap cs := by
  obtain ⟨h1, h2⟩ := h
  refine ⟨h1, ?_⟩
  rcases h2 with h2 | ⟨g', cap', cur, e, hg, hh, r⟩
  · exact Or.inl h2
  · refine Or.inr ⟨g', cap', cur, e, hg, ?_, r⟩
    simp only [Value.slice.injEq, Option.some.injEq, Addr.mk.injEq] at e
    obtain ⟨⟨rfl, _, _⟩, _, _⟩ := e
    clear r h1 hg
    induction vs generalizing o w with
    | nil => exact hh
    | cons v rs ih => exact ih (o + 1) (by rw [heap_setCell_other w ⟨b, o, none⟩ g v hne]; exact hh)

theorem colsAt_cells {w : World} {b : Nat} {cs : List (List Nat)} (h : ColsAt w b cs) (hcs : AreCols cs) (j : Nat) (hj : j < cs.length * 16) : w.cell? ⟨b, j, none⟩ = some (B ((cs.getD (j / 16) []).getD (j % 16) 0)) := by
  have hk : j / 16 < cs.length := by omega
  have h1 := h (j / 16) hk (j % 16) (B ((cs.getD (j / 16) []).getD (j % 16) 0)) (map_at _ _ (by rw [(hcs.col _ hk).len]; omega))
  rwa [show j / 16 * 16 + j % 16 = j from by omega] at h1

set_option maxHeartbeats 400000 in
theorem sclone_any (b cap : Nat) (cs : List (List Nat)) (w : World) (hcs : AreCols cs) (hn : 0 < cs.length) (hm : cs.length ≤ 1000) (hat : ColsAt w b cs) :
    Calls Tryd.prog 44 #[.slice (some ⟨b, 0, none⟩) cs.length cap] w fun e w' => ∃ g cap' : Nat, e = .returned (.slice (some ⟨g, 0, none⟩) cs.length cap') ∧ w.heap.size ≤ g ∧ g < w'.heap.size ∧ Own w' w.heap.size g cap' cs ∧ Below w.heap.size w w' := by
  obtain ⟨i0, hi, hz0, hz1, hz2⟩ := info_parts Tryd.infoC
  have heq := fun (w' : World) => Lib.run_eql_slice_nil (P := Tryd.prog) w' 47 51 (some ⟨b, 0, none⟩) cs.length cap 0 0 Tryd.underlying47
  have hl : (flatL cs).length = cs.length * 16 := flatL_len cs
  have hnews : ∀ j u, (flatL cs)[j]? = some u → (w.alloc (.cells #[] 51)).cell? ((⟨b, 0, none⟩ : Addr).add j) = some u := by
    intro j u hj
    have hj' : j < cs.length * 16 := by have := (List.getElem?_eq_some_iff.1 hj).1; rw [hl] at this; exact this
    rw [Addr.add_mid, Nat.zero_add]
    have h1 := colsAt_cells hat hcs j hj'
    rw [World.cell?_alloc_past _ _ _ (block_lt_of_cell h1), h1]
    rw [flatL_at _ _ hj'] at hj
    exact hj
  have hown : (w.alloc (.cells #[] 51)).ownsRow w.heap.size 51 16 (.slice (some ⟨w.heap.size, 0, none⟩) 0 0) 0 [] := World.ownsRow_made w #[] 0 (Nat.le_refl _) (by decide) (by simp)
  go_enter Tryd.func44, Tryd.ntmps44
  have HL := hide hl
  have HN := hide hnews
  have HO := hide hown
  clear hl hnews hown hat hcs
  go_wp2_with (at_builtin; refine wpList_append_own _ rfl _ _ 47 rfl w.heap.size 51 i0 (.agg zA) 16 16 Tryd.underlying47 hi hz0 hz1 hz2 rfl (by decide) _ _ _ rfl (unhide HO) ⟨b, 0, none⟩ cs.length cap (flatL cs) rfl (unhide HL) (unhide HN) (flatL_one cs) (by unfold maxLen; omega) (by omega) (by simp) ?_)
  intro v' w1 hown' hgrow _
  have HB : Hid (Below w.heap.size w w1) := ((Below.refl _ _).alloc (Nat.le_refl _) _).grown hgrow (by simp) (fun k hk => ((unhide HO).lt k hk).1)
  obtain ⟨g, c, rfl, hg1, hg2⟩ := hown'.form hn
  have HW := hide hown'
  clear hown' hgrow HO HN heq
  go_wp2
  go_ret
  exact ⟨g, c, rfl, hg1, hg2, unhide HW, unhide HB⟩

end Go.Proofs.YtdcinlkkjbclmaaDoor
