/- The contracts of package platter's own small functions on columns: between, give (bytes.Clone), take. -/
import Derived.Test.YtdcinlkkjbclmabDoorParity
import Derived.Deep.AppendLies
import Derived.Laws.AppendOwnNone
namespace Go.Proofs.YtdcinlkkjbclmabDoor
open Go.RowKit

def btw (n l h : Int) : Bool := decide (l ≤ n ∧ n ≤ h)

set_option maxHeartbeats 400000 in
theorem between_any (n l h : Int) (w : World) :
    Calls Tryd.prog 11 #[.int .i64 n, .int .i64 l, .int .i64 h] w fun e w' => e = .returned (.bool (btw n l h)) ∧ w' = w := by
  by_cases h1 : l ≤ n
  · by_cases h2 : n ≤ h
    · have hb : btw n l h = true := by simp [btw, h1, h2]
      rw [hb]; clear hb
      go_enter Tryd.func11, Tryd.ntmps11
      go_wp2
      go_ret
      exact ⟨rfl, rfl⟩
    · have hb : btw n l h = false := by simp [btw, h2]
      rw [hb]; clear hb
      go_enter Tryd.func11, Tryd.ntmps11
      go_wp2
      go_ret
      exact ⟨rfl, rfl⟩
  · have hb : btw n l h = false := by simp [btw, h1]
    rw [hb]; clear hb
    go_enter Tryd.func11, Tryd.ntmps11
    go_wp2
    go_ret
    exact ⟨rfl, rfl⟩

theorem Tryd.info5 : (Tryd.prog.info? 5).map (fun i => (i.zero, i.size, i.bytes)) = some (some (.int .u8 0), 1, 1) := by kernel_rfl

set_option maxHeartbeats 400000 in
theorem clone_any (b o cap : Nat) (xs : List Nat) (w : World) (hn : 0 < xs.length) (hm : xs.length ≤ 1000) (hr : w.rangeAt b o (xs.map B)) :
    Calls Tryd.prog 20 #[.slice (some ⟨b, o, none⟩) xs.length cap] w fun e w' => ∃ v, e = .returned v ∧ w'.ownsRow w.heap.size 5 1 v xs.length (xs.map B) ∧ Below w.heap.size w w' := by
  obtain ⟨i0, hi, hz0, hz1, hz2⟩ := info_parts Tryd.info5
  go_enter Tryd.func20, Tryd.ntmps20
  have heq := fun (w' : World) => Lib.run_eql_slice_nil (P := Tryd.prog) w' 25 5 (some ⟨b, o, none⟩) xs.length cap 0 0 Tryd.underlying25
  have hl : (xs.map B).length = xs.length * 1 := by simp
  have hnews : ∀ j u, (xs.map B)[j]? = some u → (w.alloc (.cells #[] 5)).cell? ((⟨b, o, none⟩ : Addr).add j) = some u := by
    intro j u hj
    rw [Addr.add_mid]
    have h1 := hr j u hj
    rw [World.cell?_alloc_past _ _ _ (block_lt_of_cell h1)]
    exact h1
  have h1 : ∀ u ∈ xs.map B, u.oneCell' = true := by intro u hu; simp only [List.mem_map] at hu; obtain ⟨x, _, rfl⟩ := hu; rfl
  have hown : (w.alloc (.cells #[] 5)).ownsRow w.heap.size 5 1 (.slice (some ⟨w.heap.size, 0, none⟩) 0 0) 0 [] := World.ownsRow_made w #[] 0 (Nat.le_refl _) (by decide) (by simp)
  have HL := hide hl
  have HN := hide hnews
  have H1 := hide h1
  have HO := hide hown
  clear hl hnews h1 hown hr
  go_wp2_with (at_builtin; refine wpList_append_own _ rfl _ _ 25 rfl w.heap.size 5 i0 (.int .u8 0) 1 1 Tryd.underlying25 hi hz0 hz1 hz2 rfl (by decide) _ _ _ rfl (unhide HO) ⟨b, o, none⟩ xs.length cap (xs.map B) rfl (unhide HL) (unhide HN) (unhide H1) (by unfold maxLen; omega) (by omega) (by simp) ?_)
  intro v' w1 hown' hgrow _
  have HB : Hid (Below w.heap.size w w1) := ((Below.refl _ _).alloc (Nat.le_refl _) _).grown hgrow (by simp) (fun k hk => ((unhide HO).lt k hk).1)
  have HW := hide hown'
  clear hown' hgrow HO HN heq
  go_wp2
  go_ret
  exact ⟨v', rfl, unhide HW, unhide HB⟩

theorem ownsRow_base_le {w : World} {base base' : Nat} {e : TypeId} {size : Nat} {v : Value} {n : Nat} {xs : List Value} (h : w.ownsRow base e size v n xs) (hb : base' ≤ base) : w.ownsRow base' e size v n xs := by
  obtain ⟨h1, h2⟩ := h
  refine ⟨h1, ?_⟩
  rcases h2 with h2 | ⟨g, cap, cur, hv, hg, r⟩
  · exact Or.inl h2
  · exact Or.inr ⟨g, cap, cur, hv, Nat.le_trans hb hg, r⟩

set_option maxHeartbeats 400000 in
theorem give_any (c : List Nat) (w : World) (hc : IsCol c) :
    Calls Tryd.prog 14 #[colV c] w fun e w' => ∃ g cap : Nat, e = .returned (.slice (some ⟨g, 0, none⟩) 16 cap) ∧ w.heap.size ≤ g ∧ g < w'.heap.size ∧ w'.ownsRow w.heap.size 5 1 (.slice (some ⟨g, 0, none⟩) 16 cap) 16 (c.map B) ∧ Below w.heap.size w w' := by
  have hr := (RowAt.new w c).range
  have hlen := hc.len
  unfold colV
  go_enter Tryd.func14, Tryd.ntmps14
  go_wp2_with fail
  have hcl := clone_any w.heap.size 0 16 c (w.alloc (.cells (colA c) 41)) (by omega) (by omega) hr
  rw [hlen] at hcl
  have HC := hide hcl
  clear hcl
  refine (unhide HC).mono ?_
  rintro e w1 ⟨v, rfl, hown, hbel⟩
  obtain ⟨g, cap, rfl, hg1, hg2⟩ := hown.form (by omega)
  have hg3 : w.heap.size ≤ g := by simp at hg1; omega
  have HO : Hid (w1.ownsRow w.heap.size 5 1 (.slice (some ⟨g, 0, none⟩) 16 cap) 16 (c.map B)) := ownsRow_base_le hown (by simp)
  have HB : Hid (Below w.heap.size w w1) := ((Below.refl _ _).alloc (Nat.le_refl _) _).trans (hbel.mono (by simp))
  clear hown hbel hr HC
  go_wp2
  go_ret
  exact ⟨g, cap, rfl, hg3, hg2, unhide HO, unhide HB⟩

end Go.Proofs.YtdcinlkkjbclmabDoor
