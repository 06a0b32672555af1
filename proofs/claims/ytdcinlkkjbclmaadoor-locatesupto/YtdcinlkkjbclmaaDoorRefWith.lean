/- The contract of platterref.with. -/
import Derived.Test.YtdcinlkkjbclmaaDoorJMath
import Derived.Test.YtdcinlkkjbclmaaDoorRefFull
namespace Go.Proofs.YtdcinlkkjbclmaaDoor
open Go.RowKit

theorem vals_at (U : Nat → Value) (k j : Nat) (h : j < k) : ((List.range k).map U)[j]? = some (U j) := by simp [h]
theorem vals_succ (U : Nat → Value) (k : Nat) : (List.range (k + 1)).map U = (List.range k).map U ++ [U k] := by simp [List.range_succ]
theorem slb_one {w : World} {u : Value} {xs : List Nat} (h : SlB w u xs) : u.oneCell' = true := by
  obtain ⟨a, c, rfl, _⟩ := h
  rfl

set_option maxHeartbeats 2000000 in
theorem with_any (v cv : Value) (Ls : List (List Nat)) (i : Nat) (c : List Nat) (w : World) (hv : SlL w v Ls) (hcv : SlB w cv c) (h8 : Ls.length ≤ 8) (hi : i < Ls.length) :
    Calls Tryd.prog 50 #[v, .int .i64 (i : Int), cv] w fun e w' => ∃ v', e = .returned v' ∧ SlL w' v' (Ls.set i c) ∧ (∀ p n cc, v' = .slice p n cc → n ≤ cc) ∧ Below w.heap.size w w' := by
  obtain ⟨ca, cc, hce, _⟩ := id hcv
  subst hce
  obtain ⟨iL, hiL, hzL0, hzL1, hzL2⟩ := info_parts Tryd.infoL
  obtain ⟨a, cap, hve, hd⟩ := id hv
  subst hve
  rcases hd with h0 | ⟨b, o, rfl, hd⟩
  · rw [h0] at hi; simp at hi
  obtain ⟨U, hU⟩ : ∃ U : Nat → Value, ∀ j, j < Ls.length → w.cell? ⟨b, o + j, none⟩ = some (U j) ∧ SlB w (U j) (Ls.getD j []) :=
    ⟨fun j => (w.cell? ⟨b, o + j, none⟩).getD (.int .i64 0), fun j hj => by
      obtain ⟨u, h1, h2⟩ := hd j hj
      have e : (fun j => (w.cell? ⟨b, o + j, none⟩).getD (.int .i64 0)) j = u := by show (w.cell? _).getD _ = u; rw [h1]; rfl
      rw [e]
      exact ⟨h1, h2⟩⟩
  have hV : ∀ j, j < Ls.length → SlB w (if j = i then (Value.slice ca c.length cc) else U j) ((Ls.set i c).getD j []) := fun j hj => by
    rw [set_getD _ _ _ _ hi]
    by_cases e : j = i
    · rw [if_pos e, if_pos e]; exact hcv
    · rw [if_neg e, if_neg e]; exact (hU j hj).2
  have HU := hide hU
  have HV := hide hV
  clear hd hv hU hV hcv
  go_enter Tryd.func50, Tryd.ntmps50
  go_wp2
  go_loopw [7, 8] (fun ov iv wr => ∃ k : Nat, k ≤ Ls.length ∧ iv = .int .i64 k ∧ Below w.heap.size w wr ∧ wr.ownsRow w.heap.size 31 1 ov k ((List.range k).map fun j => if j = i then (Value.slice ca c.length cc) else U j)) (fun _ i _ => Ls.length - (intOf i).toNat)
  case atStart => exact ⟨0, Nat.zero_le _, rfl, Below.refl _ _, World.ownsRow_nil _ _ _ _⟩
  case round =>
    obtain ⟨k, hk, rfl, hbw, hlo⟩ := hrel
    have HB := hide hbw
    have HLO := hide hlo
    clear hlo
    rcases Nat.lt_or_ge k Ls.length with hlt | hge
    · have hi1 : (0 : Int) ≤ (k : Int) := by omega
      have hi2 : (k : Int) < (Ls.length : Int) := by omega
      obtain ⟨hu, hsb⟩ := unhide HU k hlt
      have hu' := (hbw.cell (block_lt_of_cell hu)).trans hu
      have hone := slb_one (unhide HV k hlt)
      obtain ⟨ua, uc, hUe, _⟩ := hsb
      obtain ⟨ul, hul⟩ : ∃ ul, (Ls.getD k []).length = ul := ⟨_, rfl⟩
      rw [hul] at hUe
      clear hul
      rw [hUe] at hu'
      have HUe := hide hUe
      clear hUe
      have hs := vals_succ (fun j => if j = i then (Value.slice ca c.length cc) else U j) k
      have hsw := hbw.size
      clear hbw hu
      by_cases e : k = i
      · subst e
        obtain ⟨X, hX⟩ : ∃ X, (if k = k then (Value.slice ca c.length cc) else U k) = X := ⟨_, rfl⟩
        rw [hX] at hone
        have hs' : (List.range (k + 1)).map (fun j => if j = k then (Value.slice ca c.length cc) else U j) = (List.range k).map (fun j => if j = k then (Value.slice ca c.length cc) else U j) ++ [X] := by rw [← hX]; exact hs
        rw [if_pos rfl] at hX
        subst hX
        have hba := (Below.refl wr.heap.size wr).alloc (Nat.le_refl _) (.cells #[(Value.slice ca c.length cc)] 31)
        have HL3 := hide (ownsRow_keep (unhide HLO) hba)
        have HN1 := hide (cell_one_new wr (Value.slice ca c.length cc) 31)
        have HS := hide hs'
        have HO := hide hone
        clear hs hs' hba hone HLO
        generalize (List.range k).map (fun j => if j = k then (Value.slice ca c.length cc) else U j) = xs at *
        go_wp2_with (at_builtin; refine wpList_append_lies _ rfl _ _ 24 rfl w.heap.size 31 iL (.slice none 0 0) 1 24 Tryd.underlying24 hiL hzL0 hzL1 hzL2 rfl (by decide) u7 k xs rfl (unhide HL3) ⟨wr.heap.size, 0, none⟩ 1 1 [(Value.slice ca c.length cc)] rfl rfl (unhide HN1) (by intro u hu; simp only [List.mem_singleton] at hu; subst hu; exact unhide HO) (by decide) (by unfold maxLen; omega) (by omega) (by simp; omega) (wr.heap.size + 1) (by simp) ?_)
        intro g2 c2 w4 hown2 hgrow2 hat2 hlt2
        have HLO4 : Hid (w4.ownsRow w.heap.size 31 1 (.slice (some ⟨g2, 0, none⟩) (k + 1) c2) (k + 1) ((List.range (k + 1)).map fun j => if j = k then (Value.slice ca c.length cc) else U j)) := by
          rw [unhide HS]
          exact hown2
        have HB4 : Hid (Below w.heap.size w w4) := ((unhide HB).alloc hsw _).grown hgrow2 (by simp; omega) (fun j hj => ((unhide HL3).lt j hj).1)
        clear hown2 hgrow2 hat2 HL3 HN1 HS HO hu'
        go_wp2
        go_roundw
        case rel => exact ⟨k + 1, by omega, by go_num, unhide HB4, unhide HLO4⟩
        case measure => simp [intOf]; omega
      · have he : ¬ (k : Int) = (i : Int) := by omega
        obtain ⟨X, hX⟩ : ∃ X, (if k = i then (Value.slice ca c.length cc) else U k) = X := ⟨_, rfl⟩
        rw [hX] at hone
        have hs' : (List.range (k + 1)).map (fun j => if j = i then (Value.slice ca c.length cc) else U j) = (List.range k).map (fun j => if j = i then (Value.slice ca c.length cc) else U j) ++ [X] := by rw [← hX]; exact hs
        rw [if_neg e, unhide HUe] at hX
        subst hX
        have hba := (Below.refl wr.heap.size wr).alloc (Nat.le_refl _) (.cells #[Value.slice ua ul uc] 31)
        have HL3 := hide (ownsRow_keep (unhide HLO) hba)
        have HN1 := hide (cell_one_new wr (Value.slice ua ul uc) 31)
        have HS := hide hs'
        have HO := hide hone
        clear hs hs' hba hone HLO
        generalize (List.range k).map (fun j => if j = i then (Value.slice ca c.length cc) else U j) = xs at *
        go_wp2_with (at_builtin; refine wpList_append_lies _ rfl _ _ 24 rfl w.heap.size 31 iL (.slice none 0 0) 1 24 Tryd.underlying24 hiL hzL0 hzL1 hzL2 rfl (by decide) u7 k xs rfl (unhide HL3) ⟨wr.heap.size, 0, none⟩ 1 1 [Value.slice ua ul uc] rfl rfl (unhide HN1) (by intro u hu; simp only [List.mem_singleton] at hu; subst hu; exact unhide HO) (by decide) (by unfold maxLen; omega) (by omega) (by simp; omega) (wr.heap.size + 1) (by simp) ?_)
        intro g2 c2 w4 hown2 hgrow2 hat2 hlt2
        have HLO4 : Hid (w4.ownsRow w.heap.size 31 1 (.slice (some ⟨g2, 0, none⟩) (k + 1) c2) (k + 1) ((List.range (k + 1)).map fun j => if j = i then (Value.slice ca c.length cc) else U j)) := by
          rw [unhide HS]
          exact hown2
        have HB4 : Hid (Below w.heap.size w w4) := ((unhide HB).alloc hsw _).grown hgrow2 (by simp; omega) (fun j hj => ((unhide HL3).lt j hj).1)
        clear hown2 hgrow2 hat2 HL3 HN1 HS HO hu'
        go_wp2
        go_roundw
        case rel => exact ⟨k + 1, by omega, by go_num, unhide HB4, unhide HLO4⟩
        case measure => simp [intOf]; omega
    · obtain rfl : k = Ls.length := by omega
      clear hbw
      go_wp2
      go_ret
      refine ⟨u7, rfl, ?_, ?_, unhide HB⟩
      · obtain ⟨g, c', hge, _, _⟩ := (unhide HLO).form (by omega)
        subst hge
        have hl : (Ls.set i c).length = Ls.length := List.length_set
        refine ⟨_, _, by rw [hl], Or.inr ⟨g, 0, rfl, fun j hj => ?_⟩⟩
        rw [hl] at hj
        refine ⟨_, by rw [Nat.zero_add, (unhide HLO).cellAt j (by omega), vals_at _ _ _ hj], (unhide HV j hj).below (unhide HB)⟩
      · intro p n cc e
        rcases (unhide HLO).2 with ⟨h, h0⟩ | ⟨g, cap', cur, h, _, _, h1, _⟩
        · omega
        · rw [h] at e
          simp at e
          omega

end Go.Proofs.YtdcinlkkjbclmaaDoor
