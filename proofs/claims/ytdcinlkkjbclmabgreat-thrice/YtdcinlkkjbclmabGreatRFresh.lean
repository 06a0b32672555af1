/- A rig with a new volume comes to rest: the volume is Ready. -/
import Derived.Test.YtdcinlkkjbclmabGreatRRuns
namespace Go.Proofs.YtdcinlkkjbclmabGreat
open Go.RowKit

theorem flat_at : ∀ (L : List Cmd) (i : Nat) (c : Cmd), L[i]? = some c → ∀ j, j < 5 → (L.flatMap Cmd.cells)[i * 5 + j]? = c.cells[j]?
  | [], i, c, h, _, _ => by simp at h
  | x :: r, 0, c, h, j, hj => by
    simp only [List.getElem?_cons_zero, Option.some.injEq] at h
    subst h
    rw [List.flatMap_cons, List.getElem?_append_left (by show 0 * 5 + j < 5; omega), Nat.zero_mul, Nat.zero_add]
  | x :: r, i + 1, c, h, j, hj => by
    simp only [List.getElem?_cons_succ] at h
    rw [List.flatMap_cons, List.getElem?_append_right (by show 5 ≤ (i + 1) * 5 + j; omega), show (i + 1) * 5 + j - x.cells.length = i * 5 + j by show (i + 1) * 5 + j - 5 = _; omega]
    exact flat_at r i c h j hj
theorem handed_at {w : World} {base : Nat} {v : Value} {L : List Cmd} {O : List Nat} (h : Handed w base v L O) (h0 : 0 < L.length) : ∃ lb cap, v = .slice (some ⟨lb, 0, none⟩) L.length cap ∧ CmdsAt w lb L ∧ lb ∉ O ∧ lb < w.heap.size ∧ base ≤ lb := by
  rcases h.row.2 with ⟨_, q⟩ | ⟨g, cap, cur, e, hbg, hh, _, _, hcs, htk⟩
  · omega
  · refine ⟨g, cap, e, ⟨cur, hh, fun i c hc => ?_⟩, h.rno g (by rw [e]; simp [dBlk]), Blk.lt hh, hbg⟩
    have hi : i < L.length := (List.getElem?_eq_some_iff.1 hc).1
    have key : ∀ j, j < 5 → cur[i * 5 + j]? = c.cells[j]? := fun j hj => by
      have e1 : (cur.toList.take (L.length * 5))[i * 5 + j]? = (L.flatMap Cmd.cells)[i * 5 + j]? := by rw [htk]
      rw [List.getElem?_take, if_pos (by omega), Array.getElem?_toList, flat_at L i c hc j hj] at e1
      exact e1
    obtain ⟨a, n, m, hd⟩ := data_sl (h.dat c (List.mem_of_getElem? hc)).1
    exact ⟨⟨a, n, m, hd⟩, key 0 (by omega), key 1 (by omega), key 2 (by omega), key 3 (by omega), key 4 (by omega)⟩
theorem handed_none {w : World} {base : Nat} {v : Value} {O : List Nat} (h : Handed w base v [] O) : ∃ a c, v = .slice a 0 c := by
  rcases h.row.2 with ⟨e, _⟩ | ⟨g, cap, cur, e, _⟩
  · exact ⟨_, _, e⟩
  · exact ⟨_, _, e⟩
theorem numb_mem {k : Nat} {l : List Cmd} {c : Cmd} (h : c ∈ numb k l) : ∃ d ∈ l, c.kind = d.kind ∧ c.disk = d.disk ∧ c.sector = d.sector ∧ c.data = d.data := by
  induction l generalizing k with
  | nil => simp [numb] at h
  | cons x r ih =>
    simp only [numb, List.mem_cons] at h
    rcases h with rfl | h
    · exact ⟨x, by simp, rfl, rfl, rfl, rfl⟩
    · obtain ⟨d, hd, q⟩ := ih h
      exact ⟨d, by simp [hd], q⟩
theorem rig_step {w w' : World} {gb D S pb vb B : Nat} {O O' : List Nat} {L : Nat → Bool} {N : Nat} (h : Rig w gb D S pb vb (Pl O B) L N) (hc : Chg (fun b => b ∈ O) w w') (ho : ∀ b ∈ O', b ∈ O ∨ w.heap.size ≤ b) : Rig w' gb D S pb vb (Pl O' B) L N :=
  h.chg hc (fun b _ _ _ _ hbo hx => hbo (mem_pl.2 (Or.inl hx))) (fun b hb' hbo ho' => by
    rcases mem_pl.1 ho' with q | q
    · rcases ho b q with q | q
      · exact hbo (mem_pl.2 (Or.inl q))
      · omega
    · exact hbo (mem_pl.2 (Or.inr q)))
/-- commands as the opening of new disks gives them -/
def Shape (D : Nat) (κ : Int) (c : Cmd) : Prop := c.kind = κ ∧ (κ = 2 → Eight c.data) ∧ (∃ d : Nat, d < D ∧ c.disk = (d : Int)) ∧ c.sector = 0
/-- all of it is new since W0 -/
structure Based (W0 w : World) (O : List Nat) (tb hb : Nat) : Prop where
  own : ∀ b ∈ O, W0.heap.size ≤ b
  tnew : W0.heap.size ≤ tb
  hnew : W0.heap.size ≤ hb
  bel : Below W0.heap.size W0 w
/-- a batch of commands is being done -/
def Batch (W0 : World) (gb D S pb vb tb hb N lc : Nat) (nx : Value) (κ : Int) (lb : Nat) (L : List Cmd) (w : World) : Prop := ∃ O M, M + L.length ≤ N ∧ Based W0 w O tb hb ∧ W0.heap.size ≤ lb ∧ Rig w gb D S pb vb (Pl O W0.heap.size) (fun _ => false) M ∧ Vol w vb { opA D S tb lc with told := L.map noData } O ∧ OpenT w tb hb vb nx true ∧ tb ∉ O ∧ hb ∉ O ∧ lb ∉ O ∧ lb < w.heap.size ∧ (∀ x ∈ L, DataIn w x ∧ ∀ b ∈ dBlk x.data, b ∉ O) ∧ ∀ x ∈ L, Shape D κ x
/-- such a batch waits -/
def Waits (W0 : World) (gb D S pb vb tb hb N lc : Nat) (nx : Value) (κ : Int) (w : World) : Prop := ∃ O M L, M ≤ N ∧ L.length = D ∧ Based W0 w O tb hb ∧ Rig w gb D S pb vb (Pl O W0.heap.size) (fun _ => false) M ∧ Vol w vb { opA D S tb lc with wait := L } O ∧ OpenT w tb hb vb nx true ∧ tb ∉ O ∧ hb ∉ O ∧ ∀ x ∈ L, Shape D κ x
def Stands (W0 : World) (gb D S pb vb tb N : Nat) (w : World) : Prop := ∃ O M, M ≤ N ∧ (∀ b ∈ O, W0.heap.size ≤ b) ∧ Below W0.heap.size W0 w ∧ Rig w gb D S pb vb (Pl O W0.heap.size) (fun _ => false) M ∧ Vol w vb (readyA D S tb (D + D)) O
theorem waits_told (W0 : World) (gb D S pb vb tb hb N lc : Nat) (nx : Value) (κ : Int) (w : World) (hD : 0 < D) (hD8 : D ≤ 8) (hlc : lc ≤ 100) (h : Waits W0 gb D S pb vb tb hb N lc nx κ w) :
    w.cell? ⟨gb, 2, none⟩ = some (.pointer (some ⟨pb, 0, none⟩)) ∧ Calls Tryz.prog 19 #[.pointer (some ⟨pb, 0, none⟩)] w fun e w' => ∃ v, e = .returned v ∧ ∃ lb cap L, 0 < L.length ∧ L.length ≤ 8 ∧ v = .slice (some ⟨lb, 0, none⟩) L.length cap ∧ CmdsAt w' lb L ∧ Batch W0 gb D S pb vb tb hb (N + 8) (lc + D) nx κ lb L w' := by
  obtain ⟨O, M, L, hM, hL, hba, hr, hv, ht, hto, hho, hsh⟩ := h
  have htl : tb < w.heap.size := block_lt_of_cell ht.c0
  have hhl := ht.map.lt
  obtain ⟨_, _, _, _, hgb, _⟩ := hr.own
  refine ⟨hgb.cell 2, wrapCommands pb vb _ w (hr.vol.cell 0) ((commands_any vb _ O w hv (by show ([] : List Cmd).length + L.length ≤ 60; simp; omega) (by intro c hc; simp [opA, newA] at hc) (by show lc ≤ 100000; omega)).mono ?_)⟩
  rintro e w' ⟨v, O', rfl, v', c', o', hh⟩
  have hnl : (numb lc L).length = D := by rw [numb_len]; exact hL
  obtain ⟨lb, cap, e1, e2, e3, e4, e5⟩ := handed_at hh (by show 0 < (numb lc L).length; omega)
  refine ⟨v, rfl, lb, cap, numb lc L, by omega, by omega, e1, e2, O', M, by omega, ⟨fun b hb' => ?_, hba.tnew, hba.hnew, Below.on hba.bel hba.bel.size c' (fun b hb' => hba.own b hb')⟩, Nat.le_trans hba.bel.size e5, rig_step hr c' o', ?_, ht.chg c' hto hho, ?_, ?_, e3, e4, hh.dat, fun x hx => ?_⟩
  · have := hba.bel.size
    rcases o' b hb' with q | q
    · exact hba.own b q
    · omega
  · have e : toldA { opA D S tb lc with wait := L } L.length = { opA D S tb (lc + D) with told := (numb lc L).map noData } := by
      unfold toldA opA newA
      simp [← hL]
    rw [← e]
    exact v'
  · intro ho; rcases o' _ ho with q | q; exact hto q; omega
  · intro ho; rcases o' _ ho with q | q; exact hho q; omega
  · obtain ⟨d, hd, q1, q2, q3, q4⟩ := numb_mem hx
    obtain ⟨s1, s2, s3, s4⟩ := hsh d hd
    exact ⟨q1.trans s1, fun h => by rw [q4]; exact s2 h, by rw [q2]; exact s3, q3.trans s4⟩
theorem batch_step (W0 : World) (gb D S pb vb tb hb N lc : Nat) (nx : Value) (κ : Int) (hκ : κ = 2 ∨ κ = 3) (lb : Nat) (c : Cmd) (L : List Cmd) (P : VA → World → Prop) (w : World) (hN : N ≤ 90000) (h : Batch W0 gb D S pb vb tb hb N lc nx κ lb (c :: L) w)
    (hend : ∀ w2 O2, Vol w2 vb (opA D S tb lc) O2 → OpenT w2 tb hb vb nx true → tb ∉ O2 → hb ∉ O2 → Calls Tryz.prog 37 #[.pointer (some ⟨vb, 0, none⟩)] w2 fun e w' => e = .returned (.tuple #[]) ∧ ∃ A' O', Vol w' vb A' O' ∧ Chg (fun b => b ∈ O2 ∨ b = tb) w2 w' ∧ (∀ b ∈ O', b ∈ O2 ∨ w2.heap.size ≤ b) ∧ P A' w') :
    Calls Tryz.prog 25 #[.pointer (some ⟨gb, 0, none⟩), .agg c.cells.toArray] w fun e w' => e = .returned (.bool true) ∧ ((L ≠ [] ∧ Batch W0 gb D S pb vb tb hb N lc nx κ lb L w') ∨ (L = [] ∧ ∃ A' O' M, M ≤ N ∧ Based W0 w' O' tb hb ∧ Rig w' gb D S pb vb (Pl O' W0.heap.size) (fun _ => false) M ∧ Vol w' vb A' O' ∧ P A' w' ∧ tb ∉ O' ∧ hb ∉ O')) ∧ ∀ cs, Blk w lb cs 64 → Blk w' lb cs 64 := by
  obtain ⟨O, M, hM, hba, hbl, hr, hv, ht, hto, hho, hlo, hll, hdat, hsh⟩ := h
  simp only [List.length_cons] at hM
  obtain ⟨s1, s2, ⟨d, hd, s3⟩, s4⟩ := hsh c (by simp)
  have hk2 : c.kind = 2 ∨ c.kind = 3 := by rw [s1]; exact hκ
  rcases L with _ | ⟨c2, L2⟩
  · refine (carry_ok gb D S pb vb tb hb lb M W0.heap.size W0 O (fun _ => false) _ c [] nx true P w hba.bel.size hba.own hba.tnew hba.hnew hbl hba.bel hr (by omega) hv ht hto hho hlo hll rfl hk2 d s3 hd s4 rfl hdat (fun h => s2 (by rw [← s1]; exact h)) hend).mono ?_
    rintro e w' ⟨rfl, ⟨A', O', r', v', bo', be', hP, a', b', _⟩, hk⟩
    exact ⟨rfl, Or.inr ⟨rfl, A', O', M + 1, by omega, ⟨bo', hba.tnew, hba.hnew, be'⟩, r', v', hP, a', b'⟩, hk⟩
  · refine (carry_ok gb D S pb vb tb hb lb M W0.heap.size W0 O (fun _ => false) _ c (c2 :: L2) nx true (fun A' w' => A' = { opA D S tb lc with told := (c2 :: L2).map noData } ∧ OpenT w' tb hb vb nx true) w hba.bel.size hba.own hba.tnew hba.hnew hbl hba.bel hr (by omega) hv ht hto hho hlo hll rfl hk2 d s3 hd s4 rfl hdat (fun h => s2 (by rw [← s1]; exact h)) (fun w2 O2 v2 t2 a2 b2 => ?_)).mono ?_
    · refine (run_idle vb _ O2 w2 v2 (Or.inr (Or.inr (Or.inl ⟨(show (0 : Int) ≠ 2 by decide), rfl, by simp⟩)))).mono ?_
      rintro e w3 ⟨rfl, rfl⟩
      exact ⟨rfl, _, O2, v2, Chg.refl _ _, fun b hb' => Or.inl hb', rfl, t2⟩
    · rintro e w' ⟨rfl, ⟨A', O', r', v', bo', be', ⟨hA, t'⟩, a', b', l', hl', d'⟩, hk⟩
      subst hA
      exact ⟨rfl, Or.inl ⟨by simp, O', M + 1, by simp only [List.length_cons] at *; omega, ⟨bo', hba.tnew, hba.hnew, be'⟩, hbl, r', v', t', a', b', l', hl', d', fun x hx => hsh x (List.mem_cons_of_mem _ hx)⟩, hk⟩
theorem rest_fresh (W0 : World) (gb D S pb vb tb hb N : Nat) (w : World) (hD : 0 < D) (hD8 : D ≤ 8) (hN : N ≤ 100) (h : Waits W0 gb D S pb vb tb hb N 0 (nxLabels tb) 2 w) :
    Calls Tryz.prog 15 #[.pointer (some ⟨gb, 0, none⟩), .int .i64 5000] w fun e w' => e = .returned (.bool true) ∧ Stands W0 gb D S pb vb tb (N + 16) w' := by
  refine rest_any gb pb (fun p w => (p = 2 ∧ Waits W0 gb D S pb vb tb hb N 0 (nxLabels tb) 2 w) ∨ (p = 1 ∧ Waits W0 gb D S pb vb tb hb (N + 8) D (nxReady tb) 3 w) ∨ (p = 0 ∧ Stands W0 gb D S pb vb tb (N + 16) w))
    (fun lb L p w => (p = 2 ∧ ((L ≠ [] ∧ Batch W0 gb D S pb vb tb hb (N + 8) (0 + D) (nxLabels tb) 2 lb L w) ∨ (L = [] ∧ Waits W0 gb D S pb vb tb hb (N + 8) D (nxReady tb) 3 w))) ∨ (p = 1 ∧ ((L ≠ [] ∧ Batch W0 gb D S pb vb tb hb (N + 8 + 8) (D + D) (nxReady tb) 3 lb L w) ∨ (L = [] ∧ Stands W0 gb D S pb vb tb (N + 16) w)))) _ (fun p w hj => ?_) (fun lb c L p w hi => ?_) (fun lb p w hi => ?_) 2 (by omega) w (Or.inl ⟨rfl, h⟩)
  · rcases hj with ⟨rfl, hw⟩ | ⟨rfl, hw⟩ | ⟨rfl, O, M, hM, hbo, hbe, hr, hv⟩
    · obtain ⟨q1, q2⟩ := waits_told W0 gb D S pb vb tb hb N 0 _ 2 w hD hD8 (by omega) hw
      refine ⟨q1, q2.mono ?_⟩
      rintro e w' ⟨v, rfl, lb, cap, L, a, b, c, d, hb'⟩
      exact ⟨v, rfl, Or.inr ⟨by omega, lb, cap, L, a, b, c, d, Or.inl ⟨rfl, Or.inl ⟨fun e => by rw [e] at a; simp at a, hb'⟩⟩⟩⟩
    · obtain ⟨q1, q2⟩ := waits_told W0 gb D S pb vb tb hb (N + 8) D _ 3 w hD hD8 (by omega) hw
      refine ⟨q1, q2.mono ?_⟩
      rintro e w' ⟨v, rfl, lb, cap, L, a, b, c, d, hb'⟩
      exact ⟨v, rfl, Or.inr ⟨by omega, lb, cap, L, a, b, c, d, Or.inr ⟨rfl, Or.inl ⟨fun e => by rw [e] at a; simp at a, hb'⟩⟩⟩⟩
    · obtain ⟨_, _, _, _, hgb, _⟩ := hr.own
      refine ⟨hgb.cell 2, wrapCommands pb vb _ w (hr.vol.cell 0) ((commands_any vb _ O w hv (by show ([] : List Cmd).length + ([] : List Cmd).length ≤ 60; simp) (by intro c hc; simp [readyA, newA] at hc) (by show D + D ≤ 100000; omega)).mono ?_)⟩
      rintro e w' ⟨v, O', rfl, v', c', o', hh⟩
      exact ⟨v, rfl, Or.inl ⟨rfl, handed_none hh, O', M, hM, fun b hb' => by (have := hbe.size; rcases o' b hb' with q | q; exact hbo b q; omega), Below.on hbe hbe.size c' (fun b hb' => hbo b hb'), rig_step hr c' o', v'⟩⟩
  · rcases hi with ⟨rfl, ⟨_, hb'⟩ | ⟨e, _⟩⟩ | ⟨rfl, ⟨_, hb'⟩ | ⟨e, _⟩⟩
    · refine (batch_step W0 gb D S pb vb tb hb (N + 8) (0 + D) (nxLabels tb) 2 (Or.inl rfl) lb c L (fun A' w' => A' = { opA D S tb (0 + D) with wait := barriers D } ∧ OpenT w' tb hb vb (nxReady tb) true) w (by omega) hb' (fun w2 O2 v2 t2 a2 b2 => run_labels D S tb hb vb (0 + D) O2 w2 hD hD8 v2 t2 a2 b2)).mono ?_
      rintro e w' ⟨rfl, q | ⟨q1, A', O', M, hM, ba', r', v', ⟨hA, t'⟩, a', b'⟩, hk⟩
      · exact ⟨rfl, Or.inl ⟨rfl, Or.inl q⟩, hk⟩
      · subst hA
        refine ⟨rfl, Or.inl ⟨rfl, Or.inr ⟨q1, O', M, barriers D, hM, by simp [barriers], ba', r', ?_, t', a', b', fun x hx => ?_⟩⟩, hk⟩
        · rw [Nat.zero_add] at v'
          exact v'
        · simp only [barriers, List.mem_map, List.mem_range] at hx
          obtain ⟨k, hk', rfl⟩ := hx
          exact ⟨rfl, fun h => absurd h (by decide), ⟨k, hk', rfl⟩, rfl⟩
    · cases e
    · refine (batch_step W0 gb D S pb vb tb hb (N + 8 + 8) (D + D) (nxReady tb) 3 (Or.inr rfl) lb c L (fun A' _ => A' = readyA D S tb (D + D)) w (by omega) hb' (fun w2 O2 v2 t2 a2 _ => run_ready D S tb hb vb (D + D) O2 w2 v2 t2 a2)).mono ?_
      rintro e w' ⟨rfl, q | ⟨q1, A', O', M, hM, ba', r', v', hA, _, _⟩, hk⟩
      · exact ⟨rfl, Or.inr ⟨rfl, Or.inl q⟩, hk⟩
      · subst hA
        exact ⟨rfl, Or.inr ⟨rfl, Or.inr ⟨q1, O', M, by omega, ba'.own, ba'.bel, r', v'⟩⟩, hk⟩
    · cases e
  · rcases hi with ⟨e, ⟨q, _⟩ | ⟨_, hw⟩⟩ | ⟨e, ⟨q, _⟩ | ⟨_, hw⟩⟩
    · exact absurd rfl q
    · obtain rfl : p = 1 := by omega
      exact Or.inr (Or.inl ⟨rfl, hw⟩)
    · exact absurd rfl q
    · obtain rfl : p = 0 := by omega
      exact Or.inr (Or.inr ⟨rfl, hw⟩)

end Go.Proofs.YtdcinlkkjbclmabGreat
