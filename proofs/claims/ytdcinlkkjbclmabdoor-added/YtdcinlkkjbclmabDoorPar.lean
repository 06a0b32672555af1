/- The contract of platter.Parity. -/
import Derived.Test.YtdcinlkkjbclmabDoorTake
namespace Go.Proofs.YtdcinlkkjbclmabDoor
open Go.RowKit

theorem taken_all (Ls : List (List Nat)) : takenTo Ls [] Ls.length = Ls := by
  apply List.ext_getElem (by simp [takenTo])
  intro i h1 h2
  have e : inI [] (i : Int) = false := rfl
  simp [takenTo, e, h2]

/-- two variables of a column's type are laid and stored into -/
theorem two_new (w : World) {p q : List Nat} (hp : IsCol p) (hq : IsCol q) :
    ((w.alloc (.cells zA 41)).alloc (.cells zA 41)).there w.heap.size 0 (colA p).size ∧
    (((w.alloc (.cells zA 41)).alloc (.cells zA 41)).setCells w.heap.size 0 (colA p).toList).there (w.heap.size + 1) 0 (colA q).size ∧
    RowAt ((((w.alloc (.cells zA 41)).alloc (.cells zA 41)).setCells w.heap.size 0 (colA p).toList).setCells (w.heap.size + 1) 0 (colA q).toList) w.heap.size p ∧
    RowAt ((((w.alloc (.cells zA 41)).alloc (.cells zA 41)).setCells w.heap.size 0 (colA p).toList).setCells (w.heap.size + 1) 0 (colA q).toList) (w.heap.size + 1) q ∧
    Below w.heap.size w ((((w.alloc (.cells zA 41)).alloc (.cells zA 41)).setCells w.heap.size 0 (colA p).toList).setCells (w.heap.size + 1) 0 (colA q).toList) ∧
    ((((w.alloc (.cells zA 41)).alloc (.cells zA 41)).setCells w.heap.size 0 (colA p).toList).setCells (w.heap.size + 1) 0 (colA q).toList).heap.size = w.heap.size + 2 := by
  have z0 := (RowAt.newz w).alloc (.cells zA 41)
  have z1 := RowAt.newz (w.alloc (.cells zA 41))
  simp only [World.size_alloc] at z1
  have y1 := z1.setCells_other w.heap.size 0 (colA p).toList (by omega)
  refine ⟨by rw [colA_size hp]; exact z0.there (by rfl), by rw [colA_size hq]; exact y1.there (by rfl), (z0.stored (by rfl) hp.len).setCells_other _ _ _ (by omega), y1.stored (by rfl) hq.len,
    below_setCells (below_setCells (((Below.refl _ _).alloc (Nat.le_refl _) _).alloc (by simp) _) _ _ _ (Nat.le_refl _)) _ _ _ (by omega), by rw [setCells_size, setCells_size]; simp⟩

theorem ownsRow_keep {w w' : World} {base : Nat} {e : TypeId} {size : Nat} {v : Value} {n : Nat} {xs : List Value} (h : w.ownsRow base e size v n xs) (hb : Below w.heap.size w w') : w'.ownsRow base e size v n xs := by
  obtain ⟨h1, h2⟩ := h
  refine ⟨h1, ?_⟩
  rcases h2 with h2 | ⟨g, cap, cur, hv, hg, hh, r⟩
  · exact Or.inl h2
  · refine Or.inr ⟨g, cap, cur, hv, hg, ?_, r⟩
    rw [hb.block g ?_]
    · exact hh
    · rcases Nat.lt_or_ge g w.heap.size with h3 | h3
      · exact h3
      · rw [Array.getElem?_eq_none h3] at hh; cases hh

set_option maxHeartbeats 1000000 in
theorem par_any (v : Value) (Ls : List (List Nat)) (w : World) (hv : SlL w v Ls) (h2 : 2 ≤ Ls.length) (h6 : Ls.length ≤ 6) (hc : AreCols Ls) (ht : Tabs w) :
    Calls Tryd.prog 9 #[v] w fun e w' => ∃ g1 c1 g2 c2 : Nat, e = .returned (.tuple #[.slice (some ⟨g1, 0, none⟩) 16 c1, .slice (some ⟨g2, 0, none⟩) 16 c2, .int .i64 0]) ∧ w.heap.size ≤ g1 ∧ g1 < g2 ∧
      w'.ownsRow w.heap.size 5 1 (.slice (some ⟨g1, 0, none⟩) 16 c1) 16 ((parP Ls Ls.length).map B) ∧ w'.ownsRow w.heap.size 5 1 (.slice (some ⟨g2, 0, none⟩) 16 c2) 16 ((parQ Ls Ls.length).map B) ∧ Below w.heap.size w w' := by
  have hs2 := ht.size
  have hbt : btw (Ls.length : Int) 2 6 = true := by simp [btw]; omega
  obtain ⟨a, cap, hve, hd⟩ := id hv
  subst hve
  have HV := hide hv
  have HT := hide ht
  clear hd hv ht
  go_enter Tryd.func9, Tryd.ntmps9
  go_wp2_with fail
  refine (between_any _ _ _ _).mono ?_
  rintro e w1 ⟨rfl, rfl⟩
  go_wp2_with fail
  refine (take_any _ _ Ls [] _ (unhide HV) ⟨none, 0, rfl, .inl rfl⟩ (by omega) (by omega) (by simp) (fun i hi x hx => (hc.col i hi).byte x hx) (fun i hi => by rw [(hc.col i hi).len]; omega)).mono ?_
  rintro e w2 ⟨hb2, hh⟩
  rcases hh with ⟨g, rfl, hg, hcols, _⟩ | ⟨_, hno⟩
  · rw [taken_all] at hcols
    have HC := hide hcols
    have HB := hide hb2
    have HT2 := hide ((unhide HT).below hs2 hb2)
    have hp := parP_col hc Ls.length (Nat.le_refl _)
    have hq := parQ_col hc Ls.length (Nat.le_refl _)
    clear hcols hb2
    go_wp2_with fail
    refine (parity_any g Ls.length Ls _ hc h6 (unhide HC).lies (unhide HC).lt (unhide HT2)).mono ?_
    rintro e w3 ⟨rfl, hb3⟩
    have HB3 := hide ((unhide HB).trans (hb3.mono (unhide HB).size))
    clear hb3 HB HC HT HV HT2 hc
    obtain ⟨p, hpe⟩ : ∃ p, parP Ls Ls.length = p := ⟨_, rfl⟩
    obtain ⟨q, hqe⟩ : ∃ q, parQ Ls Ls.length = q := ⟨_, rfl⟩
    rw [hpe] at hp ⊢
    rw [hqe] at hq ⊢
    have HPE := hide hpe
    have HQE := hide hqe
    clear hpe hqe
    have hsp : (Tryd.prog.info? 41).map (·.size) = some (colA p).size := by rw [colA_size hp]; exact Tryd.colSize
    have hsq : (Tryd.prog.info? 41).map (·.size) = some (colA q).size := by rw [colA_size hq]; exact Tryd.colSize
    unfold colV
    obtain ⟨t1, t2, r1, r2, bw, sw⟩ := two_new w3 hp hq
    have T1 := hide t1
    have T2 := hide t2
    have R1 := hide r1
    have R2 := hide r2
    have BW := hide bw
    have SW := hide sw
    clear t1 t2 r1 r2 bw sw
    go_wp2_with (first | (refine wpList_store_mid rfl 41 _ _ rfl w3.heap.size 0 (colA p) rfl rfl (unhide T1) hsp (colA_one _) ?_) | (refine wpList_store_mid rfl 41 _ _ rfl (w3.heap.size + 1) 0 (colA q) rfl rfl (unhide T2) hsq (colA_one _) ?_))
    clear T1 T2
    have hip : (Tryd.prog.info? 41).map (·.size) = some (p.map B).length := by rw [List.length_map, hp.len]; exact Tryd.colSize
    have hiq : (Tryd.prog.info? 41).map (·.size) = some (q.map B).length := by rw [List.length_map, hq.len]; exact Tryd.colSize
    have hu := Tryd.underlying41
    generalize (((w3.alloc (.cells zA 41)).alloc (.cells zA 41)).setCells w3.heap.size 0 (colA p).toList).setCells (w3.heap.size + 1) 0 (colA q).toList = w4 at *
    simp only [Act.put]
    refine wp_region_noPanic ?_
    refine orders_begin 6 (fun w' => Below w4.heap.size w4 w') (by kernel_rfl) ?_
    refine orders_take 0 (some 25) rfl (by kernel_rfl) (by kernel_rfl) (by kernel_rfl) (by kernel_rfl) (fun _ _ _ h => h) (yieldsIf_load_mid (by rfl) 41 _ rfl w3.heap.size 0 rfl (p.map B) _ (fun w' hw => range_below (unhide R1).range hw (unhide R1).lt) hu rfl hip) (Below.refl _ _).drew rfl ?_
    simp only [Act.put]
    refine orders_take 2 (some 27) rfl (by kernel_rfl) (by kernel_rfl) (by kernel_rfl) (by kernel_rfl) (fun _ _ _ h => h) (yieldsIf_load_mid (by rfl) 41 _ rfl (w3.heap.size + 1) 0 rfl (q.map B) _ (fun w' hw => range_below (unhide R2).range hw (unhide R2).lt) hu rfl hiq) (Below.refl _ _).drew rfl ?_
    simp only [Act.put]
    refine orders_one 1 (by kernel_rfl) rfl (by rfl) (fun K hK => ?_)
    go_simp
    refine (give_any p _ hp).mono ?_
    rintro e w5 ⟨g1, c1, rfl, hg1, hg1', ho1, hb5⟩
    have hb5' : Below w4.heap.size w4 w5 := (Below.refl _ _).drew.trans hb5
    refine hK.out _ _ (fun _ => hb5') ?_
    clear hK K
    refine orders_one 3 (by kernel_rfl) rfl (by rfl) (fun K hK => ?_)
    go_simp
    refine (give_any q _ hq).mono ?_
    rintro e w6 ⟨g2, c2, rfl, hg2, hg2', ho2, hb6⟩
    have hb6' : Below w4.heap.size w4 w6 := hb5'.trans (hb6.mono hb5'.size)
    refine hK.out _ _ (fun _ => hb6') ?_
    clear hK K
    refine orders_take 4 (some 2) (v := .slice (some ⟨g1, 0, none⟩) 16 c1) rfl (by kernel_rfl) (by kernel_rfl) (by kernel_rfl) (by kernel_rfl) (fun _ _ _ h => h) (Or.inl ⟨by rfl, fun _ _ => rfl⟩) hb6' rfl ?_
    simp only [Act.put]
    refine orders_take 5 (some 3) (v := .slice (some ⟨g2, 0, none⟩) 16 c2) rfl (by kernel_rfl) (by kernel_rfl) (by kernel_rfl) (by kernel_rfl) (fun _ _ _ h => h) (Or.inl ⟨by rfl, fun _ _ => rfl⟩) hb6' rfl ?_
    simp only [Act.put]
    refine orders_one 6 (by kernel_rfl) rfl (by rfl) (fun K hK => ?_)
    go_simp
    refine hK.out _ _ (fun h => absurd rfl h) ?_
    clear hK K
    refine orders_end (by kernel_rfl) ?_
    refine NoPanic.normal ?_
    have hs3 := (unhide HB3).size
    have hs4 := (unhide BW).size
    have hs5 : w4.heap.size ≤ g1 := hg1
    have HO1 : Hid (w6.ownsRow w1.heap.size 5 1 (.slice (some ⟨g1, 0, none⟩) 16 c1) 16 (p.map B)) := ownsRow_base_le (ownsRow_keep ho1 hb6) (by show w1.heap.size ≤ w4.heap.size; omega)
    have HO2 : Hid (w6.ownsRow w1.heap.size 5 1 (.slice (some ⟨g2, 0, none⟩) 16 c2) 16 (q.map B)) := ownsRow_base_le ho2 (by have := hb5'.size; omega)
    have HB6 : Hid (Below w1.heap.size w1 w6) := ((unhide HB3).trans ((unhide BW).mono hs3)).trans (hb6'.mono (by omega))
    clear ho1 ho2 hb6 hb6' hb5 hb5' R1 R2 BW HB3
    go_wp2
    go_ret3
    refine ⟨g1, c1, g2, c2, rfl, by omega, by omega, ?_, ?_, unhide HB6⟩
    · rw [unhide HPE]; exact unhide HO1
    · rw [unhide HQE]; exact unhide HO2
  · exact absurd (fun i hi _ => hc.col i hi) hno

end Go.Proofs.YtdcinlkkjbclmabDoor
