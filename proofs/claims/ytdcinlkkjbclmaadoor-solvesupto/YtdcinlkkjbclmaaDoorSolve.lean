/- The contract of stripe.Solve. -/
import Derived.Test.YtdcinlkkjbclmaaDoorSolveDef
import Derived.Test.YtdcinlkkjbclmaaDoorPre
import Derived.Test.YtdcinlkkjbclmaaDoorTwo
namespace Go.Proofs.YtdcinlkkjbclmaaDoor
open Go.RowKit

theorem Own.drew {w : World} {base g cap : Nat} {cs : List (List Nat)} (h : Own w base g cap cs) : Own w.drew base g cap cs := h

theorem datB_cols {cs : List (List Nat)} {k : Nat} (hcs : AreCols cs) (ms : List Int) (h : k ≤ cs.length) : AreCols (datB cs ms k) := by
  have hlt : (cs.take k).length = k := by rw [List.length_take]; omega
  exact blankTo_cols ⟨fun i hi => by rw [hlt] at hi; rw [take_getD _ _ _ hi]; exact hcs.col i (by omega)⟩ ms ms.length

theorem cell_setCells_other (w : World) (b o : Nat) (vs : List Value) (g i : Nat) (h : g ≠ b) : (w.setCells b o vs).cell? ⟨g, i, none⟩ = w.cell? ⟨g, i, none⟩ :=
  World.cell?_of_block (setCells_heap_other w b o vs g h)
theorem mem_lost {ms : List Int} {k : Nat} {x : Int} (hnn : ∀ i, i < ms.length → 0 ≤ ms.getD i 0) (h : x ∈ lostL ms k) : 0 ≤ x ∧ x < (k : Int) := by
  unfold lostL at h
  rw [List.mem_filter] at h
  obtain ⟨h1, h2⟩ := h
  obtain ⟨i, hi, rfl⟩ := List.getElem_of_mem h1
  have := hnn i hi
  rw [List.getD_eq_getElem?_getD, List.getElem?_eq_getElem hi] at this
  exact ⟨this, of_decide_eq_true h2⟩
theorem cols_set {cs : List (List Nat)} (h : AreCols cs) (a : Nat) {x : List Nat} (hx : IsCol x) : AreCols (cs.set a x) := ⟨fun i hi => by
  rw [List.length_set] at hi
  rcases Nat.lt_or_ge a cs.length with h1 | h1
  · rw [getD_set _ _ _ _ h1]
    split
    · exact hx
    · exact h.col i hi
  · rw [List.set_eq_of_length_le h1]; exact h.col i hi⟩

set_option maxHeartbeats 8000000 in
theorem solve_any (b cap : Nat) (cs : List (List Nat)) (m : Value) (ms : List Int) (w : World) (hcs : AreCols cs) (h4 : 4 ≤ cs.length) (h8 : cs.length ≤ 8) (hcap : cs.length ≤ cap) (_hcm : cap ≤ maxLen) (hat : ColsAt w b cs) (hb : b < w.heap.size)
    (hm : SlI w m ms) (hnn : ∀ i, i < ms.length → 0 ≤ ms.getD i 0) (hl2 : ms.length ≤ 2) (ht : Tabs w) :
    Calls Tryd.prog 30 #[.slice (some ⟨b, 0, none⟩) cs.length cap, m] w fun e w' => ∃ g cap' : Nat, e = .returned (.slice (some ⟨g, 0, none⟩) cs.length cap') ∧ w.heap.size ≤ g ∧ g < w'.heap.size ∧ Own w' w.heap.size g cap' (solveL cs ms (cs.length - 2)) ∧ AreCols (solveL cs ms (cs.length - 2)) ∧ Below w.heap.size w w' := by
  have hs2 := ht.size
  unfold maxLen at _hcm
  obtain ⟨k, hk⟩ : ∃ k, cs.length = k + 2 := ⟨cs.length - 2, by omega⟩
  have hk2 : cs.length - 2 = k := by omega
  rw [hk2]
  have hlt : (cs.take k).length = k := by rw [List.length_take]; omega
  have hct : AreCols (cs.take k) := ⟨fun i hi => by rw [hlt] at hi; rw [take_getD _ _ _ hi]; exact hcs.col i (by omega)⟩
  have hatt : ColsAt w b (cs.take k) := fun i hi => by rw [hlt] at hi; rw [take_getD _ _ _ hi]; exact hat i (by omega)
  have hk2' : 2 ≤ k := by omega
  have hk6 : k ≤ 6 := by omega
  have hk100 : k ≤ 1000 := by omega
  rw [hk]
  go_enter Tryd.func30, Tryd.ntmps30
  have hkc : (k : Int) ≤ (cap : Int) := by omega
  have hk0 : (0 : Int) ≤ (k : Int) := by omega
  have HSC := hide (sclone_any b cap (cs.take k) w hct (by omega) (by omega) hatt)
  rw [hlt] at HSC
  have HAT := hide hat
  have HCS := hide hcs
  have HT := hide ht
  have HM := hide hm
  have HNN := hide hnn
  have HCT := hide hct
  have HLT := hide hlt
  clear hat hcs ht hatt hct hlt hm hnn
  go_wp2_with fail
  refine (unhide HSC).mono ?_
  rintro e w1 ⟨g, gc, rfl, hg1, hg2, hown1, hb1⟩
  have HO1 := hide hown1
  have HB1 := hide hb1
  clear hown1 hb1 HSC
  go_wp2_with fail
  have hbl := blank_any g gc (cs.take k) m ms w1 w.heap.size (unhide HO1) hg2 hg1 (unhide HCT) (fun w' hw => (unhide HM).below ((unhide HB1).trans hw)) (unhide HNN) (by omega)
  rw [unhide HLT] at hbl
  refine hbl.mono ?_
  rintro e w2 ⟨lv, rfl, hlo, hown2, hb2⟩
  clear hbl
  have HO2 := hide hown2
  have HLO := hide hlo
  have HB2 := hide ((unhide HB1).trans hb2)
  have hs12 := hb2.size
  clear hown2 hlo hb2 HO1 HB1
  change Hid (Own w2 w.heap.size g gc (datB cs ms k)) at HO2
  have hdl := datB_len cs ms k (by omega)
  have hdc := datB_cols (k := k) (unhide HCS) ms (by omega)
  have hpa := parity_any g gc (datB cs ms k) w2 hdc (by omega) ((unhide HO2).cols hdc (by omega)).lies (by omega) ((unhide HT).below hs2 (unhide HB2))
  rw [hdl] at hpa
  have hp : IsCol (parP (datB cs ms k) k) := parP_col hdc k (by omega)
  have hq : IsCol (parQ (datB cs ms k) k) := parQ_col hdc k (by omega)
  have hcP := (unhide HCS).col k (by omega)
  have hcQ := (unhide HCS).col (k + 1) (by omega)
  have HPA := hide hpa
  have HDL := hide hdl
  have HDC := hide hdc
  clear hpa hdl hdc
  go_wp2_with fail
  refine (unhide HPA).mono ?_
  rintro e w2' ⟨rfl, hb3⟩
  obtain ⟨p, hpe⟩ : ∃ p, parP (datB cs ms k) k = p := ⟨_, rfl⟩
  obtain ⟨q, hqe⟩ : ∃ q, parQ (datB cs ms k) k = q := ⟨_, rfl⟩
  rw [hpe] at hp ⊢
  rw [hqe] at hq ⊢
  have HPE := hide hpe
  have HQE := hide hqe
  clear hpe hqe HPA
  have hsp : (Tryd.prog.info? 51).map (·.size) = some (colA p).size := by rw [colA_size hp]; exact Tryd.colSize
  have hsq : (Tryd.prog.info? 51).map (·.size) = some (colA q).size := by rw [colA_size hq]; exact Tryd.colSize
  obtain ⟨t1, t2, r1, r2, bw, sw⟩ := two_new w2' hp hq
  have hlt2 : w2.heap.size ≤ w2'.heap.size := hb3.size
  have T1 := hide t1
  have T2 := hide t2
  have R1 := hide r1
  have R2 := hide r2
  have HO3 := hide (((unhide HO2).below hb3 (by omega)).below bw (by omega))
  have HLO3 := hide (ownsRow_keep (ownsRow_keep (unhide HLO) hb3) bw)
  have BW := hide (((unhide HB2).trans (hb3.mono (unhide HB2).size)).trans (bw.mono (by have := (unhide HB2).size; omega)))
  clear t1 t2 r1 r2 bw hb3 HO2 HLO HB2
  unfold colV
  go_wp2_with (first | (refine wpList_store_mid rfl 51 _ _ rfl w2'.heap.size 0 (colA p) rfl rfl (unhide T1) hsp (colA_one _) ?_) | (refine wpList_store_mid rfl 51 _ _ rfl (w2'.heap.size + 1) 0 (colA q) rfl rfl (unhide T2) hsq (colA_one _) ?_))
  clear T1 T2
  generalize (((w2'.alloc (.cells zA 51)).alloc (.cells zA 51)).setCells w2'.heap.size 0 (colA p).toList).setCells (w2'.heap.size + 1) 0 (colA q).toList = w3 at *
  simp only [Act.put]
  generalize hcPe : cs.getD k [] = cP at *
  generalize hcQe : cs.getD (k + 1) [] = cQ at *
  have HcPE := hide hcPe
  have HcQE := hide hcQe
  clear hcPe hcQe
  have hpc := xorL_col hp hcP
  have hqc := xorL_col hq hcQ
  have hspc : (Tryd.prog.info? 51).map (·.size) = some (colA (xorL p cP)).size := by rw [colA_size hpc]; exact Tryd.colSize
  have hsqc : (Tryd.prog.info? 51).map (·.size) = some (colA (xorL q cQ)).size := by rw [colA_size hqc]; exact Tryd.colSize
  have hip : (Tryd.prog.info? 51).map (·.size) = some (p.map B).length := by rw [List.length_map, hp.len]; exact Tryd.colSize
  have hiq : (Tryd.prog.info? 51).map (·.size) = some (q.map B).length := by rw [List.length_map, hq.len]; exact Tryd.colSize
  have hicP : (Tryd.prog.info? 51).map (·.size) = some (cP.map B).length := by rw [List.length_map, hcP.len]; exact Tryd.colSize
  have hicQ : (Tryd.prog.info? 51).map (·.size) = some (cQ.map B).length := by rw [List.length_map, hcQ.len]; exact Tryd.colSize
  have hu := Tryd.underlying51
  have rP := range_below ((unhide HAT) k (by omega)) (unhide BW) hb
  have rQ := range_below ((unhide HAT) (k + 1) (by omega)) (unhide BW) hb
  rw [unhide HcPE] at rP
  rw [unhide HcQE] at rQ
  have hbw3 := Nat.lt_of_lt_of_le hb (unhide BW).size
  refine ways_meet (fun g g' W => w3.heap.size ≤ g ∧ w3.heap.size ≤ g' ∧ g ≠ g' ∧ RowAt W g (xorL p cP) ∧ RowAt W g' (xorL q cQ) ∧ Below w3.heap.size w3 W)
    (fun ac g g' => ((((((((((((((ac.put (some 27) (.agg (p.map B).toArray)).put (some 28) (.slice (some ⟨b, 0, none⟩) (k + 2) cap)).put (some 29) (.int .i64 k)).put (some 30) (.pointer (some ⟨b, k * 16, none⟩))).put (some 31) (.agg (cP.map B).toArray)).put (some 32) (colV (xorL p cP))).put (some 33) (.agg (q.map B).toArray)).put (some 34) (.slice (some ⟨b, 0, none⟩) (k + 2) cap)).put (some 35) (.int .i64 k)).put (some 36) (.int .i64 ((k : Int) + 1))).put (some 37) (.pointer (some ⟨b, (k + 1) * 16, none⟩))).put (some 38) (.agg (cQ.map B).toArray)).put (some 39) (colV (xorL q cQ))).put (some 10) (.pointer (some ⟨g, 0, none⟩))).put (some 11) (.pointer (some ⟨g', 0, none⟩))) ?_ ?_
  · rintro g10 g11 w4 ⟨hg10, hg11, hne, r10, r11, b4⟩
    simp only [Act.put, List.setIfInBounds_toArray, List.set_cons_zero, List.set_cons_succ]
    obtain ⟨oP, hoP⟩ : ∃ oP, xorL p cP = oP := ⟨_, rfl⟩
    obtain ⟨oQ, hoQ⟩ : ∃ oQ, xorL q cQ = oQ := ⟨_, rfl⟩
    rw [hoP] at hpc hspc r10 ⊢
    rw [hoQ] at hqc hsqc r11 ⊢
    have EP : Hid (offP cs ms k = oP) := by unfold offP; rw [unhide HPE, unhide HcPE, hoP]; exact rfl
    have EQ : Hid (offQ cs ms k = oQ) := by unfold offQ; rw [unhide HQE, unhide HcQE, hoQ]; exact rfl
    have hs3 := (unhide BW).size
    have hR1 := (unhide R1).lt
    have hR2 := (unhide R2).lt
    have O4 := hide ((unhide HO3).below b4 (by omega))
    have L4 := hide (ownsRow_keep (unhide HLO3) b4)
    have P8 := hide ((unhide R1).below b4 (unhide R1).lt)
    have P9 := hide ((unhide R2).below b4 (unhide R2).lt)
    have P10 := hide r10
    have P11 := hide r11
    have BB := hide ((unhide BW).trans (b4.mono (unhide BW).size))
    have hs4 := b4.size
    have hlb := hide ((unhide HLO3).lt)
    have hp0 := hp
    have hq0 := hq
    have hsw := hide sw
    clear r10 r11 b4 R1 R2 HO3 HLO3 BW hoP hoQ HPE HQE HcPE HcQE rP rQ hip hiq hicP hicQ hsp hsq hp hq hcP hcQ sw
    have hll := lostL_le ms k
    rcases hlo : lostL ms k with _ | ⟨x, _ | ⟨y, _ | ⟨z, r⟩⟩⟩
    · skip
      have hln : lv = .slice none 0 0 ∨ ∃ gl cl : Nat, lv = .slice (some ⟨gl, 0, none⟩) 0 cl := by
        have h := (unhide L4).2
        rw [hlo] at h
        rcases h with ⟨h, _⟩ | ⟨gl, cl, cur, e, _⟩
        · exact Or.inl h
        · exact Or.inr ⟨gl, cl, e⟩
      have HS : Hid (solveL cs ms k = datB cs ms k ++ [parP (datB cs ms k) k, parQ (datB cs ms k) k]) := by unfold solveL; rw [hlo]; rfl
      clear hlo hll L4 hlb
      rcases hln with rfl | ⟨gl, cl, rfl⟩
      · skip
        go_wp2_with fail
        obtain ⟨i0, hi, hz0, hz1, hz2⟩ := info_parts Tryd.infoC
        have hpa := parity_any g gc (datB cs ms k) w4 (unhide HDC) (by rw [unhide HDL]; omega) ((unhide O4).cols (unhide HDC) (by omega)).lies (by omega) ((unhide HT).below hs2 (unhide BB))
        rw [unhide HDL] at hpa
        have hp' : IsCol (parP (datB cs ms k) k) := parP_col (unhide HDC) k (by rw [unhide HDL]; exact Nat.le_refl _)
        have hq' : IsCol (parQ (datB cs ms k) k) := parQ_col (unhide HDC) k (by rw [unhide HDL]; exact Nat.le_refl _)
        have HPA := hide hpa
        clear hpa
        go_wp2_with fail
        refine (unhide HPA).mono ?_
        rintro e W5 ⟨rfl, hb5⟩
        clear HPA
        obtain ⟨p', hpe'⟩ : ∃ p', parP (datB cs ms k) k = p' := ⟨_, rfl⟩
        obtain ⟨q', hqe'⟩ : ∃ q', parQ (datB cs ms k) k = q' := ⟨_, rfl⟩
        rw [hpe'] at hp' ⊢
        rw [hqe'] at hq' ⊢
        have HPE' := hide hpe'
        have HQE' := hide hqe'
        clear hpe' hqe'
        have hsp' : (Tryd.prog.info? 51).map (·.size) = some (colA p').size := by rw [colA_size hp']; exact Tryd.colSize
        have hsq' : (Tryd.prog.info? 51).map (·.size) = some (colA q').size := by rw [colA_size hq']; exact Tryd.colSize
        have e8 := (unhide P8).below hb5 (unhide P8).lt
        have e9 := (unhide P9).below hb5 (unhide P9).lt
        have eO := (unhide O4).below hb5 (by omega)
        have eB := (unhide BB).trans (hb5.mono (unhide BB).size)
        have hs5 := hb5.size
        have hT1 := hide (show W5.there w2'.heap.size 0 (colA p').size by rw [colA_size hp']; exact e8.there hp0.len)
        have e9' := e9.setCells_other w2'.heap.size 0 (colA p').toList (by omega)
        have hT2 := hide (show (W5.setCells w2'.heap.size 0 (colA p').toList).there (w2'.heap.size + 1) 0 (colA q').size by rw [colA_size hq']; exact e9'.there hq0.len)
        have f8 := (e8.stored hp0.len hp'.len).setCells_other (w2'.heap.size + 1) 0 (colA q').toList (by omega)
        have f9 := e9'.stored hq0.len hq'.len
        have fO := (eO.other w2'.heap.size 0 (colA p').toList (by omega)).other (w2'.heap.size + 1) 0 (colA q').toList (by omega)
        have fB := below_setCells (below_setCells eB w2'.heap.size 0 (colA p').toList (by omega)) (w2'.heap.size + 1) 0 (colA q').toList (by omega)
        have fz : ((W5.setCells w2'.heap.size 0 (colA p').toList).setCells (w2'.heap.size + 1) 0 (colA q').toList).heap.size = W5.heap.size := by rw [setCells_size, setCells_size]
        clear e8 e9 eO eB e9' hb5 O4 P8 P9 BB
        obtain ⟨W6, hW6⟩ : ∃ W6, (W5.setCells w2'.heap.size 0 (colA p').toList).setCells (w2'.heap.size + 1) 0 (colA q').toList = W6 := ⟨_, rfl⟩
        rw [hW6] at f8 f9 fO fB fz
        have HW6 := hide hW6
        have F8 := hide f8
        have F9 := hide f9
        have FZ := hide fz
        have FB := hide fB
        have FO := hide fO
        clear hW6 f8 f9 fO fB fz
        unfold colV
        have hnw : ∀ j u, (flatL [p', q'])[j]? = some u → (W6.alloc (.cells (flatL [p', q']).toArray 51)).cell? ((⟨W6.heap.size, 0, none⟩ : Addr).add j) = some u := fun j u hj => by
          rw [Addr.add_mid, Nat.zero_add]
          exact flat_new W6 [p', q'] j u hj
        have hoA : (W6.alloc (.cells (flatL [p', q']).toArray 51)).ownsRow w.heap.size 51 16 (.slice (some ⟨g, 0, none⟩) k gc) k (flatL (datB cs ms k)) := by
          have h := (unhide FO).below ((Below.refl W6.heap.size W6).alloc (Nat.le_refl _) (.cells (flatL [p', q']).toArray 51)) (by have := unhide FZ; omega)
          unfold Own at h
          rw [unhide HDL] at h
          exact h
        have hss : w.heap.size ≤ W6.heap.size := (unhide FB).size
        have HNW := hide hnw
        have HOA := hide hoA
        have HSS := hide hss
        clear hnw hoA hss
        go_wp2_with (first | (show wpList _ _ _ (Oper.mk none (Op.store _ (Operand.tmp 8) _) _ _ _ _ :: _) _ _; refine wpList_store_mid rfl 51 _ _ rfl w2'.heap.size 0 (colA p') rfl rfl (unhide hT1) hsp' (colA_one _) ?_) | (show wpList _ _ _ (Oper.mk none (Op.store _ (Operand.tmp 9) _) _ _ _ _ :: _) _ _; refine wpList_store_mid rfl 51 _ _ rfl (w2'.heap.size + 1) 0 (colA q') rfl rfl (unhide hT2) hsq' (colA_one _) ?_; rw [unhide HW6]) | (show wpList _ _ _ (Oper.mk _ (Op.load _ (Operand.tmp 8)) _ _ _ _ :: _) _ _; refine wpList_load_row_if (by rfl) 51 _ rfl w2'.heap.size rfl 51 _ _ _ (unhide F8) hu rfl hsp' ?_) | (show wpList _ _ _ (Oper.mk _ (Op.load _ (Operand.tmp 9)) _ _ _ _ :: _) _ _; refine wpList_load_row_if (by rfl) 51 _ rfl (w2'.heap.size + 1) rfl 51 _ _ _ (unhide F9) hu rfl hsq' ?_) | (show wpList _ _ _ (Oper.mk _ (Op.buildSlice _ _ _) _ _ _ _ :: _) _ _; refine wpList_two rfl _ _ rfl (p := p') (q := q') rfl rfl hp'.len hq'.len ?_) | (at_builtin; refine wpList_append_own _ rfl _ _ 47 rfl w.heap.size 51 i0 (.agg zA) 16 16 Tryd.underlying47 hi hz0 hz1 hz2 rfl (by decide) _ _ _ rfl (unhide HOA) ⟨W6.heap.size, 0, none⟩ 2 2 (flatL [p', q']) rfl (flatL_len _) (unhide HNW) (flatL_one _) (by unfold maxLen; omega) (by omega) (by have := unhide HSS; simp; omega) ?_))
        intro v' w9 hown' hgrow _
        have HB9 := hide (((unhide FB).alloc (unhide FB).size (.cells (flatL [p', q']).toArray 51)).grown hgrow (Nat.le_trans (unhide HSS) (by simp)) (fun j hj => ((unhide HOA).lt j hj).1))
        obtain ⟨g9, c9, rfl, hg91, hg92⟩ := hown'.form (by omega)
        have HW9 : Hid (Own w9 w.heap.size g9 c9 (solveL cs ms k)) := by
          rw [unhide HS, unhide HPE', unhide HQE']
          unfold Own
          rw [flatL_push2 (datB cs ms k) p' q', List.length_append, unhide HDL]
          exact hown'
        have HA9 : Hid (AreCols (solveL cs ms k)) := by
          rw [unhide HS, unhide HPE', unhide HQE']
          exact cols_push2 (unhide HDC) hp' hq'
        clear hown' hgrow HOA HNW
        go_wp2
        go_ret
        exact ⟨g9, c9, rfl, hg91, hg92, unhide HW9, unhide HA9, unhide HB9⟩
      · skip
        go_wp2_with fail
        obtain ⟨i0, hi, hz0, hz1, hz2⟩ := info_parts Tryd.infoC
        have hpa := parity_any g gc (datB cs ms k) w4 (unhide HDC) (by rw [unhide HDL]; omega) ((unhide O4).cols (unhide HDC) (by omega)).lies (by omega) ((unhide HT).below hs2 (unhide BB))
        rw [unhide HDL] at hpa
        have hp' : IsCol (parP (datB cs ms k) k) := parP_col (unhide HDC) k (by rw [unhide HDL]; exact Nat.le_refl _)
        have hq' : IsCol (parQ (datB cs ms k) k) := parQ_col (unhide HDC) k (by rw [unhide HDL]; exact Nat.le_refl _)
        have HPA := hide hpa
        clear hpa
        go_wp2_with fail
        refine (unhide HPA).mono ?_
        rintro e W5 ⟨rfl, hb5⟩
        clear HPA
        obtain ⟨p', hpe'⟩ : ∃ p', parP (datB cs ms k) k = p' := ⟨_, rfl⟩
        obtain ⟨q', hqe'⟩ : ∃ q', parQ (datB cs ms k) k = q' := ⟨_, rfl⟩
        rw [hpe'] at hp' ⊢
        rw [hqe'] at hq' ⊢
        have HPE' := hide hpe'
        have HQE' := hide hqe'
        clear hpe' hqe'
        have hsp' : (Tryd.prog.info? 51).map (·.size) = some (colA p').size := by rw [colA_size hp']; exact Tryd.colSize
        have hsq' : (Tryd.prog.info? 51).map (·.size) = some (colA q').size := by rw [colA_size hq']; exact Tryd.colSize
        have e8 := (unhide P8).below hb5 (unhide P8).lt
        have e9 := (unhide P9).below hb5 (unhide P9).lt
        have eO := (unhide O4).below hb5 (by omega)
        have eB := (unhide BB).trans (hb5.mono (unhide BB).size)
        have hs5 := hb5.size
        have hT1 := hide (show W5.there w2'.heap.size 0 (colA p').size by rw [colA_size hp']; exact e8.there hp0.len)
        have e9' := e9.setCells_other w2'.heap.size 0 (colA p').toList (by omega)
        have hT2 := hide (show (W5.setCells w2'.heap.size 0 (colA p').toList).there (w2'.heap.size + 1) 0 (colA q').size by rw [colA_size hq']; exact e9'.there hq0.len)
        have f8 := (e8.stored hp0.len hp'.len).setCells_other (w2'.heap.size + 1) 0 (colA q').toList (by omega)
        have f9 := e9'.stored hq0.len hq'.len
        have fO := (eO.other w2'.heap.size 0 (colA p').toList (by omega)).other (w2'.heap.size + 1) 0 (colA q').toList (by omega)
        have fB := below_setCells (below_setCells eB w2'.heap.size 0 (colA p').toList (by omega)) (w2'.heap.size + 1) 0 (colA q').toList (by omega)
        have fz : ((W5.setCells w2'.heap.size 0 (colA p').toList).setCells (w2'.heap.size + 1) 0 (colA q').toList).heap.size = W5.heap.size := by rw [setCells_size, setCells_size]
        clear e8 e9 eO eB e9' hb5 O4 P8 P9 BB
        obtain ⟨W6, hW6⟩ : ∃ W6, (W5.setCells w2'.heap.size 0 (colA p').toList).setCells (w2'.heap.size + 1) 0 (colA q').toList = W6 := ⟨_, rfl⟩
        rw [hW6] at f8 f9 fO fB fz
        have HW6 := hide hW6
        have F8 := hide f8
        have F9 := hide f9
        have FZ := hide fz
        have FB := hide fB
        have FO := hide fO
        clear hW6 f8 f9 fO fB fz
        unfold colV
        have hnw : ∀ j u, (flatL [p', q'])[j]? = some u → (W6.alloc (.cells (flatL [p', q']).toArray 51)).cell? ((⟨W6.heap.size, 0, none⟩ : Addr).add j) = some u := fun j u hj => by
          rw [Addr.add_mid, Nat.zero_add]
          exact flat_new W6 [p', q'] j u hj
        have hoA : (W6.alloc (.cells (flatL [p', q']).toArray 51)).ownsRow w.heap.size 51 16 (.slice (some ⟨g, 0, none⟩) k gc) k (flatL (datB cs ms k)) := by
          have h := (unhide FO).below ((Below.refl W6.heap.size W6).alloc (Nat.le_refl _) (.cells (flatL [p', q']).toArray 51)) (by have := unhide FZ; omega)
          unfold Own at h
          rw [unhide HDL] at h
          exact h
        have hss : w.heap.size ≤ W6.heap.size := (unhide FB).size
        have HNW := hide hnw
        have HOA := hide hoA
        have HSS := hide hss
        clear hnw hoA hss
        go_wp2_with (first | (show wpList _ _ _ (Oper.mk none (Op.store _ (Operand.tmp 8) _) _ _ _ _ :: _) _ _; refine wpList_store_mid rfl 51 _ _ rfl w2'.heap.size 0 (colA p') rfl rfl (unhide hT1) hsp' (colA_one _) ?_) | (show wpList _ _ _ (Oper.mk none (Op.store _ (Operand.tmp 9) _) _ _ _ _ :: _) _ _; refine wpList_store_mid rfl 51 _ _ rfl (w2'.heap.size + 1) 0 (colA q') rfl rfl (unhide hT2) hsq' (colA_one _) ?_; rw [unhide HW6]) | (show wpList _ _ _ (Oper.mk _ (Op.load _ (Operand.tmp 8)) _ _ _ _ :: _) _ _; refine wpList_load_row_if (by rfl) 51 _ rfl w2'.heap.size rfl 51 _ _ _ (unhide F8) hu rfl hsp' ?_) | (show wpList _ _ _ (Oper.mk _ (Op.load _ (Operand.tmp 9)) _ _ _ _ :: _) _ _; refine wpList_load_row_if (by rfl) 51 _ rfl (w2'.heap.size + 1) rfl 51 _ _ _ (unhide F9) hu rfl hsq' ?_) | (show wpList _ _ _ (Oper.mk _ (Op.buildSlice _ _ _) _ _ _ _ :: _) _ _; refine wpList_two rfl _ _ rfl (p := p') (q := q') rfl rfl hp'.len hq'.len ?_) | (at_builtin; refine wpList_append_own _ rfl _ _ 47 rfl w.heap.size 51 i0 (.agg zA) 16 16 Tryd.underlying47 hi hz0 hz1 hz2 rfl (by decide) _ _ _ rfl (unhide HOA) ⟨W6.heap.size, 0, none⟩ 2 2 (flatL [p', q']) rfl (flatL_len _) (unhide HNW) (flatL_one _) (by unfold maxLen; omega) (by omega) (by have := unhide HSS; simp; omega) ?_))
        intro v' w9 hown' hgrow _
        have HB9 := hide (((unhide FB).alloc (unhide FB).size (.cells (flatL [p', q']).toArray 51)).grown hgrow (Nat.le_trans (unhide HSS) (by simp)) (fun j hj => ((unhide HOA).lt j hj).1))
        obtain ⟨g9, c9, rfl, hg91, hg92⟩ := hown'.form (by omega)
        have HW9 : Hid (Own w9 w.heap.size g9 c9 (solveL cs ms k)) := by
          rw [unhide HS, unhide HPE', unhide HQE']
          unfold Own
          rw [flatL_push2 (datB cs ms k) p' q', List.length_append, unhide HDL]
          exact hown'
        have HA9 : Hid (AreCols (solveL cs ms k)) := by
          rw [unhide HS, unhide HPE', unhide HQE']
          exact cols_push2 (unhide HDC) hp' hq'
        clear hown' hgrow HOA HNW
        go_wp2
        go_ret
        exact ⟨g9, c9, rfl, hg91, hg92, unhide HW9, unhide HA9, unhide HB9⟩
    · skip
      have hmem := mem_lost (unhide HNN) (ms := ms) (k := k) (x := x) (by rw [hlo]; simp)
      obtain ⟨a, rfl⟩ := Int.eq_ofNat_of_zero_le hmem.1
      have hak : a < k := by have := hmem.2; omega
      have HS : Hid (solveL cs ms k = datS cs ms k [(a : Int)] ++ [parP (datS cs ms k [(a : Int)]) k, parQ (datS cs ms k [(a : Int)]) k]) := by unfold solveL; rw [hlo]; rfl
      have hL5 := datS_len cs ms k [(a : Int)] (by omega)
      have hln : ∃ gl cl : Nat, lv = .slice (some ⟨gl, 0, none⟩) 1 cl ∧ w4.cell? ⟨gl, 0, none⟩ = some (.int .i64 (a : Int)) ∧ w1.heap.size ≤ gl := by
        have h := unhide L4
        rw [hlo] at h
        obtain ⟨gl, cl, rfl, hb1, hb2⟩ := h.form (by simp)
        refine ⟨gl, cl, rfl, ?_, hb1⟩
        have := World.ownsRow.cellAt h 0 (by simp)
        simpa using this
      obtain ⟨gl, cl, rfl, hc0, hgl⟩ := hln
      have C0 := hide hc0
      have HL5 := hide hL5
      have hsz := hide ((unhide P10).lt)
      have ha0 : (0 : Int) ≤ (a : Int) := by omega
      have hai : (a : Int) < (k : Int) := by omega
      have hiQ : (Tryd.prog.info? 51).map (·.size) = some (oQ.map B).length := by rw [List.length_map, hqc.len]; exact Tryd.colSize
      have hiP : (Tryd.prog.info? 51).map (·.size) = some (oP.map B).length := by rw [List.length_map, hpc.len]; exact Tryd.colSize
      clear hc0 hL5 hlo hll L4 hlb hmem
      go_wp2_with fail
      refine (contains_any m ms k _ ((unhide HM).below (unhide BB)) (by omega)).mono ?_
      rintro e w4' ⟨rfl, rfl⟩
      cases hin : inI ms (k : Int) with
      | true =>
        have HIN := hide hin
        clear hin
        go_wp2
        refine wp_region_noPanic ?_
        refine orders_begin 12 (fun w' => w'.cell? ⟨gl, 0, none⟩ = some (.int .i64 (a : Int)) ∧ RowAt w' g11 oQ) (by kernel_rfl) ?_
        refine orders_take 0 (some 75) (v := .slice (some ⟨g, 0, none⟩) k gc) rfl (by kernel_rfl) (by kernel_rfl) (by kernel_rfl) (by kernel_rfl) (fun _ _ _ h => h) (Or.inl ⟨by rfl, fun _ _ => rfl⟩) ⟨unhide C0, unhide P11⟩ rfl ?_
        simp only [Act.put, List.setIfInBounds_toArray, List.set_cons_zero, List.set_cons_succ]
        refine orders_take 1 (some 76) (v := .slice (some ⟨gl, 0, none⟩) 1 cl) rfl (by kernel_rfl) (by kernel_rfl) (by kernel_rfl) (by kernel_rfl) (fun _ _ _ h => h) (Or.inl ⟨by rfl, fun _ _ => rfl⟩) ⟨unhide C0, unhide P11⟩ rfl ?_
        simp only [Act.put, List.setIfInBounds_toArray, List.set_cons_zero, List.set_cons_succ]
        refine orders_take 2 (some 77) (v := .pointer (some ⟨gl, 0, none⟩)) rfl (by kernel_rfl) (by kernel_rfl) (by kernel_rfl) (by kernel_rfl) (fun _ _ _ h => h) (Or.inl ⟨by rfl, fun _ _ => by go_simp⟩) ⟨unhide C0, unhide P11⟩ rfl ?_
        simp only [Act.put, List.setIfInBounds_toArray, List.set_cons_zero, List.set_cons_succ]
        refine orders_take 3 (some 78) (v := .int .i64 (a : Int)) rfl (by kernel_rfl) (by kernel_rfl) (by kernel_rfl) (by kernel_rfl) (fun _ _ _ h => h) (Or.inl ⟨by rfl, fun w' hw => by go_simp⟩) ⟨unhide C0, unhide P11⟩ rfl ?_
        simp only [Act.put, List.setIfInBounds_toArray, List.set_cons_zero, List.set_cons_succ]
        refine orders_take 4 (some 79) rfl (by kernel_rfl) (by kernel_rfl) (by kernel_rfl) (by kernel_rfl) (fun _ _ _ h => h) (yieldsIf_load_mid (by rfl) 51 _ rfl g11 0 rfl (oQ.map B) _ (fun w' hw => hw.2.range) hu rfl hiQ) ⟨unhide C0, unhide P11⟩ rfl ?_
        simp only [Act.put, List.setIfInBounds_toArray, List.set_cons_zero, List.set_cons_succ]
        refine orders_take 5 (some 80) (v := .slice (some ⟨gl, 0, none⟩) 1 cl) rfl (by kernel_rfl) (by kernel_rfl) (by kernel_rfl) (by kernel_rfl) (fun _ _ _ h => h) (Or.inl ⟨by rfl, fun _ _ => rfl⟩) ⟨unhide C0, unhide P11⟩ rfl ?_
        simp only [Act.put, List.setIfInBounds_toArray, List.set_cons_zero, List.set_cons_succ]
        refine orders_take 6 (some 81) (v := .pointer (some ⟨gl, 0, none⟩)) rfl (by kernel_rfl) (by kernel_rfl) (by kernel_rfl) (by kernel_rfl) (fun _ _ _ h => h) (Or.inl ⟨by rfl, fun _ _ => by go_simp⟩) ⟨unhide C0, unhide P11⟩ rfl ?_
        simp only [Act.put, List.setIfInBounds_toArray, List.set_cons_zero, List.set_cons_succ]
        refine orders_take 7 (some 82) (v := .int .i64 (a : Int)) rfl (by kernel_rfl) (by kernel_rfl) (by kernel_rfl) (by kernel_rfl) (fun _ _ _ h => h) (Or.inl ⟨by rfl, fun w' hw => by go_simp⟩) ⟨unhide C0, unhide P11⟩ rfl ?_
        simp only [Act.put, List.setIfInBounds_toArray, List.set_cons_zero, List.set_cons_succ]
        have hS0 : Below w4'.heap.size w4' w4'.drew := (Below.refl _ _).drew
        have hc0 : w4'.drew.cell? ⟨gl, 0, none⟩ = some (.int .i64 (a : Int)) := unhide C0
        have hr0 : RowAt w4'.drew g11 oQ := unhide P11
        generalize w4'.drew = W at *
        refine orders_one 8 (by kernel_rfl) rfl (by rfl) (fun K hK => ?_)
        go_simp
        refine (power_any a _ (by omega) ((unhide HT).below hs2 ((unhide BB).trans (hS0.mono (unhide BB).size)))).mono ?_
        rintro e W1 ⟨rfl, rfl⟩
        refine hK.out _ _ (fun _ => ⟨hc0, hr0⟩) ?_
        clear hK K
        refine orders_one 9 (by kernel_rfl) rfl (by rfl) (fun K hK => ?_)
        go_simp
        refine (inverse_any (powN a) _ (powN_lt a) ((unhide HT).below hs2 ((unhide BB).trans (hS0.mono (unhide BB).size)))).mono ?_
        rintro e W2 ⟨rfl, rfl⟩
        refine hK.out _ _ (fun _ => ⟨hc0, hr0⟩) ?_
        clear hK K
        refine orders_one 10 (by kernel_rfl) rfl (by rfl) (fun K hK => ?_)
        go_simp
        refine (colTimes_any oQ (ginv (powN a)) _ hqc (ginv_lt _) ((unhide HT).below hs2 ((unhide BB).trans (hS0.mono (unhide BB).size)))).mono ?_
        rintro e W3 ⟨rfl, hb3⟩
        have hS3 := hS0.trans (hb3.mono hS0.size)
        have hc3 : W3.cell? ⟨gl, 0, none⟩ = some (.int .i64 (a : Int)) := (hb3.cell (block_lt_of_cell hc0)).trans hc0
        have hr3 := hr0.below hb3 hr0.lt
        refine hK.out _ _ (fun _ => ⟨hc3, hr3⟩) ?_
        clear hK K
        have hv : IsCol (mulL oQ (ginv (powN a))) := mulL_col hqc _
        have hsv : (Tryd.prog.info? 51).map (·.size) = some (colA (mulL oQ (ginv (powN a)))).size := by rw [colA_size hv]; exact Tryd.colSize
        have o3 := (unhide O4).below hS3 (by omega)
        have d3 := o3.cols (unhide HDC) (by have := hS3.size; omega)
        have th3 : W3.there g (a * 16) (colA (mulL oQ (ginv (powN a)))).size := by
          rw [colA_size hv]
          have := d3.free
          rw [unhide HDL] at this
          exact there_part this (by omega)
        have n8 := ((unhide P8).below hS3 (unhide P8).lt).setCells_other g (a * 16) (colA (mulL oQ (ginv (powN a)))).toList (by omega)
        have n9 := ((unhide P9).below hS3 (unhide P9).lt).setCells_other g (a * 16) (colA (mulL oQ (ginv (powN a)))).toList (by omega)
        have nB := below_setCells ((unhide BB).trans (hS3.mono (unhide BB).size)) g (a * 16) (colA (mulL oQ (ginv (powN a)))).toList hg1
        have nO := o3.store a (by rw [unhide HDL]; exact hak) hv.len
        have nz := setCells_size W3 g (a * 16) (colA (mulL oQ (ginv (powN a)))).toList
        have hdat : datS cs ms k [(a : Int)] = (datB cs ms k).set a (mulL oQ (ginv (powN a))) := by
          show (datB cs ms k).set (a : Int).toNat _ = _
          rw [if_pos (unhide HIN), unhide EQ, Int.toNat_natCast]
        have O5 : Hid (Own (W3.setCells g (a * 16) (colA (mulL oQ (ginv (powN a)))).toList) w.heap.size g gc (datS cs ms k [(a : Int)])) := by rw [hdat]; exact nO
        have HC5 : Hid (AreCols (datS cs ms k [(a : Int)])) := by rw [hdat]; exact cols_set (unhide HDC) a hv
        have Q8 := hide n8
        have Q9 := hide n9
        have B5 := hide nB
        have hz5 := hS3.size
        refine orders_one 11 (by kernel_rfl) rfl (by rfl) (fun K hK => ?_)
        go_simp
        refine hK.out _ _ (fun _ => ⟨hc3, hr3⟩) ?_
        clear hK K
        refine orders_one 12 (by kernel_rfl) rfl (by rfl) (fun K hK => ?_)
        refine wp_store_mid 51 _ _ rfl g (a * 16) (colA (mulL oQ (ginv (powN a)))) rfl rfl th3 hsv (colA_one _) ?_
        refine hK.out _ _ (fun h => absurd rfl h) ?_
        clear hK K
        refine orders_end (by kernel_rfl) ?_
        refine NoPanic.normal ?_
        simp only [Act.put]
        clear th3 d3 o3 n8 n9 nB nO O4 P8 P9 P10 P11 BB C0 hc0 hr0 hc3 hr3 hS0 hS3 hdat
        obtain ⟨w5, hw5⟩ : ∃ w5, W3.setCells g (a * 16) (colA (mulL oQ (ginv (powN a)))).toList = w5 := ⟨_, rfl⟩
        rw [hw5] at O5 Q8 Q9 B5 nz ⊢
        have h5lt : w4'.heap.size ≤ w5.heap.size := by omega
        have HNZ := hide nz
        clear hw5 nz
        obtain ⟨i0, hi, hz0, hz1, hz2⟩ := info_parts Tryd.infoC
        have hpa := parity_any g gc (datS cs ms k [(a : Int)]) w5 (unhide HC5) (by rw [unhide HL5]; omega) ((unhide O5).cols (unhide HC5) (by omega)).lies (by omega) ((unhide HT).below hs2 (unhide B5))
        rw [unhide HL5] at hpa
        have hp' : IsCol (parP (datS cs ms k [(a : Int)]) k) := parP_col (unhide HC5) k (by rw [unhide HL5]; exact Nat.le_refl _)
        have hq' : IsCol (parQ (datS cs ms k [(a : Int)]) k) := parQ_col (unhide HC5) k (by rw [unhide HL5]; exact Nat.le_refl _)
        have HPA := hide hpa
        clear hpa
        go_wp2_with fail
        refine (unhide HPA).mono ?_
        rintro e W5 ⟨rfl, hb5⟩
        clear HPA
        obtain ⟨p', hpe'⟩ : ∃ p', parP (datS cs ms k [(a : Int)]) k = p' := ⟨_, rfl⟩
        obtain ⟨q', hqe'⟩ : ∃ q', parQ (datS cs ms k [(a : Int)]) k = q' := ⟨_, rfl⟩
        rw [hpe'] at hp' ⊢
        rw [hqe'] at hq' ⊢
        have HPE' := hide hpe'
        have HQE' := hide hqe'
        clear hpe' hqe'
        have hsp' : (Tryd.prog.info? 51).map (·.size) = some (colA p').size := by rw [colA_size hp']; exact Tryd.colSize
        have hsq' : (Tryd.prog.info? 51).map (·.size) = some (colA q').size := by rw [colA_size hq']; exact Tryd.colSize
        have e8 := (unhide Q8).below hb5 (unhide Q8).lt
        have e9 := (unhide Q9).below hb5 (unhide Q9).lt
        have eO := (unhide O5).below hb5 (by omega)
        have eB := (unhide B5).trans (hb5.mono (unhide B5).size)
        have hs5 := hb5.size
        have hT1 := hide (show W5.there w2'.heap.size 0 (colA p').size by rw [colA_size hp']; exact e8.there hp0.len)
        have e9' := e9.setCells_other w2'.heap.size 0 (colA p').toList (by omega)
        have hT2 := hide (show (W5.setCells w2'.heap.size 0 (colA p').toList).there (w2'.heap.size + 1) 0 (colA q').size by rw [colA_size hq']; exact e9'.there hq0.len)
        have f8 := (e8.stored hp0.len hp'.len).setCells_other (w2'.heap.size + 1) 0 (colA q').toList (by omega)
        have f9 := e9'.stored hq0.len hq'.len
        have fO := (eO.other w2'.heap.size 0 (colA p').toList (by omega)).other (w2'.heap.size + 1) 0 (colA q').toList (by omega)
        have fB := below_setCells (below_setCells eB w2'.heap.size 0 (colA p').toList (by omega)) (w2'.heap.size + 1) 0 (colA q').toList (by omega)
        have fz : ((W5.setCells w2'.heap.size 0 (colA p').toList).setCells (w2'.heap.size + 1) 0 (colA q').toList).heap.size = W5.heap.size := by rw [setCells_size, setCells_size]
        clear e8 e9 eO eB e9' hb5 O5 Q8 Q9 B5
        obtain ⟨W6, hW6⟩ : ∃ W6, (W5.setCells w2'.heap.size 0 (colA p').toList).setCells (w2'.heap.size + 1) 0 (colA q').toList = W6 := ⟨_, rfl⟩
        rw [hW6] at f8 f9 fO fB fz
        have HW6 := hide hW6
        have F8 := hide f8
        have F9 := hide f9
        have FZ := hide fz
        have FB := hide fB
        have FO := hide fO
        clear hW6 f8 f9 fO fB fz
        unfold colV
        have hnw : ∀ j u, (flatL [p', q'])[j]? = some u → (W6.alloc (.cells (flatL [p', q']).toArray 51)).cell? ((⟨W6.heap.size, 0, none⟩ : Addr).add j) = some u := fun j u hj => by
          rw [Addr.add_mid, Nat.zero_add]
          exact flat_new W6 [p', q'] j u hj
        have hoA : (W6.alloc (.cells (flatL [p', q']).toArray 51)).ownsRow w.heap.size 51 16 (.slice (some ⟨g, 0, none⟩) k gc) k (flatL (datS cs ms k [(a : Int)])) := by
          have h := (unhide FO).below ((Below.refl W6.heap.size W6).alloc (Nat.le_refl _) (.cells (flatL [p', q']).toArray 51)) (by have := unhide FZ; omega)
          unfold Own at h
          rw [unhide HL5] at h
          exact h
        have hss : w.heap.size ≤ W6.heap.size := (unhide FB).size
        have HNW := hide hnw
        have HOA := hide hoA
        have HSS := hide hss
        clear hnw hoA hss
        go_wp2_with (first | (show wpList _ _ _ (Oper.mk none (Op.store _ (Operand.tmp 8) _) _ _ _ _ :: _) _ _; refine wpList_store_mid rfl 51 _ _ rfl w2'.heap.size 0 (colA p') rfl rfl (unhide hT1) hsp' (colA_one _) ?_) | (show wpList _ _ _ (Oper.mk none (Op.store _ (Operand.tmp 9) _) _ _ _ _ :: _) _ _; refine wpList_store_mid rfl 51 _ _ rfl (w2'.heap.size + 1) 0 (colA q') rfl rfl (unhide hT2) hsq' (colA_one _) ?_; rw [unhide HW6]) | (show wpList _ _ _ (Oper.mk _ (Op.load _ (Operand.tmp 8)) _ _ _ _ :: _) _ _; refine wpList_load_row_if (by rfl) 51 _ rfl w2'.heap.size rfl 51 _ _ _ (unhide F8) hu rfl hsp' ?_) | (show wpList _ _ _ (Oper.mk _ (Op.load _ (Operand.tmp 9)) _ _ _ _ :: _) _ _; refine wpList_load_row_if (by rfl) 51 _ rfl (w2'.heap.size + 1) rfl 51 _ _ _ (unhide F9) hu rfl hsq' ?_) | (show wpList _ _ _ (Oper.mk _ (Op.buildSlice _ _ _) _ _ _ _ :: _) _ _; refine wpList_two rfl _ _ rfl (p := p') (q := q') rfl rfl hp'.len hq'.len ?_) | (at_builtin; refine wpList_append_own _ rfl _ _ 47 rfl w.heap.size 51 i0 (.agg zA) 16 16 Tryd.underlying47 hi hz0 hz1 hz2 rfl (by decide) _ _ _ rfl (unhide HOA) ⟨W6.heap.size, 0, none⟩ 2 2 (flatL [p', q']) rfl (flatL_len _) (unhide HNW) (flatL_one _) (by unfold maxLen; omega) (by omega) (by have := unhide HSS; simp; omega) ?_))
        intro v' w9 hown' hgrow _
        have HB9 := hide (((unhide FB).alloc (unhide FB).size (.cells (flatL [p', q']).toArray 51)).grown hgrow (Nat.le_trans (unhide HSS) (by simp)) (fun j hj => ((unhide HOA).lt j hj).1))
        obtain ⟨g9, c9, rfl, hg91, hg92⟩ := hown'.form (by omega)
        have HW9 : Hid (Own w9 w.heap.size g9 c9 (solveL cs ms k)) := by
          rw [unhide HS, unhide HPE', unhide HQE']
          unfold Own
          rw [flatL_push2 (datS cs ms k [(a : Int)]) p' q', List.length_append, unhide HL5]
          exact hown'
        have HA9 : Hid (AreCols (solveL cs ms k)) := by
          rw [unhide HS, unhide HPE', unhide HQE']
          exact cols_push2 (unhide HC5) hp' hq'
        clear hown' hgrow HOA HNW
        go_wp2
        go_ret
        exact ⟨g9, c9, rfl, hg91, hg92, unhide HW9, unhide HA9, unhide HB9⟩

      | false =>
        have HIN := hide hin
        clear hin
        go_wp2
        refine wp_region_noPanic ?_
        refine orders_begin 6 (fun w' => w'.cell? ⟨gl, 0, none⟩ = some (.int .i64 (a : Int)) ∧ RowAt w' g10 oP) (by kernel_rfl) ?_
        refine orders_take 0 (some 91) (v := .slice (some ⟨g, 0, none⟩) k gc) rfl (by kernel_rfl) (by kernel_rfl) (by kernel_rfl) (by kernel_rfl) (fun _ _ _ h => h) (Or.inl ⟨by rfl, fun _ _ => rfl⟩) ⟨unhide C0, unhide P10⟩ rfl ?_
        simp only [Act.put, List.setIfInBounds_toArray, List.set_cons_zero, List.set_cons_succ]
        refine orders_take 1 (some 92) (v := .slice (some ⟨gl, 0, none⟩) 1 cl) rfl (by kernel_rfl) (by kernel_rfl) (by kernel_rfl) (by kernel_rfl) (fun _ _ _ h => h) (Or.inl ⟨by rfl, fun _ _ => rfl⟩) ⟨unhide C0, unhide P10⟩ rfl ?_
        simp only [Act.put, List.setIfInBounds_toArray, List.set_cons_zero, List.set_cons_succ]
        refine orders_take 2 (some 93) (v := .pointer (some ⟨gl, 0, none⟩)) rfl (by kernel_rfl) (by kernel_rfl) (by kernel_rfl) (by kernel_rfl) (fun _ _ _ h => h) (Or.inl ⟨by rfl, fun _ _ => by go_simp⟩) ⟨unhide C0, unhide P10⟩ rfl ?_
        simp only [Act.put, List.setIfInBounds_toArray, List.set_cons_zero, List.set_cons_succ]
        refine orders_take 3 (some 94) (v := .int .i64 (a : Int)) rfl (by kernel_rfl) (by kernel_rfl) (by kernel_rfl) (by kernel_rfl) (fun _ _ _ h => h) (Or.inl ⟨by rfl, fun w' hw => by go_simp⟩) ⟨unhide C0, unhide P10⟩ rfl ?_
        simp only [Act.put, List.setIfInBounds_toArray, List.set_cons_zero, List.set_cons_succ]
        refine orders_take 4 (some 95) rfl (by kernel_rfl) (by kernel_rfl) (by kernel_rfl) (by kernel_rfl) (fun _ _ _ h => h) (yieldsIf_load_mid (by rfl) 51 _ rfl g10 0 rfl (oP.map B) _ (fun w' hw => hw.2.range) hu rfl hiP) ⟨unhide C0, unhide P10⟩ rfl ?_
        simp only [Act.put, List.setIfInBounds_toArray, List.set_cons_zero, List.set_cons_succ]
        have hS3 : Below w4'.heap.size w4' w4'.drew := (Below.refl _ _).drew
        have hc3 : w4'.drew.cell? ⟨gl, 0, none⟩ = some (.int .i64 (a : Int)) := unhide C0
        have hr3 : RowAt w4'.drew g10 oP := unhide P10
        generalize w4'.drew = W3 at *
        have o3 := (unhide O4).below hS3 (by omega)
        have d3 := o3.cols (unhide HDC) (by have := hS3.size; omega)
        have th3 : W3.there g (a * 16) (colA oP).size := by
          rw [colA_size hpc]
          have := d3.free
          rw [unhide HDL] at this
          exact there_part this (by omega)
        have n8 := ((unhide P8).below hS3 (unhide P8).lt).setCells_other g (a * 16) (colA oP).toList (by omega)
        have n9 := ((unhide P9).below hS3 (unhide P9).lt).setCells_other g (a * 16) (colA oP).toList (by omega)
        have nB := below_setCells ((unhide BB).trans (hS3.mono (unhide BB).size)) g (a * 16) (colA oP).toList hg1
        have nO := o3.store a (by rw [unhide HDL]; exact hak) hpc.len
        have nz := setCells_size W3 g (a * 16) (colA oP).toList
        have hdat : datS cs ms k [(a : Int)] = (datB cs ms k).set a oP := by
          show (datB cs ms k).set (a : Int).toNat _ = _
          rw [if_neg (by rw [unhide HIN]; exact Bool.false_ne_true), unhide EP, Int.toNat_natCast]
        have O5 : Hid (Own (W3.setCells g (a * 16) (colA oP).toList) w.heap.size g gc (datS cs ms k [(a : Int)])) := by rw [hdat]; exact nO
        have HC5 : Hid (AreCols (datS cs ms k [(a : Int)])) := by rw [hdat]; exact cols_set (unhide HDC) a hpc
        have Q8 := hide n8
        have Q9 := hide n9
        have B5 := hide nB
        have hz5 := hS3.size
        refine orders_one 5 (by kernel_rfl) rfl (by rfl) (fun K hK => ?_)
        go_simp
        refine hK.out _ _ (fun _ => ⟨hc3, hr3⟩) ?_
        clear hK K
        refine orders_one 6 (by kernel_rfl) rfl (by rfl) (fun K hK => ?_)
        refine wp_store_mid 51 _ _ rfl g (a * 16) (colA oP) rfl rfl th3 hspc (colA_one _) ?_
        refine hK.out _ _ (fun h => absurd rfl h) ?_
        clear hK K
        refine orders_end (by kernel_rfl) ?_
        refine NoPanic.normal ?_
        simp only [Act.put]
        clear th3 d3 o3 n8 n9 nB nO O4 P8 P9 P10 P11 BB C0 hc3 hr3 hS3 hdat
        obtain ⟨w5, hw5⟩ : ∃ w5, W3.setCells g (a * 16) (colA oP).toList = w5 := ⟨_, rfl⟩
        rw [hw5] at O5 Q8 Q9 B5 nz ⊢
        have h5lt : w4'.heap.size ≤ w5.heap.size := by omega
        have HNZ := hide nz
        clear hw5 nz
        obtain ⟨i0, hi, hz0, hz1, hz2⟩ := info_parts Tryd.infoC
        have hpa := parity_any g gc (datS cs ms k [(a : Int)]) w5 (unhide HC5) (by rw [unhide HL5]; omega) ((unhide O5).cols (unhide HC5) (by omega)).lies (by omega) ((unhide HT).below hs2 (unhide B5))
        rw [unhide HL5] at hpa
        have hp' : IsCol (parP (datS cs ms k [(a : Int)]) k) := parP_col (unhide HC5) k (by rw [unhide HL5]; exact Nat.le_refl _)
        have hq' : IsCol (parQ (datS cs ms k [(a : Int)]) k) := parQ_col (unhide HC5) k (by rw [unhide HL5]; exact Nat.le_refl _)
        have HPA := hide hpa
        clear hpa
        go_wp2_with fail
        refine (unhide HPA).mono ?_
        rintro e W5 ⟨rfl, hb5⟩
        clear HPA
        obtain ⟨p', hpe'⟩ : ∃ p', parP (datS cs ms k [(a : Int)]) k = p' := ⟨_, rfl⟩
        obtain ⟨q', hqe'⟩ : ∃ q', parQ (datS cs ms k [(a : Int)]) k = q' := ⟨_, rfl⟩
        rw [hpe'] at hp' ⊢
        rw [hqe'] at hq' ⊢
        have HPE' := hide hpe'
        have HQE' := hide hqe'
        clear hpe' hqe'
        have hsp' : (Tryd.prog.info? 51).map (·.size) = some (colA p').size := by rw [colA_size hp']; exact Tryd.colSize
        have hsq' : (Tryd.prog.info? 51).map (·.size) = some (colA q').size := by rw [colA_size hq']; exact Tryd.colSize
        have e8 := (unhide Q8).below hb5 (unhide Q8).lt
        have e9 := (unhide Q9).below hb5 (unhide Q9).lt
        have eO := (unhide O5).below hb5 (by omega)
        have eB := (unhide B5).trans (hb5.mono (unhide B5).size)
        have hs5 := hb5.size
        have hT1 := hide (show W5.there w2'.heap.size 0 (colA p').size by rw [colA_size hp']; exact e8.there hp0.len)
        have e9' := e9.setCells_other w2'.heap.size 0 (colA p').toList (by omega)
        have hT2 := hide (show (W5.setCells w2'.heap.size 0 (colA p').toList).there (w2'.heap.size + 1) 0 (colA q').size by rw [colA_size hq']; exact e9'.there hq0.len)
        have f8 := (e8.stored hp0.len hp'.len).setCells_other (w2'.heap.size + 1) 0 (colA q').toList (by omega)
        have f9 := e9'.stored hq0.len hq'.len
        have fO := (eO.other w2'.heap.size 0 (colA p').toList (by omega)).other (w2'.heap.size + 1) 0 (colA q').toList (by omega)
        have fB := below_setCells (below_setCells eB w2'.heap.size 0 (colA p').toList (by omega)) (w2'.heap.size + 1) 0 (colA q').toList (by omega)
        have fz : ((W5.setCells w2'.heap.size 0 (colA p').toList).setCells (w2'.heap.size + 1) 0 (colA q').toList).heap.size = W5.heap.size := by rw [setCells_size, setCells_size]
        clear e8 e9 eO eB e9' hb5 O5 Q8 Q9 B5
        obtain ⟨W6, hW6⟩ : ∃ W6, (W5.setCells w2'.heap.size 0 (colA p').toList).setCells (w2'.heap.size + 1) 0 (colA q').toList = W6 := ⟨_, rfl⟩
        rw [hW6] at f8 f9 fO fB fz
        have HW6 := hide hW6
        have F8 := hide f8
        have F9 := hide f9
        have FZ := hide fz
        have FB := hide fB
        have FO := hide fO
        clear hW6 f8 f9 fO fB fz
        unfold colV
        have hnw : ∀ j u, (flatL [p', q'])[j]? = some u → (W6.alloc (.cells (flatL [p', q']).toArray 51)).cell? ((⟨W6.heap.size, 0, none⟩ : Addr).add j) = some u := fun j u hj => by
          rw [Addr.add_mid, Nat.zero_add]
          exact flat_new W6 [p', q'] j u hj
        have hoA : (W6.alloc (.cells (flatL [p', q']).toArray 51)).ownsRow w.heap.size 51 16 (.slice (some ⟨g, 0, none⟩) k gc) k (flatL (datS cs ms k [(a : Int)])) := by
          have h := (unhide FO).below ((Below.refl W6.heap.size W6).alloc (Nat.le_refl _) (.cells (flatL [p', q']).toArray 51)) (by have := unhide FZ; omega)
          unfold Own at h
          rw [unhide HL5] at h
          exact h
        have hss : w.heap.size ≤ W6.heap.size := (unhide FB).size
        have HNW := hide hnw
        have HOA := hide hoA
        have HSS := hide hss
        clear hnw hoA hss
        go_wp2_with (first | (show wpList _ _ _ (Oper.mk none (Op.store _ (Operand.tmp 8) _) _ _ _ _ :: _) _ _; refine wpList_store_mid rfl 51 _ _ rfl w2'.heap.size 0 (colA p') rfl rfl (unhide hT1) hsp' (colA_one _) ?_) | (show wpList _ _ _ (Oper.mk none (Op.store _ (Operand.tmp 9) _) _ _ _ _ :: _) _ _; refine wpList_store_mid rfl 51 _ _ rfl (w2'.heap.size + 1) 0 (colA q') rfl rfl (unhide hT2) hsq' (colA_one _) ?_; rw [unhide HW6]) | (show wpList _ _ _ (Oper.mk _ (Op.load _ (Operand.tmp 8)) _ _ _ _ :: _) _ _; refine wpList_load_row_if (by rfl) 51 _ rfl w2'.heap.size rfl 51 _ _ _ (unhide F8) hu rfl hsp' ?_) | (show wpList _ _ _ (Oper.mk _ (Op.load _ (Operand.tmp 9)) _ _ _ _ :: _) _ _; refine wpList_load_row_if (by rfl) 51 _ rfl (w2'.heap.size + 1) rfl 51 _ _ _ (unhide F9) hu rfl hsq' ?_) | (show wpList _ _ _ (Oper.mk _ (Op.buildSlice _ _ _) _ _ _ _ :: _) _ _; refine wpList_two rfl _ _ rfl (p := p') (q := q') rfl rfl hp'.len hq'.len ?_) | (at_builtin; refine wpList_append_own _ rfl _ _ 47 rfl w.heap.size 51 i0 (.agg zA) 16 16 Tryd.underlying47 hi hz0 hz1 hz2 rfl (by decide) _ _ _ rfl (unhide HOA) ⟨W6.heap.size, 0, none⟩ 2 2 (flatL [p', q']) rfl (flatL_len _) (unhide HNW) (flatL_one _) (by unfold maxLen; omega) (by omega) (by have := unhide HSS; simp; omega) ?_))
        intro v' w9 hown' hgrow _
        have HB9 := hide (((unhide FB).alloc (unhide FB).size (.cells (flatL [p', q']).toArray 51)).grown hgrow (Nat.le_trans (unhide HSS) (by simp)) (fun j hj => ((unhide HOA).lt j hj).1))
        obtain ⟨g9, c9, rfl, hg91, hg92⟩ := hown'.form (by omega)
        have HW9 : Hid (Own w9 w.heap.size g9 c9 (solveL cs ms k)) := by
          rw [unhide HS, unhide HPE', unhide HQE']
          unfold Own
          rw [flatL_push2 (datS cs ms k [(a : Int)]) p' q', List.length_append, unhide HL5]
          exact hown'
        have HA9 : Hid (AreCols (solveL cs ms k)) := by
          rw [unhide HS, unhide HPE', unhide HQE']
          exact cols_push2 (unhide HC5) hp' hq'
        clear hown' hgrow HOA HNW
        go_wp2
        go_ret
        exact ⟨g9, c9, rfl, hg91, hg92, unhide HW9, unhide HA9, unhide HB9⟩

    · skip
      have hmem := mem_lost (unhide HNN) (ms := ms) (k := k) (x := x) (by rw [hlo]; simp)
      have hmem' := mem_lost (unhide HNN) (ms := ms) (k := k) (x := y) (by rw [hlo]; simp)
      obtain ⟨a, rfl⟩ := Int.eq_ofNat_of_zero_le hmem.1
      obtain ⟨c, rfl⟩ := Int.eq_ofNat_of_zero_le hmem'.1
      have hak : a < k := by have := hmem.2; omega
      have hck : c < k := by have := hmem'.2; omega
      have HS : Hid (solveL cs ms k = datS cs ms k [(a : Int), (c : Int)] ++ [parP (datS cs ms k [(a : Int), (c : Int)]) k, parQ (datS cs ms k [(a : Int), (c : Int)]) k]) := by unfold solveL; rw [hlo]; rfl
      have hL5 := datS_len cs ms k [(a : Int), (c : Int)] (by omega)
      have hln : ∃ gl cl : Nat, lv = .slice (some ⟨gl, 0, none⟩) 2 cl ∧ w4.cell? ⟨gl, 0, none⟩ = some (.int .i64 (a : Int)) ∧ w4.cell? ⟨gl, 1, none⟩ = some (.int .i64 (c : Int)) ∧ w1.heap.size ≤ gl := by
        have h := unhide L4
        rw [hlo] at h
        obtain ⟨gl, cl, rfl, hb1, hb2⟩ := h.form (by simp)
        have h0 := World.ownsRow.cellAt h 0 (by simp)
        have h1 := World.ownsRow.cellAt h 1 (by simp)
        exact ⟨gl, cl, rfl, by simpa using h0, by simpa using h1, hb1⟩
      obtain ⟨gl, cl, rfl, hc0, hc1, hgl⟩ := hln
      have C0 := hide hc0
      have C1 := hide hc1
      have HL5 := hide hL5
      have hsz := hide ((unhide P10).lt)
      have ha0 : (0 : Int) ≤ (a : Int) := by omega
      have hai : (a : Int) < (k : Int) := by omega
      have hb0 : (0 : Int) ≤ (c : Int) := by omega
      have hbi : (c : Int) < (k : Int) := by omega
      have hiQ : (Tryd.prog.info? 51).map (·.size) = some (oQ.map B).length := by rw [List.length_map, hqc.len]; exact Tryd.colSize
      have hiP : (Tryd.prog.info? 51).map (·.size) = some (oP.map B).length := by rw [List.length_map, hpc.len]; exact Tryd.colSize
      clear hc0 hc1 hL5 hlo hll L4 hlb hmem hmem'
      go_wp2
      refine wp_region_noPanic ?_
      refine orders_begin 23 (fun w' => w'.cell? ⟨gl, 0, none⟩ = some (.int .i64 (a : Int)) ∧ w'.cell? ⟨gl, 1, none⟩ = some (.int .i64 (c : Int)) ∧ RowAt w' g10 oP ∧ RowAt w' g11 oQ) (by kernel_rfl) ?_
      refine orders_take 0 (some 45) (v := .slice (some ⟨g, 0, none⟩) k gc) rfl (by kernel_rfl) (by kernel_rfl) (by kernel_rfl) (by kernel_rfl) (fun _ _ _ h => h) (Or.inl ⟨by rfl, fun _ _ => rfl⟩) ⟨unhide C0, unhide C1, unhide P10, unhide P11⟩ rfl ?_
      simp only [Act.put, List.setIfInBounds_toArray, List.set_cons_zero, List.set_cons_succ]
      refine orders_take 1 (some 46) (v := .slice (some ⟨gl, 0, none⟩) 2 cl) rfl (by kernel_rfl) (by kernel_rfl) (by kernel_rfl) (by kernel_rfl) (fun _ _ _ h => h) (Or.inl ⟨by rfl, fun _ _ => rfl⟩) ⟨unhide C0, unhide C1, unhide P10, unhide P11⟩ rfl ?_
      simp only [Act.put, List.setIfInBounds_toArray, List.set_cons_zero, List.set_cons_succ]
      refine orders_take 2 (some 47) (v := .pointer (some ⟨gl, 0, none⟩)) rfl (by kernel_rfl) (by kernel_rfl) (by kernel_rfl) (by kernel_rfl) (fun _ _ _ h => h) (Or.inl ⟨by rfl, fun _ _ => by go_simp⟩) ⟨unhide C0, unhide C1, unhide P10, unhide P11⟩ rfl ?_
      simp only [Act.put, List.setIfInBounds_toArray, List.set_cons_zero, List.set_cons_succ]
      refine orders_take 3 (some 48) (v := .int .i64 (a : Int)) rfl (by kernel_rfl) (by kernel_rfl) (by kernel_rfl) (by kernel_rfl) (fun _ _ _ h => h) (Or.inl ⟨by rfl, fun w' hw => by have h1 := hw.1; clear hw; go_simp⟩) ⟨unhide C0, unhide C1, unhide P10, unhide P11⟩ rfl ?_
      simp only [Act.put, List.setIfInBounds_toArray, List.set_cons_zero, List.set_cons_succ]
      refine orders_take 4 (some 49) (v := .slice (some ⟨g, 0, none⟩) k gc) rfl (by kernel_rfl) (by kernel_rfl) (by kernel_rfl) (by kernel_rfl) (fun _ _ _ h => h) (Or.inl ⟨by rfl, fun _ _ => rfl⟩) ⟨unhide C0, unhide C1, unhide P10, unhide P11⟩ rfl ?_
      simp only [Act.put, List.setIfInBounds_toArray, List.set_cons_zero, List.set_cons_succ]
      refine orders_take 5 (some 50) (v := .slice (some ⟨gl, 0, none⟩) 2 cl) rfl (by kernel_rfl) (by kernel_rfl) (by kernel_rfl) (by kernel_rfl) (fun _ _ _ h => h) (Or.inl ⟨by rfl, fun _ _ => rfl⟩) ⟨unhide C0, unhide C1, unhide P10, unhide P11⟩ rfl ?_
      simp only [Act.put, List.setIfInBounds_toArray, List.set_cons_zero, List.set_cons_succ]
      refine orders_take 6 (some 51) (v := .pointer (some ⟨gl, 1, none⟩)) rfl (by kernel_rfl) (by kernel_rfl) (by kernel_rfl) (by kernel_rfl) (fun _ _ _ h => h) (Or.inl ⟨by rfl, fun _ _ => by go_simp⟩) ⟨unhide C0, unhide C1, unhide P10, unhide P11⟩ rfl ?_
      simp only [Act.put, List.setIfInBounds_toArray, List.set_cons_zero, List.set_cons_succ]
      refine orders_take 7 (some 52) (v := .int .i64 (c : Int)) rfl (by kernel_rfl) (by kernel_rfl) (by kernel_rfl) (by kernel_rfl) (fun _ _ _ h => h) (Or.inl ⟨by rfl, fun w' hw => by have h1 := hw.2.1; clear hw; go_simp⟩) ⟨unhide C0, unhide C1, unhide P10, unhide P11⟩ rfl ?_
      simp only [Act.put, List.setIfInBounds_toArray, List.set_cons_zero, List.set_cons_succ]
      refine orders_take 8 (some 53) (v := .slice (some ⟨gl, 0, none⟩) 2 cl) rfl (by kernel_rfl) (by kernel_rfl) (by kernel_rfl) (by kernel_rfl) (fun _ _ _ h => h) (Or.inl ⟨by rfl, fun _ _ => rfl⟩) ⟨unhide C0, unhide C1, unhide P10, unhide P11⟩ rfl ?_
      simp only [Act.put, List.setIfInBounds_toArray, List.set_cons_zero, List.set_cons_succ]
      refine orders_take 9 (some 54) (v := .pointer (some ⟨gl, 0, none⟩)) rfl (by kernel_rfl) (by kernel_rfl) (by kernel_rfl) (by kernel_rfl) (fun _ _ _ h => h) (Or.inl ⟨by rfl, fun _ _ => by go_simp⟩) ⟨unhide C0, unhide C1, unhide P10, unhide P11⟩ rfl ?_
      simp only [Act.put, List.setIfInBounds_toArray, List.set_cons_zero, List.set_cons_succ]
      refine orders_take 10 (some 55) (v := .int .i64 (a : Int)) rfl (by kernel_rfl) (by kernel_rfl) (by kernel_rfl) (by kernel_rfl) (fun _ _ _ h => h) (Or.inl ⟨by rfl, fun w' hw => by have h1 := hw.1; clear hw; go_simp⟩) ⟨unhide C0, unhide C1, unhide P10, unhide P11⟩ rfl ?_
      simp only [Act.put, List.setIfInBounds_toArray, List.set_cons_zero, List.set_cons_succ]
      refine orders_take 11 (some 56) (v := .slice (some ⟨gl, 0, none⟩) 2 cl) rfl (by kernel_rfl) (by kernel_rfl) (by kernel_rfl) (by kernel_rfl) (fun _ _ _ h => h) (Or.inl ⟨by rfl, fun _ _ => rfl⟩) ⟨unhide C0, unhide C1, unhide P10, unhide P11⟩ rfl ?_
      simp only [Act.put, List.setIfInBounds_toArray, List.set_cons_zero, List.set_cons_succ]
      refine orders_take 12 (some 57) (v := .pointer (some ⟨gl, 1, none⟩)) rfl (by kernel_rfl) (by kernel_rfl) (by kernel_rfl) (by kernel_rfl) (fun _ _ _ h => h) (Or.inl ⟨by rfl, fun _ _ => by go_simp⟩) ⟨unhide C0, unhide C1, unhide P10, unhide P11⟩ rfl ?_
      simp only [Act.put, List.setIfInBounds_toArray, List.set_cons_zero, List.set_cons_succ]
      refine orders_take 13 (some 58) (v := .int .i64 (c : Int)) rfl (by kernel_rfl) (by kernel_rfl) (by kernel_rfl) (by kernel_rfl) (fun _ _ _ h => h) (Or.inl ⟨by rfl, fun w' hw => by have h1 := hw.2.1; clear hw; go_simp⟩) ⟨unhide C0, unhide C1, unhide P10, unhide P11⟩ rfl ?_
      simp only [Act.put, List.setIfInBounds_toArray, List.set_cons_zero, List.set_cons_succ]
      refine orders_take 14 (some 59) rfl (by kernel_rfl) (by kernel_rfl) (by kernel_rfl) (by kernel_rfl) (fun _ _ _ h => h) (yieldsIf_load_mid (by rfl) 51 _ rfl g10 0 rfl (oP.map B) _ (fun w' hw => hw.2.2.1.range) hu rfl hiP) ⟨unhide C0, unhide C1, unhide P10, unhide P11⟩ rfl ?_
      simp only [Act.put, List.setIfInBounds_toArray, List.set_cons_zero, List.set_cons_succ]
      refine orders_take 15 (some 60) rfl (by kernel_rfl) (by kernel_rfl) (by kernel_rfl) (by kernel_rfl) (fun _ _ _ h => h) (yieldsIf_load_mid (by rfl) 51 _ rfl g11 0 rfl (oQ.map B) _ (fun w' hw => hw.2.2.2.range) hu rfl hiQ) ⟨unhide C0, unhide C1, unhide P10, unhide P11⟩ rfl ?_
      simp only [Act.put, List.setIfInBounds_toArray, List.set_cons_zero, List.set_cons_succ]
      have hS0 : Below w4.heap.size w4 w4.drew := (Below.refl _ _).drew
      have hc0 : w4.drew.cell? ⟨gl, 0, none⟩ = some (.int .i64 (a : Int)) := unhide C0
      have hc1 : w4.drew.cell? ⟨gl, 1, none⟩ = some (.int .i64 (c : Int)) := unhide C1
      have hr0 : RowAt w4.drew g10 oP := unhide P10
      have hr1 : RowAt w4.drew g11 oQ := unhide P11
      generalize w4.drew = W at *
      refine orders_one 16 (by kernel_rfl) rfl (by rfl) (fun K hK => ?_)
      go_simp
      refine (pair_any a c oP oQ _ (by omega) (by omega) hpc hqc ((unhide HT).below hs2 ((unhide BB).trans (hS0.mono (unhide BB).size)))).mono ?_
      rintro e W3 ⟨rfl, hb3⟩
      have hS3 := hS0.trans (hb3.mono hS0.size)
      have hc03 : W3.cell? ⟨gl, 0, none⟩ = some (.int .i64 (a : Int)) := (hb3.cell (block_lt_of_cell hc0)).trans hc0
      have hc13 : W3.cell? ⟨gl, 1, none⟩ = some (.int .i64 (c : Int)) := (hb3.cell (block_lt_of_cell hc1)).trans hc1
      have hr03 := hr0.below hb3 hr0.lt
      have hr13 := hr1.below hb3 hr1.lt
      refine hK.out _ _ (fun _ => ⟨hc03, hc13, hr03, hr13⟩) ?_
      clear hK K
      have hv : IsCol (pairL a c oP oQ) := pairL_col hpc hqc
      have hv2 : IsCol (xorL oP (pairL a c oP oQ)) := xorL_col hpc hv
      obtain ⟨f, hfe⟩ : ∃ f, pairL a c oP oQ = f := ⟨_, rfl⟩
      rw [hfe] at hv hv2 ⊢
      obtain ⟨f', hfe'⟩ : ∃ f', xorL oP f = f' := ⟨_, rfl⟩
      rw [hfe'] at hv2 ⊢
      have hsv : (Tryd.prog.info? 51).map (·.size) = some (colA f).size := by rw [colA_size hv]; exact Tryd.colSize
      have hsv2 : (Tryd.prog.info? 51).map (·.size) = some (colA f').size := by rw [colA_size hv2]; exact Tryd.colSize
      refine orders_take 17 (some 44) (v := .tuple #[colV f, colV f']) rfl (by kernel_rfl) (by kernel_rfl) (by kernel_rfl) (by kernel_rfl) (fun _ _ _ h => h) (Or.inl ⟨by rfl, fun _ _ => rfl⟩) ⟨hc03, hc13, hr03, hr13⟩ rfl ?_
      simp only [Act.put, List.setIfInBounds_toArray, List.set_cons_zero, List.set_cons_succ]
      refine orders_take 18 (some 62) (v := colV f) rfl (by kernel_rfl) (by kernel_rfl) (by kernel_rfl) (by kernel_rfl) (fun _ _ _ h => h) (Or.inl ⟨by rfl, fun _ _ => rfl⟩) ⟨hc03, hc13, hr03, hr13⟩ rfl ?_
      simp only [Act.put, List.setIfInBounds_toArray, List.set_cons_zero, List.set_cons_succ]
      refine orders_take 19 (some 63) (v := colV f') rfl (by kernel_rfl) (by kernel_rfl) (by kernel_rfl) (by kernel_rfl) (fun _ _ _ h => h) (Or.inl ⟨by rfl, fun _ _ => rfl⟩) ⟨hc03, hc13, hr03, hr13⟩ rfl ?_
      simp only [Act.put, List.setIfInBounds_toArray, List.set_cons_zero, List.set_cons_succ]
      have o3 := (unhide O4).below hS3 (by omega)
      have d3 := o3.cols (unhide HDC) (by have := hS3.size; omega)
      have th3 : W3.there g (a * 16) (colA f).size := by
        rw [colA_size hv]
        have := d3.free
        rw [unhide HDL] at this
        exact there_part this (by omega)
      have n8 := ((unhide P8).below hS3 (unhide P8).lt).setCells_other g (a * 16) (colA f).toList (by omega)
      have n9 := ((unhide P9).below hS3 (unhide P9).lt).setCells_other g (a * 16) (colA f).toList (by omega)
      have nB := below_setCells ((unhide BB).trans (hS3.mono (unhide BB).size)) g (a * 16) (colA f).toList hg1
      have nO := o3.store a (by rw [unhide HDL]; exact hak) hv.len
      have nz := setCells_size W3 g (a * 16) (colA f).toList
      have hd1 : ((datB cs ms k).set a f).length = k := by rw [List.length_set, unhide HDL]
      have hz5 := hS3.size
      have th4 : (W3.setCells g (a * 16) (colA f).toList).there g (c * 16) (colA f').size := by
        rw [colA_size hv2]
        have := (nO.cols (cols_set (unhide HDC) a hv) (by omega)).free
        rw [hd1] at this
        exact there_part this (by omega)
      have nc0 : (W3.setCells g (a * 16) (colA f).toList).cell? ⟨gl, 0, none⟩ = some (.int .i64 (a : Int)) := (cell_setCells_other W3 g (a * 16) (colA f).toList gl 0 (by omega)).trans hc03
      have nc1 : (W3.setCells g (a * 16) (colA f).toList).cell? ⟨gl, 1, none⟩ = some (.int .i64 (c : Int)) := (cell_setCells_other W3 g (a * 16) (colA f).toList gl 1 (by omega)).trans hc13
      have nr0 := hr03.setCells_other g (a * 16) (colA f).toList (by omega)
      have nr1 := hr13.setCells_other g (a * 16) (colA f).toList (by omega)
      have m8 := n8.setCells_other g (c * 16) (colA f').toList (by omega)
      have m9 := n9.setCells_other g (c * 16) (colA f').toList (by omega)
      have mB := below_setCells nB g (c * 16) (colA f').toList hg1
      have mO := nO.store c (by rw [hd1]; exact hck) hv2.len
      have mz := setCells_size (W3.setCells g (a * 16) (colA f).toList) g (c * 16) (colA f').toList
      have hdat : datS cs ms k [(a : Int), (c : Int)] = ((datB cs ms k).set a f).set c f' := by
        show ((datB cs ms k).set (a : Int).toNat _).set (c : Int).toNat _ = _
        rw [unhide EP, unhide EQ, Int.toNat_natCast, Int.toNat_natCast, hfe, hfe']
      have O5 : Hid (Own ((W3.setCells g (a * 16) (colA f).toList).setCells g (c * 16) (colA f').toList) w.heap.size g gc (datS cs ms k [(a : Int), (c : Int)])) := by rw [hdat]; exact mO
      have HC5 : Hid (AreCols (datS cs ms k [(a : Int), (c : Int)])) := by rw [hdat]; exact cols_set (cols_set (unhide HDC) a hv) c hv2
      have Q8 := hide m8
      have Q9 := hide m9
      have B5 := hide mB
      refine orders_one 20 (by kernel_rfl) rfl (by rfl) (fun K hK => ?_)
      go_simp
      refine hK.out _ _ (fun _ => ⟨hc03, hc13, hr03, hr13⟩) ?_
      clear hK K
      refine orders_one 21 (by kernel_rfl) rfl (by rfl) (fun K hK => ?_)
      refine wp_store_mid 51 _ _ rfl g (a * 16) (colA f) rfl rfl th3 hsv (colA_one _) ?_
      refine hK.out _ _ (fun _ => ⟨nc0, nc1, nr0, nr1⟩) ?_
      clear hK K
      refine orders_one 22 (by kernel_rfl) rfl (by rfl) (fun K hK => ?_)
      go_simp
      refine hK.out _ _ (fun _ => ⟨nc0, nc1, nr0, nr1⟩) ?_
      clear hK K
      refine orders_one 23 (by kernel_rfl) rfl (by rfl) (fun K hK => ?_)
      refine wp_store_mid 51 _ _ rfl g (c * 16) (colA f') rfl rfl th4 hsv2 (colA_one _) ?_
      refine hK.out _ _ (fun h => absurd rfl h) ?_
      clear hK K
      refine orders_end (by kernel_rfl) ?_
      refine NoPanic.normal ?_
      simp only [Act.put]
      clear th3 th4 d3 o3 n8 n9 nB nO m8 m9 mB mO O4 P8 P9 P10 P11 BB C0 C1 hc0 hc1 hr0 hr1 hc03 hc13 hr03 hr13 nc0 nc1 nr0 nr1 hS0 hS3 hdat hfe hfe' hd1
      obtain ⟨w5, hw5⟩ : ∃ w5, (W3.setCells g (a * 16) (colA f).toList).setCells g (c * 16) (colA f').toList = w5 := ⟨_, rfl⟩
      rw [hw5] at O5 Q8 Q9 B5 mz ⊢
      have h5lt : w4.heap.size ≤ w5.heap.size := by omega
      have HNZ := hide nz
      have HMZ := hide mz
      clear hw5 nz mz
      obtain ⟨i0, hi, hz0, hz1, hz2⟩ := info_parts Tryd.infoC
      have hpa := parity_any g gc (datS cs ms k [(a : Int), (c : Int)]) w5 (unhide HC5) (by rw [unhide HL5]; omega) ((unhide O5).cols (unhide HC5) (by omega)).lies (by omega) ((unhide HT).below hs2 (unhide B5))
      rw [unhide HL5] at hpa
      have hp' : IsCol (parP (datS cs ms k [(a : Int), (c : Int)]) k) := parP_col (unhide HC5) k (by rw [unhide HL5]; exact Nat.le_refl _)
      have hq' : IsCol (parQ (datS cs ms k [(a : Int), (c : Int)]) k) := parQ_col (unhide HC5) k (by rw [unhide HL5]; exact Nat.le_refl _)
      have HPA := hide hpa
      clear hpa
      go_wp2_with fail
      refine (unhide HPA).mono ?_
      rintro e W5 ⟨rfl, hb5⟩
      clear HPA
      obtain ⟨p', hpe'⟩ : ∃ p', parP (datS cs ms k [(a : Int), (c : Int)]) k = p' := ⟨_, rfl⟩
      obtain ⟨q', hqe'⟩ : ∃ q', parQ (datS cs ms k [(a : Int), (c : Int)]) k = q' := ⟨_, rfl⟩
      rw [hpe'] at hp' ⊢
      rw [hqe'] at hq' ⊢
      have HPE' := hide hpe'
      have HQE' := hide hqe'
      clear hpe' hqe'
      have hsp' : (Tryd.prog.info? 51).map (·.size) = some (colA p').size := by rw [colA_size hp']; exact Tryd.colSize
      have hsq' : (Tryd.prog.info? 51).map (·.size) = some (colA q').size := by rw [colA_size hq']; exact Tryd.colSize
      have e8 := (unhide Q8).below hb5 (unhide Q8).lt
      have e9 := (unhide Q9).below hb5 (unhide Q9).lt
      have eO := (unhide O5).below hb5 (by omega)
      have eB := (unhide B5).trans (hb5.mono (unhide B5).size)
      have hs5 := hb5.size
      have hT1 := hide (show W5.there w2'.heap.size 0 (colA p').size by rw [colA_size hp']; exact e8.there hp0.len)
      have e9' := e9.setCells_other w2'.heap.size 0 (colA p').toList (by omega)
      have hT2 := hide (show (W5.setCells w2'.heap.size 0 (colA p').toList).there (w2'.heap.size + 1) 0 (colA q').size by rw [colA_size hq']; exact e9'.there hq0.len)
      have f8 := (e8.stored hp0.len hp'.len).setCells_other (w2'.heap.size + 1) 0 (colA q').toList (by omega)
      have f9 := e9'.stored hq0.len hq'.len
      have fO := (eO.other w2'.heap.size 0 (colA p').toList (by omega)).other (w2'.heap.size + 1) 0 (colA q').toList (by omega)
      have fB := below_setCells (below_setCells eB w2'.heap.size 0 (colA p').toList (by omega)) (w2'.heap.size + 1) 0 (colA q').toList (by omega)
      have fz : ((W5.setCells w2'.heap.size 0 (colA p').toList).setCells (w2'.heap.size + 1) 0 (colA q').toList).heap.size = W5.heap.size := by rw [setCells_size, setCells_size]
      clear e8 e9 eO eB e9' hb5 O5 Q8 Q9 B5
      obtain ⟨W6, hW6⟩ : ∃ W6, (W5.setCells w2'.heap.size 0 (colA p').toList).setCells (w2'.heap.size + 1) 0 (colA q').toList = W6 := ⟨_, rfl⟩
      rw [hW6] at f8 f9 fO fB fz
      have HW6 := hide hW6
      have F8 := hide f8
      have F9 := hide f9
      have FZ := hide fz
      have FB := hide fB
      have FO := hide fO
      clear hW6 f8 f9 fO fB fz
      unfold colV
      have hnw : ∀ j u, (flatL [p', q'])[j]? = some u → (W6.alloc (.cells (flatL [p', q']).toArray 51)).cell? ((⟨W6.heap.size, 0, none⟩ : Addr).add j) = some u := fun j u hj => by
        rw [Addr.add_mid, Nat.zero_add]
        exact flat_new W6 [p', q'] j u hj
      have hoA : (W6.alloc (.cells (flatL [p', q']).toArray 51)).ownsRow w.heap.size 51 16 (.slice (some ⟨g, 0, none⟩) k gc) k (flatL (datS cs ms k [(a : Int), (c : Int)])) := by
        have h := (unhide FO).below ((Below.refl W6.heap.size W6).alloc (Nat.le_refl _) (.cells (flatL [p', q']).toArray 51)) (by have := unhide FZ; omega)
        unfold Own at h
        rw [unhide HL5] at h
        exact h
      have hss : w.heap.size ≤ W6.heap.size := (unhide FB).size
      have HNW := hide hnw
      have HOA := hide hoA
      have HSS := hide hss
      clear hnw hoA hss
      go_wp2_with (first | (show wpList _ _ _ (Oper.mk none (Op.store _ (Operand.tmp 8) _) _ _ _ _ :: _) _ _; refine wpList_store_mid rfl 51 _ _ rfl w2'.heap.size 0 (colA p') rfl rfl (unhide hT1) hsp' (colA_one _) ?_) | (show wpList _ _ _ (Oper.mk none (Op.store _ (Operand.tmp 9) _) _ _ _ _ :: _) _ _; refine wpList_store_mid rfl 51 _ _ rfl (w2'.heap.size + 1) 0 (colA q') rfl rfl (unhide hT2) hsq' (colA_one _) ?_; rw [unhide HW6]) | (show wpList _ _ _ (Oper.mk _ (Op.load _ (Operand.tmp 8)) _ _ _ _ :: _) _ _; refine wpList_load_row_if (by rfl) 51 _ rfl w2'.heap.size rfl 51 _ _ _ (unhide F8) hu rfl hsp' ?_) | (show wpList _ _ _ (Oper.mk _ (Op.load _ (Operand.tmp 9)) _ _ _ _ :: _) _ _; refine wpList_load_row_if (by rfl) 51 _ rfl (w2'.heap.size + 1) rfl 51 _ _ _ (unhide F9) hu rfl hsq' ?_) | (show wpList _ _ _ (Oper.mk _ (Op.buildSlice _ _ _) _ _ _ _ :: _) _ _; refine wpList_two rfl _ _ rfl (p := p') (q := q') rfl rfl hp'.len hq'.len ?_) | (at_builtin; refine wpList_append_own _ rfl _ _ 47 rfl w.heap.size 51 i0 (.agg zA) 16 16 Tryd.underlying47 hi hz0 hz1 hz2 rfl (by decide) _ _ _ rfl (unhide HOA) ⟨W6.heap.size, 0, none⟩ 2 2 (flatL [p', q']) rfl (flatL_len _) (unhide HNW) (flatL_one _) (by unfold maxLen; omega) (by omega) (by have := unhide HSS; simp; omega) ?_))
      intro v' w9 hown' hgrow _
      have HB9 := hide (((unhide FB).alloc (unhide FB).size (.cells (flatL [p', q']).toArray 51)).grown hgrow (Nat.le_trans (unhide HSS) (by simp)) (fun j hj => ((unhide HOA).lt j hj).1))
      obtain ⟨g9, c9, rfl, hg91, hg92⟩ := hown'.form (by omega)
      have HW9 : Hid (Own w9 w.heap.size g9 c9 (solveL cs ms k)) := by
        rw [unhide HS, unhide HPE', unhide HQE']
        unfold Own
        rw [flatL_push2 (datS cs ms k [(a : Int), (c : Int)]) p' q', List.length_append, unhide HL5]
        exact hown'
      have HA9 : Hid (AreCols (solveL cs ms k)) := by
        rw [unhide HS, unhide HPE', unhide HQE']
        exact cols_push2 (unhide HC5) hp' hq'
      clear hown' hgrow HOA HNW
      go_wp2
      go_ret
      exact ⟨g9, c9, rfl, hg91, hg92, unhide HW9, unhide HA9, unhide HB9⟩

    · rw [hlo] at hll
      simp at hll
      omega
  · intro Q' hfin0
    have hfin1 := hfin0.out
    simp only [Act.put, List.setIfInBounds_toArray, List.set_cons_zero, List.set_cons_succ] at hfin1
    have hfin := hide hfin1
    clear hfin0 hfin1
    have hS0 : Below w3.heap.size w3 w3.drew := (Below.refl _ _).drew
    have hk1 : (k : Int) < (k : Int) + 2 := by omega
    have hk2i : (0 : Int) ≤ (k : Int) + 1 := by omega
    have hk3 : (k : Int) + 1 < (k : Int) + 2 := by omega
    have hkw : (k : Int) ≤ 100 := by omega
    refine orders_begin 16 (fun w' => Below w3.heap.size w3 w') (by kernel_rfl) ?_
    refine orders_take 0 (some 27) rfl (by kernel_rfl) (by kernel_rfl) (by kernel_rfl) (by kernel_rfl) (fun _ _ _ h => h) (yieldsIf_load_mid (by rfl) 51 _ rfl w2'.heap.size 0 rfl (p.map B) _ (fun w' hw => range_below (unhide R1).range hw (unhide R1).lt) hu rfl hip) hS0 rfl ?_
    simp only [Act.put, List.setIfInBounds_toArray, List.set_cons_zero, List.set_cons_succ]
    refine orders_take 1 (some 28) (v := .slice (some ⟨b, 0, none⟩) (k + 2) cap) rfl (by kernel_rfl) (by kernel_rfl) (by kernel_rfl) (by kernel_rfl) (fun _ _ _ h => h) (Or.inl ⟨by rfl, fun _ _ => rfl⟩) hS0 rfl ?_
    simp only [Act.put, List.setIfInBounds_toArray, List.set_cons_zero, List.set_cons_succ]
    refine orders_take 2 (some 29) (v := .int .i64 k) rfl (by kernel_rfl) (by kernel_rfl) (by kernel_rfl) (by kernel_rfl) (fun _ _ _ h => h) (Or.inl ⟨by rfl, fun _ _ => rfl⟩) hS0 rfl ?_
    simp only [Act.put, List.setIfInBounds_toArray, List.set_cons_zero, List.set_cons_succ]
    refine orders_take 3 (some 30) (v := .pointer (some ⟨b, k * 16, none⟩)) rfl (by kernel_rfl) (by kernel_rfl) (by kernel_rfl) (by kernel_rfl) (fun _ _ _ h => h) (Or.inl ⟨by rfl, fun _ _ => by go_simp⟩) hS0 rfl ?_
    simp only [Act.put, List.setIfInBounds_toArray, List.set_cons_zero, List.set_cons_succ]
    refine orders_take 4 (some 31) rfl (by kernel_rfl) (by kernel_rfl) (by kernel_rfl) (by kernel_rfl) (fun _ _ _ h => h) (yieldsIf_load_mid (by rfl) 51 _ rfl b (k * 16) rfl (cP.map B) _ (fun w' hw => range_below rP hw hbw3) hu rfl hicP) hS0 rfl ?_
    simp only [Act.put, List.setIfInBounds_toArray, List.set_cons_zero, List.set_cons_succ]
    refine orders_take 6 (some 33) rfl (by kernel_rfl) (by kernel_rfl) (by kernel_rfl) (by kernel_rfl) (fun _ _ _ h => h) (yieldsIf_load_mid (by rfl) 51 _ rfl (w2'.heap.size + 1) 0 rfl (q.map B) _ (fun w' hw => range_below (unhide R2).range hw (unhide R2).lt) hu rfl hiq) hS0 rfl ?_
    simp only [Act.put, List.setIfInBounds_toArray, List.set_cons_zero, List.set_cons_succ]
    refine orders_take 7 (some 34) (v := .slice (some ⟨b, 0, none⟩) (k + 2) cap) rfl (by kernel_rfl) (by kernel_rfl) (by kernel_rfl) (by kernel_rfl) (fun _ _ _ h => h) (Or.inl ⟨by rfl, fun _ _ => rfl⟩) hS0 rfl ?_
    simp only [Act.put, List.setIfInBounds_toArray, List.set_cons_zero, List.set_cons_succ]
    refine orders_take 8 (some 35) (v := .int .i64 k) rfl (by kernel_rfl) (by kernel_rfl) (by kernel_rfl) (by kernel_rfl) (fun _ _ _ h => h) (Or.inl ⟨by rfl, fun _ _ => rfl⟩) hS0 rfl ?_
    simp only [Act.put, List.setIfInBounds_toArray, List.set_cons_zero, List.set_cons_succ]
    refine orders_take 9 (some 36) (v := .int .i64 ((k : Int) + 1)) rfl (by kernel_rfl) (by kernel_rfl) (by kernel_rfl) (by kernel_rfl) (fun _ _ _ h => h) (Or.inl ⟨by rfl, fun _ _ => by go_simp; rw [wrap64_small k hk6]⟩) hS0 rfl ?_
    simp only [Act.put, List.setIfInBounds_toArray, List.set_cons_zero, List.set_cons_succ]
    refine orders_take 10 (some 37) (v := .pointer (some ⟨b, (k + 1) * 16, none⟩)) rfl (by kernel_rfl) (by kernel_rfl) (by kernel_rfl) (by kernel_rfl) (fun _ _ _ h => h) (Or.inl ⟨by rfl, fun _ _ => by go_simp⟩) hS0 rfl ?_
    simp only [Act.put, List.setIfInBounds_toArray, List.set_cons_zero, List.set_cons_succ]
    refine orders_take 11 (some 38) rfl (by kernel_rfl) (by kernel_rfl) (by kernel_rfl) (by kernel_rfl) (fun _ _ _ h => h) (yieldsIf_load_mid (by rfl) 51 _ rfl b ((k + 1) * 16) rfl (cQ.map B) _ (fun w' hw => range_below rQ hw hbw3) hu rfl hicQ) hS0 rfl ?_
    simp only [Act.put, List.setIfInBounds_toArray, List.set_cons_zero, List.set_cons_succ]
    generalize w3.drew = W0 at *
    refine orders_each [5, 13, 14] (by kernel_rfl) (by simp) ?_
    refine each_cons 5 rfl (by rfl) (fun K hK => ?_) ?_
    · go_simp
      refine (plus_any p cP _ hp hcP).mono ?_
      rintro e W1 ⟨rfl, hb1⟩
      have hS1 : Below w3.heap.size w3 W1 := hS0.trans (hb1.mono hS0.size)
      refine hK.out _ _ (fun _ => hS1) ?_
      clear hK K
      refine orders_each [12, 13, 14] (by kernel_rfl) (by simp) ?_
      refine each_cons 12 rfl (by rfl) (fun K hK => ?_) ?_
      · go_simp
        refine (plus_any q cQ _ hq hcQ).mono ?_
        rintro e W2 ⟨rfl, hb2⟩
        have hS2 : Below w3.heap.size w3 W2 := hS1.trans (hb2.mono hS1.size)
        refine hK.out _ _ (fun _ => hS2) ?_
        clear hK K
        refine orders_each [13, 14] (by kernel_rfl) (by simp) ?_
        refine each_cons 13 rfl (by rfl) (fun K hK => ?_) ?_
        · go_simp
          have hg3 : w3.heap.size ≤ W2.heap.size := hS2.size
          have hS3 : Below w3.heap.size w3 (W2.alloc (.cells zA 51)) := hS2.alloc hS2.size _
          have h8x3 := RowAt.newz W2
          refine hK.out _ _ (fun _ => hS3) ?_
          clear hK K
          generalize W2.alloc (.cells zA 51) = W3 at *
          refine orders_each [14] (by kernel_rfl) (by simp) ?_
          refine each_cons 14 rfl (by rfl) (fun K hK => ?_) ?_
          · go_simp
            have hg4 : w3.heap.size ≤ W3.heap.size := hS3.size
            have hS4 : Below w3.heap.size w3 (W3.alloc (.cells zA 51)) := hS3.alloc hS3.size _
            have hne4 : W2.heap.size ≠ W3.heap.size := fun e => by have := h8x3.lt; omega
            have h8x4 := h8x3.alloc (.cells zA 51)
            have h9x4 := RowAt.newz W3
            refine hK.out _ _ (fun _ => hS4) ?_
            clear hK K
            generalize W3.alloc (.cells zA 51) = W4 at *
            obtain ⟨t1, t2, s1, fin⟩ := two_fill hpc hqc h8x4 h9x4 hne4 hg3 hg4 hS4
            refine orders_one 15 (by kernel_rfl) rfl (by rfl) (fun K hK => ?_)
            refine wp_store_mid 51 _ _ rfl W2.heap.size 0 (colA (xorL p cP)) rfl rfl t1 hspc (colA_one _) ?_
            refine hK.out _ _ (fun _ => s1) ?_
            clear hK K
            refine orders_one 16 (by kernel_rfl) rfl (by rfl) (fun K hK => ?_)
            refine wp_store_mid 51 _ _ rfl W3.heap.size 0 (colA (xorL q cQ)) rfl rfl t2 hsqc (colA_one _) ?_
            refine hK.out _ _ (fun h => absurd rfl h) ?_
            clear hK K
            refine orders_end (by kernel_rfl) ?_
            refine NoPanic.normal ?_
            simp only [Act.put]
            exact unhide hfin W2.heap.size W3.heap.size _ fin
          exact each_nil
        refine each_cons 14 rfl (by rfl) (fun K hK => ?_) ?_
        · go_simp
          have hg5 : w3.heap.size ≤ W2.heap.size := hS2.size
          have hS5 : Below w3.heap.size w3 (W2.alloc (.cells zA 51)) := hS2.alloc hS2.size _
          have h9x5 := RowAt.newz W2
          refine hK.out _ _ (fun _ => hS5) ?_
          clear hK K
          generalize W2.alloc (.cells zA 51) = W5 at *
          refine orders_each [13] (by kernel_rfl) (by simp) ?_
          refine each_cons 13 rfl (by rfl) (fun K hK => ?_) ?_
          · go_simp
            have hg6 : w3.heap.size ≤ W5.heap.size := hS5.size
            have hS6 : Below w3.heap.size w3 (W5.alloc (.cells zA 51)) := hS5.alloc hS5.size _
            have hne6 : W5.heap.size ≠ W2.heap.size := fun e => by have := h9x5.lt; omega
            have h9x6 := h9x5.alloc (.cells zA 51)
            have h8x6 := RowAt.newz W5
            refine hK.out _ _ (fun _ => hS6) ?_
            clear hK K
            generalize W5.alloc (.cells zA 51) = W6 at *
            obtain ⟨t1, t2, s1, fin⟩ := two_fill hpc hqc h8x6 h9x6 hne6 hg6 hg5 hS6
            refine orders_one 15 (by kernel_rfl) rfl (by rfl) (fun K hK => ?_)
            refine wp_store_mid 51 _ _ rfl W5.heap.size 0 (colA (xorL p cP)) rfl rfl t1 hspc (colA_one _) ?_
            refine hK.out _ _ (fun _ => s1) ?_
            clear hK K
            refine orders_one 16 (by kernel_rfl) rfl (by rfl) (fun K hK => ?_)
            refine wp_store_mid 51 _ _ rfl W2.heap.size 0 (colA (xorL q cQ)) rfl rfl t2 hsqc (colA_one _) ?_
            refine hK.out _ _ (fun h => absurd rfl h) ?_
            clear hK K
            refine orders_end (by kernel_rfl) ?_
            refine NoPanic.normal ?_
            simp only [Act.put]
            exact unhide hfin W5.heap.size W2.heap.size _ fin
          exact each_nil
        exact each_nil
      refine each_cons 13 rfl (by rfl) (fun K hK => ?_) ?_
      · go_simp
        have hg7 : w3.heap.size ≤ W1.heap.size := hS1.size
        have hS7 : Below w3.heap.size w3 (W1.alloc (.cells zA 51)) := hS1.alloc hS1.size _
        have h8x7 := RowAt.newz W1
        refine hK.out _ _ (fun _ => hS7) ?_
        clear hK K
        generalize W1.alloc (.cells zA 51) = W7 at *
        refine orders_each [12, 14] (by kernel_rfl) (by simp) ?_
        refine each_cons 12 rfl (by rfl) (fun K hK => ?_) ?_
        · go_simp
          refine (plus_any q cQ _ hq hcQ).mono ?_
          rintro e W8 ⟨rfl, hb8⟩
          have hS8 : Below w3.heap.size w3 W8 := hS7.trans (hb8.mono hS7.size)
          have h8x8 := h8x7.below hb8 h8x7.lt
          refine hK.out _ _ (fun _ => hS8) ?_
          clear hK K
          refine orders_each [14] (by kernel_rfl) (by simp) ?_
          refine each_cons 14 rfl (by rfl) (fun K hK => ?_) ?_
          · go_simp
            have hg9 : w3.heap.size ≤ W8.heap.size := hS8.size
            have hS9 : Below w3.heap.size w3 (W8.alloc (.cells zA 51)) := hS8.alloc hS8.size _
            have hne9 : W1.heap.size ≠ W8.heap.size := fun e => by have := h8x8.lt; omega
            have h8x9 := h8x8.alloc (.cells zA 51)
            have h9x9 := RowAt.newz W8
            refine hK.out _ _ (fun _ => hS9) ?_
            clear hK K
            generalize W8.alloc (.cells zA 51) = W9 at *
            obtain ⟨t1, t2, s1, fin⟩ := two_fill hpc hqc h8x9 h9x9 hne9 hg7 hg9 hS9
            refine orders_one 15 (by kernel_rfl) rfl (by rfl) (fun K hK => ?_)
            refine wp_store_mid 51 _ _ rfl W1.heap.size 0 (colA (xorL p cP)) rfl rfl t1 hspc (colA_one _) ?_
            refine hK.out _ _ (fun _ => s1) ?_
            clear hK K
            refine orders_one 16 (by kernel_rfl) rfl (by rfl) (fun K hK => ?_)
            refine wp_store_mid 51 _ _ rfl W8.heap.size 0 (colA (xorL q cQ)) rfl rfl t2 hsqc (colA_one _) ?_
            refine hK.out _ _ (fun h => absurd rfl h) ?_
            clear hK K
            refine orders_end (by kernel_rfl) ?_
            refine NoPanic.normal ?_
            simp only [Act.put]
            exact unhide hfin W1.heap.size W8.heap.size _ fin
          exact each_nil
        refine each_cons 14 rfl (by rfl) (fun K hK => ?_) ?_
        · go_simp
          have hg10 : w3.heap.size ≤ W7.heap.size := hS7.size
          have hS10 : Below w3.heap.size w3 (W7.alloc (.cells zA 51)) := hS7.alloc hS7.size _
          have hne10 : W1.heap.size ≠ W7.heap.size := fun e => by have := h8x7.lt; omega
          have h8x10 := h8x7.alloc (.cells zA 51)
          have h9x10 := RowAt.newz W7
          refine hK.out _ _ (fun _ => hS10) ?_
          clear hK K
          generalize W7.alloc (.cells zA 51) = W10 at *
          refine orders_each [12] (by kernel_rfl) (by simp) ?_
          refine each_cons 12 rfl (by rfl) (fun K hK => ?_) ?_
          · go_simp
            refine (plus_any q cQ _ hq hcQ).mono ?_
            rintro e W11 ⟨rfl, hb11⟩
            have hS11 : Below w3.heap.size w3 W11 := hS10.trans (hb11.mono hS10.size)
            have h8x11 := h8x10.below hb11 h8x10.lt
            have h9x11 := h9x10.below hb11 h9x10.lt
            refine hK.out _ _ (fun _ => hS11) ?_
            clear hK K
            obtain ⟨t1, t2, s1, fin⟩ := two_fill hpc hqc h8x11 h9x11 hne10 hg7 hg10 hS11
            refine orders_one 15 (by kernel_rfl) rfl (by rfl) (fun K hK => ?_)
            refine wp_store_mid 51 _ _ rfl W1.heap.size 0 (colA (xorL p cP)) rfl rfl t1 hspc (colA_one _) ?_
            refine hK.out _ _ (fun _ => s1) ?_
            clear hK K
            refine orders_one 16 (by kernel_rfl) rfl (by rfl) (fun K hK => ?_)
            refine wp_store_mid 51 _ _ rfl W7.heap.size 0 (colA (xorL q cQ)) rfl rfl t2 hsqc (colA_one _) ?_
            refine hK.out _ _ (fun h => absurd rfl h) ?_
            clear hK K
            refine orders_end (by kernel_rfl) ?_
            refine NoPanic.normal ?_
            simp only [Act.put]
            exact unhide hfin W1.heap.size W7.heap.size _ fin
          exact each_nil
        exact each_nil
      refine each_cons 14 rfl (by rfl) (fun K hK => ?_) ?_
      · go_simp
        have hg12 : w3.heap.size ≤ W1.heap.size := hS1.size
        have hS12 : Below w3.heap.size w3 (W1.alloc (.cells zA 51)) := hS1.alloc hS1.size _
        have h9x12 := RowAt.newz W1
        refine hK.out _ _ (fun _ => hS12) ?_
        clear hK K
        generalize W1.alloc (.cells zA 51) = W12 at *
        refine orders_each [12, 13] (by kernel_rfl) (by simp) ?_
        refine each_cons 12 rfl (by rfl) (fun K hK => ?_) ?_
        · go_simp
          refine (plus_any q cQ _ hq hcQ).mono ?_
          rintro e W13 ⟨rfl, hb13⟩
          have hS13 : Below w3.heap.size w3 W13 := hS12.trans (hb13.mono hS12.size)
          have h9x13 := h9x12.below hb13 h9x12.lt
          refine hK.out _ _ (fun _ => hS13) ?_
          clear hK K
          refine orders_each [13] (by kernel_rfl) (by simp) ?_
          refine each_cons 13 rfl (by rfl) (fun K hK => ?_) ?_
          · go_simp
            have hg14 : w3.heap.size ≤ W13.heap.size := hS13.size
            have hS14 : Below w3.heap.size w3 (W13.alloc (.cells zA 51)) := hS13.alloc hS13.size _
            have hne14 : W13.heap.size ≠ W1.heap.size := fun e => by have := h9x13.lt; omega
            have h9x14 := h9x13.alloc (.cells zA 51)
            have h8x14 := RowAt.newz W13
            refine hK.out _ _ (fun _ => hS14) ?_
            clear hK K
            generalize W13.alloc (.cells zA 51) = W14 at *
            obtain ⟨t1, t2, s1, fin⟩ := two_fill hpc hqc h8x14 h9x14 hne14 hg14 hg12 hS14
            refine orders_one 15 (by kernel_rfl) rfl (by rfl) (fun K hK => ?_)
            refine wp_store_mid 51 _ _ rfl W13.heap.size 0 (colA (xorL p cP)) rfl rfl t1 hspc (colA_one _) ?_
            refine hK.out _ _ (fun _ => s1) ?_
            clear hK K
            refine orders_one 16 (by kernel_rfl) rfl (by rfl) (fun K hK => ?_)
            refine wp_store_mid 51 _ _ rfl W1.heap.size 0 (colA (xorL q cQ)) rfl rfl t2 hsqc (colA_one _) ?_
            refine hK.out _ _ (fun h => absurd rfl h) ?_
            clear hK K
            refine orders_end (by kernel_rfl) ?_
            refine NoPanic.normal ?_
            simp only [Act.put]
            exact unhide hfin W13.heap.size W1.heap.size _ fin
          exact each_nil
        refine each_cons 13 rfl (by rfl) (fun K hK => ?_) ?_
        · go_simp
          have hg15 : w3.heap.size ≤ W12.heap.size := hS12.size
          have hS15 : Below w3.heap.size w3 (W12.alloc (.cells zA 51)) := hS12.alloc hS12.size _
          have hne15 : W12.heap.size ≠ W1.heap.size := fun e => by have := h9x12.lt; omega
          have h9x15 := h9x12.alloc (.cells zA 51)
          have h8x15 := RowAt.newz W12
          refine hK.out _ _ (fun _ => hS15) ?_
          clear hK K
          generalize W12.alloc (.cells zA 51) = W15 at *
          refine orders_each [12] (by kernel_rfl) (by simp) ?_
          refine each_cons 12 rfl (by rfl) (fun K hK => ?_) ?_
          · go_simp
            refine (plus_any q cQ _ hq hcQ).mono ?_
            rintro e W16 ⟨rfl, hb16⟩
            have hS16 : Below w3.heap.size w3 W16 := hS15.trans (hb16.mono hS15.size)
            have h8x16 := h8x15.below hb16 h8x15.lt
            have h9x16 := h9x15.below hb16 h9x15.lt
            refine hK.out _ _ (fun _ => hS16) ?_
            clear hK K
            obtain ⟨t1, t2, s1, fin⟩ := two_fill hpc hqc h8x16 h9x16 hne15 hg15 hg12 hS16
            refine orders_one 15 (by kernel_rfl) rfl (by rfl) (fun K hK => ?_)
            refine wp_store_mid 51 _ _ rfl W12.heap.size 0 (colA (xorL p cP)) rfl rfl t1 hspc (colA_one _) ?_
            refine hK.out _ _ (fun _ => s1) ?_
            clear hK K
            refine orders_one 16 (by kernel_rfl) rfl (by rfl) (fun K hK => ?_)
            refine wp_store_mid 51 _ _ rfl W1.heap.size 0 (colA (xorL q cQ)) rfl rfl t2 hsqc (colA_one _) ?_
            refine hK.out _ _ (fun h => absurd rfl h) ?_
            clear hK K
            refine orders_end (by kernel_rfl) ?_
            refine NoPanic.normal ?_
            simp only [Act.put]
            exact unhide hfin W12.heap.size W1.heap.size _ fin
          exact each_nil
        exact each_nil
      exact each_nil
    refine each_cons 13 rfl (by rfl) (fun K hK => ?_) ?_
    · go_simp
      have hg17 : w3.heap.size ≤ W0.heap.size := hS0.size
      have hS17 : Below w3.heap.size w3 (W0.alloc (.cells zA 51)) := hS0.alloc hS0.size _
      have h8x17 := RowAt.newz W0
      refine hK.out _ _ (fun _ => hS17) ?_
      clear hK K
      generalize W0.alloc (.cells zA 51) = W17 at *
      refine orders_each [5, 14] (by kernel_rfl) (by simp) ?_
      refine each_cons 5 rfl (by rfl) (fun K hK => ?_) ?_
      · go_simp
        refine (plus_any p cP _ hp hcP).mono ?_
        rintro e W18 ⟨rfl, hb18⟩
        have hS18 : Below w3.heap.size w3 W18 := hS17.trans (hb18.mono hS17.size)
        have h8x18 := h8x17.below hb18 h8x17.lt
        refine hK.out _ _ (fun _ => hS18) ?_
        clear hK K
        refine orders_each [12, 14] (by kernel_rfl) (by simp) ?_
        refine each_cons 12 rfl (by rfl) (fun K hK => ?_) ?_
        · go_simp
          refine (plus_any q cQ _ hq hcQ).mono ?_
          rintro e W19 ⟨rfl, hb19⟩
          have hS19 : Below w3.heap.size w3 W19 := hS18.trans (hb19.mono hS18.size)
          have h8x19 := h8x18.below hb19 h8x18.lt
          refine hK.out _ _ (fun _ => hS19) ?_
          clear hK K
          refine orders_each [14] (by kernel_rfl) (by simp) ?_
          refine each_cons 14 rfl (by rfl) (fun K hK => ?_) ?_
          · go_simp
            have hg20 : w3.heap.size ≤ W19.heap.size := hS19.size
            have hS20 : Below w3.heap.size w3 (W19.alloc (.cells zA 51)) := hS19.alloc hS19.size _
            have hne20 : W0.heap.size ≠ W19.heap.size := fun e => by have := h8x19.lt; omega
            have h8x20 := h8x19.alloc (.cells zA 51)
            have h9x20 := RowAt.newz W19
            refine hK.out _ _ (fun _ => hS20) ?_
            clear hK K
            generalize W19.alloc (.cells zA 51) = W20 at *
            obtain ⟨t1, t2, s1, fin⟩ := two_fill hpc hqc h8x20 h9x20 hne20 hg17 hg20 hS20
            refine orders_one 15 (by kernel_rfl) rfl (by rfl) (fun K hK => ?_)
            refine wp_store_mid 51 _ _ rfl W0.heap.size 0 (colA (xorL p cP)) rfl rfl t1 hspc (colA_one _) ?_
            refine hK.out _ _ (fun _ => s1) ?_
            clear hK K
            refine orders_one 16 (by kernel_rfl) rfl (by rfl) (fun K hK => ?_)
            refine wp_store_mid 51 _ _ rfl W19.heap.size 0 (colA (xorL q cQ)) rfl rfl t2 hsqc (colA_one _) ?_
            refine hK.out _ _ (fun h => absurd rfl h) ?_
            clear hK K
            refine orders_end (by kernel_rfl) ?_
            refine NoPanic.normal ?_
            simp only [Act.put]
            exact unhide hfin W0.heap.size W19.heap.size _ fin
          exact each_nil
        refine each_cons 14 rfl (by rfl) (fun K hK => ?_) ?_
        · go_simp
          have hg21 : w3.heap.size ≤ W18.heap.size := hS18.size
          have hS21 : Below w3.heap.size w3 (W18.alloc (.cells zA 51)) := hS18.alloc hS18.size _
          have hne21 : W0.heap.size ≠ W18.heap.size := fun e => by have := h8x18.lt; omega
          have h8x21 := h8x18.alloc (.cells zA 51)
          have h9x21 := RowAt.newz W18
          refine hK.out _ _ (fun _ => hS21) ?_
          clear hK K
          generalize W18.alloc (.cells zA 51) = W21 at *
          refine orders_each [12] (by kernel_rfl) (by simp) ?_
          refine each_cons 12 rfl (by rfl) (fun K hK => ?_) ?_
          · go_simp
            refine (plus_any q cQ _ hq hcQ).mono ?_
            rintro e W22 ⟨rfl, hb22⟩
            have hS22 : Below w3.heap.size w3 W22 := hS21.trans (hb22.mono hS21.size)
            have h8x22 := h8x21.below hb22 h8x21.lt
            have h9x22 := h9x21.below hb22 h9x21.lt
            refine hK.out _ _ (fun _ => hS22) ?_
            clear hK K
            obtain ⟨t1, t2, s1, fin⟩ := two_fill hpc hqc h8x22 h9x22 hne21 hg17 hg21 hS22
            refine orders_one 15 (by kernel_rfl) rfl (by rfl) (fun K hK => ?_)
            refine wp_store_mid 51 _ _ rfl W0.heap.size 0 (colA (xorL p cP)) rfl rfl t1 hspc (colA_one _) ?_
            refine hK.out _ _ (fun _ => s1) ?_
            clear hK K
            refine orders_one 16 (by kernel_rfl) rfl (by rfl) (fun K hK => ?_)
            refine wp_store_mid 51 _ _ rfl W18.heap.size 0 (colA (xorL q cQ)) rfl rfl t2 hsqc (colA_one _) ?_
            refine hK.out _ _ (fun h => absurd rfl h) ?_
            clear hK K
            refine orders_end (by kernel_rfl) ?_
            refine NoPanic.normal ?_
            simp only [Act.put]
            exact unhide hfin W0.heap.size W18.heap.size _ fin
          exact each_nil
        exact each_nil
      refine each_cons 14 rfl (by rfl) (fun K hK => ?_) ?_
      · go_simp
        have hg23 : w3.heap.size ≤ W17.heap.size := hS17.size
        have hS23 : Below w3.heap.size w3 (W17.alloc (.cells zA 51)) := hS17.alloc hS17.size _
        have hne23 : W0.heap.size ≠ W17.heap.size := fun e => by have := h8x17.lt; omega
        have h8x23 := h8x17.alloc (.cells zA 51)
        have h9x23 := RowAt.newz W17
        refine hK.out _ _ (fun _ => hS23) ?_
        clear hK K
        generalize W17.alloc (.cells zA 51) = W23 at *
        refine orders_each [5] (by kernel_rfl) (by simp) ?_
        refine each_cons 5 rfl (by rfl) (fun K hK => ?_) ?_
        · go_simp
          refine (plus_any p cP _ hp hcP).mono ?_
          rintro e W24 ⟨rfl, hb24⟩
          have hS24 : Below w3.heap.size w3 W24 := hS23.trans (hb24.mono hS23.size)
          have h8x24 := h8x23.below hb24 h8x23.lt
          have h9x24 := h9x23.below hb24 h9x23.lt
          refine hK.out _ _ (fun _ => hS24) ?_
          clear hK K
          refine orders_each [12] (by kernel_rfl) (by simp) ?_
          refine each_cons 12 rfl (by rfl) (fun K hK => ?_) ?_
          · go_simp
            refine (plus_any q cQ _ hq hcQ).mono ?_
            rintro e W25 ⟨rfl, hb25⟩
            have hS25 : Below w3.heap.size w3 W25 := hS24.trans (hb25.mono hS24.size)
            have h8x25 := h8x24.below hb25 h8x24.lt
            have h9x25 := h9x24.below hb25 h9x24.lt
            refine hK.out _ _ (fun _ => hS25) ?_
            clear hK K
            obtain ⟨t1, t2, s1, fin⟩ := two_fill hpc hqc h8x25 h9x25 hne23 hg17 hg23 hS25
            refine orders_one 15 (by kernel_rfl) rfl (by rfl) (fun K hK => ?_)
            refine wp_store_mid 51 _ _ rfl W0.heap.size 0 (colA (xorL p cP)) rfl rfl t1 hspc (colA_one _) ?_
            refine hK.out _ _ (fun _ => s1) ?_
            clear hK K
            refine orders_one 16 (by kernel_rfl) rfl (by rfl) (fun K hK => ?_)
            refine wp_store_mid 51 _ _ rfl W17.heap.size 0 (colA (xorL q cQ)) rfl rfl t2 hsqc (colA_one _) ?_
            refine hK.out _ _ (fun h => absurd rfl h) ?_
            clear hK K
            refine orders_end (by kernel_rfl) ?_
            refine NoPanic.normal ?_
            simp only [Act.put]
            exact unhide hfin W0.heap.size W17.heap.size _ fin
          exact each_nil
        exact each_nil
      exact each_nil
    refine each_cons 14 rfl (by rfl) (fun K hK => ?_) ?_
    · go_simp
      have hg26 : w3.heap.size ≤ W0.heap.size := hS0.size
      have hS26 : Below w3.heap.size w3 (W0.alloc (.cells zA 51)) := hS0.alloc hS0.size _
      have h9x26 := RowAt.newz W0
      refine hK.out _ _ (fun _ => hS26) ?_
      clear hK K
      generalize W0.alloc (.cells zA 51) = W26 at *
      refine orders_each [5, 13] (by kernel_rfl) (by simp) ?_
      refine each_cons 5 rfl (by rfl) (fun K hK => ?_) ?_
      · go_simp
        refine (plus_any p cP _ hp hcP).mono ?_
        rintro e W27 ⟨rfl, hb27⟩
        have hS27 : Below w3.heap.size w3 W27 := hS26.trans (hb27.mono hS26.size)
        have h9x27 := h9x26.below hb27 h9x26.lt
        refine hK.out _ _ (fun _ => hS27) ?_
        clear hK K
        refine orders_each [12, 13] (by kernel_rfl) (by simp) ?_
        refine each_cons 12 rfl (by rfl) (fun K hK => ?_) ?_
        · go_simp
          refine (plus_any q cQ _ hq hcQ).mono ?_
          rintro e W28 ⟨rfl, hb28⟩
          have hS28 : Below w3.heap.size w3 W28 := hS27.trans (hb28.mono hS27.size)
          have h9x28 := h9x27.below hb28 h9x27.lt
          refine hK.out _ _ (fun _ => hS28) ?_
          clear hK K
          refine orders_each [13] (by kernel_rfl) (by simp) ?_
          refine each_cons 13 rfl (by rfl) (fun K hK => ?_) ?_
          · go_simp
            have hg29 : w3.heap.size ≤ W28.heap.size := hS28.size
            have hS29 : Below w3.heap.size w3 (W28.alloc (.cells zA 51)) := hS28.alloc hS28.size _
            have hne29 : W28.heap.size ≠ W0.heap.size := fun e => by have := h9x28.lt; omega
            have h9x29 := h9x28.alloc (.cells zA 51)
            have h8x29 := RowAt.newz W28
            refine hK.out _ _ (fun _ => hS29) ?_
            clear hK K
            generalize W28.alloc (.cells zA 51) = W29 at *
            obtain ⟨t1, t2, s1, fin⟩ := two_fill hpc hqc h8x29 h9x29 hne29 hg29 hg26 hS29
            refine orders_one 15 (by kernel_rfl) rfl (by rfl) (fun K hK => ?_)
            refine wp_store_mid 51 _ _ rfl W28.heap.size 0 (colA (xorL p cP)) rfl rfl t1 hspc (colA_one _) ?_
            refine hK.out _ _ (fun _ => s1) ?_
            clear hK K
            refine orders_one 16 (by kernel_rfl) rfl (by rfl) (fun K hK => ?_)
            refine wp_store_mid 51 _ _ rfl W0.heap.size 0 (colA (xorL q cQ)) rfl rfl t2 hsqc (colA_one _) ?_
            refine hK.out _ _ (fun h => absurd rfl h) ?_
            clear hK K
            refine orders_end (by kernel_rfl) ?_
            refine NoPanic.normal ?_
            simp only [Act.put]
            exact unhide hfin W28.heap.size W0.heap.size _ fin
          exact each_nil
        refine each_cons 13 rfl (by rfl) (fun K hK => ?_) ?_
        · go_simp
          have hg30 : w3.heap.size ≤ W27.heap.size := hS27.size
          have hS30 : Below w3.heap.size w3 (W27.alloc (.cells zA 51)) := hS27.alloc hS27.size _
          have hne30 : W27.heap.size ≠ W0.heap.size := fun e => by have := h9x27.lt; omega
          have h9x30 := h9x27.alloc (.cells zA 51)
          have h8x30 := RowAt.newz W27
          refine hK.out _ _ (fun _ => hS30) ?_
          clear hK K
          generalize W27.alloc (.cells zA 51) = W30 at *
          refine orders_each [12] (by kernel_rfl) (by simp) ?_
          refine each_cons 12 rfl (by rfl) (fun K hK => ?_) ?_
          · go_simp
            refine (plus_any q cQ _ hq hcQ).mono ?_
            rintro e W31 ⟨rfl, hb31⟩
            have hS31 : Below w3.heap.size w3 W31 := hS30.trans (hb31.mono hS30.size)
            have h8x31 := h8x30.below hb31 h8x30.lt
            have h9x31 := h9x30.below hb31 h9x30.lt
            refine hK.out _ _ (fun _ => hS31) ?_
            clear hK K
            obtain ⟨t1, t2, s1, fin⟩ := two_fill hpc hqc h8x31 h9x31 hne30 hg30 hg26 hS31
            refine orders_one 15 (by kernel_rfl) rfl (by rfl) (fun K hK => ?_)
            refine wp_store_mid 51 _ _ rfl W27.heap.size 0 (colA (xorL p cP)) rfl rfl t1 hspc (colA_one _) ?_
            refine hK.out _ _ (fun _ => s1) ?_
            clear hK K
            refine orders_one 16 (by kernel_rfl) rfl (by rfl) (fun K hK => ?_)
            refine wp_store_mid 51 _ _ rfl W0.heap.size 0 (colA (xorL q cQ)) rfl rfl t2 hsqc (colA_one _) ?_
            refine hK.out _ _ (fun h => absurd rfl h) ?_
            clear hK K
            refine orders_end (by kernel_rfl) ?_
            refine NoPanic.normal ?_
            simp only [Act.put]
            exact unhide hfin W27.heap.size W0.heap.size _ fin
          exact each_nil
        exact each_nil
      refine each_cons 13 rfl (by rfl) (fun K hK => ?_) ?_
      · go_simp
        have hg32 : w3.heap.size ≤ W26.heap.size := hS26.size
        have hS32 : Below w3.heap.size w3 (W26.alloc (.cells zA 51)) := hS26.alloc hS26.size _
        have hne32 : W26.heap.size ≠ W0.heap.size := fun e => by have := h9x26.lt; omega
        have h9x32 := h9x26.alloc (.cells zA 51)
        have h8x32 := RowAt.newz W26
        refine hK.out _ _ (fun _ => hS32) ?_
        clear hK K
        generalize W26.alloc (.cells zA 51) = W32 at *
        refine orders_each [5] (by kernel_rfl) (by simp) ?_
        refine each_cons 5 rfl (by rfl) (fun K hK => ?_) ?_
        · go_simp
          refine (plus_any p cP _ hp hcP).mono ?_
          rintro e W33 ⟨rfl, hb33⟩
          have hS33 : Below w3.heap.size w3 W33 := hS32.trans (hb33.mono hS32.size)
          have h8x33 := h8x32.below hb33 h8x32.lt
          have h9x33 := h9x32.below hb33 h9x32.lt
          refine hK.out _ _ (fun _ => hS33) ?_
          clear hK K
          refine orders_each [12] (by kernel_rfl) (by simp) ?_
          refine each_cons 12 rfl (by rfl) (fun K hK => ?_) ?_
          · go_simp
            refine (plus_any q cQ _ hq hcQ).mono ?_
            rintro e W34 ⟨rfl, hb34⟩
            have hS34 : Below w3.heap.size w3 W34 := hS33.trans (hb34.mono hS33.size)
            have h8x34 := h8x33.below hb34 h8x33.lt
            have h9x34 := h9x33.below hb34 h9x33.lt
            refine hK.out _ _ (fun _ => hS34) ?_
            clear hK K
            obtain ⟨t1, t2, s1, fin⟩ := two_fill hpc hqc h8x34 h9x34 hne32 hg32 hg26 hS34
            refine orders_one 15 (by kernel_rfl) rfl (by rfl) (fun K hK => ?_)
            refine wp_store_mid 51 _ _ rfl W26.heap.size 0 (colA (xorL p cP)) rfl rfl t1 hspc (colA_one _) ?_
            refine hK.out _ _ (fun _ => s1) ?_
            clear hK K
            refine orders_one 16 (by kernel_rfl) rfl (by rfl) (fun K hK => ?_)
            refine wp_store_mid 51 _ _ rfl W0.heap.size 0 (colA (xorL q cQ)) rfl rfl t2 hsqc (colA_one _) ?_
            refine hK.out _ _ (fun h => absurd rfl h) ?_
            clear hK K
            refine orders_end (by kernel_rfl) ?_
            refine NoPanic.normal ?_
            simp only [Act.put]
            exact unhide hfin W26.heap.size W0.heap.size _ fin
          exact each_nil
        exact each_nil
      exact each_nil
    exact each_nil

end Go.Proofs.YtdcinlkkjbclmaaDoor
