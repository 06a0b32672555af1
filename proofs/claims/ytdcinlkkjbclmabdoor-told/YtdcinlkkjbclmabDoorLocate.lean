/- The contract of stripe.Locate. -/
import Derived.Test.YtdcinlkkjbclmabDoorEq
import Derived.Test.YtdcinlkkjbclmabDoorPre
namespace Go.Proofs.YtdcinlkkjbclmabDoor
open Go.RowKit

/-- what Locate tells: by what P and Q are off -/
def LocR (cs : List (List Nat)) (k : Nat) (v at' : Int) (val : List Nat) : Prop :=
  (xorL (parP cs k) (cs.getD k []) = zero16 ∧ xorL (parQ cs k) (cs.getD (k + 1) []) = zero16 ∧ v = 0 ∧ at' = 0 ∧ val = zero16) ∨
  (xorL (parP cs k) (cs.getD k []) ≠ zero16 ∧ xorL (parQ cs k) (cs.getD (k + 1) []) = zero16 ∧ v = 1 ∧ at' = k ∧ val = parP cs k) ∨
  (xorL (parQ cs k) (cs.getD (k + 1) []) ≠ zero16 ∧ xorL (parP cs k) (cs.getD k []) = zero16 ∧ v = 1 ∧ at' = (k : Int) + 1 ∧ val = parQ cs k) ∨
  (xorL (parP cs k) (cs.getD k []) ≠ zero16 ∧ xorL (parQ cs k) (cs.getD (k + 1) []) ≠ zero16 ∧ ∃ c : Nat, c < k ∧ (∀ j, j < c → mulL (xorL (parP cs k) (cs.getD k [])) (powN j) ≠ xorL (parQ cs k) (cs.getD (k + 1) [])) ∧
    mulL (xorL (parP cs k) (cs.getD k [])) (powN c) = xorL (parQ cs k) (cs.getD (k + 1) []) ∧ v = 1 ∧ at' = c ∧ val = xorL (cs.getD c []) (xorL (parP cs k) (cs.getD k []))) ∨
  (xorL (parP cs k) (cs.getD k []) ≠ zero16 ∧ xorL (parQ cs k) (cs.getD (k + 1) []) ≠ zero16 ∧ (∀ j, j < k → mulL (xorL (parP cs k) (cs.getD k [])) (powN j) ≠ xorL (parQ cs k) (cs.getD (k + 1) [])) ∧ v = 2 ∧ at' = 0 ∧ val = zero16)

set_option maxHeartbeats 8000000 in
theorem locate_any (b cap : Nat) (cs : List (List Nat)) (w : World) (hcs : AreCols cs) (h4 : 4 ≤ cs.length) (h8 : cs.length ≤ 8) (hcap : cs.length ≤ cap) (_hcm : cap ≤ maxLen) (hat : ColsAt w b cs) (hb : b < w.heap.size) (ht : Tabs w) :
    Calls Tryd.prog 13 #[.slice (some ⟨b, 0, none⟩) cs.length cap] w fun e w' => ∃ (v at' : Int) (val : List Nat), e = .returned (.tuple #[.int .i64 v, .int .i64 at', colV val]) ∧ LocR cs (cs.length - 2) v at' val ∧ IsCol val ∧ Below w.heap.size w w' := by
  have hs2 := ht.size
  unfold maxLen at _hcm
  obtain ⟨k, hk⟩ : ∃ k, cs.length = k + 2 := ⟨cs.length - 2, by omega⟩
  have hk2 : cs.length - 2 = k := by omega
  rw [hk2]
  have hlt : (cs.take k).length = k := by rw [List.length_take]; omega
  have hct : AreCols (cs.take k) := ⟨fun i hi => by rw [hlt] at hi; rw [take_getD _ _ _ hi]; exact hcs.col i (by omega)⟩
  have hatt : ColsAt w b (cs.take k) := fun i hi => by rw [hlt] at hi; rw [take_getD _ _ _ hi]; exact hat i (by omega)
  have hk2' : 2 ≤ k := by omega
  have hk6 : k ≤ 6 := by omega
  rw [hk]
  go_enter Tryd.func13, Tryd.ntmps13
  have hkc : (k : Int) ≤ (cap : Int) := by omega
  have hk0 : (0 : Int) ≤ (k : Int) := by omega
  have hpa := parity_any b cap (cs.take k) (w.alloc (.cells zA 41)) hct (by omega) (hatt.below ((Below.refl _ _).alloc (Nat.le_refl _) _) hb) (by simp; omega) (ht.below hs2 ((Below.refl _ _).alloc (Nat.le_refl _) _))
  rw [hlt, (parP_take cs k k (Nat.le_refl _)).1, (parP_take cs k k (Nat.le_refl _)).2] at hpa
  have hp : IsCol (parP cs k) := by have := parP_col hct k (by omega); rw [(parP_take cs k k (Nat.le_refl _)).1] at this; exact this
  have hq : IsCol (parQ cs k) := by have := parQ_col hct k (by omega); rw [(parP_take cs k k (Nat.le_refl _)).2] at this; exact this
  have hcP := hcs.col k (by omega)
  have hcQ := hcs.col (k + 1) (by omega)
  have HPA := hide hpa
  have HAT := hide hat
  have HCS := hide hcs
  have HT := hide ht
  clear hpa hat hcs ht hatt hct hlt
  go_wp2_with fail
  refine (unhide HPA).mono ?_
  rintro e w2 ⟨rfl, hb2⟩
  obtain ⟨p, hpe⟩ : ∃ p, parP cs k = p := ⟨_, rfl⟩
  obtain ⟨q, hqe⟩ : ∃ q, parQ cs k = q := ⟨_, rfl⟩
  rw [hpe] at hp ⊢
  rw [hqe] at hq ⊢
  have HPE := hide hpe
  have HQE := hide hqe
  clear hpe hqe HPA
  have hsp : (Tryd.prog.info? 41).map (·.size) = some (colA p).size := by rw [colA_size hp]; exact Tryd.colSize
  have hsq : (Tryd.prog.info? 41).map (·.size) = some (colA q).size := by rw [colA_size hq]; exact Tryd.colSize
  obtain ⟨t1, t2, r1, r2, bw, sw⟩ := two_new w2 hp hq
  have hz0 : RowAt w2 w.heap.size zero16 := (RowAt.newz w).below hb2 (by simp)
  have hb02 : Below w.heap.size w w2 := ((Below.refl _ _).alloc (Nat.le_refl _) _).trans (hb2.mono (by simp))
  have hlt2 := hz0.lt
  have T1 := hide t1
  have T2 := hide t2
  have R1 := hide r1
  have R2 := hide r2
  have R0 := hide (hz0.below bw hz0.lt)
  have BW := hide (hb02.trans (bw.mono (by omega)))
  clear t1 t2 r1 r2 bw hb2 hz0 hb02
  unfold colV
  go_wp2_with (first | (refine wpList_store_mid rfl 41 _ _ rfl w2.heap.size 0 (colA p) rfl rfl (unhide T1) hsp (colA_one _) ?_) | (refine wpList_store_mid rfl 41 _ _ rfl (w2.heap.size + 1) 0 (colA q) rfl rfl (unhide T2) hsq (colA_one _) ?_))
  clear T1 T2
  generalize (((w2.alloc (.cells zA 41)).alloc (.cells zA 41)).setCells w2.heap.size 0 (colA p).toList).setCells (w2.heap.size + 1) 0 (colA q).toList = w3 at *
  simp only [Act.put]
  generalize hcPe : cs.getD k [] = cP at *
  generalize hcQe : cs.getD (k + 1) [] = cQ at *
  have HcPE := hide hcPe
  have HcQE := hide hcQe
  clear hcPe hcQe
  have hpc := xorL_col hp hcP
  have hqc := xorL_col hq hcQ
  have hspc : (Tryd.prog.info? 41).map (·.size) = some (colA (xorL p cP)).size := by rw [colA_size hpc]; exact Tryd.colSize
  have hsqc : (Tryd.prog.info? 41).map (·.size) = some (colA (xorL q cQ)).size := by rw [colA_size hqc]; exact Tryd.colSize
  have hip : (Tryd.prog.info? 41).map (·.size) = some (p.map B).length := by rw [List.length_map, hp.len]; exact Tryd.colSize
  have hiq : (Tryd.prog.info? 41).map (·.size) = some (q.map B).length := by rw [List.length_map, hq.len]; exact Tryd.colSize
  have hicP : (Tryd.prog.info? 41).map (·.size) = some (cP.map B).length := by rw [List.length_map, hcP.len]; exact Tryd.colSize
  have hicQ : (Tryd.prog.info? 41).map (·.size) = some (cQ.map B).length := by rw [List.length_map, hcQ.len]; exact Tryd.colSize
  have hu := Tryd.underlying41
  have rP := range_below ((unhide HAT) k (by omega)) (unhide BW) hb
  have rQ := range_below ((unhide HAT) (k + 1) (by omega)) (unhide BW) hb
  rw [unhide HcPE] at rP
  rw [unhide HcQE] at rQ
  have hbw3 := Nat.lt_of_lt_of_le hb (unhide BW).size
  refine ways_meet (fun g g' W => w3.heap.size ≤ g ∧ w3.heap.size ≤ g' ∧ g ≠ g' ∧ RowAt W g (xorL p cP) ∧ RowAt W g' (xorL q cQ) ∧ Below w3.heap.size w3 W)
    (fun a g g' => ((((((((((((((a.put (some 22) (.agg (p.map B).toArray)).put (some 23) (.slice (some ⟨b, 0, none⟩) (k + 2) cap)).put (some 24) (.int .i64 k)).put (some 25) (.pointer (some ⟨b, k * 16, none⟩))).put (some 26) (.agg (cP.map B).toArray)).put (some 27) (colV (xorL p cP))).put (some 28) (.agg (q.map B).toArray)).put (some 29) (.slice (some ⟨b, 0, none⟩) (k + 2) cap)).put (some 30) (.int .i64 k)).put (some 31) (.int .i64 ((k : Int) + 1))).put (some 32) (.pointer (some ⟨b, (k + 1) * 16, none⟩))).put (some 33) (.agg (cQ.map B).toArray)).put (some 34) (colV (xorL q cQ))).put (some 8) (.pointer (some ⟨g, 0, none⟩))).put (some 9) (.pointer (some ⟨g', 0, none⟩))) ?_ ?_
  · rintro g8 g9 w4 ⟨hg8, hg9, hne, r8, r9, b4⟩
    simp only [Act.put, List.setIfInBounds_toArray, List.set_cons_zero, List.set_cons_succ]
    obtain ⟨dP, hdP⟩ : ∃ dP, xorL p cP = dP := ⟨_, rfl⟩
    obtain ⟨dQ, hdQ⟩ : ∃ dQ, xorL q cQ = dQ := ⟨_, rfl⟩
    rw [hdP] at hpc hspc r8 ⊢
    rw [hdQ] at hqc hsqc r9 ⊢
    have HDP := hide hdP
    have HDQ := hide hdQ
    clear hdP hdQ rP rQ hicP hicQ
    have hz : RowAt (w4.alloc (.cells zA 41)) w4.heap.size zero16 := RowAt.newz w4
    have hszz : (Tryd.prog.info? 41).map (·.size) = some (colA zero16).size := by rw [colA_size zero_col]; exact Tryd.colSize
    have ba : Below w4.heap.size w4 (w4.alloc (.cells zA 41)) := (Below.refl _ _).alloc (Nat.le_refl _) _
    have H8 := hide (r8.alloc (.cells zA 41))
    have H9 := hide (r9.alloc (.cells zA 41))
    have HZ := hide hz
    have h0lt := (unhide R0).lt
    have H0 := hide (((unhide R0).below b4 (unhide R0).lt).alloc (.cells zA 41))
    have H6 := hide (((unhide R1).below b4 (unhide R1).lt).alloc (.cells zA 41))
    have H7 := hide (((unhide R2).below b4 (unhide R2).lt).alloc (.cells zA 41))
    have HB5 := hide (((unhide BW).trans (b4.mono (unhide BW).size)).trans (ba.mono (by have := (unhide BW).size; have := b4.size; omega)))
    clear hz ba r8 r9 b4 R0 R1 R2 BW
    generalize hw5 : w4.alloc (.cells zA 41) = w5 at *
    have hizz : (Tryd.prog.info? 41).map (·.size) = some (zero16.map B).length := by rw [List.length_map]; exact Tryd.colSize
    have EP : Hid (xorL (parP cs k) (cs.getD k []) = dP) := by rw [unhide HPE, unhide HcPE, unhide HDP]; exact rfl
    have EQ : Hid (xorL (parQ cs k) (cs.getD (k + 1) []) = dQ) := by rw [unhide HQE, unhide HcQE, unhide HDQ]; exact rfl
    by_cases zP : dP = zero16
    · by_cases zQ : dQ = zero16
      · skip
        have eP : ∀ w', (binOp .eql 41 (.agg (colA dP)) (.agg (colA zero16))).run Tryd.prog w' = .ok (.bool true) w' := fun w' => by rw [run_eq_cols dP zero16 hpc zero_col w', decide_eq_true zP]
        have eQ : ∀ w', (binOp .eql 41 (.agg (colA dQ)) (.agg (colA zero16))).run Tryd.prog w' = .ok (.bool true) w' := fun w' => by rw [run_eq_cols dQ zero16 hqc zero_col w', decide_eq_true zQ]
        have HzP := hide zP
        have HzQ := hide zQ
        clear zP zQ
        go_wp2_with (first | (refine wpList_load_row_if (by rfl) 41 _ rfl g8 rfl 41 _ _ _ (unhide H8) hu rfl hspc ?_) | (refine wpList_load_row_if (by rfl) 41 _ rfl g9 rfl 41 _ _ _ (unhide H9) hu rfl hsqc ?_) | (refine wpList_load_row_if (by rfl) 41 _ rfl w4.heap.size rfl 41 _ _ _ (unhide HZ) hu rfl hszz ?_))
        refine wp_region_noPanic ?_
        refine orders_begin 3 (fun w' => RowAt w' w4.heap.size zero16) (by kernel_rfl) ?_
        refine orders_take 0 (some 44) rfl (by kernel_rfl) (by kernel_rfl) (by kernel_rfl) (by kernel_rfl) (fun _ _ _ h => h) (yieldsIf_load_mid (by rfl) 41 _ rfl w4.heap.size 0 rfl (zero16.map B) _ (fun w' hw => hw.range) hu rfl hizz) (unhide HZ) rfl ?_
        simp only [Act.put, List.setIfInBounds_toArray, List.set_cons_zero, List.set_cons_succ]
        refine orders_take 1 (some 2) (v := .int .i64 0) rfl (by kernel_rfl) (by kernel_rfl) (by kernel_rfl) (by kernel_rfl) (fun _ _ _ h => h) (Or.inl ⟨by rfl, fun _ _ => rfl⟩) (unhide HZ) rfl ?_
        simp only [Act.put, List.setIfInBounds_toArray, List.set_cons_zero, List.set_cons_succ]
        refine orders_take 2 (some 3) (v := .int .i64 0) rfl (by kernel_rfl) (by kernel_rfl) (by kernel_rfl) (by kernel_rfl) (fun _ _ _ h => h) (Or.inl ⟨by rfl, fun _ _ => rfl⟩) (unhide HZ) rfl ?_
        simp only [Act.put, List.setIfInBounds_toArray, List.set_cons_zero, List.set_cons_succ]
        have hres : RowAt w5.drew w.heap.size zero16 := unhide H0
        have hth : w5.drew.there w.heap.size 0 (colA zero16).size := by rw [colA_size zero_col]; exact hres.there (by rfl)
        refine orders_one 3 (by kernel_rfl) rfl (by rfl) (fun K hK => ?_)
        refine wp_store_mid 41 _ _ rfl w.heap.size 0 (colA zero16) rfl rfl hth hszz (colA_one _) ?_
        refine hK.out _ _ (fun h => absurd rfl h) ?_
        clear hK K
        refine orders_end (by kernel_rfl) ?_
        refine NoPanic.normal ?_
        simp only [Act.put]
        have hR := hide (hres.stored (by rfl) (zero_col).len)
        have hBe := hide (below_setCells (unhide HB5).drew w.heap.size 0 (colA zero16).toList (Nat.le_refl _))
        clear hres hth
        generalize w5.drew.setCells w.heap.size 0 (colA zero16).toList = w6 at *
        go_wp2
        exact bodyPost_ret (v := .tuple #[.int .i64 0, .int .i64 0, colV zero16]) (results_ttc Tryd.results13 _ _ w.heap.size _ _ _ _ rfl (unhide hR) hu rfl hszz) rfl ⟨_, _, zero16, rfl, by unfold LocR; rw [unhide EP, unhide EQ]; exact Or.inl ⟨unhide HzP, unhide HzQ, rfl, rfl, rfl⟩, zero_col, unhide hBe⟩
      · skip
        have eP : ∀ w', (binOp .eql 41 (.agg (colA dP)) (.agg (colA zero16))).run Tryd.prog w' = .ok (.bool true) w' := fun w' => by rw [run_eq_cols dP zero16 hpc zero_col w', decide_eq_true zP]
        have eQ : ∀ w', (binOp .eql 41 (.agg (colA dQ)) (.agg (colA zero16))).run Tryd.prog w' = .ok (.bool false) w' := fun w' => by rw [run_eq_cols dQ zero16 hqc zero_col w', decide_eq_false zQ]
        have HzP := hide zP
        have HzQ := hide zQ
        clear zP zQ
        go_wp2_with (first | (refine wpList_load_row_if (by rfl) 41 _ rfl g8 rfl 41 _ _ _ (unhide H8) hu rfl hspc ?_) | (refine wpList_load_row_if (by rfl) 41 _ rfl g9 rfl 41 _ _ _ (unhide H9) hu rfl hsqc ?_) | (refine wpList_load_row_if (by rfl) 41 _ rfl w4.heap.size rfl 41 _ _ _ (unhide HZ) hu rfl hszz ?_))
        refine wp_region_noPanic ?_
        refine orders_begin 5 (fun w' => RowAt w' (w2.heap.size + 1) q) (by kernel_rfl) ?_
        refine orders_take 0 (some 55) (v := .int .i64 k) rfl (by kernel_rfl) (by kernel_rfl) (by kernel_rfl) (by kernel_rfl) (fun _ _ _ h => h) (Or.inl ⟨by rfl, fun _ _ => rfl⟩) (unhide H7) rfl ?_
        simp only [Act.put, List.setIfInBounds_toArray, List.set_cons_zero, List.set_cons_succ]
        refine orders_take 1 (some 56) (v := .int .i64 ((k : Int) + 1)) rfl (by kernel_rfl) (by kernel_rfl) (by kernel_rfl) (by kernel_rfl) (fun _ _ _ h => h) (Or.inl ⟨by rfl, fun _ _ => by go_simp; rw [wrap64_small k hk6]⟩) (unhide H7) rfl ?_
        simp only [Act.put, List.setIfInBounds_toArray, List.set_cons_zero, List.set_cons_succ]
        refine orders_take 2 (some 57) rfl (by kernel_rfl) (by kernel_rfl) (by kernel_rfl) (by kernel_rfl) (fun _ _ _ h => h) (yieldsIf_load_mid (by rfl) 41 _ rfl (w2.heap.size + 1) 0 rfl (q.map B) _ (fun w' hw => hw.range) hu rfl hiq) (unhide H7) rfl ?_
        simp only [Act.put, List.setIfInBounds_toArray, List.set_cons_zero, List.set_cons_succ]
        refine orders_take 3 (some 2) (v := .int .i64 1) rfl (by kernel_rfl) (by kernel_rfl) (by kernel_rfl) (by kernel_rfl) (fun _ _ _ h => h) (Or.inl ⟨by rfl, fun _ _ => rfl⟩) (unhide H7) rfl ?_
        simp only [Act.put, List.setIfInBounds_toArray, List.set_cons_zero, List.set_cons_succ]
        refine orders_take 4 (some 3) (v := .int .i64 ((k : Int) + 1)) rfl (by kernel_rfl) (by kernel_rfl) (by kernel_rfl) (by kernel_rfl) (fun _ _ _ h => h) (Or.inl ⟨by rfl, fun _ _ => rfl⟩) (unhide H7) rfl ?_
        simp only [Act.put, List.setIfInBounds_toArray, List.set_cons_zero, List.set_cons_succ]
        have hres : RowAt w5.drew w.heap.size zero16 := unhide H0
        have hth : w5.drew.there w.heap.size 0 (colA q).size := by rw [colA_size hq]; exact hres.there (by rfl)
        refine orders_one 5 (by kernel_rfl) rfl (by rfl) (fun K hK => ?_)
        refine wp_store_mid 41 _ _ rfl w.heap.size 0 (colA q) rfl rfl hth hsq (colA_one _) ?_
        refine hK.out _ _ (fun h => absurd rfl h) ?_
        clear hK K
        refine orders_end (by kernel_rfl) ?_
        refine NoPanic.normal ?_
        simp only [Act.put]
        have hR := hide (hres.stored (by rfl) (hq).len)
        have hBe := hide (below_setCells (unhide HB5).drew w.heap.size 0 (colA q).toList (Nat.le_refl _))
        clear hres hth
        generalize w5.drew.setCells w.heap.size 0 (colA q).toList = w6 at *
        go_wp2
        exact bodyPost_ret (v := .tuple #[.int .i64 1, .int .i64 ((k : Int) + 1), colV q]) (results_ttc Tryd.results13 _ _ w.heap.size _ _ _ _ rfl (unhide hR) hu rfl hsq) rfl ⟨_, _, q, rfl, by unfold LocR; rw [unhide EP, unhide EQ]; exact Or.inr (Or.inr (Or.inl ⟨unhide HzQ, unhide HzP, rfl, rfl, (unhide HQE).symm⟩)), hq, unhide hBe⟩
    · by_cases zQ : dQ = zero16
      · skip
        have eP : ∀ w', (binOp .eql 41 (.agg (colA dP)) (.agg (colA zero16))).run Tryd.prog w' = .ok (.bool false) w' := fun w' => by rw [run_eq_cols dP zero16 hpc zero_col w', decide_eq_false zP]
        have eQ : ∀ w', (binOp .eql 41 (.agg (colA dQ)) (.agg (colA zero16))).run Tryd.prog w' = .ok (.bool true) w' := fun w' => by rw [run_eq_cols dQ zero16 hqc zero_col w', decide_eq_true zQ]
        have HzP := hide zP
        have HzQ := hide zQ
        clear zP zQ
        go_wp2_with (first | (refine wpList_load_row_if (by rfl) 41 _ rfl g8 rfl 41 _ _ _ (unhide H8) hu rfl hspc ?_) | (refine wpList_load_row_if (by rfl) 41 _ rfl g9 rfl 41 _ _ _ (unhide H9) hu rfl hsqc ?_) | (refine wpList_load_row_if (by rfl) 41 _ rfl w4.heap.size rfl 41 _ _ _ (unhide HZ) hu rfl hszz ?_))
        refine wp_region_noPanic ?_
        refine orders_begin 4 (fun w' => RowAt w' w2.heap.size p) (by kernel_rfl) ?_
        refine orders_take 0 (some 49) (v := .int .i64 k) rfl (by kernel_rfl) (by kernel_rfl) (by kernel_rfl) (by kernel_rfl) (fun _ _ _ h => h) (Or.inl ⟨by rfl, fun _ _ => rfl⟩) (unhide H6) rfl ?_
        simp only [Act.put, List.setIfInBounds_toArray, List.set_cons_zero, List.set_cons_succ]
        refine orders_take 1 (some 50) rfl (by kernel_rfl) (by kernel_rfl) (by kernel_rfl) (by kernel_rfl) (fun _ _ _ h => h) (yieldsIf_load_mid (by rfl) 41 _ rfl w2.heap.size 0 rfl (p.map B) _ (fun w' hw => hw.range) hu rfl hip) (unhide H6) rfl ?_
        simp only [Act.put, List.setIfInBounds_toArray, List.set_cons_zero, List.set_cons_succ]
        refine orders_take 2 (some 2) (v := .int .i64 1) rfl (by kernel_rfl) (by kernel_rfl) (by kernel_rfl) (by kernel_rfl) (fun _ _ _ h => h) (Or.inl ⟨by rfl, fun _ _ => rfl⟩) (unhide H6) rfl ?_
        simp only [Act.put, List.setIfInBounds_toArray, List.set_cons_zero, List.set_cons_succ]
        refine orders_take 3 (some 3) (v := .int .i64 k) rfl (by kernel_rfl) (by kernel_rfl) (by kernel_rfl) (by kernel_rfl) (fun _ _ _ h => h) (Or.inl ⟨by rfl, fun _ _ => rfl⟩) (unhide H6) rfl ?_
        simp only [Act.put, List.setIfInBounds_toArray, List.set_cons_zero, List.set_cons_succ]
        have hres : RowAt w5.drew w.heap.size zero16 := unhide H0
        have hth : w5.drew.there w.heap.size 0 (colA p).size := by rw [colA_size hp]; exact hres.there (by rfl)
        refine orders_one 4 (by kernel_rfl) rfl (by rfl) (fun K hK => ?_)
        refine wp_store_mid 41 _ _ rfl w.heap.size 0 (colA p) rfl rfl hth hsp (colA_one _) ?_
        refine hK.out _ _ (fun h => absurd rfl h) ?_
        clear hK K
        refine orders_end (by kernel_rfl) ?_
        refine NoPanic.normal ?_
        simp only [Act.put]
        have hR := hide (hres.stored (by rfl) (hp).len)
        have hBe := hide (below_setCells (unhide HB5).drew w.heap.size 0 (colA p).toList (Nat.le_refl _))
        clear hres hth
        generalize w5.drew.setCells w.heap.size 0 (colA p).toList = w6 at *
        go_wp2
        exact bodyPost_ret (v := .tuple #[.int .i64 1, .int .i64 k, colV p]) (results_ttc Tryd.results13 _ _ w.heap.size _ _ _ _ rfl (unhide hR) hu rfl hsp) rfl ⟨_, _, p, rfl, by unfold LocR; rw [unhide EP, unhide EQ]; exact Or.inr (Or.inl ⟨unhide HzP, unhide HzQ, rfl, rfl, (unhide HPE).symm⟩), hp, unhide hBe⟩
      · skip
        have eP : ∀ w', (binOp .eql 41 (.agg (colA dP)) (.agg (colA zero16))).run Tryd.prog w' = .ok (.bool false) w' := fun w' => by rw [run_eq_cols dP zero16 hpc zero_col w', decide_eq_false zP]
        have eQ : ∀ w', (binOp .eql 41 (.agg (colA dQ)) (.agg (colA zero16))).run Tryd.prog w' = .ok (.bool false) w' := fun w' => by rw [run_eq_cols dQ zero16 hqc zero_col w', decide_eq_false zQ]
        have HzP := hide zP
        have HzQ := hide zQ
        clear zP zQ
        go_wp2_with (first | (refine wpList_load_row_if (by rfl) 41 _ rfl g8 rfl 41 _ _ _ (unhide H8) hu rfl hspc ?_) | (refine wpList_load_row_if (by rfl) 41 _ rfl g9 rfl 41 _ _ _ (unhide H9) hu rfl hsqc ?_) | (refine wpList_load_row_if (by rfl) 41 _ rfl w4.heap.size rfl 41 _ _ _ (unhide HZ) hu rfl hszz ?_))
        clear eP eQ
        have hs5 := (unhide HB5).size
        have HT5 := hide ((unhide HT).below hs2 (unhide HB5))
        have hg85 := (unhide H8).lt
        have hg95 := (unhide H9).lt
        go_loopw [59] (fun i wr => ∃ c : Nat, c ≤ k ∧ i = .int .i64 c ∧ (∀ j, j < c → mulL dP (powN j) ≠ dQ) ∧ Below w5.heap.size w5 wr) (fun i _ => k - (intOf i).toNat)
        case atStart => exact ⟨0, Nat.zero_le _, rfl, by intro j hj; omega, Below.refl _ _⟩
        case round =>
          obtain ⟨c, hc, rfl, hno, hbr⟩ := hrel
          have HNO := hide hno
          clear hno
          by_cases hlt : c < k
          · have r8 := (unhide H8).below hbr hg85
            have r9 := (unhide H9).below hbr hg95
            have hi8 : (Tryd.prog.info? 41).map (·.size) = some (dP.map B).length := by rw [List.length_map, hpc.len]; exact Tryd.colSize
            have hi9 : (Tryd.prog.info? 41).map (·.size) = some (dQ.map B).length := by rw [List.length_map, hqc.len]; exact Tryd.colSize
            have htr := (unhide HT5).below (unhide HT5).size (hbr.mono (by omega))
            have hmc := mulL_col hpc (powN c)
            have hc6 : c < 6 := by omega
            have heqm := fun (w' : World) => run_eq_cols (mulL dP (powN c)) dQ hmc hqc w'
            have hltI : (c : Int) < (k : Int) := by omega
            go_wp2
            have hS0 : Below wr.heap.size wr wr.drew := (Below.refl _ _).drew
            refine wp_region_noPanic ?_
            refine orders_begin 100 (fun w' => Below wr.heap.size wr w') (by kernel_rfl) ?_
            refine orders_take_any 0 (some 62) rfl (by kernel_rfl) (by kernel_rfl) (by kernel_rfl) (by kernel_rfl) (fun _ _ _ h => h) (yieldsIf_load_mid (by rfl) 41 _ rfl g8 0 rfl (dP.map B) _ (fun w' hw => range_below r8.range hw r8.lt) hu rfl hi8) hS0 rfl ?_
            simp only [Act.put, List.setIfInBounds_toArray, List.set_cons_zero, List.set_cons_succ]
            refine orders_take_any 1 (some 63) (v := .int .i64 c) rfl (by kernel_rfl) (by kernel_rfl) (by kernel_rfl) (by kernel_rfl) (fun _ _ _ h => h) (Or.inl ⟨by rfl, fun _ _ => rfl⟩) hS0 rfl ?_
            simp only [Act.put, List.setIfInBounds_toArray, List.set_cons_zero, List.set_cons_succ]
            refine orders_take_any 4 (some 66) rfl (by kernel_rfl) (by kernel_rfl) (by kernel_rfl) (by kernel_rfl) (fun _ _ _ h => h) (yieldsIf_load_mid (by rfl) 41 _ rfl g9 0 rfl (dQ.map B) _ (fun w' hw => range_below r9.range hw r9.lt) hu rfl hi9) hS0 rfl ?_
            simp only [Act.put, List.setIfInBounds_toArray, List.set_cons_zero, List.set_cons_succ]
            refine orders_one 2 (by kernel_rfl) rfl (by rfl) (fun K hK => ?_)
            go_simp
            refine (power_any c _ hc6 (htr.below htr.size hS0)).mono ?_
            rintro e w6 ⟨rfl, rfl⟩
            refine hK.out _ _ (fun _ => hS0) ?_
            clear hK K
            refine orders_one 3 (by kernel_rfl) rfl (by rfl) (fun K hK => ?_)
            go_simp
            refine (colTimes_any dP (powN c) _ hpc (powN_lt c) (htr.below htr.size hS0)).mono ?_
            rintro e w7 ⟨rfl, hb7⟩
            have hS7 : Below wr.heap.size wr w7 := hS0.trans hb7
            refine hK.out _ _ (fun _ => hS7) ?_
            clear hK K
            have hbr7 : Below w5.heap.size w5 w7 := hbr.trans (hS7.mono hbr.size)
            have HBR := hide hbr7
            clear hbr hS0 hb7 htr r8 r9 hbr7
            refine orders_one 5 (by kernel_rfl) rfl (by rfl) (fun K hK => ?_)
            by_cases hm : mulL dP (powN c) = dQ
            · have heqt : ∀ w', (binOp .eql 41 (.agg (colA (mulL dP (powN c)))) (.agg (colA dQ))).run Tryd.prog w' = .ok (.bool true) w' := fun w' => by rw [heqm w', decide_eq_true hm]
              have heqt' : ∀ w', (binOp .eql 41 (colV (mulL dP (powN c))) (.agg (dQ.map B).toArray)).run Tryd.prog w' = .ok (.bool true) w' := heqt
              have HM := hide hm
              clear hm heqm
              go_simp
              refine hK.out _ _ (fun _ => hS7) ?_
              clear hK K heqt heqt'
              refine orders_end (by kernel_rfl) ?_
              refine NoPanic.normal ?_
              have hcC := (unhide HCS).col c (by omega)
              have hb5 := unhide HB5
              have rC := range_below ((unhide HAT) c (by omega)) (hb5.trans ((unhide HBR).mono hs5)) hb
              obtain ⟨cC, hcCe⟩ : ∃ cC, cs.getD c [] = cC := ⟨_, rfl⟩
              rw [hcCe] at hcC rC
              have HCE := hide hcCe
              clear hcCe hb5 hS7
              have hcd := xorL_col hcC hpc
              have hicC : (Tryd.prog.info? 41).map (·.size) = some (cC.map B).length := by rw [List.length_map, hcC.len]; exact Tryd.colSize
              have hscd : (Tryd.prog.info? 41).map (·.size) = some (colA (xorL cC dP)).size := by rw [colA_size hcd]; exact Tryd.colSize
              have r8 := (unhide H8).below (unhide HBR) hg85
              have r0 := (unhide H0).below (unhide HBR) (by omega)
              have hb7w : b < w7.heap.size := by have := (unhide HBR).size; omega
              have hc0I : (0 : Int) ≤ (c : Int) := by omega
              have hc2I : (c : Int) < (k : Int) + 2 := by omega
              go_wp2
              have hS0 : Below w7.heap.size w7 w7.drew := (Below.refl _ _).drew
              refine wp_region_noPanic ?_
              refine orders_begin 9 (fun w' => Below w7.heap.size w7 w') (by kernel_rfl) ?_
              refine orders_take 0 (some 68) (v := .int .i64 c) rfl (by kernel_rfl) (by kernel_rfl) (by kernel_rfl) (by kernel_rfl) (fun _ _ _ h => h) (Or.inl ⟨by rfl, fun _ _ => rfl⟩) hS0 rfl ?_
              simp only [Act.put, List.setIfInBounds_toArray, List.set_cons_zero, List.set_cons_succ]
              refine orders_take 1 (some 69) (v := .slice (some ⟨b, 0, none⟩) (k + 2) cap) rfl (by kernel_rfl) (by kernel_rfl) (by kernel_rfl) (by kernel_rfl) (fun _ _ _ h => h) (Or.inl ⟨by rfl, fun _ _ => rfl⟩) hS0 rfl ?_
              simp only [Act.put, List.setIfInBounds_toArray, List.set_cons_zero, List.set_cons_succ]
              refine orders_take 2 (some 70) (v := .int .i64 c) rfl (by kernel_rfl) (by kernel_rfl) (by kernel_rfl) (by kernel_rfl) (fun _ _ _ h => h) (Or.inl ⟨by rfl, fun _ _ => rfl⟩) hS0 rfl ?_
              simp only [Act.put, List.setIfInBounds_toArray, List.set_cons_zero, List.set_cons_succ]
              refine orders_take 3 (some 71) (v := .pointer (some ⟨b, c * 16, none⟩)) rfl (by kernel_rfl) (by kernel_rfl) (by kernel_rfl) (by kernel_rfl) (fun _ _ _ h => h) (Or.inl ⟨by rfl, fun _ _ => by go_simp⟩) hS0 rfl ?_
              simp only [Act.put, List.setIfInBounds_toArray, List.set_cons_zero, List.set_cons_succ]
              refine orders_take 4 (some 72) rfl (by kernel_rfl) (by kernel_rfl) (by kernel_rfl) (by kernel_rfl) (fun _ _ _ h => h) (yieldsIf_load_mid (by rfl) 41 _ rfl b (c * 16) rfl (cC.map B) _ (fun w' hw => range_below rC hw hb7w) hu rfl hicC) hS0 rfl ?_
              simp only [Act.put, List.setIfInBounds_toArray, List.set_cons_zero, List.set_cons_succ]
              refine orders_take 5 (some 73) rfl (by kernel_rfl) (by kernel_rfl) (by kernel_rfl) (by kernel_rfl) (fun _ _ _ h => h) (yieldsIf_load_mid (by rfl) 41 _ rfl g8 0 rfl (dP.map B) _ (fun w' hw => range_below r8.range hw r8.lt) hu rfl hi8) hS0 rfl ?_
              simp only [Act.put, List.setIfInBounds_toArray, List.set_cons_zero, List.set_cons_succ]
              refine orders_one 6 (by kernel_rfl) rfl (by rfl) (fun K hK => ?_)
              go_simp
              refine (plus_any cC dP _ hcC hpc).mono ?_
              rintro e w8 ⟨rfl, hb8⟩
              have hS8 : Below w7.heap.size w7 w8 := hS0.trans hb8
              refine hK.out _ _ (fun _ => hS8) ?_
              clear hK K
              refine orders_take 7 (some 2) (v := .int .i64 1) rfl (by kernel_rfl) (by kernel_rfl) (by kernel_rfl) (by kernel_rfl) (fun _ _ _ h => h) (Or.inl ⟨by rfl, fun _ _ => rfl⟩) hS8 rfl ?_
              simp only [Act.put, List.setIfInBounds_toArray, List.set_cons_zero, List.set_cons_succ]
              refine orders_take 8 (some 3) (v := .int .i64 c) rfl (by kernel_rfl) (by kernel_rfl) (by kernel_rfl) (by kernel_rfl) (fun _ _ _ h => h) (Or.inl ⟨by rfl, fun _ _ => rfl⟩) hS8 rfl ?_
              simp only [Act.put, List.setIfInBounds_toArray, List.set_cons_zero, List.set_cons_succ]
              have hres : RowAt w8 w.heap.size zero16 := r0.below hS8 r0.lt
              have hth : w8.there w.heap.size 0 (colA (xorL cC dP)).size := by rw [colA_size hcd]; exact hres.there (by rfl)
              refine orders_one 9 (by kernel_rfl) rfl (by rfl) (fun K hK => ?_)
              refine wp_store_mid 41 _ _ rfl w.heap.size 0 (colA (xorL cC dP)) rfl rfl hth hscd (colA_one _) ?_
              refine hK.out _ _ (fun h => absurd rfl h) ?_
              clear hK K
              refine orders_end (by kernel_rfl) ?_
              refine NoPanic.normal ?_
              simp only [Act.put]
              have hR := hide (hres.stored (by rfl) hcd.len)
              have hBe := hide (below_setCells (((unhide HB5).trans ((unhide HBR).mono hs5)).trans (hS8.mono (by have := (unhide HBR).size; omega))) w.heap.size 0 (colA (xorL cC dP)).toList (Nat.le_refl _))
              clear hres hth hS8 hb8 r8 r0 rC
              generalize w8.setCells w.heap.size 0 (colA (xorL cC dP)).toList = w9 at *
              go_wp2
              exact bodyPost_ret (v := .tuple #[.int .i64 1, .int .i64 c, colV (xorL cC dP)]) (results_ttc Tryd.results13 _ _ w.heap.size _ _ _ _ rfl (unhide hR) hu rfl hscd) rfl ⟨_, _, xorL cC dP, rfl, by unfold LocR; rw [unhide EP, unhide EQ]; exact Or.inr (Or.inr (Or.inr (Or.inl ⟨unhide HzP, unhide HzQ, c, hlt, unhide HNO, unhide HM, rfl, rfl, by rw [unhide HCE]⟩))), hcd, unhide hBe⟩
            · have heqf : ∀ w', (binOp .eql 41 (.agg (colA (mulL dP (powN c)))) (.agg (colA dQ))).run Tryd.prog w' = .ok (.bool false) w' := fun w' => by rw [heqm w', decide_eq_false hm]
              have heqf' : ∀ w', (binOp .eql 41 (colV (mulL dP (powN c))) (.agg (dQ.map B).toArray)).run Tryd.prog w' = .ok (.bool false) w' := heqf
              have HM := hide hm
              clear hm heqm
              go_simp
              refine hK.out _ _ (fun _ => hS7) ?_
              clear hK K heqf heqf' hS7
              refine orders_end (by kernel_rfl) ?_
              refine NoPanic.normal ?_
              go_wp2
              go_roundw
              case rel =>
                refine ⟨c + 1, by omega, by go_num, fun j hj => ?_, unhide HBR⟩
                rcases Nat.lt_or_ge j c with h | h
                · exact unhide HNO j h
                · obtain rfl : j = c := by omega
                  exact unhide HM
              case measure => simp [intOf]; omega
          · obtain rfl : c = k := by omega
            have hnl : ¬ (c : Int) < (c : Int) := by omega
            have H0' := hide ((unhide H0).below hbr (by omega))
            have HZ' := hide ((unhide HZ).below hbr (unhide HZ).lt)
            have HB5' := hide ((unhide HB5).trans (hbr.mono hs5))
            clear H0 HZ HB5 hbr
            have H0 := H0'
            have HZ := HZ'
            have HB5 := HB5'
            clear H0' HZ' HB5'
            go_wp2
            refine wp_region_noPanic ?_
            refine orders_begin 3 (fun w' => RowAt w' w4.heap.size zero16) (by kernel_rfl) ?_
            refine orders_take 0 (some 76) rfl (by kernel_rfl) (by kernel_rfl) (by kernel_rfl) (by kernel_rfl) (fun _ _ _ h => h) (yieldsIf_load_mid (by rfl) 41 _ rfl w4.heap.size 0 rfl (zero16.map B) _ (fun w' hw => hw.range) hu rfl hizz) (unhide HZ) rfl ?_
            simp only [Act.put, List.setIfInBounds_toArray, List.set_cons_zero, List.set_cons_succ]
            refine orders_take 1 (some 2) (v := .int .i64 2) rfl (by kernel_rfl) (by kernel_rfl) (by kernel_rfl) (by kernel_rfl) (fun _ _ _ h => h) (Or.inl ⟨by rfl, fun _ _ => rfl⟩) (unhide HZ) rfl ?_
            simp only [Act.put, List.setIfInBounds_toArray, List.set_cons_zero, List.set_cons_succ]
            refine orders_take 2 (some 3) (v := .int .i64 0) rfl (by kernel_rfl) (by kernel_rfl) (by kernel_rfl) (by kernel_rfl) (fun _ _ _ h => h) (Or.inl ⟨by rfl, fun _ _ => rfl⟩) (unhide HZ) rfl ?_
            simp only [Act.put, List.setIfInBounds_toArray, List.set_cons_zero, List.set_cons_succ]
            have hres : RowAt wr.drew w.heap.size zero16 := unhide H0
            have hth : wr.drew.there w.heap.size 0 (colA zero16).size := by rw [colA_size zero_col]; exact hres.there (by rfl)
            refine orders_one 3 (by kernel_rfl) rfl (by rfl) (fun K hK => ?_)
            refine wp_store_mid 41 _ _ rfl w.heap.size 0 (colA zero16) rfl rfl hth hszz (colA_one _) ?_
            refine hK.out _ _ (fun h => absurd rfl h) ?_
            clear hK K
            refine orders_end (by kernel_rfl) ?_
            refine NoPanic.normal ?_
            simp only [Act.put]
            have hR := hide (hres.stored (by rfl) (zero_col).len)
            have hBe := hide (below_setCells (unhide HB5).drew w.heap.size 0 (colA zero16).toList (Nat.le_refl _))
            clear hres hth
            generalize wr.drew.setCells w.heap.size 0 (colA zero16).toList = w6 at *
            go_wp2
            exact bodyPost_ret (v := .tuple #[.int .i64 2, .int .i64 0, colV zero16]) (results_ttc Tryd.results13 _ _ w.heap.size _ _ _ _ rfl (unhide hR) hu rfl hszz) rfl ⟨_, _, zero16, rfl, by unfold LocR; rw [unhide EP, unhide EQ]; exact Or.inr (Or.inr (Or.inr (Or.inr ⟨unhide HzP, unhide HzQ, unhide HNO, rfl, rfl, rfl⟩))), zero_col, unhide hBe⟩
  · intro Q' hfin0
    have hfin1 := hfin0.out
    simp only [Act.put, List.setIfInBounds_toArray, List.set_cons_zero, List.set_cons_succ] at hfin1
    have hfin := hide hfin1
    clear hfin0 hfin1
    have hS0 : Below w3.heap.size w3 w3.drew := (Below.refl _ _).drew
    have hk1 : (k : Int) < (k : Int) + 2 := by omega
    have hk2i : (0 : Int) ≤ (k : Int) + 1 := by omega
    have hk3 : (k : Int) + 1 < (k : Int) + 2 := by omega
    have hkw : (k : Int) ≤ 100 := by omega
    refine orders_begin 16 (fun w' => Below w3.heap.size w3 w') (by kernel_rfl) ?_
    refine orders_take 0 (some 22) rfl (by kernel_rfl) (by kernel_rfl) (by kernel_rfl) (by kernel_rfl) (fun _ _ _ h => h) (yieldsIf_load_mid (by rfl) 41 _ rfl w2.heap.size 0 rfl (p.map B) _ (fun w' hw => range_below (unhide R1).range hw (unhide R1).lt) hu rfl hip) hS0 rfl ?_
    simp only [Act.put, List.setIfInBounds_toArray, List.set_cons_zero, List.set_cons_succ]
    refine orders_take 1 (some 23) (v := .slice (some ⟨b, 0, none⟩) (k + 2) cap) rfl (by kernel_rfl) (by kernel_rfl) (by kernel_rfl) (by kernel_rfl) (fun _ _ _ h => h) (Or.inl ⟨by rfl, fun _ _ => rfl⟩) hS0 rfl ?_
    simp only [Act.put, List.setIfInBounds_toArray, List.set_cons_zero, List.set_cons_succ]
    refine orders_take 2 (some 24) (v := .int .i64 k) rfl (by kernel_rfl) (by kernel_rfl) (by kernel_rfl) (by kernel_rfl) (fun _ _ _ h => h) (Or.inl ⟨by rfl, fun _ _ => rfl⟩) hS0 rfl ?_
    simp only [Act.put, List.setIfInBounds_toArray, List.set_cons_zero, List.set_cons_succ]
    refine orders_take 3 (some 25) (v := .pointer (some ⟨b, k * 16, none⟩)) rfl (by kernel_rfl) (by kernel_rfl) (by kernel_rfl) (by kernel_rfl) (fun _ _ _ h => h) (Or.inl ⟨by rfl, fun _ _ => by go_simp⟩) hS0 rfl ?_
    simp only [Act.put, List.setIfInBounds_toArray, List.set_cons_zero, List.set_cons_succ]
    refine orders_take 4 (some 26) rfl (by kernel_rfl) (by kernel_rfl) (by kernel_rfl) (by kernel_rfl) (fun _ _ _ h => h) (yieldsIf_load_mid (by rfl) 41 _ rfl b (k * 16) rfl (cP.map B) _ (fun w' hw => range_below rP hw hbw3) hu rfl hicP) hS0 rfl ?_
    simp only [Act.put, List.setIfInBounds_toArray, List.set_cons_zero, List.set_cons_succ]
    refine orders_take 6 (some 28) rfl (by kernel_rfl) (by kernel_rfl) (by kernel_rfl) (by kernel_rfl) (fun _ _ _ h => h) (yieldsIf_load_mid (by rfl) 41 _ rfl (w2.heap.size + 1) 0 rfl (q.map B) _ (fun w' hw => range_below (unhide R2).range hw (unhide R2).lt) hu rfl hiq) hS0 rfl ?_
    simp only [Act.put, List.setIfInBounds_toArray, List.set_cons_zero, List.set_cons_succ]
    refine orders_take 7 (some 29) (v := .slice (some ⟨b, 0, none⟩) (k + 2) cap) rfl (by kernel_rfl) (by kernel_rfl) (by kernel_rfl) (by kernel_rfl) (fun _ _ _ h => h) (Or.inl ⟨by rfl, fun _ _ => rfl⟩) hS0 rfl ?_
    simp only [Act.put, List.setIfInBounds_toArray, List.set_cons_zero, List.set_cons_succ]
    refine orders_take 8 (some 30) (v := .int .i64 k) rfl (by kernel_rfl) (by kernel_rfl) (by kernel_rfl) (by kernel_rfl) (fun _ _ _ h => h) (Or.inl ⟨by rfl, fun _ _ => rfl⟩) hS0 rfl ?_
    simp only [Act.put, List.setIfInBounds_toArray, List.set_cons_zero, List.set_cons_succ]
    refine orders_take 9 (some 31) (v := .int .i64 ((k : Int) + 1)) rfl (by kernel_rfl) (by kernel_rfl) (by kernel_rfl) (by kernel_rfl) (fun _ _ _ h => h) (Or.inl ⟨by rfl, fun _ _ => by go_simp; rw [wrap64_small k hk6]⟩) hS0 rfl ?_
    simp only [Act.put, List.setIfInBounds_toArray, List.set_cons_zero, List.set_cons_succ]
    refine orders_take 10 (some 32) (v := .pointer (some ⟨b, (k + 1) * 16, none⟩)) rfl (by kernel_rfl) (by kernel_rfl) (by kernel_rfl) (by kernel_rfl) (fun _ _ _ h => h) (Or.inl ⟨by rfl, fun _ _ => by go_simp⟩) hS0 rfl ?_
    simp only [Act.put, List.setIfInBounds_toArray, List.set_cons_zero, List.set_cons_succ]
    refine orders_take 11 (some 33) rfl (by kernel_rfl) (by kernel_rfl) (by kernel_rfl) (by kernel_rfl) (fun _ _ _ h => h) (yieldsIf_load_mid (by rfl) 41 _ rfl b ((k + 1) * 16) rfl (cQ.map B) _ (fun w' hw => range_below rQ hw hbw3) hu rfl hicQ) hS0 rfl ?_
    simp only [Act.put, List.setIfInBounds_toArray, List.set_cons_zero, List.set_cons_succ]
    generalize w3.drew = W0 at *
    refine orders_each [5, 13, 14] (by kernel_rfl) (by simp) ?_
    refine each_cons 5 rfl (by rfl) (fun K hK => ?_) ?_
    · go_simp
      refine (plus_any p cP _ hp hcP).mono ?_
      rintro e W1 ⟨rfl, hb1⟩
      have hS1 : Below w3.heap.size w3 W1 := hS0.trans (hb1.mono hS0.size)
      refine hK.out _ _ (fun _ => hS1) ?_
      clear hK K
      refine orders_each [12, 13, 14] (by kernel_rfl) (by simp) ?_
      refine each_cons 12 rfl (by rfl) (fun K hK => ?_) ?_
      · go_simp
        refine (plus_any q cQ _ hq hcQ).mono ?_
        rintro e W2 ⟨rfl, hb2⟩
        have hS2 : Below w3.heap.size w3 W2 := hS1.trans (hb2.mono hS1.size)
        refine hK.out _ _ (fun _ => hS2) ?_
        clear hK K
        refine orders_each [13, 14] (by kernel_rfl) (by simp) ?_
        refine each_cons 13 rfl (by rfl) (fun K hK => ?_) ?_
        · go_simp
          have hg3 : w3.heap.size ≤ W2.heap.size := hS2.size
          have hS3 : Below w3.heap.size w3 (W2.alloc (.cells zA 41)) := hS2.alloc hS2.size _
          have h8x3 := RowAt.newz W2
          refine hK.out _ _ (fun _ => hS3) ?_
          clear hK K
          generalize W2.alloc (.cells zA 41) = W3 at *
          refine orders_each [14] (by kernel_rfl) (by simp) ?_
          refine each_cons 14 rfl (by rfl) (fun K hK => ?_) ?_
          · go_simp
            have hg4 : w3.heap.size ≤ W3.heap.size := hS3.size
            have hS4 : Below w3.heap.size w3 (W3.alloc (.cells zA 41)) := hS3.alloc hS3.size _
            have hne4 : W2.heap.size ≠ W3.heap.size := fun e => by have := h8x3.lt; omega
            have h8x4 := h8x3.alloc (.cells zA 41)
            have h9x4 := RowAt.newz W3
            refine hK.out _ _ (fun _ => hS4) ?_
            clear hK K
            generalize W3.alloc (.cells zA 41) = W4 at *
            obtain ⟨t1, t2, s1, fin⟩ := two_fill hpc hqc h8x4 h9x4 hne4 hg3 hg4 hS4
            refine orders_one 15 (by kernel_rfl) rfl (by rfl) (fun K hK => ?_)
            refine wp_store_mid 41 _ _ rfl W2.heap.size 0 (colA (xorL p cP)) rfl rfl t1 hspc (colA_one _) ?_
            refine hK.out _ _ (fun _ => s1) ?_
            clear hK K
            refine orders_one 16 (by kernel_rfl) rfl (by rfl) (fun K hK => ?_)
            refine wp_store_mid 41 _ _ rfl W3.heap.size 0 (colA (xorL q cQ)) rfl rfl t2 hsqc (colA_one _) ?_
            refine hK.out _ _ (fun h => absurd rfl h) ?_
            clear hK K
            refine orders_end (by kernel_rfl) ?_
            refine NoPanic.normal ?_
            simp only [Act.put]
            exact unhide hfin W2.heap.size W3.heap.size _ fin
          exact each_nil
        refine each_cons 14 rfl (by rfl) (fun K hK => ?_) ?_
        · go_simp
          have hg5 : w3.heap.size ≤ W2.heap.size := hS2.size
          have hS5 : Below w3.heap.size w3 (W2.alloc (.cells zA 41)) := hS2.alloc hS2.size _
          have h9x5 := RowAt.newz W2
          refine hK.out _ _ (fun _ => hS5) ?_
          clear hK K
          generalize W2.alloc (.cells zA 41) = W5 at *
          refine orders_each [13] (by kernel_rfl) (by simp) ?_
          refine each_cons 13 rfl (by rfl) (fun K hK => ?_) ?_
          · go_simp
            have hg6 : w3.heap.size ≤ W5.heap.size := hS5.size
            have hS6 : Below w3.heap.size w3 (W5.alloc (.cells zA 41)) := hS5.alloc hS5.size _
            have hne6 : W5.heap.size ≠ W2.heap.size := fun e => by have := h9x5.lt; omega
            have h9x6 := h9x5.alloc (.cells zA 41)
            have h8x6 := RowAt.newz W5
            refine hK.out _ _ (fun _ => hS6) ?_
            clear hK K
            generalize W5.alloc (.cells zA 41) = W6 at *
            obtain ⟨t1, t2, s1, fin⟩ := two_fill hpc hqc h8x6 h9x6 hne6 hg6 hg5 hS6
            refine orders_one 15 (by kernel_rfl) rfl (by rfl) (fun K hK => ?_)
            refine wp_store_mid 41 _ _ rfl W5.heap.size 0 (colA (xorL p cP)) rfl rfl t1 hspc (colA_one _) ?_
            refine hK.out _ _ (fun _ => s1) ?_
            clear hK K
            refine orders_one 16 (by kernel_rfl) rfl (by rfl) (fun K hK => ?_)
            refine wp_store_mid 41 _ _ rfl W2.heap.size 0 (colA (xorL q cQ)) rfl rfl t2 hsqc (colA_one _) ?_
            refine hK.out _ _ (fun h => absurd rfl h) ?_
            clear hK K
            refine orders_end (by kernel_rfl) ?_
            refine NoPanic.normal ?_
            simp only [Act.put]
            exact unhide hfin W5.heap.size W2.heap.size _ fin
          exact each_nil
        exact each_nil
      refine each_cons 13 rfl (by rfl) (fun K hK => ?_) ?_
      · go_simp
        have hg7 : w3.heap.size ≤ W1.heap.size := hS1.size
        have hS7 : Below w3.heap.size w3 (W1.alloc (.cells zA 41)) := hS1.alloc hS1.size _
        have h8x7 := RowAt.newz W1
        refine hK.out _ _ (fun _ => hS7) ?_
        clear hK K
        generalize W1.alloc (.cells zA 41) = W7 at *
        refine orders_each [12, 14] (by kernel_rfl) (by simp) ?_
        refine each_cons 12 rfl (by rfl) (fun K hK => ?_) ?_
        · go_simp
          refine (plus_any q cQ _ hq hcQ).mono ?_
          rintro e W8 ⟨rfl, hb8⟩
          have hS8 : Below w3.heap.size w3 W8 := hS7.trans (hb8.mono hS7.size)
          have h8x8 := h8x7.below hb8 h8x7.lt
          refine hK.out _ _ (fun _ => hS8) ?_
          clear hK K
          refine orders_each [14] (by kernel_rfl) (by simp) ?_
          refine each_cons 14 rfl (by rfl) (fun K hK => ?_) ?_
          · go_simp
            have hg9 : w3.heap.size ≤ W8.heap.size := hS8.size
            have hS9 : Below w3.heap.size w3 (W8.alloc (.cells zA 41)) := hS8.alloc hS8.size _
            have hne9 : W1.heap.size ≠ W8.heap.size := fun e => by have := h8x8.lt; omega
            have h8x9 := h8x8.alloc (.cells zA 41)
            have h9x9 := RowAt.newz W8
            refine hK.out _ _ (fun _ => hS9) ?_
            clear hK K
            generalize W8.alloc (.cells zA 41) = W9 at *
            obtain ⟨t1, t2, s1, fin⟩ := two_fill hpc hqc h8x9 h9x9 hne9 hg7 hg9 hS9
            refine orders_one 15 (by kernel_rfl) rfl (by rfl) (fun K hK => ?_)
            refine wp_store_mid 41 _ _ rfl W1.heap.size 0 (colA (xorL p cP)) rfl rfl t1 hspc (colA_one _) ?_
            refine hK.out _ _ (fun _ => s1) ?_
            clear hK K
            refine orders_one 16 (by kernel_rfl) rfl (by rfl) (fun K hK => ?_)
            refine wp_store_mid 41 _ _ rfl W8.heap.size 0 (colA (xorL q cQ)) rfl rfl t2 hsqc (colA_one _) ?_
            refine hK.out _ _ (fun h => absurd rfl h) ?_
            clear hK K
            refine orders_end (by kernel_rfl) ?_
            refine NoPanic.normal ?_
            simp only [Act.put]
            exact unhide hfin W1.heap.size W8.heap.size _ fin
          exact each_nil
        refine each_cons 14 rfl (by rfl) (fun K hK => ?_) ?_
        · go_simp
          have hg10 : w3.heap.size ≤ W7.heap.size := hS7.size
          have hS10 : Below w3.heap.size w3 (W7.alloc (.cells zA 41)) := hS7.alloc hS7.size _
          have hne10 : W1.heap.size ≠ W7.heap.size := fun e => by have := h8x7.lt; omega
          have h8x10 := h8x7.alloc (.cells zA 41)
          have h9x10 := RowAt.newz W7
          refine hK.out _ _ (fun _ => hS10) ?_
          clear hK K
          generalize W7.alloc (.cells zA 41) = W10 at *
          refine orders_each [12] (by kernel_rfl) (by simp) ?_
          refine each_cons 12 rfl (by rfl) (fun K hK => ?_) ?_
          · go_simp
            refine (plus_any q cQ _ hq hcQ).mono ?_
            rintro e W11 ⟨rfl, hb11⟩
            have hS11 : Below w3.heap.size w3 W11 := hS10.trans (hb11.mono hS10.size)
            have h8x11 := h8x10.below hb11 h8x10.lt
            have h9x11 := h9x10.below hb11 h9x10.lt
            refine hK.out _ _ (fun _ => hS11) ?_
            clear hK K
            obtain ⟨t1, t2, s1, fin⟩ := two_fill hpc hqc h8x11 h9x11 hne10 hg7 hg10 hS11
            refine orders_one 15 (by kernel_rfl) rfl (by rfl) (fun K hK => ?_)
            refine wp_store_mid 41 _ _ rfl W1.heap.size 0 (colA (xorL p cP)) rfl rfl t1 hspc (colA_one _) ?_
            refine hK.out _ _ (fun _ => s1) ?_
            clear hK K
            refine orders_one 16 (by kernel_rfl) rfl (by rfl) (fun K hK => ?_)
            refine wp_store_mid 41 _ _ rfl W7.heap.size 0 (colA (xorL q cQ)) rfl rfl t2 hsqc (colA_one _) ?_
            refine hK.out _ _ (fun h => absurd rfl h) ?_
            clear hK K
            refine orders_end (by kernel_rfl) ?_
            refine NoPanic.normal ?_
            simp only [Act.put]
            exact unhide hfin W1.heap.size W7.heap.size _ fin
          exact each_nil
        exact each_nil
      refine each_cons 14 rfl (by rfl) (fun K hK => ?_) ?_
      · go_simp
        have hg12 : w3.heap.size ≤ W1.heap.size := hS1.size
        have hS12 : Below w3.heap.size w3 (W1.alloc (.cells zA 41)) := hS1.alloc hS1.size _
        have h9x12 := RowAt.newz W1
        refine hK.out _ _ (fun _ => hS12) ?_
        clear hK K
        generalize W1.alloc (.cells zA 41) = W12 at *
        refine orders_each [12, 13] (by kernel_rfl) (by simp) ?_
        refine each_cons 12 rfl (by rfl) (fun K hK => ?_) ?_
        · go_simp
          refine (plus_any q cQ _ hq hcQ).mono ?_
          rintro e W13 ⟨rfl, hb13⟩
          have hS13 : Below w3.heap.size w3 W13 := hS12.trans (hb13.mono hS12.size)
          have h9x13 := h9x12.below hb13 h9x12.lt
          refine hK.out _ _ (fun _ => hS13) ?_
          clear hK K
          refine orders_each [13] (by kernel_rfl) (by simp) ?_
          refine each_cons 13 rfl (by rfl) (fun K hK => ?_) ?_
          · go_simp
            have hg14 : w3.heap.size ≤ W13.heap.size := hS13.size
            have hS14 : Below w3.heap.size w3 (W13.alloc (.cells zA 41)) := hS13.alloc hS13.size _
            have hne14 : W13.heap.size ≠ W1.heap.size := fun e => by have := h9x13.lt; omega
            have h9x14 := h9x13.alloc (.cells zA 41)
            have h8x14 := RowAt.newz W13
            refine hK.out _ _ (fun _ => hS14) ?_
            clear hK K
            generalize W13.alloc (.cells zA 41) = W14 at *
            obtain ⟨t1, t2, s1, fin⟩ := two_fill hpc hqc h8x14 h9x14 hne14 hg14 hg12 hS14
            refine orders_one 15 (by kernel_rfl) rfl (by rfl) (fun K hK => ?_)
            refine wp_store_mid 41 _ _ rfl W13.heap.size 0 (colA (xorL p cP)) rfl rfl t1 hspc (colA_one _) ?_
            refine hK.out _ _ (fun _ => s1) ?_
            clear hK K
            refine orders_one 16 (by kernel_rfl) rfl (by rfl) (fun K hK => ?_)
            refine wp_store_mid 41 _ _ rfl W1.heap.size 0 (colA (xorL q cQ)) rfl rfl t2 hsqc (colA_one _) ?_
            refine hK.out _ _ (fun h => absurd rfl h) ?_
            clear hK K
            refine orders_end (by kernel_rfl) ?_
            refine NoPanic.normal ?_
            simp only [Act.put]
            exact unhide hfin W13.heap.size W1.heap.size _ fin
          exact each_nil
        refine each_cons 13 rfl (by rfl) (fun K hK => ?_) ?_
        · go_simp
          have hg15 : w3.heap.size ≤ W12.heap.size := hS12.size
          have hS15 : Below w3.heap.size w3 (W12.alloc (.cells zA 41)) := hS12.alloc hS12.size _
          have hne15 : W12.heap.size ≠ W1.heap.size := fun e => by have := h9x12.lt; omega
          have h9x15 := h9x12.alloc (.cells zA 41)
          have h8x15 := RowAt.newz W12
          refine hK.out _ _ (fun _ => hS15) ?_
          clear hK K
          generalize W12.alloc (.cells zA 41) = W15 at *
          refine orders_each [12] (by kernel_rfl) (by simp) ?_
          refine each_cons 12 rfl (by rfl) (fun K hK => ?_) ?_
          · go_simp
            refine (plus_any q cQ _ hq hcQ).mono ?_
            rintro e W16 ⟨rfl, hb16⟩
            have hS16 : Below w3.heap.size w3 W16 := hS15.trans (hb16.mono hS15.size)
            have h8x16 := h8x15.below hb16 h8x15.lt
            have h9x16 := h9x15.below hb16 h9x15.lt
            refine hK.out _ _ (fun _ => hS16) ?_
            clear hK K
            obtain ⟨t1, t2, s1, fin⟩ := two_fill hpc hqc h8x16 h9x16 hne15 hg15 hg12 hS16
            refine orders_one 15 (by kernel_rfl) rfl (by rfl) (fun K hK => ?_)
            refine wp_store_mid 41 _ _ rfl W12.heap.size 0 (colA (xorL p cP)) rfl rfl t1 hspc (colA_one _) ?_
            refine hK.out _ _ (fun _ => s1) ?_
            clear hK K
            refine orders_one 16 (by kernel_rfl) rfl (by rfl) (fun K hK => ?_)
            refine wp_store_mid 41 _ _ rfl W1.heap.size 0 (colA (xorL q cQ)) rfl rfl t2 hsqc (colA_one _) ?_
            refine hK.out _ _ (fun h => absurd rfl h) ?_
            clear hK K
            refine orders_end (by kernel_rfl) ?_
            refine NoPanic.normal ?_
            simp only [Act.put]
            exact unhide hfin W12.heap.size W1.heap.size _ fin
          exact each_nil
        exact each_nil
      exact each_nil
    refine each_cons 13 rfl (by rfl) (fun K hK => ?_) ?_
    · go_simp
      have hg17 : w3.heap.size ≤ W0.heap.size := hS0.size
      have hS17 : Below w3.heap.size w3 (W0.alloc (.cells zA 41)) := hS0.alloc hS0.size _
      have h8x17 := RowAt.newz W0
      refine hK.out _ _ (fun _ => hS17) ?_
      clear hK K
      generalize W0.alloc (.cells zA 41) = W17 at *
      refine orders_each [5, 14] (by kernel_rfl) (by simp) ?_
      refine each_cons 5 rfl (by rfl) (fun K hK => ?_) ?_
      · go_simp
        refine (plus_any p cP _ hp hcP).mono ?_
        rintro e W18 ⟨rfl, hb18⟩
        have hS18 : Below w3.heap.size w3 W18 := hS17.trans (hb18.mono hS17.size)
        have h8x18 := h8x17.below hb18 h8x17.lt
        refine hK.out _ _ (fun _ => hS18) ?_
        clear hK K
        refine orders_each [12, 14] (by kernel_rfl) (by simp) ?_
        refine each_cons 12 rfl (by rfl) (fun K hK => ?_) ?_
        · go_simp
          refine (plus_any q cQ _ hq hcQ).mono ?_
          rintro e W19 ⟨rfl, hb19⟩
          have hS19 : Below w3.heap.size w3 W19 := hS18.trans (hb19.mono hS18.size)
          have h8x19 := h8x18.below hb19 h8x18.lt
          refine hK.out _ _ (fun _ => hS19) ?_
          clear hK K
          refine orders_each [14] (by kernel_rfl) (by simp) ?_
          refine each_cons 14 rfl (by rfl) (fun K hK => ?_) ?_
          · go_simp
            have hg20 : w3.heap.size ≤ W19.heap.size := hS19.size
            have hS20 : Below w3.heap.size w3 (W19.alloc (.cells zA 41)) := hS19.alloc hS19.size _
            have hne20 : W0.heap.size ≠ W19.heap.size := fun e => by have := h8x19.lt; omega
            have h8x20 := h8x19.alloc (.cells zA 41)
            have h9x20 := RowAt.newz W19
            refine hK.out _ _ (fun _ => hS20) ?_
            clear hK K
            generalize W19.alloc (.cells zA 41) = W20 at *
            obtain ⟨t1, t2, s1, fin⟩ := two_fill hpc hqc h8x20 h9x20 hne20 hg17 hg20 hS20
            refine orders_one 15 (by kernel_rfl) rfl (by rfl) (fun K hK => ?_)
            refine wp_store_mid 41 _ _ rfl W0.heap.size 0 (colA (xorL p cP)) rfl rfl t1 hspc (colA_one _) ?_
            refine hK.out _ _ (fun _ => s1) ?_
            clear hK K
            refine orders_one 16 (by kernel_rfl) rfl (by rfl) (fun K hK => ?_)
            refine wp_store_mid 41 _ _ rfl W19.heap.size 0 (colA (xorL q cQ)) rfl rfl t2 hsqc (colA_one _) ?_
            refine hK.out _ _ (fun h => absurd rfl h) ?_
            clear hK K
            refine orders_end (by kernel_rfl) ?_
            refine NoPanic.normal ?_
            simp only [Act.put]
            exact unhide hfin W0.heap.size W19.heap.size _ fin
          exact each_nil
        refine each_cons 14 rfl (by rfl) (fun K hK => ?_) ?_
        · go_simp
          have hg21 : w3.heap.size ≤ W18.heap.size := hS18.size
          have hS21 : Below w3.heap.size w3 (W18.alloc (.cells zA 41)) := hS18.alloc hS18.size _
          have hne21 : W0.heap.size ≠ W18.heap.size := fun e => by have := h8x18.lt; omega
          have h8x21 := h8x18.alloc (.cells zA 41)
          have h9x21 := RowAt.newz W18
          refine hK.out _ _ (fun _ => hS21) ?_
          clear hK K
          generalize W18.alloc (.cells zA 41) = W21 at *
          refine orders_each [12] (by kernel_rfl) (by simp) ?_
          refine each_cons 12 rfl (by rfl) (fun K hK => ?_) ?_
          · go_simp
            refine (plus_any q cQ _ hq hcQ).mono ?_
            rintro e W22 ⟨rfl, hb22⟩
            have hS22 : Below w3.heap.size w3 W22 := hS21.trans (hb22.mono hS21.size)
            have h8x22 := h8x21.below hb22 h8x21.lt
            have h9x22 := h9x21.below hb22 h9x21.lt
            refine hK.out _ _ (fun _ => hS22) ?_
            clear hK K
            obtain ⟨t1, t2, s1, fin⟩ := two_fill hpc hqc h8x22 h9x22 hne21 hg17 hg21 hS22
            refine orders_one 15 (by kernel_rfl) rfl (by rfl) (fun K hK => ?_)
            refine wp_store_mid 41 _ _ rfl W0.heap.size 0 (colA (xorL p cP)) rfl rfl t1 hspc (colA_one _) ?_
            refine hK.out _ _ (fun _ => s1) ?_
            clear hK K
            refine orders_one 16 (by kernel_rfl) rfl (by rfl) (fun K hK => ?_)
            refine wp_store_mid 41 _ _ rfl W18.heap.size 0 (colA (xorL q cQ)) rfl rfl t2 hsqc (colA_one _) ?_
            refine hK.out _ _ (fun h => absurd rfl h) ?_
            clear hK K
            refine orders_end (by kernel_rfl) ?_
            refine NoPanic.normal ?_
            simp only [Act.put]
            exact unhide hfin W0.heap.size W18.heap.size _ fin
          exact each_nil
        exact each_nil
      refine each_cons 14 rfl (by rfl) (fun K hK => ?_) ?_
      · go_simp
        have hg23 : w3.heap.size ≤ W17.heap.size := hS17.size
        have hS23 : Below w3.heap.size w3 (W17.alloc (.cells zA 41)) := hS17.alloc hS17.size _
        have hne23 : W0.heap.size ≠ W17.heap.size := fun e => by have := h8x17.lt; omega
        have h8x23 := h8x17.alloc (.cells zA 41)
        have h9x23 := RowAt.newz W17
        refine hK.out _ _ (fun _ => hS23) ?_
        clear hK K
        generalize W17.alloc (.cells zA 41) = W23 at *
        refine orders_each [5] (by kernel_rfl) (by simp) ?_
        refine each_cons 5 rfl (by rfl) (fun K hK => ?_) ?_
        · go_simp
          refine (plus_any p cP _ hp hcP).mono ?_
          rintro e W24 ⟨rfl, hb24⟩
          have hS24 : Below w3.heap.size w3 W24 := hS23.trans (hb24.mono hS23.size)
          have h8x24 := h8x23.below hb24 h8x23.lt
          have h9x24 := h9x23.below hb24 h9x23.lt
          refine hK.out _ _ (fun _ => hS24) ?_
          clear hK K
          refine orders_each [12] (by kernel_rfl) (by simp) ?_
          refine each_cons 12 rfl (by rfl) (fun K hK => ?_) ?_
          · go_simp
            refine (plus_any q cQ _ hq hcQ).mono ?_
            rintro e W25 ⟨rfl, hb25⟩
            have hS25 : Below w3.heap.size w3 W25 := hS24.trans (hb25.mono hS24.size)
            have h8x25 := h8x24.below hb25 h8x24.lt
            have h9x25 := h9x24.below hb25 h9x24.lt
            refine hK.out _ _ (fun _ => hS25) ?_
            clear hK K
            obtain ⟨t1, t2, s1, fin⟩ := two_fill hpc hqc h8x25 h9x25 hne23 hg17 hg23 hS25
            refine orders_one 15 (by kernel_rfl) rfl (by rfl) (fun K hK => ?_)
            refine wp_store_mid 41 _ _ rfl W0.heap.size 0 (colA (xorL p cP)) rfl rfl t1 hspc (colA_one _) ?_
            refine hK.out _ _ (fun _ => s1) ?_
            clear hK K
            refine orders_one 16 (by kernel_rfl) rfl (by rfl) (fun K hK => ?_)
            refine wp_store_mid 41 _ _ rfl W17.heap.size 0 (colA (xorL q cQ)) rfl rfl t2 hsqc (colA_one _) ?_
            refine hK.out _ _ (fun h => absurd rfl h) ?_
            clear hK K
            refine orders_end (by kernel_rfl) ?_
            refine NoPanic.normal ?_
            simp only [Act.put]
            exact unhide hfin W0.heap.size W17.heap.size _ fin
          exact each_nil
        exact each_nil
      exact each_nil
    refine each_cons 14 rfl (by rfl) (fun K hK => ?_) ?_
    · go_simp
      have hg26 : w3.heap.size ≤ W0.heap.size := hS0.size
      have hS26 : Below w3.heap.size w3 (W0.alloc (.cells zA 41)) := hS0.alloc hS0.size _
      have h9x26 := RowAt.newz W0
      refine hK.out _ _ (fun _ => hS26) ?_
      clear hK K
      generalize W0.alloc (.cells zA 41) = W26 at *
      refine orders_each [5, 13] (by kernel_rfl) (by simp) ?_
      refine each_cons 5 rfl (by rfl) (fun K hK => ?_) ?_
      · go_simp
        refine (plus_any p cP _ hp hcP).mono ?_
        rintro e W27 ⟨rfl, hb27⟩
        have hS27 : Below w3.heap.size w3 W27 := hS26.trans (hb27.mono hS26.size)
        have h9x27 := h9x26.below hb27 h9x26.lt
        refine hK.out _ _ (fun _ => hS27) ?_
        clear hK K
        refine orders_each [12, 13] (by kernel_rfl) (by simp) ?_
        refine each_cons 12 rfl (by rfl) (fun K hK => ?_) ?_
        · go_simp
          refine (plus_any q cQ _ hq hcQ).mono ?_
          rintro e W28 ⟨rfl, hb28⟩
          have hS28 : Below w3.heap.size w3 W28 := hS27.trans (hb28.mono hS27.size)
          have h9x28 := h9x27.below hb28 h9x27.lt
          refine hK.out _ _ (fun _ => hS28) ?_
          clear hK K
          refine orders_each [13] (by kernel_rfl) (by simp) ?_
          refine each_cons 13 rfl (by rfl) (fun K hK => ?_) ?_
          · go_simp
            have hg29 : w3.heap.size ≤ W28.heap.size := hS28.size
            have hS29 : Below w3.heap.size w3 (W28.alloc (.cells zA 41)) := hS28.alloc hS28.size _
            have hne29 : W28.heap.size ≠ W0.heap.size := fun e => by have := h9x28.lt; omega
            have h9x29 := h9x28.alloc (.cells zA 41)
            have h8x29 := RowAt.newz W28
            refine hK.out _ _ (fun _ => hS29) ?_
            clear hK K
            generalize W28.alloc (.cells zA 41) = W29 at *
            obtain ⟨t1, t2, s1, fin⟩ := two_fill hpc hqc h8x29 h9x29 hne29 hg29 hg26 hS29
            refine orders_one 15 (by kernel_rfl) rfl (by rfl) (fun K hK => ?_)
            refine wp_store_mid 41 _ _ rfl W28.heap.size 0 (colA (xorL p cP)) rfl rfl t1 hspc (colA_one _) ?_
            refine hK.out _ _ (fun _ => s1) ?_
            clear hK K
            refine orders_one 16 (by kernel_rfl) rfl (by rfl) (fun K hK => ?_)
            refine wp_store_mid 41 _ _ rfl W0.heap.size 0 (colA (xorL q cQ)) rfl rfl t2 hsqc (colA_one _) ?_
            refine hK.out _ _ (fun h => absurd rfl h) ?_
            clear hK K
            refine orders_end (by kernel_rfl) ?_
            refine NoPanic.normal ?_
            simp only [Act.put]
            exact unhide hfin W28.heap.size W0.heap.size _ fin
          exact each_nil
        refine each_cons 13 rfl (by rfl) (fun K hK => ?_) ?_
        · go_simp
          have hg30 : w3.heap.size ≤ W27.heap.size := hS27.size
          have hS30 : Below w3.heap.size w3 (W27.alloc (.cells zA 41)) := hS27.alloc hS27.size _
          have hne30 : W27.heap.size ≠ W0.heap.size := fun e => by have := h9x27.lt; omega
          have h9x30 := h9x27.alloc (.cells zA 41)
          have h8x30 := RowAt.newz W27
          refine hK.out _ _ (fun _ => hS30) ?_
          clear hK K
          generalize W27.alloc (.cells zA 41) = W30 at *
          refine orders_each [12] (by kernel_rfl) (by simp) ?_
          refine each_cons 12 rfl (by rfl) (fun K hK => ?_) ?_
          · go_simp
            refine (plus_any q cQ _ hq hcQ).mono ?_
            rintro e W31 ⟨rfl, hb31⟩
            have hS31 : Below w3.heap.size w3 W31 := hS30.trans (hb31.mono hS30.size)
            have h8x31 := h8x30.below hb31 h8x30.lt
            have h9x31 := h9x30.below hb31 h9x30.lt
            refine hK.out _ _ (fun _ => hS31) ?_
            clear hK K
            obtain ⟨t1, t2, s1, fin⟩ := two_fill hpc hqc h8x31 h9x31 hne30 hg30 hg26 hS31
            refine orders_one 15 (by kernel_rfl) rfl (by rfl) (fun K hK => ?_)
            refine wp_store_mid 41 _ _ rfl W27.heap.size 0 (colA (xorL p cP)) rfl rfl t1 hspc (colA_one _) ?_
            refine hK.out _ _ (fun _ => s1) ?_
            clear hK K
            refine orders_one 16 (by kernel_rfl) rfl (by rfl) (fun K hK => ?_)
            refine wp_store_mid 41 _ _ rfl W0.heap.size 0 (colA (xorL q cQ)) rfl rfl t2 hsqc (colA_one _) ?_
            refine hK.out _ _ (fun h => absurd rfl h) ?_
            clear hK K
            refine orders_end (by kernel_rfl) ?_
            refine NoPanic.normal ?_
            simp only [Act.put]
            exact unhide hfin W27.heap.size W0.heap.size _ fin
          exact each_nil
        exact each_nil
      refine each_cons 13 rfl (by rfl) (fun K hK => ?_) ?_
      · go_simp
        have hg32 : w3.heap.size ≤ W26.heap.size := hS26.size
        have hS32 : Below w3.heap.size w3 (W26.alloc (.cells zA 41)) := hS26.alloc hS26.size _
        have hne32 : W26.heap.size ≠ W0.heap.size := fun e => by have := h9x26.lt; omega
        have h9x32 := h9x26.alloc (.cells zA 41)
        have h8x32 := RowAt.newz W26
        refine hK.out _ _ (fun _ => hS32) ?_
        clear hK K
        generalize W26.alloc (.cells zA 41) = W32 at *
        refine orders_each [5] (by kernel_rfl) (by simp) ?_
        refine each_cons 5 rfl (by rfl) (fun K hK => ?_) ?_
        · go_simp
          refine (plus_any p cP _ hp hcP).mono ?_
          rintro e W33 ⟨rfl, hb33⟩
          have hS33 : Below w3.heap.size w3 W33 := hS32.trans (hb33.mono hS32.size)
          have h8x33 := h8x32.below hb33 h8x32.lt
          have h9x33 := h9x32.below hb33 h9x32.lt
          refine hK.out _ _ (fun _ => hS33) ?_
          clear hK K
          refine orders_each [12] (by kernel_rfl) (by simp) ?_
          refine each_cons 12 rfl (by rfl) (fun K hK => ?_) ?_
          · go_simp
            refine (plus_any q cQ _ hq hcQ).mono ?_
            rintro e W34 ⟨rfl, hb34⟩
            have hS34 : Below w3.heap.size w3 W34 := hS33.trans (hb34.mono hS33.size)
            have h8x34 := h8x33.below hb34 h8x33.lt
            have h9x34 := h9x33.below hb34 h9x33.lt
            refine hK.out _ _ (fun _ => hS34) ?_
            clear hK K
            obtain ⟨t1, t2, s1, fin⟩ := two_fill hpc hqc h8x34 h9x34 hne32 hg32 hg26 hS34
            refine orders_one 15 (by kernel_rfl) rfl (by rfl) (fun K hK => ?_)
            refine wp_store_mid 41 _ _ rfl W26.heap.size 0 (colA (xorL p cP)) rfl rfl t1 hspc (colA_one _) ?_
            refine hK.out _ _ (fun _ => s1) ?_
            clear hK K
            refine orders_one 16 (by kernel_rfl) rfl (by rfl) (fun K hK => ?_)
            refine wp_store_mid 41 _ _ rfl W0.heap.size 0 (colA (xorL q cQ)) rfl rfl t2 hsqc (colA_one _) ?_
            refine hK.out _ _ (fun h => absurd rfl h) ?_
            clear hK K
            refine orders_end (by kernel_rfl) ?_
            refine NoPanic.normal ?_
            simp only [Act.put]
            exact unhide hfin W26.heap.size W0.heap.size _ fin
          exact each_nil
        exact each_nil
      exact each_nil
    exact each_nil

end Go.Proofs.YtdcinlkkjbclmabDoor
