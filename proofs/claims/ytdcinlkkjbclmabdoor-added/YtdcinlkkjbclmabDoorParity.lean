/- The contract of stripe.Parity. -/
import Derived.Test.YtdcinlkkjbclmabDoorStripe
import Derived.Test.YtdcinlkkjbclmabDoorOrders
import Derived.Deep.RegionHeld3
namespace Go.Proofs.YtdcinlkkjbclmabDoor
open Go.RowKit

theorem RowAt.range {w : World} {b : Nat} {xs : List Nat} (h : RowAt w b xs) : w.rangeAt b 0 (xs.map B) := fun j v hv => by
  rw [Nat.zero_add, cell_of_row w b j _ _ _ h]
  simpa [colA] using hv
theorem powN_lt (k : Nat) : powN k < 256 := by
  unfold powN
  match k with
  | 0 => decide
  | 1 => decide
  | 2 => decide
  | 3 => decide
  | 4 => decide
  | 5 => decide
  | k + 6 => simp
theorem colA_list (xs : List Nat) : (xs.map B).toArray = colA xs := rfl

abbrev zA : Array Value := #[.int .u8 0, .int .u8 0, .int .u8 0, .int .u8 0, .int .u8 0, .int .u8 0, .int .u8 0, .int .u8 0, .int .u8 0, .int .u8 0, .int .u8 0, .int .u8 0, .int .u8 0, .int .u8 0, .int .u8 0, .int .u8 0]
theorem zA_eq : zA = colA zero16 := rfl
theorem RowAt.newz (w : World) : RowAt (w.alloc (.cells zA 41)) w.heap.size zero16 := RowAt.new w zero16

/-- a variable of a column's type is laid and stored into -/
theorem store_new (w : World) {c : List Nat} (hc : IsCol c) :
    (w.alloc (.cells zA 41)).there w.heap.size 0 (colA c).size ∧
    RowAt ((w.alloc (.cells zA 41)).setCells w.heap.size 0 (colA c).toList) w.heap.size c ∧
    Below w.heap.size w ((w.alloc (.cells zA 41)).setCells w.heap.size 0 (colA c).toList) ∧
    ∀ b xs, RowAt w b xs → RowAt ((w.alloc (.cells zA 41)).setCells w.heap.size 0 (colA c).toList) b xs := by
  have hz := RowAt.newz w
  refine ⟨by rw [colA_size hc]; exact hz.there (by rfl), hz.stored (by rfl) hc.len, below_setCells ((Below.refl _ _).alloc (Nat.le_refl _) _) _ _ _ (Nat.le_refl _), fun b xs h => ?_⟩
  exact (h.alloc _).setCells_other _ _ _ (by have := h.lt; omega)

theorem results_two_rows {P : Program} {fn : Func} {p p' : Tmp} {ty : TypeId} (h : fn.results = #[.cell p ty, .cell p' ty]) (tmps : Array Value) (w : World) (g g' : Nat) (t t' : TypeId) (cs cs' : Array Value) (fr fr' : Nat × Nat) (d : TypeDesc)
    (hp : tmps.getD p undef = .pointer (some ⟨g, 0, none⟩)) (hp' : tmps.getD p' undef = .pointer (some ⟨g', 0, none⟩)) (hg : w.heap[g]? = some (.cells cs t fr)) (hg' : w.heap[g']? = some (.cells cs' t' fr'))
    (hu : P.underlying ty = some d) (hd : (match d with | .struct _ | .array _ _ => true | _ => false) = true) (hi : (P.info? ty).map (·.size) = some cs.size) (hi' : (P.info? ty).map (·.size) = some cs'.size) :
    (results fn tmps).run P w = .ok (.tuple #[.agg cs, .agg cs']) w := by
  have h1 : tmps[p]?.getD undef = .pointer (some ⟨g, 0, none⟩) := by simpa using hp
  have h2 : tmps[p']?.getD undef = .pointer (some ⟨g', 0, none⟩) := by simpa using hp'
  simp [results, h, h1, h2, asAddr, run_loadVar_row w g t ty cs fr d hg hu hd hi, run_loadVar_row w g' t' ty cs' fr' d hg' hu hd hi']

set_option maxHeartbeats 800000 in
theorem parity_any (b cap : Nat) (cs : List (List Nat)) (w : World) (hcs : AreCols cs) (hn : cs.length ≤ 6) (hat : ColsAt w b cs) (hb : b < w.heap.size) (ht : Tabs w) :
    Calls Tryd.prog 15 #[.slice (some ⟨b, 0, none⟩) cs.length cap] w fun e w' => e = .returned (.tuple #[colV (parP cs cs.length), colV (parQ cs cs.length)]) ∧ Below w.heap.size w w' := by
  have hs2 := ht.size
  go_enter Tryd.func15, Tryd.ntmps15
  go_wp2
  go_loopw [10] (fun i wr => ∃ k : Nat, k ≤ cs.length ∧ i = .int .i64 k ∧ RowAt wr w.heap.size zero16 ∧ RowAt wr (w.heap.size + 1) zero16 ∧ RowAt wr (w.heap.size + 1 + 1) (parP cs k) ∧ RowAt wr (w.heap.size + 1 + 1 + 1) (parQ cs k) ∧ Below w.heap.size w wr) (fun i _ => cs.length - (intOf i).toNat)
  case atStart =>
    have z0 := RowAt.newz w
    have z1 := RowAt.newz (w.alloc (.cells zA 41))
    have z2 := RowAt.newz ((w.alloc (.cells zA 41)).alloc (.cells zA 41))
    have z3 := RowAt.newz (((w.alloc (.cells zA 41)).alloc (.cells zA 41)).alloc (.cells zA 41))
    simp only [World.size_alloc] at z1 z2 z3
    exact ⟨0, Nat.zero_le _, rfl, ((z0.alloc _).alloc _).alloc _, (z1.alloc _).alloc _, z2.alloc _, z3, ((((Below.refl _ _).alloc (Nat.le_refl _) _).alloc (by simp) _).alloc (by simp; omega) _).alloc (by simp; omega) _⟩
  case round =>
    obtain ⟨k, hk, rfl, hR, hS, hP, hQ, hbel⟩ := hrel
    by_cases hlt : k < cs.length
    · have hc := hcs.col k hlt
      have hp := parP_col hcs k hk
      have hq := parQ_col hcs k hk
      have hld := hide (range_below (hat k hlt) hbel hb)
      have hi1 : (0 : Int) ≤ (k : Int) := by omega
      have hi2 : (k : Int) < (cs.length : Int) := by omega
      have HPS := hide (show parP cs (k + 1) = xorL (parP cs k) (cs.getD k []) from rfl)
      have HQS := hide (show parQ cs (k + 1) = xorL (parQ cs k) (mulL (cs.getD k []) (powN k)) from rfl)
      generalize cs.getD k [] = c at *
      generalize hpe : parP cs k = p at *
      generalize hqe : parQ cs k = q at *
      clear hpe hqe
      have hsz : (Tryd.prog.info? 41).map (·.size) = some (c.map B).length := by rw [List.length_map, hc.len]; exact Tryd.colSize
      have hsc : (Tryd.prog.info? 41).map (·.size) = some (colA c).size := by rw [colA_size hc]; exact Tryd.colSize
      have hsp : (Tryd.prog.info? 41).map (·.size) = some (colA p).size := by rw [colA_size hp]; exact Tryd.colSize
      have hpc := xorL_col hp hc
      have hspc : (Tryd.prog.info? 41).map (·.size) = some (colA (xorL p c)).size := by rw [colA_size hpc]; exact Tryd.colSize
      have hq1 := hQ.lt
      have st := hide (store_new wr hc)
      have HR := hide hR
      have HS := hide hS
      have HP := hide hP
      have HQ := hide hQ
      clear hR hS hP hQ
      go_wp2_with (first | (refine wpList_load_mid rfl 41 _ rfl b (k * 16) rfl _ _ (unhide hld) Tryd.underlying41 rfl hsz ?_) | (refine wpList_store_mid rfl 41 _ _ rfl wr.heap.size 0 (colA c) rfl rfl (unhide st).1 hsc (colA_one _) ?_) | (refine wpList_load_row rfl 41 _ rfl (w.heap.size + 1 + 1) rfl 41 _ _ _ ((unhide st).2.2.2 _ _ (unhide HP)) Tryd.underlying41 rfl hsp ?_) | (refine wpList_load_row rfl 41 _ rfl wr.heap.size rfl 41 _ _ _ (unhide st).2.1 Tryd.underlying41 rfl hsc ?_))
      refine (plus_any p c _ hp hc).mono ?_
      rintro e w2 ⟨rfl, hb2⟩
      obtain ⟨_, st2, st3, st4⟩ := unhide st
      have hwz : ((wr.alloc (.cells zA 41)).setCells wr.heap.size 0 (colA c).toList).heap.size = wr.heap.size + 1 := by rw [setCells_size]; simp
      rw [hwz] at hb2
      have hR2 := RowAt.below (st4 _ _ (unhide HR)) hb2 (by omega)
      have hS2 := RowAt.below (st4 _ _ (unhide HS)) hb2 (by omega)
      have hP2 := RowAt.below (st4 _ _ (unhide HP)) hb2 (by omega)
      have hQ2 := RowAt.below (st4 _ _ (unhide HQ)) hb2 (by omega)
      have hC2 := RowAt.below st2 hb2 (by omega)
      have hbel2 := (hbel.trans (st3.mono (by omega))).trans (hb2.mono (by omega))
      have hthP : w2.there (w.heap.size + 1 + 1) 0 (colA (xorL p c)).size := by rw [colA_size hpc]; exact hP2.there hp.len
      have hR3 := hide (hR2.setCells_other (w.heap.size + 1 + 1) 0 (colA (xorL p c)).toList (by omega))
      have hS3 := hide (hS2.setCells_other (w.heap.size + 1 + 1) 0 (colA (xorL p c)).toList (by omega))
      have hP3 := hide (hP2.stored hp.len hpc.len)
      have hQ3 := hide (hQ2.setCells_other (w.heap.size + 1 + 1) 0 (colA (xorL p c)).toList (by omega))
      have hC3 := hide (hC2.setCells_other (w.heap.size + 1 + 1) 0 (colA (xorL p c)).toList (by omega))
      have hb3 := hide (below_setCells hbel2 (w.heap.size + 1 + 1) 0 (colA (xorL p c)).toList (by omega))
      have HTP := hide hthP
      clear hR2 hS2 hP2 hQ2 hC2 hbel2 hthP hb2 st st2 st3 st4 hwz HR HS HP HQ hbel hld
      go_wp2_with (refine wpList_store_mid rfl 41 _ _ rfl (w.heap.size + 1 + 1) 0 (colA (xorL p c)) rfl rfl (unhide HTP) hspc (colA_one _) ?_)
      clear HTP
      generalize w2.setCells (w.heap.size + 1 + 1) 0 (colA (xorL p c)).toList = w3 at *
      have hqr := RowAt.range (unhide hQ3)
      have hcr := RowAt.range (unhide hC3)
      have hqt := RowAt.there (unhide hQ3) hq.len
      have hu := Tryd.underlying41
      have hi : (Tryd.prog.info? 41).map (·.size) = some (q.map B).length := by rw [List.length_map, hq.len]; exact Tryd.colSize
      have hlq : (q.map B).length = 16 := by simp [hq.len]
      have hlc : (c.map B).length = 16 := by simp [hc.len]
      have hoq : ∀ v ∈ q.map B, v.oneCell' = true := by intro v hv; simp only [List.mem_map] at hv; obtain ⟨x, _, rfl⟩ := hv; rfl
      have hoc : ∀ v ∈ c.map B, v.oneCell' = true := by intro v hv; simp only [List.mem_map] at hv; obtain ⟨x, _, rfl⟩ := hv; rfl
      have ht3 := hide (ht.below hs2 (unhide hb3))
      have hq3 := RowAt.lt (unhide hQ3)
      have hc3 := RowAt.lt (unhide hC3)
      have hqc := mulL_col hc (powN k)
      have hT3 := unhide ht3
      refine wp_region_noPanic ?_
      refine orders_begin 6 (fun w' => Below w3.heap.size w3 w') (by kernel_rfl) ?_
      refine orders_take 0 (some 18) rfl (by kernel_rfl) (by kernel_rfl) (by kernel_rfl) (by kernel_rfl) (fun _ _ _ h => h) (yieldsIf_load_mid (by rfl) 41 _ rfl (w.heap.size + 1 + 1 + 1) 0 rfl (q.map B) _ (fun w' hw => range_below hqr hw hq3) hu rfl hi) (Below.refl _ _).drew rfl ?_
      simp only [Act.put]
      refine orders_take 1 (some 19) rfl (by kernel_rfl) (by kernel_rfl) (by kernel_rfl) (by kernel_rfl) (fun _ _ _ h => h) (yieldsIf_load_mid (by rfl) 41 _ rfl wr.heap.size 0 rfl (c.map B) _ (fun w' hw => range_below hcr hw hc3) hu rfl hsz) (Below.refl _ _).drew rfl ?_
      simp only [Act.put]
      refine orders_take 2 (some 20) (v := .int .i64 k) rfl (by kernel_rfl) (by kernel_rfl) (by kernel_rfl) (by kernel_rfl) (fun _ _ _ h => h) (Or.inl ⟨by rfl, fun _ _ => rfl⟩) (Below.refl _ _).drew rfl ?_
      simp only [Act.put]
      refine orders_one 3 (by kernel_rfl) rfl (by rfl) (fun K hK => ?_)
      go_simp
      refine (power_any k _ (by omega) (hT3.below hT3.size (Below.refl _ _).drew)).mono ?_
      rintro e w4 ⟨rfl, rfl⟩
      refine hK.out _ _ (fun _ => (Below.refl _ _).drew) ?_
      clear hK K
      refine orders_one 4 (by kernel_rfl) rfl (by rfl) (fun K hK => ?_)
      go_simp
      refine (colTimes_any c (powN k) _ hc (powN_lt k) (hT3.below hT3.size (Below.refl _ _).drew)).mono ?_
      rintro e w5 ⟨rfl, hb5⟩
      have hb5' : Below w3.heap.size w3 w5 := (Below.refl _ _).drew.trans hb5
      clear hb5
      refine hK.out _ _ (fun _ => hb5') ?_
      clear hK K
      refine orders_one 5 (by kernel_rfl) rfl (by rfl) (fun K hK => ?_)
      go_simp
      refine (plus_any q (mulL c (powN k)) _ hq hqc).mono ?_
      rintro e w6 ⟨rfl, hb6⟩
      have hb6' : Below w3.heap.size w3 w6 := hb5'.trans (hb6.mono hb5'.size)
      clear hb6 hb5'
      refine hK.out _ _ (fun _ => hb6') ?_
      clear hK K
      have hqq := xorL_col hq hqc
      have hsq : (Tryd.prog.info? 41).map (·.size) = some (colA (xorL q (mulL c (powN k)))).size := by rw [colA_size hqq]; exact Tryd.colSize
      have hQ6 := RowAt.below (unhide hQ3) hb6' hq3
      have hth6 : w6.there (w.heap.size + 1 + 1 + 1) 0 (colA (xorL q (mulL c (powN k)))).size := by rw [colA_size hqq]; exact hQ6.there hq.len
      refine orders_one 6 (by kernel_rfl) rfl (by rfl) (fun K hK => ?_)
      refine wp_store_mid 41 _ _ rfl (w.heap.size + 1 + 1 + 1) 0 (colA (xorL q (mulL c (powN k)))) rfl rfl hth6 hsq (colA_one _) ?_
      refine hK.out _ _ (fun h => absurd rfl h) ?_
      clear hK K
      refine orders_end (by kernel_rfl) ?_
      refine NoPanic.normal ?_
      have hR7 := hide ((RowAt.below (unhide hR3) hb6' (RowAt.lt (unhide hR3))).setCells_other (w.heap.size + 1 + 1 + 1) 0 (colA (xorL q (mulL c (powN k)))).toList (by omega))
      have hS7 := hide ((RowAt.below (unhide hS3) hb6' (RowAt.lt (unhide hS3))).setCells_other (w.heap.size + 1 + 1 + 1) 0 (colA (xorL q (mulL c (powN k)))).toList (by omega))
      have hP7 := hide ((RowAt.below (unhide hP3) hb6' (RowAt.lt (unhide hP3))).setCells_other (w.heap.size + 1 + 1 + 1) 0 (colA (xorL q (mulL c (powN k)))).toList (by omega))
      have hQ7 := hide (hQ6.stored hq.len hqq.len)
      have hb7 := hide (below_setCells ((unhide hb3).trans (hb6'.mono (by omega))) (w.heap.size + 1 + 1 + 1) 0 (colA (xorL q (mulL c (powN k)))).toList (by omega))
      clear hR3 hS3 hP3 hQ3 hC3 hb3 hQ6 hth6 hb6' hqr hcr hqt hT3 ht3
      generalize w6.setCells (w.heap.size + 1 + 1 + 1) 0 (colA (xorL q (mulL c (powN k)))).toList = w7 at *
      go_wp2
      go_roundw
      case rel => exact ⟨k + 1, by omega, by go_num, unhide hR7, unhide hS7, by rw [unhide HPS]; exact unhide hP7, by rw [unhide HQS]; exact unhide hQ7, unhide hb7⟩
      case measure => simp [intOf]; omega
    · obtain rfl : k = cs.length := by omega
      have hp := parP_col hcs cs.length (Nat.le_refl _)
      have hq := parQ_col hcs cs.length (Nat.le_refl _)
      clear hat hlt
      obtain ⟨p, hpe⟩ : ∃ p, parP cs cs.length = p := ⟨_, rfl⟩
      obtain ⟨q, hqe⟩ : ∃ q, parQ cs cs.length = q := ⟨_, rfl⟩
      rw [hpe] at hp hP
      rw [hqe] at hq hQ
      have HPE := hide hpe
      have HQE := hide hqe
      clear hpe hqe
      have hip : (Tryd.prog.info? 41).map (·.size) = some (p.map B).length := by rw [List.length_map, hp.len]; exact Tryd.colSize
      have hiq : (Tryd.prog.info? 41).map (·.size) = some (q.map B).length := by rw [List.length_map, hq.len]; exact Tryd.colSize
      have hsp : (Tryd.prog.info? 41).map (·.size) = some (colA p).size := by rw [colA_size hp]; exact Tryd.colSize
      have hsq : (Tryd.prog.info? 41).map (·.size) = some (colA q).size := by rw [colA_size hq]; exact Tryd.colSize
      have hu := Tryd.underlying41
      have HR := hide hR
      have HS := hide hS
      have HP := hide hP
      have HQ := hide hQ
      have HB := hide hbel
      clear hR hS hP hQ hbel
      go_wp2
      refine wp_region_noPanic ?_
      refine orders_begin 3 (fun w' => RowAt w' (w.heap.size + 1 + 1) p ∧ RowAt w' (w.heap.size + 1 + 1 + 1) q) (by kernel_rfl) ?_
      refine orders_take 0 (some 25) rfl (by kernel_rfl) (by kernel_rfl) (by kernel_rfl) (by kernel_rfl) (fun _ _ _ h => h) (yieldsIf_load_mid (by rfl) 41 _ rfl (w.heap.size + 1 + 1) 0 rfl (p.map B) _ (fun w' hw => hw.1.range) hu rfl hip) ⟨unhide HP, unhide HQ⟩ rfl ?_
      simp only [Act.put]
      refine orders_take 1 (some 26) rfl (by kernel_rfl) (by kernel_rfl) (by kernel_rfl) (by kernel_rfl) (fun _ _ _ h => h) (yieldsIf_load_mid (by rfl) 41 _ rfl (w.heap.size + 1 + 1 + 1) 0 rfl (q.map B) _ (fun w' hw => hw.2.range) hu rfl hiq) ⟨unhide HP, unhide HQ⟩ rfl ?_
      simp only [Act.put]
      have hR0 : RowAt wr.drew w.heap.size zero16 := unhide HR
      have hS0 : RowAt wr.drew (w.heap.size + 1) zero16 := unhide HS
      have hP0 : RowAt wr.drew (w.heap.size + 1 + 1) p := unhide HP
      have hQ0 : RowAt wr.drew (w.heap.size + 1 + 1 + 1) q := unhide HQ
      have hth1 : wr.drew.there w.heap.size 0 (colA p).size := by rw [colA_size hp]; exact hR0.there (by rfl)
      refine orders_one 2 (by kernel_rfl) rfl (by rfl) (fun K hK => ?_)
      refine wp_store_mid 41 _ _ rfl w.heap.size 0 (colA p) rfl rfl hth1 hsp (colA_one _) ?_
      refine hK.out _ _ (fun _ => ⟨hP0.setCells_other _ _ _ (by omega), hQ0.setCells_other _ _ _ (by omega)⟩) ?_
      clear hK K
      have hS1 := hS0.setCells_other w.heap.size 0 (colA p).toList (by omega)
      have hR1 := hR0.stored (by rfl) hp.len
      have hb1 := below_setCells (unhide HB).drew w.heap.size 0 (colA p).toList (Nat.le_refl _)
      clear hR0 hS0 hP0 hQ0 hth1
      generalize wr.drew.setCells w.heap.size 0 (colA p).toList = w1 at *
      have hth2 : w1.there (w.heap.size + 1) 0 (colA q).size := by rw [colA_size hq]; exact hS1.there (by rfl)
      refine orders_one 3 (by kernel_rfl) rfl (by rfl) (fun K hK => ?_)
      refine wp_store_mid 41 _ _ rfl (w.heap.size + 1) 0 (colA q) rfl rfl hth2 hsq (colA_one _) ?_
      refine hK.out _ _ (fun h => absurd rfl h) ?_
      clear hK K
      refine orders_end (by kernel_rfl) ?_
      refine NoPanic.normal ?_
      have hR2 := hide (hR1.setCells_other (w.heap.size + 1) 0 (colA q).toList (by omega))
      have hS2 := hide (hS1.stored (by rfl) hq.len)
      have hb2 := hide (below_setCells hb1 (w.heap.size + 1) 0 (colA q).toList (by omega))
      clear hS1 hR1 hb1 hth2
      generalize w1.setCells (w.heap.size + 1) 0 (colA q).toList = w2 at *
      go_wp2
      exact bodyPost_ret (v := .tuple #[colV p, colV q]) (results_two_rows Tryd.results15 _ _ w.heap.size (w.heap.size + 1) _ _ _ _ _ _ _ rfl rfl (unhide hR2) (unhide hS2) hu rfl hsp hsq) rfl ⟨by rw [unhide HPE, unhide HQE], unhide hb2⟩

end Go.Proofs.YtdcinlkkjbclmabDoor
