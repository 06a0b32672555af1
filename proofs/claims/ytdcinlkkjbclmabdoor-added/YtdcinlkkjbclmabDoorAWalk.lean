/- The walk of Added. -/
import Derived.Test.YtdcinlkkjbclmabDoorAdded
namespace Go.Proofs.YtdcinlkkjbclmabDoor
open Go.RowKit

set_option maxRecDepth 100000 in
set_option maxHeartbeats 2000000 in
theorem added_any (disks alone : Int) (v1 v2 : Value) (ms1 ms2 : List Int) (w : World) (hv1 : SlI w v1 ms1) (hv2 : SlI w v2 ms2) (hl1 : ms1.length ≤ 9223372036854775807) (hl2 : ms2.length ≤ 9223372036854775807)
    (hd1 : -9223372036854775808 ≤ disks) (hd2 : disks ≤ 9223372036854775807) (ha1 : -9223372036854775808 ≤ alone) (ha2 : alone ≤ 9223372036854775807) (ht : Tabs w) :
    Calls Tryd.prog 4 #[.int .i64 disks, v1, v2, .int .i64 alone] w fun e w' => e = .returned (.bool true) ∧ Below w.heap.size w w' := by
  obtain ⟨i5, hi5, hz50, hz51, hz52⟩ := info_parts Tryd.info5
  obtain ⟨iL, hiL, hzL0, hzL1, hzL2⟩ := info_parts Tryd.infoL
  obtain ⟨hN1, hN2⟩ := nOf_bd disks
  have hs2 := ht.size
  have HT := hide ht
  have HV1 := hide hv1
  have HV2 := hide hv2
  clear ht hv1 hv2
  go_enter Tryd.func4, Tryd.ntmps4
  go_wp2_with fail
  refine (stripe_any disks v1 ms1 _ (unhide HV1) hl1 hd1 hd2 (unhide HT)).mono ?_
  rintro e wa ⟨va, Ga, Ca, rfl, hla, hba⟩
  have HLA := hide hla
  have HBA := hide hba
  obtain ⟨ga, ca, hvae, hga, hga2⟩ := hla.own.form (by omega)
  subst hvae
  clear hla
  go_wp2_with fail
  refine (stripe_any disks v2 ms2 _ ((unhide HV2).below hba) hl2 hd1 hd2 ((unhide HT).below hs2 hba)).mono ?_
  rintro e wb ⟨vb, Gb, Cb, rfl, hlb, hbb⟩
  obtain ⟨gb, cb, hvbe, hgb, hgb2⟩ := hlb.own.form (by omega)
  subst hvbe
  have hsa := hba.size
  have hsb := hbb.size
  have HLB := hide hlb
  have HLA2 := hide ((unhide HLA).below hbb)
  have HBB := hide (hba.trans (hbb.mono hsa))
  clear hlb hba hbb HLA HBA
  have hn1 := fun (w' : World) => Lib.run_eql_slice_nil (P := Tryd.prog) w' 23 25 (some ⟨ga, 0, none⟩) (nOf disks + 2) ca 0 0 Tryd.underlying23
  have hn2 := fun (w' : World) => Lib.run_eql_slice_nil (P := Tryd.prog) w' 23 25 (some ⟨gb, 0, none⟩) (nOf disks + 2) cb 0 0 Tryd.underlying23
  generalize hN : nOf disks = N at *
  have HN := hide hN
  clear hN
  obtain ⟨A, hA⟩ : ∃ A, strL disks ms1 = A := ⟨_, rfl⟩
  obtain ⟨Bb, hBb⟩ : ∃ Bb, strL disks ms2 = Bb := ⟨_, rfl⟩
  rw [hA] at HLA2
  rw [hBb] at HLB
  have hcA : ∀ i, IsCol (A i) := fun i => by rw [← hA]; exact strL_col _ _ _
  have hcB : ∀ i, IsCol (Bb i) := fun i => by rw [← hBb]; exact strL_col _ _ _
  have HAE := hide hA
  have HBE := hide hBb
  have HCA := hide hcA
  have HCB := hide hcB
  clear hA hBb hcA hcB
  have hcp := copied_any (.slice (some ⟨ga, 0, none⟩) (N + 2) ca) (colsOf A (N + 2)) wb ((unhide HLA2).slL (by omega)) (colsOf_cols (fun i _ => unhide HCA i)) (by rw [colsOf_len]; omega) (by rw [colsOf_len]; omega)
  rw [colsOf_len] at hcp
  have HCP := hide hcp
  clear hcp
  go_wp2_with fail
  refine (unhide HCP).mono ?_
  rintro e wc ⟨vs, Gs, Cs, rfl, hls, hge, hinj, hbc⟩
  obtain ⟨gs, cs, hvse, hgs, hgs2⟩ := hls.own.form (by omega)
  subst hvse
  have hls' := hls.congr (L' := A) (fun i hi => colsOf_at A (N + 2) i hi)
  have hGlt : ∀ i, i < N + 2 → Gs i < wc.heap.size := fun i hi => (hls'.buf i hi).lt (by rw [(unhide HCA i).len]; omega)
  have hsc := hbc.size
  have HLS := hide hls'
  have HGE := hide hge
  have HIN := hide hinj
  have HGL := hide hGlt
  have HBC := hide hbc
  clear hls hls' hge hinj hGlt hbc HCP
  obtain ⟨px1, px2⟩ := pickAt_bd alone (N : Int) (by omega)
  obtain ⟨x, hx⟩ := Int.eq_ofNat_of_zero_le px1
  have hxN : x < N := by omega
  go_wp2_with fail
  refine (pick_any _ _ _ (by omega) ha1 ha2 (by omega)).mono ?_
  rintro e w1 ⟨rfl, rfl⟩
  rw [hx]
  clear hx px1 px2 hn1 hn2
  go_wp2
  go_loopw [13, 15] (fun lv i wr => ∃ (k : Nat) (Gl Cl : Nat → Nat), k ≤ N + 2 ∧ i = .int .i64 k ∧ Below wb.heap.size wb wr ∧ w1.heap.size ≤ wr.heap.size ∧
      ListR wr wb.heap.size (.slice (some ⟨gs, 0, none⟩) (N + 2) cs) (N + 2) Gs Cs (mixC A Bb k 0) ∧ ListR wr w1.heap.size lv (min k N) Gl Cl (loneL A x) ∧ (∀ i, i < min k N → w1.heap.size ≤ Gl i ∨ Gl i < wb.heap.size)) (fun _ i _ => N + 2 - (intOf i).toNat)
  case atStart => exact ⟨0, fun _ => 0, fun _ => 0, Nat.zero_le _, rfl, unhide HBC, Nat.le_refl _, (unhide HLS).congr (fun i hi => (mixC_zero (n := N + 2) (fun i _ => unhide HCA i) i hi).symm), by rw [Nat.zero_min]; exact ListR.nil _ _ _ _ _, by intro i hi; omega⟩
  case round =>
    obtain ⟨k, Gl, Cl, hk, rfl, hbw, hsw, hsum, hlone, hgl⟩ := hrel
    have HBW := hide hbw
    have HSU := hide hsum
    have HLO := hide hlone
    have HGL2 := hide hgl
    clear hbw hsum hlone hgl HBC HLS
    by_cases hlt : k < N + 2
    · have hkI : (k : Int) < (N : Int) + 2 := by omega
      go_wp2
      obtain ⟨wo, hwo⟩ : ∃ wo : World, wo = wr := ⟨_, rfl⟩
      subst hwo
      go_loopw [16] (fun j wi => ∃ m : Nat, m ≤ 16 ∧ j = .int .i64 m ∧ Below wb.heap.size wb wi ∧ w1.heap.size ≤ wi.heap.size ∧
        ListR wi wb.heap.size (.slice (some ⟨gs, 0, none⟩) (N + 2) cs) (N + 2) Gs Cs (mixC A Bb k m) ∧ ListR wi w1.heap.size u13 (min k N) Gl Cl (loneL A x)) (fun j _ => 16 - (intOf j).toNat)
      case atStart => exact ⟨0, by omega, rfl, unhide HBW, hsw, unhide HSU, unhide HLO⟩
      case round =>
        obtain ⟨m, hm, rfl, hbi, hsi, hsu, hlo⟩ := hrel
        by_cases hlm : m < 16
        · have b1 := (unhide HLB).below hbi
          have q1 := hsu.cell k hlt
          have q2 := (hsu.buf k hlt).cell m (by rw [(hsu.col k hlt).len]; exact hlm)
          rw [mixC_at _ _ _ _ hlm] at q2
          have q3 := (hsu.buf k hlt).frozen m (by rw [(hsu.col k hlt).len]; exact hlm)
          have q4 := b1.cell k hlt
          have q5 := (b1.buf k hlt).cell m (by rw [(unhide HCB k).len]; exact hlm)
          have xa := (unhide HCA k).at m hlm
          have xb := (unhide HCB k).at m hlm
          have hmI : (m : Int) < 16 := by omega
          have hm0 : (0 : Int) ≤ (m : Int) := by omega
          have hk0 : (0 : Int) ≤ (k : Int) := by omega
          have HX := hide (u8_xor_nat _ _ xa xb)
          have HWR := hide (hsu.write (unhide HIN) k m ((A k).getD m 0 ^^^ (Bb k).getD m 0) hlt hlm (Nat.xor_lt_two_pow (n := 8) xa xb) (fun i _ => mixC_step A Bb k m i))
          have HBI := hide hbi
          have HLO2 := hide hlo
          clear b1 hsu hbi hlo
          generalize hya : (A k).getD m 0 = ya at *
          generalize hyb : (Bb k).getD m 0 = yb at *
          clear hya hyb
          go_wp2
          go_region
          all_goals go_wp2
          go_roundw
          case rel =>
            rw [unhide HX]
            refine ⟨m + 1, by omega, by go_num, ((unhide HBI).setCell (p := ⟨Gs k, m, none⟩) (unhide HGE k hlt) _).drew, by simp; omega, ?_, ?_⟩
            · exact (unhide HWR).below ((Below.refl _ _).drew)
            · refine ((unhide HLO2).other ⟨Gs k, m, none⟩ _ (fun e => ?_) (fun i hi => ?_)).below ((Below.refl _ _).drew)
              · have h1 := ((unhide HLO2).own.lt _ e).1
                have h2 := unhide HGL k hlt
                simp only at h1; omega
              · have h1 := unhide HGL2 i hi
                have h2 := unhide HGL k hlt
                have h3 := unhide HGE k hlt
                simp only; omega
          case measure => simp [intOf]; omega
        · obtain rfl : m = 16 := by omega
          have HSU2 : Hid (ListR wr wb.heap.size (.slice (some ⟨gs, 0, none⟩) (N + 2) cs) (N + 2) Gs Cs (mixC A Bb (k + 1) 0)) := hide (hsu.congr (fun i hi => mixC_next (n := N + 2) (fun i _ => unhide HCA i) (fun i _ => unhide HCB i) k hlt i hi))
          have HBI := hide hbi
          have HLO2 := hide hlo
          clear hsu hbi hlo
          by_cases hkN : k < N
          · have hmin : min k N = k := by omega
            have hmin2 : min (k + 1) N = k + 1 := by omega
            rw [hmin] at HLO2 HGL2
            have hkNI : (k : Int) < (N : Int) := by omega
            by_cases hkx : k = x
            · have e1 : ((k : Int) != (x : Int)) = false := by rw [hkx]; simp
              have e2 : ((k : Int) == (x : Int)) = true := by rw [hkx]; simp
              have HKX := hide hkx
              have HMN := hide hmin2
              clear hkx hmin hmin2
              have a1 := (unhide HLA2).below (unhide HBI)
              have qa := a1.cell k (by omega)
              have hk0 : (0 : Int) ≤ (k : Int) := by omega
              have hba := (Below.refl wr.heap.size wr).alloc (Nat.le_refl _) (.cells #[.slice (some ⟨Ga k, 0, none⟩) 16 (Ca k)] 25)
              have hga3 := ((unhide HLA2).buf k (by omega)).lt (by rw [(unhide HCA k).len]; omega)
              have hbu := (a1.buf k (by omega)).below hba (by omega)
              have hob : u13.ownBlock ≠ some (Ga k) := fun e => by have := ((unhide HLO2).own.lt _ e).1; omega
              have HLI2 := hide ((unhide HLO2).below hba)
              have HBU := hide hbu
              have HOB := hide hob
              have H5 := hide (cell_one_new wr (.slice (some ⟨Ga k, 0, none⟩) 16 (Ca k)) 25)
              clear a1 hbu hob hba
              go_wp2_with (at_builtin; refine wpList_append_lies _ rfl (.tmp 97) (.tmp 102) 23 rfl w1.heap.size 25 iL (.slice none 0 0) 1 24 Tryd.underlying23 hiL hzL0 hzL1 hzL2 rfl (by decide) u13 k (inners Gl Cl k) rfl (unhide HLI2).own ⟨wr.heap.size, 0, none⟩ 1 1 [.slice (some ⟨Ga k, 0, none⟩) 16 (Ca k)] rfl rfl (unhide H5) (by intro u hu; simp only [List.mem_singleton] at hu; subst hu; rfl) (by decide) (by unfold maxLen; omega) (by omega) (by simp; omega) (wr.heap.size + 1) (by simp) ?_)
              intro g2 c2 w3 hown2 hgrow2 hat2 hlt2
              have hp := (unhide HLI2).push (Ga k) (Ca k) (unhide HBU) (unhide HCA k) (unhide HOB) g2 c2 (wr.heap.size + 1) (by simp) hown2 hgrow2 hat2
              have HP : Hid (ListR w3 w1.heap.size (.slice (some ⟨g2, 0, none⟩) (k + 1) c2) (min (k + 1) N) (put Gl k (Ga k)) (put Cl k (Ca k)) (loneL A x)) := by
                rw [unhide HMN]
                refine hp.congr (fun i hi => ?_)
                rcases Nat.lt_or_ge i k with h | h
                · rw [putL_lt _ _ _ _ h]
                · obtain rfl : i = k := by omega
                  rw [putL_at, loneL, if_pos (unhide HKX), unhide HKX]
              have hb3 : Below w1.heap.size wr w3 := ((Below.refl _ _).alloc hsi _).grown hgrow2 (by simp; omega) (fun k hk => ((unhide HLI2).own.lt k hk).1)
              have HB3 := hide ((unhide HBI).trans (hb3.mono hsc))
              have HS3 := hide ((unhide HSU2).keep hb3 (fun g hg => by rw [ownBlock_slice] at hg; cases hg; exact hgs2) (fun i hi => unhide HGL i hi))
              have hs3 := hb3.size
              clear hp hb3 hown2 hgrow2 hat2 H5 HLI2 HBU HOB
              go_wp2
              go_roundw
              case rel =>
                refine ⟨k + 1, put Gl k (Ga k), put Cl k (Ca k), by omega, by go_num, unhide HB3, by omega, unhide HS3, unhide HP, fun i hi => ?_⟩
                rcases Nat.lt_or_ge i k with h | h
                · rw [put_lt _ _ _ _ h]; exact unhide HGL2 i h
                · obtain rfl : i = k := by omega
                  rw [put_at]; right; omega
              case measure => simp [intOf]; omega
            · have e1 : ((k : Int) != (x : Int)) = true := by rw [bne_iff_ne]; omega
              have e2 : ((k : Int) == (x : Int)) = false := beq_eq_false_iff_ne.2 (by omega)
              have HKX := hide hkx
              have HMN := hide hmin2
              clear hkx hmin hmin2
              have hmk := make16
              have hz := buf_zero wr
              have hba0 := (Below.refl wr.heap.size wr).alloc (Nat.le_refl _) (.cells zA 5)
              have hba := hba0.alloc (by simp) (.cells #[.slice (some ⟨wr.heap.size, 0, none⟩) 16 16] 25)
              have hbu := hz.below ((Below.refl _ _).alloc (Nat.le_refl _) (.cells #[.slice (some ⟨wr.heap.size, 0, none⟩) 16 16] 25)) (by simp)
              have hob : u13.ownBlock ≠ some wr.heap.size := fun e => by have := ((unhide HLO2).own.lt _ e).2; omega
              have HLI2 := hide ((unhide HLO2).below hba)
              have HBU := hide hbu
              have HOB := hide hob
              have h5 := cell_one_new (wr.alloc (.cells zA 5)) (.slice (some ⟨wr.heap.size, 0, none⟩) 16 16) 25
              simp only [World.size_alloc] at h5
              have H5 := hide h5
              clear hz hbu hob hba hba0 h5
              go_wp2_with (at_builtin; refine wpList_append_lies _ rfl (.tmp 90) (.tmp 92) 23 rfl w1.heap.size 25 iL (.slice none 0 0) 1 24 Tryd.underlying23 hiL hzL0 hzL1 hzL2 rfl (by decide) u13 k (inners Gl Cl k) rfl (unhide HLI2).own ⟨wr.heap.size + 1, 0, none⟩ 1 1 [.slice (some ⟨wr.heap.size, 0, none⟩) 16 16] rfl rfl (unhide H5) (by intro u hu; simp only [List.mem_singleton] at hu; subst hu; rfl) (by decide) (by unfold maxLen; omega) (by omega) (by simp; omega) (wr.heap.size + 1 + 1) (by simp) ?_)
              intro g2 c2 w3 hown2 hgrow2 hat2 hlt2
              have hp := (unhide HLI2).push wr.heap.size 16 (unhide HBU) zero_col (unhide HOB) g2 c2 (wr.heap.size + 1 + 1) (by simp) hown2 hgrow2 hat2
              have HP : Hid (ListR w3 w1.heap.size (.slice (some ⟨g2, 0, none⟩) (k + 1) c2) (min (k + 1) N) (put Gl k wr.heap.size) (put Cl k 16) (loneL A x)) := by
                rw [unhide HMN]
                refine hp.congr (fun i hi => ?_)
                rcases Nat.lt_or_ge i k with h | h
                · rw [putL_lt _ _ _ _ h]
                · obtain rfl : i = k := by omega
                  rw [putL_at, loneL, if_neg (unhide HKX)]
              have hb3 : Below w1.heap.size wr w3 := (((Below.refl _ _).alloc hsi _).alloc (by simp; omega) _).grown hgrow2 (by simp; omega) (fun k hk => ((unhide HLI2).own.lt k hk).1)
              have HB3 := hide ((unhide HBI).trans (hb3.mono hsc))
              have HS3 := hide ((unhide HSU2).keep hb3 (fun g hg => by rw [ownBlock_slice] at hg; cases hg; exact hgs2) (fun i hi => unhide HGL i hi))
              have hs3 := hb3.size
              clear hp hb3 hown2 hgrow2 hat2 H5 HLI2 HBU HOB hmk
              go_wp2
              go_roundw
              case rel =>
                refine ⟨k + 1, put Gl k wr.heap.size, put Cl k 16, by omega, by go_num, unhide HB3, by omega, unhide HS3, unhide HP, fun i hi => ?_⟩
                rcases Nat.lt_or_ge i k with h | h
                · rw [put_lt _ _ _ _ h]; exact unhide HGL2 i h
                · obtain rfl : i = k := by omega
                  rw [put_at]; left; omega
              case measure => simp [intOf]; omega
          · have hmin : min k N = min (k + 1) N := by omega
            have e0 : ¬ (k : Int) < (N : Int) := by omega
            have e2 : ((k : Int) == (x : Int)) = false := beq_eq_false_iff_ne.2 (by omega)
            rw [hmin] at HLO2 HGL2
            clear hmin
            go_wp2
            go_roundw
            case rel => exact ⟨k + 1, Gl, Cl, by omega, by go_num, unhide HBI, hsi, unhide HSU2, unhide HLO2, unhide HGL2⟩
            case measure => simp [intOf]; omega
    · obtain rfl : k = N + 2 := by omega
      rw [show min (N + 2) N = N from by omega] at HLO HGL2
      have hcap := own_cap_le (unhide HSU).own
      have hsl1 := (unhide HSU).pre N (by omega)
      have hsumL : colsOf (mixC A Bb (N + 2) 0) N = colsOf (fun i => xorL (A i) (Bb i)) N := by
        unfold colsOf
        apply List.map_congr_left
        intro i hi
        rw [List.mem_range] at hi
        unfold mixC
        rw [if_pos (by omega)]
      rw [hsumL] at hsl1
      have htw := ((unhide HT).below hs2 (unhide HBB)).below (by omega) (unhide HBW)
      have hpa1 := par_any _ (colsOf (fun i => xorL (A i) (Bb i)) N) wr hsl1 (by rw [colsOf_len]; omega) (by rw [colsOf_len]; omega) (colsOf_cols (fun i _ => xorL_col (unhide HCA i) (unhide HCB i))) htw
      rw [colsOf_len] at hpa1
      have HPA := hide hpa1
      have HTW := hide htw
      clear hsl1 hsumL hpa1 htw
      have hcs0 : (0 : Int) ≤ (N : Int) := by omega
      have hcs1 : (N : Int) ≤ (cs : Int) := by omega
      go_wp2_with fail
      refine (unhide HPA).mono ?_
      rintro e w2 ⟨g1, c1, g2, c2, rfl, hg1, hg2, ho1, ho2, hb2⟩
      have hsz2 := hb2.size
      have hlo2 := (unhide HLO).below hb2
      obtain ⟨gl, cl, hule, hgl1, hgl2⟩ := hlo2.own.form (by omega)
      subst hule
      have hpa2 := par_any _ (colsOf (loneL A x) N) w2 (hlo2.slL (by omega)) (by rw [colsOf_len]; omega) (by rw [colsOf_len]; omega) (colsOf_cols hlo2.col) ((unhide HTW).below (unhide HTW).size hb2)
      rw [colsOf_len] at hpa2
      have HPA2 := hide hpa2
      clear hpa2 HPA
      go_wp2_with fail
      refine (unhide HPA2).mono ?_
      rintro e w3 ⟨g3, c3, g4, c4, rfl, hg3, hg4, ho3, ho4, hb3⟩
      have hdA : colsOf A N = datL disks ms1 := by
        unfold colsOf datL
        rw [unhide HN]
        apply List.map_congr_left
        intro i hi
        rw [List.mem_range] at hi
        rw [← unhide HAE, strL, if_pos (by rw [unhide HN]; exact hi)]
      have hdB : colsOf Bb N = datL disks ms2 := by
        unfold colsOf datL
        rw [unhide HN]
        apply List.map_congr_left
        intro i hi
        rw [List.mem_range] at hi
        rw [← unhide HBE, strL, if_pos (by rw [unhide HN]; exact hi)]
      have hAN : A N = parP (colsOf A N) N := by rw [hdA, ← unhide HAE, strL, unhide HN, if_neg (by omega), if_pos rfl]
      have hAN1 : A (N + 1) = parQ (colsOf A N) N := by rw [hdA, ← unhide HAE, strL, unhide HN, if_neg (by omega), if_neg (by omega)]
      have hBN : Bb N = parP (colsOf Bb N) N := by rw [hdB, ← unhide HBE, strL, unhide HN, if_neg (by omega), if_pos rfl]
      have hBN1 : Bb (N + 1) = parQ (colsOf Bb N) N := by rw [hdB, ← unhide HBE, strL, unhide HN, if_neg (by omega), if_neg (by omega)]
      obtain ⟨ha1', ha2'⟩ := par_add (A := A) (Bb := Bb) (n := N) (fun i _ => unhide HCA i) (fun i _ => unhide HCB i) N (Nat.le_refl _)
      rw [← hAN, ← hBN] at ha1'
      rw [← hAN1, ← hBN1] at ha2'
      obtain ⟨hl1', hl2'⟩ := par_lone (A := A) (n := N) (x := x) (unhide HCA x) N (Nat.le_refl _)
      rw [if_pos hxN] at hl1' hl2'
      rw [ha1'] at ho1
      rw [ha2'] at ho2
      rw [hl1'] at ho3
      rw [hl2'] at ho4
      have cP := xorL_col (unhide HCA N) (unhide HCB N)
      have cQ := xorL_col (unhide HCA (N + 1)) (unhide HCB (N + 1))
      have cX := unhide HCA x
      have cY := mulL_col cX (powN x)
      have f1 : Buf w2 g1 (xorL (A N) (Bb N)) := buf_own (base := wr.heap.size) (cap := c1) (by rw [cP.len]; exact ho1)
      have f2 : Buf w2 g2 (xorL (A (N + 1)) (Bb (N + 1))) := buf_own (base := wr.heap.size) (cap := c2) (by rw [cQ.len]; exact ho2)
      have f1' := f1.below hb3 (f1.lt (by rw [cP.len]; omega))
      have f2' := f2.below hb3 (f2.lt (by rw [cQ.len]; omega))
      have f3 : Buf w3 g3 (A x) := buf_own (base := w2.heap.size) (cap := c3) (by rw [cX.len]; exact ho3)
      have f4 : Buf w3 g4 (mulL (A x) (powN x)) := buf_own (base := w2.heap.size) (cap := c4) (by rw [cY.len]; exact ho4)
      have ls3 := ((unhide HSU).below hb2).below hb3
      have hs3 := hb3.size
      have hbw3 : Below wb.heap.size wb w3 := ((unhide HBW).trans (hb2.mono (by omega))).trans (hb3.mono (by omega))
      have la3 := (unhide HLA2).below hbw3
      have m1 : mixC A Bb (N + 2) 0 N = xorL (A N) (Bb N) := by rw [mixC, if_pos (by omega)]
      have m2 : mixC A Bb (N + 2) 0 (N + 1) = xorL (A (N + 1)) (Bb (N + 1)) := by rw [mixC, if_pos (by omega)]
      have f5 := ls3.buf N (by omega)
      rw [m1] at f5
      have f6 := ls3.buf (N + 1) (by omega)
      rw [m2] at f6
      have k5 := ls3.cell N (by omega)
      have k6 := ls3.cell (N + 1) (by omega)
      have kx := la3.cell x (by omega)
      have k0 := la3.cell 0 (by omega)
      have fx := la3.buf x (by omega)
      have f0 := la3.buf 0 (by omega)
      have HBF : Hid (Below w.heap.size w w3) := (unhide HBB).trans (hbw3.mono (by have := (unhide HBB).size; omega))
      clear hdA hdB hAN hAN1 hBN hBN1 ha1' ha2' hl1' hl2' ho1 ho2 ho3 ho4 f1 f2 ls3 la3 m1 m2 hlo2 hb2 hb3 HPA2 HTW HLO HGL2 HSU HBW hbw3
      have F1 := hide f1'
      have F2 := hide f2'
      have F3 := hide f3
      have F4 := hide f4
      have F5 := hide f5
      have F6 := hide f6
      have FX := hide fx
      have F0 := hide f0
      have HcP := hide cP
      have HcQ := hide cQ
      have HcX := hide cX
      have HcY := hide cY
      have K5 := hide k5
      have K6 := hide k6
      have KX := hide kx
      have K0 := hide k0
      clear f1' f2' f3 f4 f5 f6 fx f0 cP cQ cX cY k5 k6 kx k0
      go_wp2
      have hmk := make16
      have kx3 := unhide KX
      have hga4 : ga < w3.heap.size := by omega
      have hx0 : (0 : Int) ≤ (x : Int) := by omega
      have hxI : (x : Int) < (N : Int) + 2 := by omega
      have hgx := (unhide FX).lt (by rw [(unhide HcX).len]; omega)
      have hzb := buf_zero w3
      have hcA : (convert 25 9 (.slice (some ⟨Ga x, 0, none⟩) 16 (Ca x))).run Tryd.prog w3.drew = .ok (.string (strOf (A x))) w3.drew := conv_str ((unhide FX).below (Below.refl _ _).drew hgx) (unhide HcX)
      have hcB : (convert 25 9 (.slice (some ⟨Ga x, 0, none⟩) 16 (Ca x))).run Tryd.prog (w3.alloc (.cells zA 5)).drew = .ok (.string (strOf (A x))) (w3.alloc (.cells zA 5)).drew := conv_str ((unhide FX).below ((Below.refl _ _).alloc (Nat.le_refl _) _).drew hgx) (unhide HcX)
      have hcC : (convert 25 9 (.slice (some ⟨w3.heap.size, 0, none⟩) 16 16)).run Tryd.prog (w3.alloc (.cells zA 5)).drew = .ok (.string (strOf zero16)) (w3.alloc (.cells zA 5)).drew := conv_str (hzb.below (Below.refl ((w3.alloc (.cells zA 5)).heap.size) _).drew (by simp)) zero_col
      clear hzb hgx
      go_region
      clear hcA hcB hcC hmk kx3
      have bw4 : Below w3.heap.size w3 (w3.alloc (.cells zA 5)).drew := ((Below.refl _ _).alloc (Nat.le_refl _) _).drew
      have HB4 : Hid (Below w.heap.size w (w3.alloc (.cells zA 5)).drew) := (unhide HBF).trans (bw4.mono (unhide HBF).size)
      have up : ∀ {g : Nat} {xs : List Nat}, Buf w3 g xs → IsCol xs → Buf (w3.alloc (.cells zA 5)).drew g xs := fun {g xs} h hc => h.below bw4 (h.lt (by rw [hc.len]; omega))
      have F1' := hide (up (unhide F1) (unhide HcP))
      have F2' := hide (up (unhide F2) (unhide HcQ))
      have F3' := hide (up (unhide F3) (unhide HcX))
      have F4' := hide (up (unhide F4) (unhide HcY))
      have F5' := hide (up (unhide F5) (unhide HcP))
      have F6' := hide (up (unhide F6) (unhide HcQ))
      have FX' := hide (up (unhide FX) (unhide HcX))
      have F0' := hide (up (unhide F0) (unhide HCA 0))
      have k5 := (bw4.cell (show gs < w3.heap.size by omega)).trans (unhide K5)
      have k6 := (bw4.cell (show gs < w3.heap.size by omega)).trans (unhide K6)
      have kx := (bw4.cell hga4).trans (unhide KX)
      have k0 := (bw4.cell hga4).trans (unhide K0)
      clear up bw4 F1 F2 F3 F4 F5 F6 FX F0 K5 K6 KX K0 HBF
      generalize (w3.alloc (.cells zA 5)).drew = w4 at *
      have hzb := str_eq (unhide HcX) zero_col
      generalize hzbe : ((strOf (A x)).toList == (strOf zero16).toList) = zb at *
      clear hzbe
      have HZB := hide hzb
      clear hzb
      have up : ∀ {g : Nat} {xs : List Nat} (n : Nat), Buf w4 g xs → IsCol xs → Buf (w4.drewN n) g xs := fun {g xs} n h hc => h.below (below_drewN (Below.refl w4.heap.size w4) n) (h.lt (by rw [hc.len]; omega))
      have gx0 : (0 : Int) < (N : Int) + 2 := by omega
      by_cases hx00 : x = 0
      · subst hx00
        have f4 := unhide F4'
        rw [(mul_fix (unhide HcX) 0 (by omega)).2 (.inl rfl)] at f4
        have hc4 : ∀ n, (convert 25 9 (.slice (some ⟨g4, 0, none⟩) 16 c4)).run Tryd.prog (w4.drewN n) = .ok (.string (strOf (A 0))) (w4.drewN n) := fun n => conv_str (up n f4 (unhide HcX)) (unhide HcX)
        have hc0 : ∀ n, (convert 25 9 (.slice (some ⟨Ga 0, 0, none⟩) 16 (Ca 0))).run Tryd.prog (w4.drewN n) = .ok (.string (strOf (A 0))) (w4.drewN n) := fun n => conv_str (up n (unhide FX') (unhide HcX)) (unhide HcX)
        have hc1 : ∀ n, (convert 25 9 (.slice (some ⟨g1, 0, none⟩) 16 c1)).run Tryd.prog (w4.drewN n) = .ok (.string (strOf (xorL (A N) (Bb N)))) (w4.drewN n) := fun n => conv_str (up n (unhide F1') (unhide HcP)) (unhide HcP)
        have hc2 : ∀ n, (convert 25 9 (.slice (some ⟨g2, 0, none⟩) 16 c2)).run Tryd.prog (w4.drewN n) = .ok (.string (strOf (xorL (A (N + 1)) (Bb (N + 1))))) (w4.drewN n) := fun n => conv_str (up n (unhide F2') (unhide HcQ)) (unhide HcQ)
        have hc3 : ∀ n, (convert 25 9 (.slice (some ⟨g3, 0, none⟩) 16 c3)).run Tryd.prog (w4.drewN n) = .ok (.string (strOf (A 0))) (w4.drewN n) := fun n => conv_str (up n (unhide F3') (unhide HcX)) (unhide HcX)
        have hc5 : ∀ n, (convert 25 9 (.slice (some ⟨Gs N, 0, none⟩) 16 (Cs N))).run Tryd.prog (w4.drewN n) = .ok (.string (strOf (xorL (A N) (Bb N)))) (w4.drewN n) := fun n => conv_str (up n (unhide F5') (unhide HcP)) (unhide HcP)
        have hc6 : ∀ n, (convert 25 9 (.slice (some ⟨Gs (N + 1), 0, none⟩) 16 (Cs (N + 1)))).run Tryd.prog (w4.drewN n) = .ok (.string (strOf (xorL (A (N + 1)) (Bb (N + 1))))) (w4.drewN n) := fun n => conv_str (up n (unhide F6') (unhide HcQ)) (unhide HcQ)
        clear f4 up
        go_wp2
        go_quiet (fail)
        go_wp2
        go_quiet (fail)
        go_wp2
        go_ret
        exact ⟨rfl, below_drewN (below_drewN (unhide HB4) _) _⟩
      · have hxf : ((x : Int) == 0) = false := beq_eq_false_iff_ne.2 (by omega)
        have hsb : ((strOf (mulL (A x) (powN x))).toList == (strOf (A x)).toList) = zb := by
          rw [str_eq (unhide HcY) (unhide HcX), unhide HZB, decide_eq_decide, mul_fix (unhide HcX) x (by omega)]
          constructor
          · rintro (h | h)
            · exact absurd h hx00
            · exact h
          · exact .inr
        have hc4 : ∀ n, (convert 25 9 (.slice (some ⟨g4, 0, none⟩) 16 c4)).run Tryd.prog (w4.drewN n) = .ok (.string (strOf (mulL (A x) (powN x)))) (w4.drewN n) := fun n => conv_str (up n (unhide F4') (unhide HcY)) (unhide HcY)
        have hc0 : ∀ n, (convert 25 9 (.slice (some ⟨Ga x, 0, none⟩) 16 (Ca x))).run Tryd.prog (w4.drewN n) = .ok (.string (strOf (A x))) (w4.drewN n) := fun n => conv_str (up n (unhide FX') (unhide HcX)) (unhide HcX)
        have hc1 : ∀ n, (convert 25 9 (.slice (some ⟨g1, 0, none⟩) 16 c1)).run Tryd.prog (w4.drewN n) = .ok (.string (strOf (xorL (A N) (Bb N)))) (w4.drewN n) := fun n => conv_str (up n (unhide F1') (unhide HcP)) (unhide HcP)
        have hc2 : ∀ n, (convert 25 9 (.slice (some ⟨g2, 0, none⟩) 16 c2)).run Tryd.prog (w4.drewN n) = .ok (.string (strOf (xorL (A (N + 1)) (Bb (N + 1))))) (w4.drewN n) := fun n => conv_str (up n (unhide F2') (unhide HcQ)) (unhide HcQ)
        have hc3 : ∀ n, (convert 25 9 (.slice (some ⟨g3, 0, none⟩) 16 c3)).run Tryd.prog (w4.drewN n) = .ok (.string (strOf (A x))) (w4.drewN n) := fun n => conv_str (up n (unhide F3') (unhide HcX)) (unhide HcX)
        have hc5 : ∀ n, (convert 25 9 (.slice (some ⟨Gs N, 0, none⟩) 16 (Cs N))).run Tryd.prog (w4.drewN n) = .ok (.string (strOf (xorL (A N) (Bb N)))) (w4.drewN n) := fun n => conv_str (up n (unhide F5') (unhide HcP)) (unhide HcP)
        have hc6 : ∀ n, (convert 25 9 (.slice (some ⟨Gs (N + 1), 0, none⟩) 16 (Cs (N + 1)))).run Tryd.prog (w4.drewN n) = .ok (.string (strOf (xorL (A (N + 1)) (Bb (N + 1))))) (w4.drewN n) := fun n => conv_str (up n (unhide F6') (unhide HcQ)) (unhide HcQ)
        clear up hx00
        go_wp2
        go_quiet (fail)
        go_wp2
        go_quiet (fail)
        go_wp2
        go_ret
        exact ⟨rfl, below_drewN (below_drewN (unhide HB4) _) _⟩

end Go.Proofs.YtdcinlkkjbclmabDoor
