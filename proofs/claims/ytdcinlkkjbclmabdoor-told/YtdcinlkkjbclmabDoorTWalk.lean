/- The walk of Told. -/
import Derived.Test.YtdcinlkkjbclmabDoorTMath
import Derived.Test.YtdcinlkkjbclmabDoorLoc
namespace Go.Proofs.YtdcinlkkjbclmabDoor
open Go.RowKit

theorem tdiv_bd (a n : Int) (h1 : -9223372036854775808 ≤ a) (h2 : a ≤ 9223372036854775807) (hn : 2 ≤ n) : -9223372036854775808 ≤ a.tdiv n ∧ a.tdiv n ≤ 9223372036854775807 := by
  have h3 : (a.tdiv n).natAbs ≤ a.natAbs / 2 := by rw [Int.natAbs_tdiv]; exact Nat.div_le_div_left (by omega) (by omega)
  omega
theorem tdiv_wrap (a n : Int) (h1 : -9223372036854775808 ≤ a) (h2 : a ≤ 9223372036854775807) (hn : 2 ≤ n) : IntKind.i64.wrap (a.tdiv n) = a.tdiv n := by
  have := tdiv_bd a n h1 h2 hn
  rw [IntKind.wrap_i64]
  omega

set_option maxRecDepth 100000 in
set_option maxHeartbeats 2000000 in
theorem told_any (disks a b place by' : Int) (v1 : Value) (ms1 : List Int) (w : World) (hv1 : SlI w v1 ms1) (hl1 : ms1.length ≤ 9223372036854775807)
    (hd1 : -9223372036854775808 ≤ disks) (hd2 : disks ≤ 9223372036854775807) (ha1 : -9223372036854775808 ≤ a) (ha2 : a ≤ 9223372036854775807) (hb1 : -9223372036854775808 ≤ b) (hb2 : b ≤ 9223372036854775807)
    (hp1 : -9223372036854775808 ≤ place) (hp2 : place ≤ 9223372036854775807) (hy1 : -9223372036854775808 ≤ by') (hy2 : by' ≤ 9223372036854775807) (ht : Tabs w) :
    Calls Tryd.prog 3 #[.int .i64 disks, v1, .int .i64 a, .int .i64 b, .int .i64 place, .int .i64 by'] w fun e w' => e = .returned (.bool true) ∧ Below w.heap.size w w' := by
  obtain ⟨hN1, hN2⟩ := nOf_bd disks
  have hs2 := ht.size
  have HT := hide ht
  have HV1 := hide hv1
  clear ht hv1
  go_enter Tryd.func3, Tryd.ntmps3
  go_wp2_with fail
  refine (stripe_any disks v1 ms1 _ (unhide HV1) hl1 hd1 hd2 (unhide HT)).mono ?_
  rintro e wa ⟨va, Ga, Ca, rfl, hla, hba⟩
  obtain ⟨ga, ca, hvae, hga, hga2⟩ := hla.own.form (by omega)
  subst hvae
  have hcode := strL_code disks ms1
  generalize hA : strL disks ms1 = A at *
  generalize hN : nOf disks = N at *
  have hn1 := fun (w' : World) => Lib.run_eql_slice_nil (P := Tryd.prog) w' 23 25 (some ⟨ga, 0, none⟩) (N + 2) ca 0 0 Tryd.underlying23
  have hsa := hba.size
  have hta := (unhide HT).below hs2 hba
  have hlc := loc_any (.slice (some ⟨ga, 0, none⟩) (N + 2) ca) (colsOf A (N + 2)) wa (hla.slL (by omega)) (by rw [colsOf_len]; omega) (by rw [colsOf_len]; omega) (colsOf_cols (fun i _ => hcode.col i)) hta
  rw [colsOf_len] at hlc
  have HLC := hide hlc
  have HLA := hide hla
  have HBA := hide hba
  have HCO := hide hcode
  have HTA := hide hta
  clear hlc hla hba hcode hta HT HV1 hA hN
  go_wp2_with fail
  refine (unhide HLC).mono ?_
  rintro e wb ⟨vd, at', val, hloc, hval, hbb, hres⟩
  have hv0 := loc_clean (unhide HCO) (by rw [show N + 2 - 2 = N from by omega] at hloc; exact hloc)
  subst hv0
  rcases hres with ⟨_, rfl⟩ | ⟨h, _⟩
  rotate_left
  · exact absurd h (by omega)
  have hsb := hbb.size
  have HLB := hide ((unhide HLA).below hbb)
  have HBB := hide ((unhide HBA).trans (hbb.mono hsa))
  have HTB := hide ((unhide HTA).below (by omega) hbb)
  clear hloc hval hbb HLC HLA HBA HTA
  obtain ⟨px1, px2⟩ := pickAt_bd a ((N : Int) + 2) (by omega)
  obtain ⟨x, hx⟩ := Int.eq_ofNat_of_zero_le px1
  have hxN : x < N + 2 := by omega
  obtain ⟨pk1, pk2⟩ := pickAt_bd place 16 (by omega)
  obtain ⟨k, hk⟩ := Int.eq_ofNat_of_zero_le pk1
  have hk16 : k < 16 := by omega
  obtain ⟨pd1, pd2⟩ := pickAt_bd by' 255 (by omega)
  obtain ⟨d, hd⟩ := Int.eq_ofNat_of_zero_le pd1
  have hd255 : d < 255 := by omega
  go_wp2_with fail
  refine (pick_any _ _ _ (by omega) ha1 ha2 (by omega)).mono ?_
  rintro e w1 ⟨rfl, rfl⟩
  rw [hx]
  go_wp2_with fail
  refine (pick_any _ _ _ (by omega) hp1 hp2 (by omega)).mono ?_
  rintro e w2 ⟨rfl, rfl⟩
  rw [hk]
  go_wp2_with fail
  refine (pick_any _ _ _ (by omega) hy1 hy2 (by omega)).mono ?_
  rintro e w3 ⟨rfl, rfl⟩
  rw [hd]
  have hcp := copied_any (.slice (some ⟨ga, 0, none⟩) (N + 2) ca) (colsOf A (N + 2)) w3 ((unhide HLB).slL (by omega)) (colsOf_cols (fun i _ => (unhide HCO).col i)) (by rw [colsOf_len]; omega) (by rw [colsOf_len]; omega)
  rw [colsOf_len] at hcp
  have HCP := hide hcp
  clear hcp hx px1 px2 hk pk1 pk2 hd pd1 pd2
  go_wp2_with fail
  refine (unhide HCP).mono ?_
  rintro e wc ⟨vs, Gs, Cs, rfl, hls, hge, hinj, hbc⟩
  obtain ⟨gs, cs, hvse, hgs, hgs2⟩ := hls.own.form (by omega)
  subst hvse
  have hls' := hls.congr (L' := A) (fun i hi => colsOf_at A (N + 2) i hi)
  have hsc := hbc.size
  have q1 := hls'.cell x hxN
  have q2 := (hls'.buf x hxN).cell k (by rw [(hls'.col x hxN).len]; exact hk16)
  have q3 := (hls'.buf x hxN).frozen k (by rw [(hls'.col x hxN).len]; exact hk16)
  have xa := ((unhide HCO).col x).at k hk16
  have HX : Hid (bits BinOp.xor IntKind.u8 (((A x).getD k 0 : Nat) : Int) (1 + (d : Int)) = (((A x).getD k 0 ^^^ (d + 1) : Nat) : Int)) := by
    rw [show (1 : Int) + (d : Int) = ((d + 1 : Nat) : Int) from by omega]
    exact u8_xor_nat ((A x).getD k 0) (d + 1) xa (by omega)
  have hwr := hls'.write (L' := fun m => xorL (A m) (errL x k (d + 1) m)) hinj x k ((A x).getD k 0 ^^^ (d + 1)) hxN hk16 (Nat.xor_lt_two_pow (n := 8) xa (by omega)) (fun m _ => by
    unfold errL loneL
    by_cases e : m = x
    · subst e; rw [if_pos rfl, if_pos rfl, set_delta ((unhide HCO).col m).len k _ hk16]
    · rw [if_neg e, if_neg e, xorL_zero' ((unhide HCO).col m).len])
  have HWR := hide hwr
  have HIN := hide hinj
  have HGE := hide hge
  have HBC := hide hbc
  have hxI : (x : Int) < (N : Int) + 2 := by omega
  have hx0 : (0 : Int) ≤ (x : Int) := by omega
  have hkI : (k : Int) < 16 := by omega
  have hk0 : (0 : Int) ≤ (k : Int) := by omega
  clear hwr hinj hge hbc hls hls' HCP hn1
  obtain ⟨ya, hya⟩ : ∃ ya, (A x).getD k 0 = ya := ⟨_, rfl⟩
  rw [hya] at q2 HX HWR
  go_wp2
  go_region
  rw [unhide HX]
  have hbd : Below w3.heap.size w3 ((wc.setCell ⟨Gs x, k, none⟩ (Value.int IntKind.u8 ((ya ^^^ (d + 1) : Nat) : Int))).drew) := ((unhide HBC).setCell (p := ⟨Gs x, k, none⟩) (unhide HGE x hxN) _).drew
  have hld := (unhide HWR).below (Below.refl (wc.setCell ⟨Gs x, k, none⟩ (Value.int IntKind.u8 ((ya ^^^ (d + 1) : Nat) : Int))).heap.size _).drew
  have hsd : wc.heap.size ≤ ((wc.setCell ⟨Gs x, k, none⟩ (Value.int IntKind.u8 ((ya ^^^ (d + 1) : Nat) : Int))).drew).heap.size := by simp
  clear HX HWR HBC q1 q2 q3 xa hya
  generalize (wc.setCell ⟨Gs x, k, none⟩ (Value.int IntKind.u8 ((ya ^^^ (d + 1) : Nat) : Int))).drew = wd at *
  have hL1 : ∀ i, IsCol (xorL (A i) (errL x k (d + 1) i)) := fun i => xorL_col ((unhide HCO).col i) (err_col x k (d + 1) i (by omega))
  have hlc2 := loc_any (.slice (some ⟨gs, 0, none⟩) (N + 2) cs) (colsOf (fun i => xorL (A i) (errL x k (d + 1) i)) (N + 2)) wd (hld.slL (by omega)) (by rw [colsOf_len]; omega) (by rw [colsOf_len]; omega) (colsOf_cols (fun i _ => hL1 i)) ((unhide HTB).below (by omega) hbd)
  rw [colsOf_len] at hlc2
  have HLC := hide hlc2
  have HLD := hide hld
  have HBD := hide hbd
  have HL1 := hide hL1
  clear hlc2 hld hbd hL1
  go_wp2_with fail
  refine (unhide HLC).mono ?_
  rintro e we ⟨vd, at2, val2, hloc, hval, hbe, hres⟩
  obtain ⟨hv1, hat, hvl⟩ := loc_one (unhide HCO) hN2 x k (d + 1) hxN hk16 (by omega) (by omega) (by rw [show N + 2 - 2 = N from by omega] at hloc; exact hloc)
  subst hv1 hat hvl
  rcases hres with ⟨h, _⟩ | ⟨_, g1, c1, rfl, ho1⟩
  · exact absurd rfl h
  have hse := hbe.size
  have cX := (unhide HCO).col x
  have f1 : Buf we g1 (A x) := buf_own (base := wd.heap.size) (cap := c1) (by rw [cX.len]; exact ho1)
  have hle := ((unhide HLD)).below hbe
  have hbe3 : Below w3.heap.size w3 we := (unhide HBD).trans (hbe.mono (by omega))
  have hla3 := (unhide HLB).below hbe3
  have kx := hla3.cell x hxN
  have fx := hla3.buf x hxN
  have hc1 : ∀ n, (convert 25 9 (.slice (some ⟨g1, 0, none⟩) 16 c1)).run Tryd.prog (we.drewN n) = .ok (.string (strOf (A x))) (we.drewN n) := fun n => conv_str (f1.below (below_drewN (Below.refl we.heap.size we) n) (f1.lt (by rw [cX.len]; omega))) cX
  have hc2 : ∀ n, (convert 25 9 (.slice (some ⟨Ga x, 0, none⟩) 16 (Ca x))).run Tryd.prog (we.drewN n) = .ok (.string (strOf (A x))) (we.drewN n) := fun n => conv_str (fx.below (below_drewN (Below.refl we.heap.size we) n) (fx.lt (by rw [cX.len]; omega))) cX
  have HLE := hide hle
  have HBE := hide hbe3
  clear hloc hval hbe ho1 f1 fx hle hbe3 hla3 HLC HLD HBD cX
  go_wp2
  go_quiet (fail)
  have bf : Below we.heap.size we (we.drewN nq) := below_drewN (Below.refl we.heap.size we) nq
  have HLF := hide ((unhide HLE).below bf)
  have HBF := hide ((unhide HBE).trans (bf.mono (by omega)))
  have hsf := bf.size
  clear bf HLE HBE kx hc1 hc2
  generalize we.drewN nq = wf at *
  obtain ⟨py1, py2⟩ := pickAt_bd b ((N : Int) + 2) (by omega)
  obtain ⟨y, hy⟩ := Int.eq_ofNat_of_zero_le py1
  have hyN : y < N + 2 := by omega
  go_wp2_with fail
  refine (pick_any _ _ _ (by omega) hb1 hb2 (by omega)).mono ?_
  rintro e w4 ⟨rfl, rfl⟩
  rw [hy]
  clear hy py1 py2
  by_cases hxy : x = y
  · have e1 : ((x : Int) == (y : Int)) = true := by rw [hxy]; simp
    have HXY := hide hxy
    clear hxy
    go_wp2
    clear e1
    obtain ⟨z, hz, hzN, hzx⟩ : ∃ z : Nat, ((x : Int) + 1) % ((N : Int) + 2) = (z : Int) ∧ z < N + 2 ∧ ¬ x = z := by
      rcases Nat.lt_or_ge (x + 1) (N + 2) with h | h
      · exact ⟨x + 1, by rw [Int.emod_eq_of_lt (by omega) (by omega)]; omega, h, by omega⟩
      · exact ⟨0, by rw [show (x : Int) + 1 = (N : Int) + 2 from by omega, Int.emod_self]; rfl, by omega, by omega⟩
    rw [hz]
    clear HXY hz
    have HXY := hide hzx
    clear hzx
    have hkey := (unhide HLF).cell z hzN
    obtain ⟨pj1, pj2⟩ := pickAt_bd (place.tdiv 16) 16 (by omega)
    obtain ⟨j, hj⟩ := Int.eq_ofNat_of_zero_le pj1
    have hj16 : j < 16 := by omega
    obtain ⟨pc1, pc2⟩ := pickAt_bd (by'.tdiv 255) 255 (by omega)
    obtain ⟨c, hc⟩ := Int.eq_ofNat_of_zero_le pc1
    have hc255 : c < 255 := by omega
    have hjI : (j : Int) < 16 := by omega
    have hj0 : (0 : Int) ≤ (j : Int) := by omega
    have hyI : (z : Int) < (N : Int) + 2 := by omega
    have hy0 : (0 : Int) ≤ (z : Int) := by omega
    have q2 := ((unhide HLF).buf z hzN).cell j (by rw [((unhide HLF).col z hzN).len]; exact hj16)
    have q3 := ((unhide HLF).buf z hzN).frozen j (by rw [((unhide HLF).col z hzN).len]; exact hj16)
    have xb := (unhide HL1 z).at j hj16
    have HX : Hid (bits BinOp.xor IntKind.u8 (((xorL (A z) (errL x k (d + 1) z)).getD j 0 : Nat) : Int) (1 + (c : Int)) = (((xorL (A z) (errL x k (d + 1) z)).getD j 0 ^^^ (c + 1) : Nat) : Int)) := by
      rw [show (1 : Int) + (c : Int) = ((c + 1 : Nat) : Int) from by omega]
      exact u8_xor_nat _ (c + 1) xb (by omega)
    have hwr := (unhide HLF).write (L' := fun m => xorL (xorL (A m) (errL x k (d + 1) m)) (errL z j (c + 1) m)) (unhide HIN) z j ((xorL (A z) (errL x k (d + 1) z)).getD j 0 ^^^ (c + 1)) hzN hj16 (Nat.xor_lt_two_pow (n := 8) xb (by omega)) (fun m _ => by
      have e0 : errL z j (c + 1) m = if m = z then deltaL j (c + 1) else zero16 := rfl
      rw [e0]
      by_cases e : m = z
      · subst e; rw [if_pos rfl, if_pos rfl, set_delta (unhide HL1 m).len j _ hj16]
      · rw [if_neg e, if_neg e, xorL_zero' (unhide HL1 m).len])
    have HWR := hide hwr
    have HLF2 := hide HLF
    clear hwr HLF xb
    generalize (xorL (A z) (errL x k (d + 1) z)).getD j 0 = yb at *
    refine wp_region_noPanic ?_
    refine orders_begin 23 (fun w' => w' = w4.drew) (by kernel_rfl) ?_
    refine orders_take 0 (some 117) (v := .slice (some ⟨gs, 0, none⟩) (N + 2) cs) rfl (by kernel_rfl) (by kernel_rfl) (by kernel_rfl) (by kernel_rfl) (fun _ _ _ h => h) (Or.inl ⟨by rfl, fun _ _ => rfl⟩) rfl rfl ?_
    simp only [Act.put, List.setIfInBounds_toArray, List.set_cons_zero, List.set_cons_succ]
    refine orders_take 1 (some 118) (v := .int .i64 z) rfl (by kernel_rfl) (by kernel_rfl) (by kernel_rfl) (by kernel_rfl) (fun _ _ _ h => h) (Or.inl ⟨by rfl, fun _ _ => rfl⟩) rfl rfl ?_
    simp only [Act.put, List.setIfInBounds_toArray, List.set_cons_zero, List.set_cons_succ]
    refine orders_take 2 (some 119) (v := .pointer (some ⟨gs, z, none⟩)) rfl (by kernel_rfl) (by kernel_rfl) (by kernel_rfl) (by kernel_rfl) (fun _ _ _ h => h) (Or.inl ⟨by rfl, fun w' hw' => by subst hw'; go_simp⟩) rfl rfl ?_
    simp only [Act.put, List.setIfInBounds_toArray, List.set_cons_zero, List.set_cons_succ]
    refine orders_take 3 (some 120) (v := .slice (some ⟨Gs z, 0, none⟩) 16 (Cs z)) rfl (by kernel_rfl) (by kernel_rfl) (by kernel_rfl) (by kernel_rfl) (fun _ _ _ h => h) (Or.inl ⟨by rfl, fun w' hw' => by subst hw'; go_simp⟩) rfl rfl ?_
    simp only [Act.put, List.setIfInBounds_toArray, List.set_cons_zero, List.set_cons_succ]
    refine orders_take 4 (some 121) (v := .int .i64 place) rfl (by kernel_rfl) (by kernel_rfl) (by kernel_rfl) (by kernel_rfl) (fun _ _ _ h => h) (Or.inl ⟨by rfl, fun _ _ => rfl⟩) rfl rfl ?_
    simp only [Act.put, List.setIfInBounds_toArray, List.set_cons_zero, List.set_cons_succ]
    refine orders_take 5 (some 122) (v := .int .i64 (place.tdiv 16)) rfl (by kernel_rfl) (by kernel_rfl) (by kernel_rfl) (by kernel_rfl) (fun _ _ _ h => h) (Or.inl ⟨by rfl, fun w' hw' => by subst hw'; go_simp; rw [tdiv_wrap place 16 hp1 hp2 (by omega)]⟩) rfl rfl ?_
    simp only [Act.put, List.setIfInBounds_toArray, List.set_cons_zero, List.set_cons_succ]
    refine orders_take 7 (some 124) (v := .slice (some ⟨gs, 0, none⟩) (N + 2) cs) rfl (by kernel_rfl) (by kernel_rfl) (by kernel_rfl) (by kernel_rfl) (fun _ _ _ h => h) (Or.inl ⟨by rfl, fun _ _ => rfl⟩) rfl rfl ?_
    simp only [Act.put, List.setIfInBounds_toArray, List.set_cons_zero, List.set_cons_succ]
    refine orders_take 8 (some 125) (v := .int .i64 z) rfl (by kernel_rfl) (by kernel_rfl) (by kernel_rfl) (by kernel_rfl) (fun _ _ _ h => h) (Or.inl ⟨by rfl, fun _ _ => rfl⟩) rfl rfl ?_
    simp only [Act.put, List.setIfInBounds_toArray, List.set_cons_zero, List.set_cons_succ]
    refine orders_take 9 (some 126) (v := .pointer (some ⟨gs, z, none⟩)) rfl (by kernel_rfl) (by kernel_rfl) (by kernel_rfl) (by kernel_rfl) (fun _ _ _ h => h) (Or.inl ⟨by rfl, fun w' hw' => by subst hw'; go_simp⟩) rfl rfl ?_
    simp only [Act.put, List.setIfInBounds_toArray, List.set_cons_zero, List.set_cons_succ]
    refine orders_take 10 (some 127) (v := .slice (some ⟨Gs z, 0, none⟩) 16 (Cs z)) rfl (by kernel_rfl) (by kernel_rfl) (by kernel_rfl) (by kernel_rfl) (fun _ _ _ h => h) (Or.inl ⟨by rfl, fun w' hw' => by subst hw'; go_simp⟩) rfl rfl ?_
    simp only [Act.put, List.setIfInBounds_toArray, List.set_cons_zero, List.set_cons_succ]
    refine orders_take 11 (some 128) (v := .int .i64 place) rfl (by kernel_rfl) (by kernel_rfl) (by kernel_rfl) (by kernel_rfl) (fun _ _ _ h => h) (Or.inl ⟨by rfl, fun _ _ => rfl⟩) rfl rfl ?_
    simp only [Act.put, List.setIfInBounds_toArray, List.set_cons_zero, List.set_cons_succ]
    refine orders_take 12 (some 129) (v := .int .i64 (place.tdiv 16)) rfl (by kernel_rfl) (by kernel_rfl) (by kernel_rfl) (by kernel_rfl) (fun _ _ _ h => h) (Or.inl ⟨by rfl, fun w' hw' => by subst hw'; go_simp; rw [tdiv_wrap place 16 hp1 hp2 (by omega)]⟩) rfl rfl ?_
    simp only [Act.put, List.setIfInBounds_toArray, List.set_cons_zero, List.set_cons_succ]
    refine orders_take 16 (some 133) (v := .int .i64 by') rfl (by kernel_rfl) (by kernel_rfl) (by kernel_rfl) (by kernel_rfl) (fun _ _ _ h => h) (Or.inl ⟨by rfl, fun _ _ => rfl⟩) rfl rfl ?_
    simp only [Act.put, List.setIfInBounds_toArray, List.set_cons_zero, List.set_cons_succ]
    refine orders_take 17 (some 134) (v := .int .i64 (by'.tdiv 255)) rfl (by kernel_rfl) (by kernel_rfl) (by kernel_rfl) (by kernel_rfl) (fun _ _ _ h => h) (Or.inl ⟨by rfl, fun w' hw' => by subst hw'; go_simp; rw [tdiv_wrap by' 255 hy1 hy2 (by omega)]⟩) rfl rfl ?_
    simp only [Act.put, List.setIfInBounds_toArray, List.set_cons_zero, List.set_cons_succ]
    refine orders_one 6 (by kernel_rfl) rfl (by rfl) (fun K hK => ?_)
    go_simp
    refine (pick_any _ _ _ (by omega) (tdiv_bd place 16 hp1 hp2 (by omega)).1 (tdiv_bd place 16 hp1 hp2 (by omega)).2 (by omega)).mono ?_
    rintro e w5 ⟨rfl, rfl⟩
    rw [hj]
    refine hK.out _ _ (fun _ => rfl) ?_
    clear hK K
    refine orders_one 13 (by kernel_rfl) rfl (by rfl) (fun K hK => ?_)
    go_simp
    refine (pick_any _ _ _ (by omega) (tdiv_bd place 16 hp1 hp2 (by omega)).1 (tdiv_bd place 16 hp1 hp2 (by omega)).2 (by omega)).mono ?_
    rintro e w5 ⟨rfl, rfl⟩
    rw [hj]
    refine hK.out _ _ (fun _ => rfl) ?_
    clear hK K
    refine orders_take 14 (some 131) (v := .pointer (some ⟨Gs z, j, none⟩)) rfl (by kernel_rfl) (by kernel_rfl) (by kernel_rfl) (by kernel_rfl) (fun _ _ _ h => h) (Or.inl ⟨by rfl, fun w' hw' => by subst hw'; go_simp⟩) rfl rfl ?_
    simp only [Act.put, List.setIfInBounds_toArray, List.set_cons_zero, List.set_cons_succ]
    refine orders_take 15 (some 132) (v := .int .u8 yb) rfl (by kernel_rfl) (by kernel_rfl) (by kernel_rfl) (by kernel_rfl) (fun _ _ _ h => h) (Or.inl ⟨by rfl, fun w' hw' => by subst hw'; go_simp⟩) rfl rfl ?_
    simp only [Act.put, List.setIfInBounds_toArray, List.set_cons_zero, List.set_cons_succ]
    refine orders_one 18 (by kernel_rfl) rfl (by rfl) (fun K hK => ?_)
    go_simp
    refine (pick_any _ _ _ (by omega) (tdiv_bd by' 255 hy1 hy2 (by omega)).1 (tdiv_bd by' 255 hy1 hy2 (by omega)).2 (by omega)).mono ?_
    rintro e w5 ⟨rfl, rfl⟩
    rw [hc]
    refine hK.out _ _ (fun _ => rfl) ?_
    clear hK K
    refine orders_take 19 (some 136) (v := .int .i64 (1 + c)) rfl (by kernel_rfl) (by kernel_rfl) (by kernel_rfl) (by kernel_rfl) (fun _ _ _ h => h) (Or.inl ⟨by rfl, fun w' hw' => by subst hw'; go_simp; rw [IntKind.wrap_i64]; omega⟩) rfl rfl ?_
    simp only [Act.put, List.setIfInBounds_toArray, List.set_cons_zero, List.set_cons_succ]
    refine orders_take 20 (some 137) (v := .int .u8 (1 + c)) rfl (by kernel_rfl) (by kernel_rfl) (by kernel_rfl) (by kernel_rfl) (fun _ _ _ h => h) (Or.inl ⟨by rfl, fun w' hw' => by subst hw'; go_simp; rw [IntKind.wrap_u8']; omega⟩) rfl rfl ?_
    simp only [Act.put, List.setIfInBounds_toArray, List.set_cons_zero, List.set_cons_succ]
    refine orders_take 21 (some 138) (v := .int .u8 ((yb ^^^ (c + 1) : Nat) : Int)) rfl (by kernel_rfl) (by kernel_rfl) (by kernel_rfl) (by kernel_rfl) (fun _ _ _ h => h) (Or.inl ⟨by rfl, fun w' hw' => by subst hw'; go_simp; rw [unhide HX]⟩) rfl rfl ?_
    simp only [Act.put, List.setIfInBounds_toArray, List.set_cons_zero, List.set_cons_succ]
    refine orders_take 22 (some 139) (v := .pointer (some ⟨Gs z, j, none⟩)) rfl (by kernel_rfl) (by kernel_rfl) (by kernel_rfl) (by kernel_rfl) (fun _ _ _ h => h) (Or.inl ⟨by rfl, fun w' hw' => by subst hw'; go_simp⟩) rfl rfl ?_
    simp only [Act.put, List.setIfInBounds_toArray, List.set_cons_zero, List.set_cons_succ]
    refine orders_one 23 (by kernel_rfl) rfl (by rfl) (fun K hK => ?_)
    go_simp
    refine hK.out _ _ (fun h => absurd rfl h) ?_
    clear hK K
    refine orders_end (by kernel_rfl) ?_
    refine NoPanic.normal ?_
    have hbg : Below w3.heap.size w3 ((w4.setCell ⟨Gs z, j, none⟩ (Value.int IntKind.u8 ((yb ^^^ (c + 1) : Nat) : Int))).drew) := ((unhide HBF).setCell (p := ⟨Gs z, j, none⟩) (unhide HGE z hzN) _).drew
    have hlg := (unhide HWR).below (Below.refl (w4.setCell ⟨Gs z, j, none⟩ (Value.int IntKind.u8 ((yb ^^^ (c + 1) : Nat) : Int))).heap.size _).drew
    have hsg : w4.heap.size ≤ ((w4.setCell ⟨Gs z, j, none⟩ (Value.int IntKind.u8 ((yb ^^^ (c + 1) : Nat) : Int))).drew).heap.size := by simp
    clear HX HWR HBF HLF2 q2 q3 hkey hj pj1 pj2 hc pc1 pc2
    generalize (w4.setCell ⟨Gs z, j, none⟩ (Value.int IntKind.u8 ((yb ^^^ (c + 1) : Nat) : Int))).drew = wg at *
    have hlc3 := loc_any (.slice (some ⟨gs, 0, none⟩) (N + 2) cs) (colsOf (fun i => xorL (xorL (A i) (errL x k (d + 1) i)) (errL z j (c + 1) i)) (N + 2)) wg (hlg.slL (by omega)) (by rw [colsOf_len]; omega) (by rw [colsOf_len]; omega) (colsOf_cols (fun i _ => xorL_col (unhide HL1 i) (err_col z j (c + 1) i (by omega)))) ((unhide HTB).below (by omega) hbg)
    rw [colsOf_len] at hlc3
    have HLC := hide hlc3
    have HBG := hide hbg
    clear hlc3 hlg hbg
    go_wp2_with fail
    refine (unhide HLC).mono ?_
    rintro e wh ⟨vd, at3, val3, hloc, _, hbh, hres⟩
    have hv0 := loc_two (unhide HCO) hN2 x k (d + 1) z j (c + 1) hxN hk16 (by omega) (by omega) hzN hj16 (by omega) (by omega) (unhide HXY) (by rw [show N + 2 - 2 = N from by omega] at hloc; exact hloc)
    have HBH : Hid (Below w.heap.size w wh) := (unhide HBB).trans (((unhide HBG).trans (hbh.mono (by omega))).mono (by omega))
    clear hloc hbh HLC HBG
    rcases hres with ⟨_, rfl⟩ | ⟨rfl, g3, c3, rfl, _⟩
    · have hb0 : (vd != 0) = true := by rw [bne_iff_ne]; exact hv0
      clear hv0
      go_wp2
      go_ret
      exact ⟨rfl, unhide HBH⟩
    · clear hv0
      go_wp2
      go_ret
      exact ⟨rfl, unhide HBH⟩
  · have e1 : ((x : Int) == (y : Int)) = false := beq_eq_false_iff_ne.2 (by omega)
    have HXY := hide hxy
    clear hxy
    go_wp2
    clear e1
    have hkey := (unhide HLF).cell y hyN
    obtain ⟨pj1, pj2⟩ := pickAt_bd (place.tdiv 16) 16 (by omega)
    obtain ⟨j, hj⟩ := Int.eq_ofNat_of_zero_le pj1
    have hj16 : j < 16 := by omega
    obtain ⟨pc1, pc2⟩ := pickAt_bd (by'.tdiv 255) 255 (by omega)
    obtain ⟨c, hc⟩ := Int.eq_ofNat_of_zero_le pc1
    have hc255 : c < 255 := by omega
    have hjI : (j : Int) < 16 := by omega
    have hj0 : (0 : Int) ≤ (j : Int) := by omega
    have hyI : (y : Int) < (N : Int) + 2 := by omega
    have hy0 : (0 : Int) ≤ (y : Int) := by omega
    have q2 := ((unhide HLF).buf y hyN).cell j (by rw [((unhide HLF).col y hyN).len]; exact hj16)
    have q3 := ((unhide HLF).buf y hyN).frozen j (by rw [((unhide HLF).col y hyN).len]; exact hj16)
    have xb := (unhide HL1 y).at j hj16
    have HX : Hid (bits BinOp.xor IntKind.u8 (((xorL (A y) (errL x k (d + 1) y)).getD j 0 : Nat) : Int) (1 + (c : Int)) = (((xorL (A y) (errL x k (d + 1) y)).getD j 0 ^^^ (c + 1) : Nat) : Int)) := by
      rw [show (1 : Int) + (c : Int) = ((c + 1 : Nat) : Int) from by omega]
      exact u8_xor_nat _ (c + 1) xb (by omega)
    have hwr := (unhide HLF).write (L' := fun m => xorL (xorL (A m) (errL x k (d + 1) m)) (errL y j (c + 1) m)) (unhide HIN) y j ((xorL (A y) (errL x k (d + 1) y)).getD j 0 ^^^ (c + 1)) hyN hj16 (Nat.xor_lt_two_pow (n := 8) xb (by omega)) (fun m _ => by
      have e0 : errL y j (c + 1) m = if m = y then deltaL j (c + 1) else zero16 := rfl
      rw [e0]
      by_cases e : m = y
      · subst e; rw [if_pos rfl, if_pos rfl, set_delta (unhide HL1 m).len j _ hj16]
      · rw [if_neg e, if_neg e, xorL_zero' (unhide HL1 m).len])
    have HWR := hide hwr
    have HLF2 := hide HLF
    clear hwr HLF xb
    generalize (xorL (A y) (errL x k (d + 1) y)).getD j 0 = yb at *
    refine wp_region_noPanic ?_
    refine orders_begin 23 (fun w' => w' = w4.drew) (by kernel_rfl) ?_
    refine orders_take 0 (some 117) (v := .slice (some ⟨gs, 0, none⟩) (N + 2) cs) rfl (by kernel_rfl) (by kernel_rfl) (by kernel_rfl) (by kernel_rfl) (fun _ _ _ h => h) (Or.inl ⟨by rfl, fun _ _ => rfl⟩) rfl rfl ?_
    simp only [Act.put, List.setIfInBounds_toArray, List.set_cons_zero, List.set_cons_succ]
    refine orders_take 1 (some 118) (v := .int .i64 y) rfl (by kernel_rfl) (by kernel_rfl) (by kernel_rfl) (by kernel_rfl) (fun _ _ _ h => h) (Or.inl ⟨by rfl, fun _ _ => rfl⟩) rfl rfl ?_
    simp only [Act.put, List.setIfInBounds_toArray, List.set_cons_zero, List.set_cons_succ]
    refine orders_take 2 (some 119) (v := .pointer (some ⟨gs, y, none⟩)) rfl (by kernel_rfl) (by kernel_rfl) (by kernel_rfl) (by kernel_rfl) (fun _ _ _ h => h) (Or.inl ⟨by rfl, fun w' hw' => by subst hw'; go_simp⟩) rfl rfl ?_
    simp only [Act.put, List.setIfInBounds_toArray, List.set_cons_zero, List.set_cons_succ]
    refine orders_take 3 (some 120) (v := .slice (some ⟨Gs y, 0, none⟩) 16 (Cs y)) rfl (by kernel_rfl) (by kernel_rfl) (by kernel_rfl) (by kernel_rfl) (fun _ _ _ h => h) (Or.inl ⟨by rfl, fun w' hw' => by subst hw'; go_simp⟩) rfl rfl ?_
    simp only [Act.put, List.setIfInBounds_toArray, List.set_cons_zero, List.set_cons_succ]
    refine orders_take 4 (some 121) (v := .int .i64 place) rfl (by kernel_rfl) (by kernel_rfl) (by kernel_rfl) (by kernel_rfl) (fun _ _ _ h => h) (Or.inl ⟨by rfl, fun _ _ => rfl⟩) rfl rfl ?_
    simp only [Act.put, List.setIfInBounds_toArray, List.set_cons_zero, List.set_cons_succ]
    refine orders_take 5 (some 122) (v := .int .i64 (place.tdiv 16)) rfl (by kernel_rfl) (by kernel_rfl) (by kernel_rfl) (by kernel_rfl) (fun _ _ _ h => h) (Or.inl ⟨by rfl, fun w' hw' => by subst hw'; go_simp; rw [tdiv_wrap place 16 hp1 hp2 (by omega)]⟩) rfl rfl ?_
    simp only [Act.put, List.setIfInBounds_toArray, List.set_cons_zero, List.set_cons_succ]
    refine orders_take 7 (some 124) (v := .slice (some ⟨gs, 0, none⟩) (N + 2) cs) rfl (by kernel_rfl) (by kernel_rfl) (by kernel_rfl) (by kernel_rfl) (fun _ _ _ h => h) (Or.inl ⟨by rfl, fun _ _ => rfl⟩) rfl rfl ?_
    simp only [Act.put, List.setIfInBounds_toArray, List.set_cons_zero, List.set_cons_succ]
    refine orders_take 8 (some 125) (v := .int .i64 y) rfl (by kernel_rfl) (by kernel_rfl) (by kernel_rfl) (by kernel_rfl) (fun _ _ _ h => h) (Or.inl ⟨by rfl, fun _ _ => rfl⟩) rfl rfl ?_
    simp only [Act.put, List.setIfInBounds_toArray, List.set_cons_zero, List.set_cons_succ]
    refine orders_take 9 (some 126) (v := .pointer (some ⟨gs, y, none⟩)) rfl (by kernel_rfl) (by kernel_rfl) (by kernel_rfl) (by kernel_rfl) (fun _ _ _ h => h) (Or.inl ⟨by rfl, fun w' hw' => by subst hw'; go_simp⟩) rfl rfl ?_
    simp only [Act.put, List.setIfInBounds_toArray, List.set_cons_zero, List.set_cons_succ]
    refine orders_take 10 (some 127) (v := .slice (some ⟨Gs y, 0, none⟩) 16 (Cs y)) rfl (by kernel_rfl) (by kernel_rfl) (by kernel_rfl) (by kernel_rfl) (fun _ _ _ h => h) (Or.inl ⟨by rfl, fun w' hw' => by subst hw'; go_simp⟩) rfl rfl ?_
    simp only [Act.put, List.setIfInBounds_toArray, List.set_cons_zero, List.set_cons_succ]
    refine orders_take 11 (some 128) (v := .int .i64 place) rfl (by kernel_rfl) (by kernel_rfl) (by kernel_rfl) (by kernel_rfl) (fun _ _ _ h => h) (Or.inl ⟨by rfl, fun _ _ => rfl⟩) rfl rfl ?_
    simp only [Act.put, List.setIfInBounds_toArray, List.set_cons_zero, List.set_cons_succ]
    refine orders_take 12 (some 129) (v := .int .i64 (place.tdiv 16)) rfl (by kernel_rfl) (by kernel_rfl) (by kernel_rfl) (by kernel_rfl) (fun _ _ _ h => h) (Or.inl ⟨by rfl, fun w' hw' => by subst hw'; go_simp; rw [tdiv_wrap place 16 hp1 hp2 (by omega)]⟩) rfl rfl ?_
    simp only [Act.put, List.setIfInBounds_toArray, List.set_cons_zero, List.set_cons_succ]
    refine orders_take 16 (some 133) (v := .int .i64 by') rfl (by kernel_rfl) (by kernel_rfl) (by kernel_rfl) (by kernel_rfl) (fun _ _ _ h => h) (Or.inl ⟨by rfl, fun _ _ => rfl⟩) rfl rfl ?_
    simp only [Act.put, List.setIfInBounds_toArray, List.set_cons_zero, List.set_cons_succ]
    refine orders_take 17 (some 134) (v := .int .i64 (by'.tdiv 255)) rfl (by kernel_rfl) (by kernel_rfl) (by kernel_rfl) (by kernel_rfl) (fun _ _ _ h => h) (Or.inl ⟨by rfl, fun w' hw' => by subst hw'; go_simp; rw [tdiv_wrap by' 255 hy1 hy2 (by omega)]⟩) rfl rfl ?_
    simp only [Act.put, List.setIfInBounds_toArray, List.set_cons_zero, List.set_cons_succ]
    refine orders_one 6 (by kernel_rfl) rfl (by rfl) (fun K hK => ?_)
    go_simp
    refine (pick_any _ _ _ (by omega) (tdiv_bd place 16 hp1 hp2 (by omega)).1 (tdiv_bd place 16 hp1 hp2 (by omega)).2 (by omega)).mono ?_
    rintro e w5 ⟨rfl, rfl⟩
    rw [hj]
    refine hK.out _ _ (fun _ => rfl) ?_
    clear hK K
    refine orders_one 13 (by kernel_rfl) rfl (by rfl) (fun K hK => ?_)
    go_simp
    refine (pick_any _ _ _ (by omega) (tdiv_bd place 16 hp1 hp2 (by omega)).1 (tdiv_bd place 16 hp1 hp2 (by omega)).2 (by omega)).mono ?_
    rintro e w5 ⟨rfl, rfl⟩
    rw [hj]
    refine hK.out _ _ (fun _ => rfl) ?_
    clear hK K
    refine orders_take 14 (some 131) (v := .pointer (some ⟨Gs y, j, none⟩)) rfl (by kernel_rfl) (by kernel_rfl) (by kernel_rfl) (by kernel_rfl) (fun _ _ _ h => h) (Or.inl ⟨by rfl, fun w' hw' => by subst hw'; go_simp⟩) rfl rfl ?_
    simp only [Act.put, List.setIfInBounds_toArray, List.set_cons_zero, List.set_cons_succ]
    refine orders_take 15 (some 132) (v := .int .u8 yb) rfl (by kernel_rfl) (by kernel_rfl) (by kernel_rfl) (by kernel_rfl) (fun _ _ _ h => h) (Or.inl ⟨by rfl, fun w' hw' => by subst hw'; go_simp⟩) rfl rfl ?_
    simp only [Act.put, List.setIfInBounds_toArray, List.set_cons_zero, List.set_cons_succ]
    refine orders_one 18 (by kernel_rfl) rfl (by rfl) (fun K hK => ?_)
    go_simp
    refine (pick_any _ _ _ (by omega) (tdiv_bd by' 255 hy1 hy2 (by omega)).1 (tdiv_bd by' 255 hy1 hy2 (by omega)).2 (by omega)).mono ?_
    rintro e w5 ⟨rfl, rfl⟩
    rw [hc]
    refine hK.out _ _ (fun _ => rfl) ?_
    clear hK K
    refine orders_take 19 (some 136) (v := .int .i64 (1 + c)) rfl (by kernel_rfl) (by kernel_rfl) (by kernel_rfl) (by kernel_rfl) (fun _ _ _ h => h) (Or.inl ⟨by rfl, fun w' hw' => by subst hw'; go_simp; rw [IntKind.wrap_i64]; omega⟩) rfl rfl ?_
    simp only [Act.put, List.setIfInBounds_toArray, List.set_cons_zero, List.set_cons_succ]
    refine orders_take 20 (some 137) (v := .int .u8 (1 + c)) rfl (by kernel_rfl) (by kernel_rfl) (by kernel_rfl) (by kernel_rfl) (fun _ _ _ h => h) (Or.inl ⟨by rfl, fun w' hw' => by subst hw'; go_simp; rw [IntKind.wrap_u8']; omega⟩) rfl rfl ?_
    simp only [Act.put, List.setIfInBounds_toArray, List.set_cons_zero, List.set_cons_succ]
    refine orders_take 21 (some 138) (v := .int .u8 ((yb ^^^ (c + 1) : Nat) : Int)) rfl (by kernel_rfl) (by kernel_rfl) (by kernel_rfl) (by kernel_rfl) (fun _ _ _ h => h) (Or.inl ⟨by rfl, fun w' hw' => by subst hw'; go_simp; rw [unhide HX]⟩) rfl rfl ?_
    simp only [Act.put, List.setIfInBounds_toArray, List.set_cons_zero, List.set_cons_succ]
    refine orders_take 22 (some 139) (v := .pointer (some ⟨Gs y, j, none⟩)) rfl (by kernel_rfl) (by kernel_rfl) (by kernel_rfl) (by kernel_rfl) (fun _ _ _ h => h) (Or.inl ⟨by rfl, fun w' hw' => by subst hw'; go_simp⟩) rfl rfl ?_
    simp only [Act.put, List.setIfInBounds_toArray, List.set_cons_zero, List.set_cons_succ]
    refine orders_one 23 (by kernel_rfl) rfl (by rfl) (fun K hK => ?_)
    go_simp
    refine hK.out _ _ (fun h => absurd rfl h) ?_
    clear hK K
    refine orders_end (by kernel_rfl) ?_
    refine NoPanic.normal ?_
    have hbg : Below w3.heap.size w3 ((w4.setCell ⟨Gs y, j, none⟩ (Value.int IntKind.u8 ((yb ^^^ (c + 1) : Nat) : Int))).drew) := ((unhide HBF).setCell (p := ⟨Gs y, j, none⟩) (unhide HGE y hyN) _).drew
    have hlg := (unhide HWR).below (Below.refl (w4.setCell ⟨Gs y, j, none⟩ (Value.int IntKind.u8 ((yb ^^^ (c + 1) : Nat) : Int))).heap.size _).drew
    have hsg : w4.heap.size ≤ ((w4.setCell ⟨Gs y, j, none⟩ (Value.int IntKind.u8 ((yb ^^^ (c + 1) : Nat) : Int))).drew).heap.size := by simp
    clear HX HWR HBF HLF2 q2 q3 hkey hj pj1 pj2 hc pc1 pc2
    generalize (w4.setCell ⟨Gs y, j, none⟩ (Value.int IntKind.u8 ((yb ^^^ (c + 1) : Nat) : Int))).drew = wg at *
    have hlc3 := loc_any (.slice (some ⟨gs, 0, none⟩) (N + 2) cs) (colsOf (fun i => xorL (xorL (A i) (errL x k (d + 1) i)) (errL y j (c + 1) i)) (N + 2)) wg (hlg.slL (by omega)) (by rw [colsOf_len]; omega) (by rw [colsOf_len]; omega) (colsOf_cols (fun i _ => xorL_col (unhide HL1 i) (err_col y j (c + 1) i (by omega)))) ((unhide HTB).below (by omega) hbg)
    rw [colsOf_len] at hlc3
    have HLC := hide hlc3
    have HBG := hide hbg
    clear hlc3 hlg hbg
    go_wp2_with fail
    refine (unhide HLC).mono ?_
    rintro e wh ⟨vd, at3, val3, hloc, _, hbh, hres⟩
    have hv0 := loc_two (unhide HCO) hN2 x k (d + 1) y j (c + 1) hxN hk16 (by omega) (by omega) hyN hj16 (by omega) (by omega) (unhide HXY) (by rw [show N + 2 - 2 = N from by omega] at hloc; exact hloc)
    have HBH : Hid (Below w.heap.size w wh) := (unhide HBB).trans (((unhide HBG).trans (hbh.mono (by omega))).mono (by omega))
    clear hloc hbh HLC HBG
    rcases hres with ⟨_, rfl⟩ | ⟨rfl, g3, c3, rfl, _⟩
    · have hb0 : (vd != 0) = true := by rw [bne_iff_ne]; exact hv0
      clear hv0
      go_wp2
      go_ret
      exact ⟨rfl, unhide HBH⟩
    · clear hv0
      go_wp2
      go_ret
      exact ⟨rfl, unhide HBH⟩

end Go.Proofs.YtdcinlkkjbclmabDoor
