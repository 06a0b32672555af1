/- A disk fails. -/
import Derived.Test.YtdcinlkkjbclmabGreatVLose
namespace Go.Proofs.YtdcinlkkjbclmabGreat
open Go.RowKit

theorem at_neq_o (tb : Nat) (w : World) : (binOp .neq 68 (.iface 91 (.pointer (some ⟨tb, 0, none⟩))) .nilIface).run Tryz.prog w = .ok (.bool true) w := by kernel_rfl
theorem at_neq_w (tb : Nat) (w : World) : (binOp .neq 68 (.iface 147 (.pointer (some ⟨tb, 0, none⟩))) .nilIface).run Tryz.prog w = .ok (.bool true) w := by kernel_rfl
theorem at_neq_n (w : World) : (binOp .neq 68 .nilIface .nilIface).run Tryz.prog w = .ok (.bool false) w := by kernel_rfl

set_option maxRecDepth 100000 in
set_option maxHeartbeats 4000000 in
theorem lose_o (vb tb : Nat) (A : VA) (O : List Nat) (d : Nat) (w : World) (h : Vol w vb A O) (hd : d < A.stand.length) (ha : A.at' = opnV tb) (hs : A.stand.length ≤ 8) (hs4 : 4 ≤ A.stand.length) (hr : A.reqs.length ≤ 6) (hq : A.ress.length ≤ 80000) (hsh : ∀ x ∈ A.reqs, ∃ n xr, x = Value.int .i64 n :: xr) :
    Calls Tryz.prog 46 #[.pointer (some ⟨vb, 0, none⟩), .int .i64 (d : Int)] w fun e w' => e = .returned (.tuple #[]) ∧ Step w O w' vb (failA (lostA A d)) := by
  have hlt := h.lt
  have hb0 := (Below.refl w.heap.size w).alloc (Nat.le_refl _) (.cells #[.int .i64 (d : Int)] 3)
  have hk0 := Blk.new w #[.int .i64 (d : Int)] 3
  have HV0 := hide (h.new hb0)
  have HB0 := hide hb0
  have HK0 := hide hk0
  have hs0 : (w.alloc (.cells #[.int .i64 (d : Int)] 3)).heap.size = w.heap.size + 1 := by simp
  have HS0 := hide hs0
  have hwo : w.heap.size ∉ O := fun ho => by have := hlt _ ho; omega
  have hd0 : (0 : Int) ≤ (d : Int) := by omega
  have hd1 : (d : Int) < (A.stand.length : Int) := by omega
  clear h hb0 hk0 hs0
  go_enter Tryz.func46, Tryz.ntmps46
  go_wp2_with fail
  generalize w.alloc (.cells #[.int .i64 (d : Int)] 3) = w0 at *
  have hs0 := unhide HS0
  refine region_tail 6 (by kernel_rfl) (by kernel_rfl) ?_
  rintro w1 hw1
  have hv1 : Vol w1 vb A O := by rw [hw1]; exact (unhide HV0).chg (X := fun _ => False) (Chg.refl _ _).drew (fun _ _ => id)
  have hb1 : Below w.heap.size w w1 := by rw [hw1]; exact (unhide HB0).drew
  have hk1 : Blk w1 w.heap.size #[.int .i64 (d : Int)] 3 := by rw [hw1]; exact (unhide HK0).drew
  clear hw1 HV0 HB0 HK0 HS0 hs0
  obtain ⟨G, hG, hGO, hGn, hGd⟩ := id hv1
  have c0 : w1.cell? ⟨vb, 0, none⟩ = some (.slice (some ⟨G.sb, 0, none⟩) A.stand.length A.stand.length) := hG.blk.cell 0
  have b0 : w1.cell? ⟨w.heap.size, 0, none⟩ = some (.int .i64 (d : Int)) := hk1.cell 0
  have s0 := stand_at hG.std d hd
  have sf := hG.std.free d
  obtain ⟨O2, v2, ch2, o2⟩ := vol_stand hG hGO hGn hGd d 1
  have hwc : w.heap.size < w1.heap.size := hk1.lt
  have hch2 : Chg (fun b => b ∈ O) w (w1.setCell ⟨G.sb, d, none⟩ (.int .i64 1)) := (Chg.of_new (X := fun b => b ∈ O) hb1).trans ch2 (fun b hb => Or.inl hb)
  have hO2 : ∀ b ∈ O2, b ∈ O ∨ w.heap.size ≤ b := fun b hb => by rcases o2 b hb with q | q; exact Or.inl q; exact Or.inr (by omega)
  have hwo2 : w.heap.size ∉ O2 := fun ho => by rcases o2 _ ho with q | q; exact hwo q; omega
  have hk2 := hk1.chg ch2 hwo
  have HV2 := hide v2
  have HC2 := hide hch2
  have HO2 := hide hO2
  have HK2 := hide hk2
  have hs2 := ch2.size
  clear v2 ch2 o2 hG hGO hGn hGd hv1 hb1 hk1 hch2 hO2 hk2
  simp only [List.take_succ_cons, List.take_zero, List.drop_succ_cons, List.drop_zero]
  repeat (refine wpStill_step (fun K hK => ?_); go_simp; (try go_ints); refine hK _ ?_; clear hK K)
  refine wpStill_nil ?_
  have HKE := hide (wait_keep vb { A with stand := A.stand.set d 1 } O2 (d : Int) w.heap.size _ (unhide HV2) (unhide HK2) hwo2)
  go_wp2_with fail
  clear c0 b0 s0 sf
  generalize w1.setCell ⟨G.sb, d, none⟩ (.int .i64 1) = w2 at *
  refine (unhide HKE).mono ?_
  rintro e w3 ⟨rfl, O3, v3, c3, o3⟩
  obtain ⟨G3, hG3, _⟩ := id v3
  have c18 : w3.cell? ⟨vb, 16 + 2, none⟩ = some (.int .i64 0) := hG3.blk.cell 18
  have cA : w3.cell? ⟨vb, 3, none⟩ = some (opnV tb) := (hG3.blk.cell 3).trans (congrArg some ha)
  have b3 : w3.cell? ⟨w.heap.size, 0, none⟩ = some (.int .i64 (d : Int)) := ((unhide HK2).chg c3 hwo2).cell 0
  obtain ⟨O4, v4, ch4, o4⟩ := Step.trans (unhide HC2) (unhide HO2) ⟨O3, v3, c3, o3⟩
  have hneq := at_neq_o tb
  have hinv := inv_miss_o tb
  have hkf : ∀ fv, Calls Tryz.prog 61 #[.pointer (some ⟨vb, 16, none⟩), fv] w3 fun e w' => e = .returned (.tuple #[]) ∧ w' = w3 := fun fv => keepF_none vb 16 fv w3 c18
  have HKF := hide hkf
  have HV4 := hide v4
  have HC4 := hide ch4
  have HO4 := hide o4
  unfold opnV at cA
  clear v3 c3 o3 v4 ch4 o4 hG3 c18 hkf HKE HV2 HC2 HO2 HK2
  go_wp2_with (go_at_call 61; refine (unhide HKF _).mono ?_; rintro e wx ⟨rfl, hwx⟩; obtain rfl := hwx)
  refine region_tail 5 (by kernel_rfl) (by kernel_rfl) ?_
  rintro w5 hw5
  have HV5 : Hid (Vol w5 vb (lostA A d) O4) := by rw [hw5]; exact (unhide HV4).chg (X := fun _ => False) (Chg.refl _ _).drew (fun _ _ => id)
  have HC5 : Hid (Chg (fun b => b ∈ O) w w5) := by rw [hw5]; exact (unhide HC4).drew
  have q3 : w5.cell? ⟨vb, 3, none⟩ = some (.iface 91 (.pointer (some ⟨tb, 0, none⟩))) := by rw [hw5]; exact cA
  have q0 : w5.cell? ⟨w.heap.size, 0, none⟩ = some (.int .i64 (d : Int)) := by rw [hw5]; exact b3
  clear hw5 HV4 HC4 HKF cA b3
  simp only [List.take_succ_cons, List.take_zero, List.drop_succ_cons, List.drop_zero]
  repeat (refine wpStill_step (fun K hK => ?_); go_simp; (try go_ints); refine hK _ ?_; clear hK K)
  refine wpStill_nil ?_
  have HFL := hide (failIfLost_any vb (lostA A d) O4 w5 (unhide HV5) (by show (A.stand.set d 1).length ≤ 8; rw [List.length_set]; exact hs) (by show 4 ≤ (A.stand.set d 1).length; rw [List.length_set]; exact hs4) hr hq hsh)
  clear q0 q3
  go_wp2_with (first | (go_at_call 105; refine (miss_any tb _ _).mono ?_; rintro e wx ⟨rfl, hwx⟩; obtain rfl := hwx) | (go_at_call 63; refine (unhide HFL).mono ?_; rintro e w6 ⟨rfl, hs6⟩; have HS6 := hide hs6; clear hs6 HFL))
  refine bodyPost_end (results_none rfl _ _ _) rfl ⟨rfl, Step.trans (unhide HC5) (unhide HO4) (unhide HS6)⟩

set_option maxRecDepth 100000 in
set_option maxHeartbeats 4000000 in
theorem lose_w (vb tb : Nat) (A : VA) (O : List Nat) (d : Nat) (w : World) (h : Vol w vb A O) (hd : d < A.stand.length) (ha : A.at' = wrtV tb) (hs : A.stand.length ≤ 8) (hs4 : 4 ≤ A.stand.length) (hr : A.reqs.length ≤ 6) (hq : A.ress.length ≤ 80000) (hsh : ∀ x ∈ A.reqs, ∃ n xr, x = Value.int .i64 n :: xr) :
    Calls Tryz.prog 46 #[.pointer (some ⟨vb, 0, none⟩), .int .i64 (d : Int)] w fun e w' => e = .returned (.tuple #[]) ∧ Step w O w' vb (failA (lostA A d)) := by
  have hlt := h.lt
  have hb0 := (Below.refl w.heap.size w).alloc (Nat.le_refl _) (.cells #[.int .i64 (d : Int)] 3)
  have hk0 := Blk.new w #[.int .i64 (d : Int)] 3
  have HV0 := hide (h.new hb0)
  have HB0 := hide hb0
  have HK0 := hide hk0
  have hs0 : (w.alloc (.cells #[.int .i64 (d : Int)] 3)).heap.size = w.heap.size + 1 := by simp
  have HS0 := hide hs0
  have hwo : w.heap.size ∉ O := fun ho => by have := hlt _ ho; omega
  have hd0 : (0 : Int) ≤ (d : Int) := by omega
  have hd1 : (d : Int) < (A.stand.length : Int) := by omega
  clear h hb0 hk0 hs0
  go_enter Tryz.func46, Tryz.ntmps46
  go_wp2_with fail
  generalize w.alloc (.cells #[.int .i64 (d : Int)] 3) = w0 at *
  have hs0 := unhide HS0
  refine region_tail 6 (by kernel_rfl) (by kernel_rfl) ?_
  rintro w1 hw1
  have hv1 : Vol w1 vb A O := by rw [hw1]; exact (unhide HV0).chg (X := fun _ => False) (Chg.refl _ _).drew (fun _ _ => id)
  have hb1 : Below w.heap.size w w1 := by rw [hw1]; exact (unhide HB0).drew
  have hk1 : Blk w1 w.heap.size #[.int .i64 (d : Int)] 3 := by rw [hw1]; exact (unhide HK0).drew
  clear hw1 HV0 HB0 HK0 HS0 hs0
  obtain ⟨G, hG, hGO, hGn, hGd⟩ := id hv1
  have c0 : w1.cell? ⟨vb, 0, none⟩ = some (.slice (some ⟨G.sb, 0, none⟩) A.stand.length A.stand.length) := hG.blk.cell 0
  have b0 : w1.cell? ⟨w.heap.size, 0, none⟩ = some (.int .i64 (d : Int)) := hk1.cell 0
  have s0 := stand_at hG.std d hd
  have sf := hG.std.free d
  obtain ⟨O2, v2, ch2, o2⟩ := vol_stand hG hGO hGn hGd d 1
  have hwc : w.heap.size < w1.heap.size := hk1.lt
  have hch2 : Chg (fun b => b ∈ O) w (w1.setCell ⟨G.sb, d, none⟩ (.int .i64 1)) := (Chg.of_new (X := fun b => b ∈ O) hb1).trans ch2 (fun b hb => Or.inl hb)
  have hO2 : ∀ b ∈ O2, b ∈ O ∨ w.heap.size ≤ b := fun b hb => by rcases o2 b hb with q | q; exact Or.inl q; exact Or.inr (by omega)
  have hwo2 : w.heap.size ∉ O2 := fun ho => by rcases o2 _ ho with q | q; exact hwo q; omega
  have hk2 := hk1.chg ch2 hwo
  have HV2 := hide v2
  have HC2 := hide hch2
  have HO2 := hide hO2
  have HK2 := hide hk2
  have hs2 := ch2.size
  clear v2 ch2 o2 hG hGO hGn hGd hv1 hb1 hk1 hch2 hO2 hk2
  simp only [List.take_succ_cons, List.take_zero, List.drop_succ_cons, List.drop_zero]
  repeat (refine wpStill_step (fun K hK => ?_); go_simp; (try go_ints); refine hK _ ?_; clear hK K)
  refine wpStill_nil ?_
  have HKE := hide (wait_keep vb { A with stand := A.stand.set d 1 } O2 (d : Int) w.heap.size _ (unhide HV2) (unhide HK2) hwo2)
  go_wp2_with fail
  clear c0 b0 s0 sf
  generalize w1.setCell ⟨G.sb, d, none⟩ (.int .i64 1) = w2 at *
  refine (unhide HKE).mono ?_
  rintro e w3 ⟨rfl, O3, v3, c3, o3⟩
  obtain ⟨G3, hG3, _⟩ := id v3
  have c18 : w3.cell? ⟨vb, 16 + 2, none⟩ = some (.int .i64 0) := hG3.blk.cell 18
  have cA : w3.cell? ⟨vb, 3, none⟩ = some (wrtV tb) := (hG3.blk.cell 3).trans (congrArg some ha)
  have b3 : w3.cell? ⟨w.heap.size, 0, none⟩ = some (.int .i64 (d : Int)) := ((unhide HK2).chg c3 hwo2).cell 0
  obtain ⟨O4, v4, ch4, o4⟩ := Step.trans (unhide HC2) (unhide HO2) ⟨O3, v3, c3, o3⟩
  have hneq := at_neq_w tb
  have hinv := inv_miss_w tb
  have hkf : ∀ fv, Calls Tryz.prog 61 #[.pointer (some ⟨vb, 16, none⟩), fv] w3 fun e w' => e = .returned (.tuple #[]) ∧ w' = w3 := fun fv => keepF_none vb 16 fv w3 c18
  have HKF := hide hkf
  have HV4 := hide v4
  have HC4 := hide ch4
  have HO4 := hide o4
  unfold wrtV at cA
  clear v3 c3 o3 v4 ch4 o4 hG3 c18 hkf HKE HV2 HC2 HO2 HK2
  go_wp2_with (go_at_call 61; refine (unhide HKF _).mono ?_; rintro e wx ⟨rfl, hwx⟩; obtain rfl := hwx)
  refine region_tail 5 (by kernel_rfl) (by kernel_rfl) ?_
  rintro w5 hw5
  have HV5 : Hid (Vol w5 vb (lostA A d) O4) := by rw [hw5]; exact (unhide HV4).chg (X := fun _ => False) (Chg.refl _ _).drew (fun _ _ => id)
  have HC5 : Hid (Chg (fun b => b ∈ O) w w5) := by rw [hw5]; exact (unhide HC4).drew
  have q3 : w5.cell? ⟨vb, 3, none⟩ = some (.iface 147 (.pointer (some ⟨tb, 0, none⟩))) := by rw [hw5]; exact cA
  have q0 : w5.cell? ⟨w.heap.size, 0, none⟩ = some (.int .i64 (d : Int)) := by rw [hw5]; exact b3
  clear hw5 HV4 HC4 HKF cA b3
  simp only [List.take_succ_cons, List.take_zero, List.drop_succ_cons, List.drop_zero]
  repeat (refine wpStill_step (fun K hK => ?_); go_simp; (try go_ints); refine hK _ ?_; clear hK K)
  refine wpStill_nil ?_
  have HFL := hide (failIfLost_any vb (lostA A d) O4 w5 (unhide HV5) (by show (A.stand.set d 1).length ≤ 8; rw [List.length_set]; exact hs) (by show 4 ≤ (A.stand.set d 1).length; rw [List.length_set]; exact hs4) hr hq hsh)
  clear q0 q3
  go_wp2_with (first | (go_at_call 105; refine (miss_any tb _ _).mono ?_; rintro e wx ⟨rfl, hwx⟩; obtain rfl := hwx) | (go_at_call 63; refine (unhide HFL).mono ?_; rintro e w6 ⟨rfl, hs6⟩; have HS6 := hide hs6; clear hs6 HFL))
  refine bodyPost_end (results_none rfl _ _ _) rfl ⟨rfl, Step.trans (unhide HC5) (unhide HO4) (unhide HS6)⟩

set_option maxRecDepth 100000 in
set_option maxHeartbeats 1000000 in
theorem hasDisk_any (vb : Nat) (A : VA) (O : List Nat) (d : Nat) (w : World) (h : Vol w vb A O) (hd : d < A.stand.length) :
    Calls Tryz.prog 45 #[.pointer (some ⟨vb, 0, none⟩), .int .i64 (d : Int)] w fun e w' => e = .returned (.bool true) ∧ w' = w := by
  have hd0 : (0 : Int) ≤ (d : Int) := by omega
  have hd1 : (d : Int) < (A.stand.length : Int) := by omega
  have HD := hide (disks_any vb A O w h)
  clear h
  go_enter Tryz.func45, Tryz.ntmps45
  go_wp2_with (go_at_call 58; refine (unhide HD).mono ?_; rintro e wx ⟨rfl, hwx⟩; obtain rfl := hwx)
  go_ret
  exact ⟨rfl, rfl⟩

set_option maxRecDepth 100000 in
set_option maxHeartbeats 2000000 in
/-- a disk of a volume that is at a Write fails -/
theorem fail_any (vb tb : Nat) (A : VA) (O : List Nat) (d : Nat) (w : World) (h : Vol w vb A O) (hd : d < A.stand.length) (hst : A.stand.getD d 0 ≠ 1) (ha : A.at' = wrtV tb) (hs : A.stand.length ≤ 8) (hs4 : 4 ≤ A.stand.length) (hr : A.reqs.length ≤ 6) (hq : A.ress.length ≤ 80000) (hsh : ∀ x ∈ A.reqs, ∃ n xr, x = Value.int .i64 n :: xr) (hi : Idle (failA (lostA A d))) :
    Calls Tryz.prog 31 #[.pointer (some ⟨vb, 0, none⟩), .int .i64 (d : Int)] w fun e w' => e = .returned (.int .i64 0) ∧ Step w O w' vb (failA (lostA A d)) := by
  obtain ⟨G, hG, _⟩ := id h
  have c0 : w.cell? ⟨vb, 0, none⟩ = some (.slice (some ⟨G.sb, 0, none⟩) A.stand.length A.stand.length) := hG.blk.cell 0
  have s0 := stand_at hG.std d hd
  have hb1 : (A.stand.getD d 0 == 1) = false := by simpa using hst
  have hd0 : (0 : Int) ≤ (d : Int) := by omega
  have hd1 : (d : Int) < (A.stand.length : Int) := by omega
  have HH := hide (hasDisk_any vb A O d w h hd)
  have HL := hide (lose_w vb tb A O d w h hd ha hs hs4 hr hq hsh)
  have HI := hide hi
  clear h hG ha hs hs4 hr hq hsh hi hst
  generalize A.stand.getD d 0 = s at *
  go_enter Tryz.func31, Tryz.ntmps31
  go_wp2_with (first | (go_at_call 45; refine (unhide HH).mono ?_; rintro e wx ⟨rfl, hwx⟩; obtain rfl := hwx) | (go_at_call 46; refine (unhide HL).mono ?_; rintro e w2 ⟨rfl, hs2⟩; have HS2 := hide hs2; clear hs2 HL c0 s0; obtain ⟨O2, v2, ch2, o2⟩ := unhide HS2; have HR := hide (run_idle vb _ O2 w2 v2 (unhide HI)); clear v2 ch2 o2) | (go_at_call 37; refine (unhide HR).mono ?_; rintro e wx ⟨rfl, hwx⟩; obtain rfl := hwx))
  go_ret
  exact ⟨rfl, unhide HS2⟩

end Go.Proofs.YtdcinlkkjbclmabGreat
