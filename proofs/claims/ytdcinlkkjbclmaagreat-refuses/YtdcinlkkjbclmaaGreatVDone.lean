/- What came of a command. -/
import Derived.Test.YtdcinlkkjbclmaaGreatMVLoseVLost
namespace Go.Proofs.YtdcinlkkjbclmaaGreat
open Go.RowKit

set_option maxRecDepth 100000 in
set_option maxHeartbeats 2000000 in
theorem hear_any (tb hb : Nat) (a b : Int) (x0 x1 x2 x3 x4 x5 x6 x7 : Int) (w : World) (h1 : w.cell? ⟨tb, 1, none⟩ = some (.map (some hb))) (hh : HeardB w hb) :
    Calls Tryz.prog 159 #[.pointer (some ⟨tb, 0, none⟩), .agg #[.int .i64 a, .int .i64 b], .agg #[.int .u8 x0, .int .u8 x1, .int .u8 x2, .int .u8 x3, .int .u8 x4, .int .u8 x5, .int .u8 x6, .int .u8 x7]] w fun e w' => e = .returned (.tuple #[]) ∧ HeardB w' hb ∧ Chg (fun k => k = hb) w w' := by
  have htl : tb < w.heap.size := block_lt_of_cell h1
  have hhl := hh.lt
  have hb2 : Below w.heap.size w ((w.alloc (.cells #[.int .i64 a, .int .i64 b] 147)).alloc (.cells #[.int .u8 x0, .int .u8 x1, .int .u8 x2, .int .u8 x3, .int .u8 x4, .int .u8 x5, .int .u8 x6, .int .u8 x7] 149)) := ((Below.refl _ _).alloc (Nat.le_refl _) _).alloc (by simp) _
  have hk1 := (Blk.new w #[.int .i64 a, .int .i64 b] 147).alloc (.cells #[.int .u8 x0, .int .u8 x1, .int .u8 x2, .int .u8 x3, .int .u8 x4, .int .u8 x5, .int .u8 x6, .int .u8 x7] 149)
  have hk2 := Blk.new (w.alloc (.cells #[.int .i64 a, .int .i64 b] 147)) #[.int .u8 x0, .int .u8 x1, .int .u8 x2, .int .u8 x3, .int .u8 x4, .int .u8 x5, .int .u8 x6, .int .u8 x7] 149
  rw [World.size_alloc] at hk2
  have HB2 := hide hb2
  have HK1 := hide hk1
  have HK2 := hide hk2
  have HH := hide hh
  clear hb2 hk1 hk2 hh
  go_enter Tryz.func159, Tryz.ntmps159
  go_wp2_with fail
  generalize (w.alloc (.cells #[.int .i64 a, .int .i64 b] 147)).alloc (.cells #[.int .u8 x0, .int .u8 x1, .int .u8 x2, .int .u8 x3, .int .u8 x4, .int .u8 x5, .int .u8 x6, .int .u8 x7] 149) = w2 at *
  refine region_tail 6 (by kernel_rfl) (by kernel_rfl) ?_
  rintro w3 hw3
  have hb3 : Below w.heap.size w w3 := by rw [hw3]; exact (unhide HB2).drew
  have k1 : Blk w3 w.heap.size #[.int .i64 a, .int .i64 b] 147 := by rw [hw3]; exact (unhide HK1).drew
  have k2 : Blk w3 (w.heap.size + 1) #[.int .u8 x0, .int .u8 x1, .int .u8 x2, .int .u8 x3, .int .u8 x4, .int .u8 x5, .int .u8 x6, .int .u8 x7] 149 := by rw [hw3]; exact (unhide HK2).drew
  have q1 : w3.cell? ⟨tb, 1, none⟩ = some (.map (some hb)) := (hb3.cell (by exact htl)).trans h1
  have a0 : w3.cell? ⟨w.heap.size, 0, none⟩ = some (.int .i64 a) := k1.cell 0
  have a1 : w3.cell? ⟨w.heap.size, 1, none⟩ = some (.int .i64 b) := k1.cell 1
  have e0 : w3.cell? ⟨w.heap.size + 1, 0, none⟩ = some (.int .u8 x0) := k2.cell 0
  have e1 : w3.cell? ⟨w.heap.size + 1, 1, none⟩ = some (.int .u8 x1) := k2.cell 1
  have e2 : w3.cell? ⟨w.heap.size + 1, 2, none⟩ = some (.int .u8 x2) := k2.cell 2
  have e3 : w3.cell? ⟨w.heap.size + 1, 3, none⟩ = some (.int .u8 x3) := k2.cell 3
  have e4 : w3.cell? ⟨w.heap.size + 1, 4, none⟩ = some (.int .u8 x4) := k2.cell 4
  have e5 : w3.cell? ⟨w.heap.size + 1, 5, none⟩ = some (.int .u8 x5) := k2.cell 5
  have e6 : w3.cell? ⟨w.heap.size + 1, 6, none⟩ = some (.int .u8 x6) := k2.cell 6
  have e7 : w3.cell? ⟨w.heap.size + 1, 7, none⟩ = some (.int .u8 x7) := k2.cell 7
  have hh3 : HeardB w3 hb := (unhide HH).chg (X := fun _ => False) (Chg.of_new hb3) id
  obtain ⟨ob, hup, hh4⟩ := update_heard hh3 a b (.agg #[.int .u8 x0, .int .u8 x1, .int .u8 x2, .int .u8 x3, .int .u8 x4, .int .u8 x5, .int .u8 x6, .int .u8 x7])
  have HH4 := hide hh4
  have HC4 : Hid (Chg (fun k => k = hb) w (putMap w3 hb ob)) := chg_putMap (Chg.of_new hb3) hb ob (Or.inl rfl)
  simp only [spotV] at hup
  clear hw3 hb3 k1 k2 hh3 hh4 HB2 HK1 HK2
  simp only [List.take_succ_cons, List.take_zero, List.drop_succ_cons, List.drop_zero]
  repeat (refine wpStill_step (fun K hK => ?_); go_simp; (try go_ints); refine hK _ ?_; clear hK K)
  refine wpStill_nil ?_
  go_wp2
  refine bodyPost_end (results_none rfl _ _ _) rfl ⟨rfl, unhide HH4, unhide HC4⟩

set_option maxRecDepth 100000 in
set_option maxHeartbeats 4000000 in
/-- a command that brought nothing back is done -/
theorem done_ok (vb : Nat) (A : VA) (O : List Nat) (n kd dk se : Int) (j : Nat) (dv : Value) (R : World → Prop) (w : World) (h : Vol w vb A O) (hj : A.told.findIdx? (fun c => c.id == n) = some j) (hc : A.told[j]? = some ⟨n, kd, dk, se, .slice none 0 0⟩) (hkd : kd ≠ 1) (hsl : IsSl dv)
    (hrun : ∀ w1 O1, Vol w1 vb { A with told := A.told.eraseIdx j } O1 → Chg (fun b => b ∈ O) w w1 → (∀ b ∈ O1, b ∈ O ∨ w.heap.size ≤ b) → Calls Tryz.prog 78 #[.pointer (some ⟨vb, 0, none⟩)] w1 fun e w' => e = .returned (.tuple #[]) ∧ R w') :
    Calls Tryz.prog 42 #[.pointer (some ⟨vb, 0, none⟩), .int .i64 n, .bool true, dv] w fun e w' => e = .returned (.int .i64 0) ∧ R w' := by
  obtain ⟨da, dn, dc, rfl⟩ := hsl
  obtain ⟨G, hG, hGO, hGn, hGd⟩ := id h
  have hlt := h.lt
  have c7 : w.cell? ⟨vb, 7, none⟩ = some (.map (some G.mb)) := hG.blk.cell 7
  have hlk := run_lookup_told (P := Tryz.prog) told_under int_under hG.map n j _ hj hc
  simp only [Cmd.cells] at hlk
  have hb0 := (Below.refl w.heap.size w).alloc (Nat.le_refl _) (.cells #[.int .i64 n, .int .i64 kd, .int .i64 dk, .int .i64 se, .slice none 0 0] 91)
  have hk0 := Blk.new w #[.int .i64 n, .int .i64 kd, .int .i64 dk, .int .i64 se, .slice none 0 0] 91
  have hG0 := hG.chg (X := fun _ => False) (Chg.of_new hb0) (fun _ _ => _root_.id)
  have hGd0 : ∀ c ∈ A.wait, DataIn (w.alloc (.cells #[.int .i64 n, .int .i64 kd, .int .i64 dk, .int .i64 se, .slice none 0 0] 91)) c := fun c hcm => (hGd c hcm).keep (X := fun _ => False) (Chg.of_new hb0) (fun _ _ _ _ => _root_.id)
  have c70 : (w.alloc (.cells #[.int .i64 n, .int .i64 kd, .int .i64 dk, .int .i64 se, .slice none 0 0] 91)).cell? ⟨vb, 7, none⟩ = some (.map (some G.mb)) := hG0.blk.cell 7
  obtain ⟨ob, hdel, hmp⟩ := run_delete_told (P := Tryz.prog) told_under int_under hG0.map n j hj 0
  have hwo : w.heap.size ∉ O := fun ho => by have := hlt _ ho; omega
  obtain ⟨O1, v1, ch1, o1⟩ := vol_told hG0 hGO hGn hGd0 ob _ hmp
  have hs0 : (w.alloc (.cells #[.int .i64 n, .int .i64 kd, .int .i64 dk, .int .i64 se, .slice none 0 0] 91)).heap.size = w.heap.size + 1 := by simp
  have hc1 : Chg (fun b => b ∈ O) w (putMap (w.alloc (.cells #[.int .i64 n, .int .i64 kd, .int .i64 dk, .int .i64 se, .slice none 0 0] 91)) G.mb ob) := (Chg.of_new (X := fun b => b ∈ O) hb0).trans ch1 (fun b hb => Or.inl hb)
  have ho1 : ∀ b ∈ O1, b ∈ O ∨ w.heap.size ≤ b := fun b hb => by rcases o1 b hb with q | q; exact Or.inl q; exact Or.inr (by omega)
  have hk1 := hk0.chg ch1 hwo
  have hwo1 : w.heap.size ∉ O1 := fun ho => by rcases o1 _ ho with q | q; exact hwo q; omega
  have HV1 := hide v1
  have HC1 := hide hc1
  have HO1 := hide ho1
  have HK1 := hide hk1
  have HS1 := hide ch1.size
  have hb1 : (kd == 1) = false := by simpa using hkd
  have HRUN := hide hrun
  clear h hG hGO hGn hGd hlt hb0 hk0 hG0 hGd0 hmp v1 ch1 o1 hs0 hc1 ho1 hk1 hj hc hrun hkd
  go_enter Tryz.func42, Tryz.ntmps42
  go_wp2_with fail
  clear hdel hlk c7 c70
  generalize putMap (w.alloc (.cells #[.int .i64 n, .int .i64 kd, .int .i64 dk, .int .i64 se, .slice none 0 0] 91)) G.mb ob = w1 at *
  go_quiet (fail)
  have HV2 : Hid (Vol (w1.drewN nq) vb { A with told := A.told.eraseIdx j } O1) := (unhide HV1).chg (X := fun _ => False) ((Chg.refl _ _).drewN nq) (fun _ _ => _root_.id)
  have HC2 := hide ((unhide HC1).drewN nq)
  generalize w1.drewN nq = w2 at *
  go_wp2_with (go_at_call 78; refine (unhide HRUN _ O1 (unhide HV2) (unhide HC2) (unhide HO1)).mono ?_; rintro e w3 ⟨rfl, hR⟩; have HR := hide hR; clear hR)
  go_ret
  exact ⟨rfl, unhide HR⟩

/-! lost -/
theorem arr_sector (g dc : Nat) (w : World) : (Instr.arrayAt 149 (.slice (some ⟨g, 0, none⟩) 8 dc)).run Tryz.prog w = .ok (.pointer (some ⟨g, 0, none⟩)) w := by kernel_rfl
set_option maxRecDepth 100000 in
set_option maxHeartbeats 4000000 in
/-- a command's disk has failed, while the volume is opened -/
theorem done_lost (vb tb : Nat) (A : VA) (O : List Nat) (n kd se : Int) (d : Nat) (j : Nat) (w : World) (h : Vol w vb A O) (hj : A.told.findIdx? (fun c => c.id == n) = some j) (hc : A.told[j]? = some ⟨n, kd, (d : Int), se, .slice none 0 0⟩) (hd : d < A.stand.length) (hst : A.stand.getD d 0 ≠ 1) (ha : A.at' = opnV tb) (hs : A.stand.length ≤ 8) (hs4 : 4 ≤ A.stand.length) (hr : A.reqs.length ≤ 6) (hq : A.ress.length ≤ 80000) (hsh : ∀ x ∈ A.reqs, ∃ n xr, x = Value.int .i64 n :: xr) (hi : Idle (failA (lostA { A with told := A.told.eraseIdx j } d))) :
    Calls Tryz.prog 42 #[.pointer (some ⟨vb, 0, none⟩), .int .i64 n, .bool false, .slice none 0 0] w fun e w' => e = .returned (.int .i64 0) ∧ Step w O w' vb (failA (lostA { A with told := A.told.eraseIdx j } d)) := by
  obtain ⟨G, hG, hGO, hGn, hGd⟩ := id h
  have hlt := h.lt
  have c7 : w.cell? ⟨vb, 7, none⟩ = some (.map (some G.mb)) := hG.blk.cell 7
  have hlk := run_lookup_told (P := Tryz.prog) told_under int_under hG.map n j _ hj hc
  simp only [Cmd.cells] at hlk
  have hb0 := (Below.refl w.heap.size w).alloc (Nat.le_refl _) (.cells #[.int .i64 n, .int .i64 kd, .int .i64 (d : Int), .int .i64 se, .slice none 0 0] 91)
  have hk0 := Blk.new w #[.int .i64 n, .int .i64 kd, .int .i64 (d : Int), .int .i64 se, .slice none 0 0] 91
  have hG0 := hG.chg (X := fun _ => False) (Chg.of_new hb0) (fun _ _ => _root_.id)
  have hGd0 : ∀ c ∈ A.wait, DataIn (w.alloc (.cells #[.int .i64 n, .int .i64 kd, .int .i64 (d : Int), .int .i64 se, .slice none 0 0] 91)) c := fun c hcm => (hGd c hcm).keep (X := fun _ => False) (Chg.of_new hb0) (fun _ _ _ _ => _root_.id)
  have c70 : (w.alloc (.cells #[.int .i64 n, .int .i64 kd, .int .i64 (d : Int), .int .i64 se, .slice none 0 0] 91)).cell? ⟨vb, 7, none⟩ = some (.map (some G.mb)) := hG0.blk.cell 7
  obtain ⟨ob, hdel, hmp⟩ := run_delete_told (P := Tryz.prog) told_under int_under hG0.map n j hj 0
  have hwo : w.heap.size ∉ O := fun ho => by have := hlt _ ho; omega
  obtain ⟨O1, v1, ch1, o1⟩ := vol_told hG0 hGO hGn hGd0 ob _ hmp
  have hs0 : (w.alloc (.cells #[.int .i64 n, .int .i64 kd, .int .i64 (d : Int), .int .i64 se, .slice none 0 0] 91)).heap.size = w.heap.size + 1 := by simp
  have hc1 : Chg (fun b => b ∈ O) w (putMap (w.alloc (.cells #[.int .i64 n, .int .i64 kd, .int .i64 (d : Int), .int .i64 se, .slice none 0 0] 91)) G.mb ob) := (Chg.of_new (X := fun b => b ∈ O) hb0).trans ch1 (fun b hb => Or.inl hb)
  have ho1 : ∀ b ∈ O1, b ∈ O ∨ w.heap.size ≤ b := fun b hb => by rcases o1 b hb with q | q; exact Or.inl q; exact Or.inr (by omega)
  have hk1 := hk0.chg ch1 hwo
  have hwo1 : w.heap.size ∉ O1 := fun ho => by rcases o1 _ ho with q | q; exact hwo q; omega
  have HV1 := hide v1
  have HC1 := hide hc1
  have HO1 := hide ho1
  have HK1 := hide hk1
  have HS1 := hide ch1.size
  have hb1 : (A.stand.getD d 0 == 1) = false := by simpa using hst
  have hb2 : (A.stand.getD d 0 != 1) = true := by simpa using hst
  obtain ⟨G1, hG1, _⟩ := id v1
  have e0 : (putMap (w.alloc (.cells #[.int .i64 n, .int .i64 kd, .int .i64 (d : Int), .int .i64 se, .slice none 0 0] 91)) G.mb ob).cell? ⟨vb, 0, none⟩ = some (.slice (some ⟨G1.sb, 0, none⟩) A.stand.length A.stand.length) := hG1.blk.cell 0
  have s0 := stand_at hG1.std d hd
  have l2 : (putMap (w.alloc (.cells #[.int .i64 n, .int .i64 kd, .int .i64 (d : Int), .int .i64 se, .slice none 0 0] 91)) G.mb ob).cell? ⟨w.heap.size, 2, none⟩ = some (.int .i64 (d : Int)) := hk1.cell 2
  have hd0 : (0 : Int) ≤ (d : Int) := by omega
  have hd1 : (d : Int) < (A.stand.length : Int) := by omega
  have HL : Hid (∀ w', Chg (fun _ => False) (putMap (w.alloc (.cells #[.int .i64 n, .int .i64 kd, .int .i64 (d : Int), .int .i64 se, .slice none 0 0] 91)) G.mb ob) w' → Calls Tryz.prog 79 #[.pointer (some ⟨vb, 0, none⟩), .int .i64 (d : Int)] w' fun e w'' => e = .returned (.tuple #[]) ∧ Step w' O1 w'' vb (failA (lostA { A with told := A.told.eraseIdx j } d))) := fun w' hw => lose_o vb tb { A with told := A.told.eraseIdx j } O1 d w' (v1.chg hw (fun _ _ => _root_.id)) hd ha hs hs4 hr hq hsh
  have HI := hide hi
  clear h hG hGO hGn hGd hlt hb0 hk0 hG0 hGd0 hmp v1 ch1 o1 hs0 hc1 ho1 hk1 hj hc hG1 hd hst ha hs hs4 hr hq hsh hi
  generalize A.stand.getD d 0 = st at *
  go_enter Tryz.func42, Tryz.ntmps42
  go_wp2_with fail
  clear hdel hlk c7 c70
  generalize putMap (w.alloc (.cells #[.int .i64 n, .int .i64 kd, .int .i64 (d : Int), .int .i64 se, .slice none 0 0] 91)) G.mb ob = w1 at *
  go_quiet (fail)
  have HC2 := hide ((unhide HC1).drewN nq)
  have l2' : (w1.drewN nq).cell? ⟨w.heap.size, 2, none⟩ = some (.int .i64 (d : Int)) := ((unhide HK1).chg (X := fun _ => False) ((Chg.refl _ _).drewN nq) _root_.id).cell 2
  have HL2 := hide (unhide HL _ ((Chg.refl _ _).drewN nq))
  clear HL l2 s0 e0
  generalize w1.drewN nq = w2 at *
  go_wp2_with (first | (go_at_call 79; refine (unhide HL2).mono ?_; rintro e w3 ⟨rfl, hs3⟩; have HS3 := hide (Step.trans (unhide HC2) (unhide HO1) hs3); clear hs3 HL2 l2'; obtain ⟨O3, v3, ch3, o3⟩ := unhide HS3; have HR := hide (run_idle vb _ O3 w3 v3 (unhide HI)); clear v3 ch3 o3) | (go_at_call 78; refine (unhide HR).mono ?_; rintro e wx ⟨rfl, hwx⟩; obtain rfl := hwx))
  go_ret
  exact ⟨rfl, unhide HS3⟩

set_option maxRecDepth 100000 in
set_option maxHeartbeats 4000000 in
/-- what was read comes to a volume that is at nothing -/
theorem done_read_n (vb : Nat) (A : VA) (O : List Nat) (n dk se : Int) (j : Nat) (da : Option Addr) (dc : Nat) (R : World → Prop) (w : World) (h : Vol w vb A O) (hj : A.told.findIdx? (fun c => c.id == n) = some j) (hc : A.told[j]? = some ⟨n, 1, dk, se, .slice none 0 0⟩) (ha : A.at' = .nilIface)
    (hrun : ∀ w1 O1, Vol w1 vb { A with told := A.told.eraseIdx j } O1 → Chg (fun b => b ∈ O) w w1 → (∀ b ∈ O1, b ∈ O ∨ w.heap.size ≤ b) → Calls Tryz.prog 78 #[.pointer (some ⟨vb, 0, none⟩)] w1 fun e w' => e = .returned (.tuple #[]) ∧ R w') :
    Calls Tryz.prog 42 #[.pointer (some ⟨vb, 0, none⟩), .int .i64 n, .bool true, .slice da 8 dc] w fun e w' => e = .returned (.int .i64 0) ∧ R w' := by
  obtain ⟨G, hG, hGO, hGn, hGd⟩ := id h
  have hlt := h.lt
  have c7 : w.cell? ⟨vb, 7, none⟩ = some (.map (some G.mb)) := hG.blk.cell 7
  have hlk := run_lookup_told (P := Tryz.prog) told_under int_under hG.map n j _ hj hc
  simp only [Cmd.cells] at hlk
  have hb0 := (Below.refl w.heap.size w).alloc (Nat.le_refl _) (.cells #[.int .i64 n, .int .i64 1, .int .i64 dk, .int .i64 se, .slice none 0 0] 91)
  have hk0 := Blk.new w #[.int .i64 n, .int .i64 1, .int .i64 dk, .int .i64 se, .slice none 0 0] 91
  have hG0 := hG.chg (X := fun _ => False) (Chg.of_new hb0) (fun _ _ => _root_.id)
  have hGd0 : ∀ c ∈ A.wait, DataIn (w.alloc (.cells #[.int .i64 n, .int .i64 1, .int .i64 dk, .int .i64 se, .slice none 0 0] 91)) c := fun c hcm => (hGd c hcm).keep (X := fun _ => False) (Chg.of_new hb0) (fun _ _ _ _ => _root_.id)
  have c70 : (w.alloc (.cells #[.int .i64 n, .int .i64 1, .int .i64 dk, .int .i64 se, .slice none 0 0] 91)).cell? ⟨vb, 7, none⟩ = some (.map (some G.mb)) := hG0.blk.cell 7
  obtain ⟨ob, hdel, hmp⟩ := run_delete_told (P := Tryz.prog) told_under int_under hG0.map n j hj 0
  have hwo : w.heap.size ∉ O := fun ho => by have := hlt _ ho; omega
  obtain ⟨O1, v1, ch1, o1⟩ := vol_told hG0 hGO hGn hGd0 ob _ hmp
  have hs0 : (w.alloc (.cells #[.int .i64 n, .int .i64 1, .int .i64 dk, .int .i64 se, .slice none 0 0] 91)).heap.size = w.heap.size + 1 := by simp
  have hc1 : Chg (fun b => b ∈ O) w (putMap (w.alloc (.cells #[.int .i64 n, .int .i64 1, .int .i64 dk, .int .i64 se, .slice none 0 0] 91)) G.mb ob) := (Chg.of_new (X := fun b => b ∈ O) hb0).trans ch1 (fun b hb => Or.inl hb)
  have ho1 : ∀ b ∈ O1, b ∈ O ∨ w.heap.size ≤ b := fun b hb => by rcases o1 b hb with q | q; exact Or.inl q; exact Or.inr (by omega)
  have hk1 := hk0.chg ch1 hwo
  have hwo1 : w.heap.size ∉ O1 := fun ho => by rcases o1 _ ho with q | q; exact hwo q; omega
  have HV1 := hide v1
  have HC1 := hide hc1
  have HO1 := hide ho1
  have HK1 := hide hk1
  have HS1 := hide ch1.size
  have HRUN := hide hrun
  have hneq := at_neq_n
  clear h hG hGO hGn hGd hlt hb0 hk0 hG0 hGd0 hmp v1 ch1 o1 hs0 hc1 ho1 hk1 hj hc hrun
  go_enter Tryz.func42, Tryz.ntmps42
  go_wp2_with fail
  clear hdel hlk c7 c70
  generalize putMap (w.alloc (.cells #[.int .i64 n, .int .i64 1, .int .i64 dk, .int .i64 se, .slice none 0 0] 91)) G.mb ob = w1 at *
  go_quiet (fail)
  have HV2 : Hid (Vol (w1.drewN nq) vb { A with told := A.told.eraseIdx j } O1) := (unhide HV1).chg (X := fun _ => False) ((Chg.refl _ _).drewN nq) (fun _ _ => _root_.id)
  have HC2 := hide ((unhide HC1).drewN nq)
  generalize w1.drewN nq = w2 at *
  obtain ⟨G2, hG2, _⟩ := id (unhide HV2)
  have q3 : w2.cell? ⟨vb, 3, none⟩ = some .nilIface := (hG2.blk.cell 3).trans (congrArg some ha)
  clear hG2
  go_wp2_with (go_at_call 78; refine (unhide HRUN _ O1 (unhide HV2) (unhide HC2) (unhide HO1)).mono ?_; rintro e w3 ⟨rfl, hR⟩; have HR := hide hR; clear hR)
  go_ret
  exact ⟨rfl, unhide HR⟩

set_option maxRecDepth 100000 in
set_option maxHeartbeats 4000000 in
/-- what was read comes to a volume that is being opened -/
theorem done_read_o (vb tb hb : Nat) (A : VA) (O : List Nat) (n dk se : Int) (j : Nat) (g dc : Nat) (x0 x1 x2 x3 x4 x5 x6 x7 : Int) (nx : Value) (fr : Bool) (R : World → Prop) (w : World) (h : Vol w vb A O) (hj : A.told.findIdx? (fun c => c.id == n) = some j) (hc : A.told[j]? = some ⟨n, 1, dk, se, .slice none 0 0⟩) (ha : A.at' = opnV tb) (ht : OpenT w tb hb vb nx fr) (hto : tb ∉ O) (hho : hb ∉ O)
    (hg : g ∉ O) (cs : Array Value) (hgb : Blk w g cs 5) (y0 : cs[0]? = some (.int .u8 x0)) (y1 : cs[1]? = some (.int .u8 x1)) (y2 : cs[2]? = some (.int .u8 x2)) (y3 : cs[3]? = some (.int .u8 x3)) (y4 : cs[4]? = some (.int .u8 x4)) (y5 : cs[5]? = some (.int .u8 x5)) (y6 : cs[6]? = some (.int .u8 x6)) (y7 : cs[7]? = some (.int .u8 x7))
    (hrun : ∀ w1 O1, Vol w1 vb { A with told := A.told.eraseIdx j } O1 → Chg (fun b => b ∈ O ∨ b = hb) w w1 → (∀ b ∈ O1, b ∈ O ∨ w.heap.size ≤ b) → OpenT w1 tb hb vb nx fr → Calls Tryz.prog 78 #[.pointer (some ⟨vb, 0, none⟩)] w1 fun e w' => e = .returned (.tuple #[]) ∧ R w') :
    Calls Tryz.prog 42 #[.pointer (some ⟨vb, 0, none⟩), .int .i64 n, .bool true, .slice (some ⟨g, 0, none⟩) 8 dc] w fun e w' => e = .returned (.int .i64 0) ∧ R w' := by
  obtain ⟨G, hG, hGO, hGn, hGd⟩ := id h
  have hlt := h.lt
  have c7 : w.cell? ⟨vb, 7, none⟩ = some (.map (some G.mb)) := hG.blk.cell 7
  have hlk := run_lookup_told (P := Tryz.prog) told_under int_under hG.map n j _ hj hc
  simp only [Cmd.cells] at hlk
  have hb0 := (Below.refl w.heap.size w).alloc (Nat.le_refl _) (.cells #[.int .i64 n, .int .i64 1, .int .i64 dk, .int .i64 se, .slice none 0 0] 91)
  have hk0 := Blk.new w #[.int .i64 n, .int .i64 1, .int .i64 dk, .int .i64 se, .slice none 0 0] 91
  have hG0 := hG.chg (X := fun _ => False) (Chg.of_new hb0) (fun _ _ => _root_.id)
  have hGd0 : ∀ c ∈ A.wait, DataIn (w.alloc (.cells #[.int .i64 n, .int .i64 1, .int .i64 dk, .int .i64 se, .slice none 0 0] 91)) c := fun c hcm => (hGd c hcm).keep (X := fun _ => False) (Chg.of_new hb0) (fun _ _ _ _ => _root_.id)
  have c70 : (w.alloc (.cells #[.int .i64 n, .int .i64 1, .int .i64 dk, .int .i64 se, .slice none 0 0] 91)).cell? ⟨vb, 7, none⟩ = some (.map (some G.mb)) := hG0.blk.cell 7
  obtain ⟨ob, hdel, hmp⟩ := run_delete_told (P := Tryz.prog) told_under int_under hG0.map n j hj 0
  have hwo : w.heap.size ∉ O := fun ho => by have := hlt _ ho; omega
  obtain ⟨O1, v1, ch1, o1⟩ := vol_told hG0 hGO hGn hGd0 ob _ hmp
  have hs0 : (w.alloc (.cells #[.int .i64 n, .int .i64 1, .int .i64 dk, .int .i64 se, .slice none 0 0] 91)).heap.size = w.heap.size + 1 := by simp
  have hc1 : Chg (fun b => b ∈ O) w (putMap (w.alloc (.cells #[.int .i64 n, .int .i64 1, .int .i64 dk, .int .i64 se, .slice none 0 0] 91)) G.mb ob) := (Chg.of_new (X := fun b => b ∈ O) hb0).trans ch1 (fun b hb => Or.inl hb)
  have ho1 : ∀ b ∈ O1, b ∈ O ∨ w.heap.size ≤ b := fun b hb => by rcases o1 b hb with q | q; exact Or.inl q; exact Or.inr (by omega)
  have hk1 := hk0.chg ch1 hwo
  have hwo1 : w.heap.size ∉ O1 := fun ho => by rcases o1 _ ho with q | q; exact hwo q; omega
  have HV1 := hide v1
  have HC1 := hide hc1
  have HO1 := hide ho1
  have HK1 := hide hk1
  have HS1 := hide ch1.size
  have HRUN := hide hrun
  have hneq := at_neq_o tb
  have hinv := inv_hear_o tb
  have harr := arr_sector g dc
  have ht1 := ht.chg hc1 hto hho
  have hg1 := hgb.chg hc1 hg
  have hto1 : tb ∉ O1 := fun ho => by rcases ho1 _ ho with q | q; exact hto q; (have htl : tb < w.heap.size := block_lt_of_cell ht.c0; omega)
  have hho1 : hb ∉ O1 := fun ho => by rcases ho1 _ ho with q | q; exact hho q; (have := ht.map.lt; omega)
  have HT1 := hide ht1
  have HG1 := hide hg1
  clear h hG hGO hGn hGd hlt hb0 hk0 hG0 hGd0 hmp v1 ch1 o1 hs0 hc1 ho1 hk1 hj hc hrun ht ht1 hg1 hgb
  go_enter Tryz.func42, Tryz.ntmps42
  go_wp2_with fail
  clear hdel hlk c7 c70
  generalize putMap (w.alloc (.cells #[.int .i64 n, .int .i64 1, .int .i64 dk, .int .i64 se, .slice none 0 0] 91)) G.mb ob = w1 at *
  go_quiet (fail)
  have HV2 : Hid (Vol (w1.drewN nq) vb { A with told := A.told.eraseIdx j } O1) := (unhide HV1).chg (X := fun _ => False) ((Chg.refl _ _).drewN nq) (fun _ _ => _root_.id)
  have HC2 := hide ((unhide HC1).drewN nq)
  have HT2 := hide ((unhide HT1).chg (X := fun _ => False) ((Chg.refl _ _).drewN nq) _root_.id _root_.id)
  have HG2 := hide ((unhide HG1).chg (X := fun _ => False) ((Chg.refl _ _).drewN nq) _root_.id)
  have HK2 := hide ((unhide HK1).chg (X := fun _ => False) ((Chg.refl _ _).drewN nq) _root_.id)
  generalize w1.drewN nq = w2 at *
  obtain ⟨G2, hG2, _⟩ := id (unhide HV2)
  have q3 : w2.cell? ⟨vb, 3, none⟩ = some (opnV tb) := (hG2.blk.cell 3).trans (congrArg some ha)
  unfold opnV at q3
  clear hG2 HV1 HC1 HT1 HG1 HK1
  go_wp2_with fail
  refine region_tail 14 (by kernel_rfl) (by kernel_rfl) ?_
  rintro w3 hw3
  have HV3 : Hid (Vol w3 vb { A with told := A.told.eraseIdx j } O1) := by rw [hw3]; exact (unhide HV2).chg (X := fun _ => False) (Chg.refl _ _).drew (fun _ _ => _root_.id)
  have HC3 : Hid (Chg (fun b => b ∈ O) w w3) := by rw [hw3]; exact (unhide HC2).drew
  have HT3 : Hid (OpenT w3 tb hb vb nx fr) := by rw [hw3]; exact (unhide HT2).chg (X := fun _ => False) (Chg.refl _ _).drew _root_.id _root_.id
  have q3' : w3.cell? ⟨vb, 3, none⟩ = some (.iface 127 (.pointer (some ⟨tb, 0, none⟩))) := by rw [hw3]; exact q3
  have l2 : w3.cell? ⟨w.heap.size, 2, none⟩ = some (.int .i64 dk) := by rw [hw3]; exact (unhide HK2).cell 2
  have l3 : w3.cell? ⟨w.heap.size, 3, none⟩ = some (.int .i64 se) := by rw [hw3]; exact (unhide HK2).cell 3
  have z0 : w3.cell? ⟨g, 0, none⟩ = some (.int .u8 x0) := by rw [hw3]; exact ((unhide HG2).cell 0).trans y0
  have z1 : w3.cell? ⟨g, 1, none⟩ = some (.int .u8 x1) := by rw [hw3]; exact ((unhide HG2).cell 1).trans y1
  have z2 : w3.cell? ⟨g, 2, none⟩ = some (.int .u8 x2) := by rw [hw3]; exact ((unhide HG2).cell 2).trans y2
  have z3 : w3.cell? ⟨g, 3, none⟩ = some (.int .u8 x3) := by rw [hw3]; exact ((unhide HG2).cell 3).trans y3
  have z4 : w3.cell? ⟨g, 4, none⟩ = some (.int .u8 x4) := by rw [hw3]; exact ((unhide HG2).cell 4).trans y4
  have z5 : w3.cell? ⟨g, 5, none⟩ = some (.int .u8 x5) := by rw [hw3]; exact ((unhide HG2).cell 5).trans y5
  have z6 : w3.cell? ⟨g, 6, none⟩ = some (.int .u8 x6) := by rw [hw3]; exact ((unhide HG2).cell 6).trans y6
  have z7 : w3.cell? ⟨g, 7, none⟩ = some (.int .u8 x7) := by rw [hw3]; exact ((unhide HG2).cell 7).trans y7
  clear hw3 q3 HV2 HC2 HT2 HG2 HK2 y0 y1 y2 y3 y4 y5 y6 y7
  simp only [List.take_succ_cons, List.take_zero, List.drop_succ_cons, List.drop_zero]
  repeat (refine wpStill_step (fun K hK => ?_); go_simp; (try go_ints); refine hK _ ?_; clear hK K)
  refine wpStill_nil ?_
  have HHE := hide (hear_any tb hb dk se x0 x1 x2 x3 x4 x5 x6 x7 w3 (unhide HT3).c1 (unhide HT3).map)
  clear q3' l2 l3 z0 z1 z2 z3 z4 z5 z6 z7
  go_wp2_with fail
  refine (unhide HHE).mono ?_
  rintro e w4 ⟨rfl, hh4, ch4⟩
  have hv4 := (unhide HV3).chg ch4 (fun b hb e => hho1 (e ▸ hb))
  have hc4 : Chg (fun b => b ∈ O ∨ b = hb) w w4 := ((unhide HC3).mono (fun k _ hk => Or.inl hk)).trans ch4 (fun k hk => Or.inl (Or.inr hk))
  have ht4 : OpenT w4 tb hb vb nx fr := by
    obtain ⟨⟨cs', r1, r2⟩, r3⟩ := unhide HT3
    exact ⟨⟨cs', r1.chg ch4 (fun e => (unhide HT3).ne e.symm), r2⟩, hh4⟩
  have HRU := hide (unhide HRUN w4 O1 hv4 hc4 (unhide HO1) ht4)
  clear hh4 ch4 hv4 hc4 ht4 HHE
  go_wp2_with (go_at_call 78; refine (unhide HRU).mono ?_; rintro e w5 ⟨rfl, hR⟩; have HR := hide hR; clear hR HRU)
  go_ret
  exact ⟨rfl, unhide HR⟩

end Go.Proofs.YtdcinlkkjbclmaaGreat
