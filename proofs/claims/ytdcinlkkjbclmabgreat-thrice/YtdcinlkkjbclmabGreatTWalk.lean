/- platterkeep.Thrice answers true. -/
import Derived.Test.YtdcinlkkjbclmabGreatTOpen
namespace Go.Proofs.YtdcinlkkjbclmabGreat
open Go.RowKit

theorem orB : ∀ x : Nat, x < 256 → (0 ≤ bits BinOp.or IntKind.u8 (x : Int) 1 ∧ bits BinOp.or IntKind.u8 (x : Int) 1 < 256) := by decide +kernel
theorem rig_new {w w' : World} {gb D S pb vb : Nat} {O : List Nat} {L : Nat → Bool} {N : Nat} (h : Rig w gb D S pb vb O L N) (hb : Below w.heap.size w w') : Rig w' gb D S pb vb O L N := h.chg (X := fun _ => False) (Chg.of_new hb) (fun _ _ _ _ _ _ => id) (fun _ _ h => h)

set_option maxRecDepth 100000 in
set_option maxHeartbeats 16000000 in
theorem thrice_walk (d s a b : Int) (hd1 : -9223372036854775808 ≤ d) (hd2 : d ≤ 9223372036854775807) (hs1 : -9223372036854775808 ≤ s) (hs2 : s ≤ 9223372036854775807) (ha1 : -9223372036854775808 ≤ a) (ha2 : a ≤ 9223372036854775807) (hb1 : -9223372036854775808 ≤ b) (hb2 : b ≤ 9223372036854775807) (W : World) :
    Calls Tryz.prog 5 #[.int .i64 d, .int .i64 s, .int .i64 a, .int .i64 b] W fun e W' => e = .returned (.bool true) ∧ Below W.heap.size W W' := by
  obtain ⟨D, hD⟩ := Int.eq_ofNat_of_zero_le (show 0 ≤ 4 + pickAt d 5 by have := (pickAt_bd d 5 (by omega)).1; omega)
  obtain ⟨S, hS⟩ := Int.eq_ofNat_of_zero_le (show 0 ≤ 1 + pickAt s 6 by have := (pickAt_bd s 6 (by omega)).1; omega)
  have hD4 : 4 ≤ D := by have := (pickAt_bd d 5 (by omega)).1; omega
  have hD8 : D ≤ 8 := by have := (pickAt_bd d 5 (by omega)).2; omega
  have hS1 : 1 ≤ S := by have := (pickAt_bd s 6 (by omega)).1; omega
  have hS6 : S ≤ 6 := by have := (pickAt_bd s 6 (by omega)).2; omega
  obtain ⟨xa, hxa⟩ := Int.eq_ofNat_of_zero_le (pickAt_bd a D (by omega)).1
  have hxD : xa < D := by have := (pickAt_bd a D (by omega)).2; omega
  have hn0 := (pickAt_bd b ((D : Int) - 2) (by omega)).1
  have hn1 := (pickAt_bd b ((D : Int) - 2) (by omega)).2
  obtain ⟨n, hn⟩ : ∃ n, n = pickAt b ((D : Int) - 2) := ⟨_, rfl⟩
  rw [← hn] at hn0 hn1
  have HBE := hide (begun_rig d s W hd1 hd2 hs1 hs2 D S hD.symm hS.symm)
  have HXA := hide hxa
  have HN := hide hn
  clear hD hS hxa hn
  have i4 : (4 : Int) ≤ (D : Int) := by omega
  have i8 : (D : Int) ≤ 8 := by omega
  go_enter Tryz.func5, Tryz.ntmps5
  go_wp2_with fail
  refine (unhide HBE).mono ?_
  rintro e w1 ⟨pb, vb, tb0, rfl, O, M, hM, hbo, hbe, hr, hv⟩
  have hgr := hr.gno
  have hpr := hr.pno
  obtain ⟨ss1, gs1, dn1, _, hgb1, _⟩ := id hr.own
  have g0 : w1.cell? ⟨W.heap.size, 0, none⟩ = some (.int .i64 (D : Int)) := hgb1.cell 0
  have HR := hide hr
  have HV := hide hv
  have HBO := hide hbo
  have HBL := hide hbe
  clear HBE hr hv hbo hbe hgb1
  go_wp2_with (go_at_call 8; refine (pick_any a (D : Int) _ (by omega) ha1 ha2 (by omega)).mono ?_; rintro e wx ⟨rfl, hwx⟩; obtain rfl := hwx)
  rw [unhide HXA]
  refine (column_any a _ ha1 ha2).mono ?_
  rintro e w2 ⟨rfl, ⟨cs, hcb, hcsz, hcby⟩, hb12⟩
  obtain ⟨w1, hw1⟩ : ∃ w, w = wx := ⟨_, rfl⟩
  subst hw1
  have hs12 := hb12.size
  obtain ⟨x0, hx0, hxc⟩ := hcby 0 (by omega)
  have d0 : w2.cell? ⟨w1.heap.size, 0, none⟩ = some (.int .u8 (x0 : Int)) := (hcb.cell 0).trans hxc
  have df := hcb.free 0
  have hx0i : (x0 : Int) < 256 := by omega
  have HCB := hide hcb
  have HCY := hide hcby
  have HB12 := hide hb12
  clear hcb hcby hb12 hxc g0
  go_wp2_with fail
  obtain ⟨y0, y1⟩ := orB x0 hx0
  have hb13 : Below w1.heap.size w1 (w2.setCell ⟨w1.heap.size, 0, none⟩ (.int .u8 (bits BinOp.or IntKind.u8 (x0 : Int) 1))) := (unhide HB12).setCell (p := ⟨w1.heap.size, 0, none⟩) (Nat.le_refl _) _
  have hcb3 := (unhide HCB).set 0 (.int .u8 (bits BinOp.or IntKind.u8 (x0 : Int) 1))
  have hcy3 := (unhide HCY).set (by omega) 0 _ y0 y1
  have hcz3 : (cs.setIfInBounds 0 (.int .u8 (bits BinOp.or IntKind.u8 (x0 : Int) 1))).size = 16 := by rw [Array.size_setIfInBounds]; exact hcsz
  have HV3 := hide ((unhide HV).new hb13)
  have HR3 := hide (rig_new (unhide HR) hb13)
  have HLT1 := hide (unhide HV).lt
  have HCB3 := hide hcb3
  have HCY3 := hide hcy3
  have HCZ3 := hide hcz3
  have HBL3 : Hid (Below W.heap.size W (w2.setCell ⟨w1.heap.size, 0, none⟩ (.int .u8 (bits BinOp.or IntKind.u8 (x0 : Int) 1)))) := (unhide HBL).trans (hb13.mono (unhide HBL).size)
  have hWs1 := (unhide HBL).size
  clear d0 df hb13 hcb3 hcy3 hcz3 HCB HCY HB12 HV HR HBL y0 y1
  generalize w2.setCell ⟨w1.heap.size, 0, none⟩ (.int .u8 (bits BinOp.or IntKind.u8 (x0 : Int) 1)) = w3 at *
  generalize cs.setIfInBounds 0 (.int .u8 (bits BinOp.or IntKind.u8 (x0 : Int) 1)) = cs3 at *
  have hs3 : w1.heap.size < w3.heap.size := (unhide HCB3).lt
  have hgo : W.heap.size ∉ O := fun h => hgr (mem_pl.2 (Or.inl h))
  have hpo : pb ∉ O := fun h => hpr (mem_pl.2 (Or.inl h))
  have hdo : w1.heap.size ∉ O := fun h => by have := unhide HLT1 _ h; omega
  obtain ⟨ss3, gs3, dn3, _, hgb3, _⟩ := id (unhide HR3).own
  have HGB3 := hide hgb3
  have hgl3 := hgb3.lt
  have t0 : w3.drew.cell? ⟨W.heap.size, 2, none⟩ = some (.pointer (some ⟨pb, 0, none⟩)) := hgb3.cell 2
  have t1 : w3.drew.cell? ⟨W.heap.size, 0, none⟩ = some (.int .i64 (D : Int)) := hgb3.cell 0
  have HSW := hide (submitWrite D S tb0 (D + D) pb vb O n w1.heap.size 16 cs3 w3.drew hD4 hD8 hS1 hS6 hn0 hn1 ((unhide HV3).chg (X := fun _ => False) (Chg.refl _ _).drew (fun _ _ => id)) (by show w3.drew.cell? _ = _; exact (unhide HR3).vol.cell 0) hpo (unhide HCB3).drew hdo (unhide HCZ3) (unhide HCY3))
  have HPK : Hid (Calls Tryz.prog 8 #[.int .i64 b, .int .i64 ((D : Int) - 2)] w3.drew fun e w' => e = .returned (.int .i64 n) ∧ w' = w3.drew) := by
    have := pick_any b ((D : Int) - 2) w3.drew (by omega) hb1 hb2 (by omega)
    rw [← unhide HN] at this
    exact this
  clear hgb3
  have hS0 : (fun w' : World => w'.cell? ⟨W.heap.size, 2, none⟩ = some (.pointer (some ⟨pb, 0, none⟩)) ∧ w'.cell? ⟨W.heap.size, 0, none⟩ = some (.int .i64 (D : Int))) w3.drew := ⟨t0, t1⟩
  clear t0 t1
  refine wp_region_noPanic ?_
  refine orders_begin 18 (fun w' => w'.cell? ⟨W.heap.size, 2, none⟩ = some (.pointer (some ⟨pb, 0, none⟩)) ∧ w'.cell? ⟨W.heap.size, 0, none⟩ = some (.int .i64 (D : Int))) (by kernel_rfl) ?_
  refine orders_take 0 (some 47) (v := .pointer (some ⟨W.heap.size, 0, none⟩)) rfl (by kernel_rfl) (by kernel_rfl) (by kernel_rfl) (by kernel_rfl) (fun _ _ _ h => h) (Or.inl ⟨by rfl, fun _ _ => rfl⟩) hS0 rfl ?_
  simp only [Act.put, List.setIfInBounds_toArray, List.set_cons_zero, List.set_cons_succ]
  refine orders_take 1 (some 48) (v := .pointer (some ⟨W.heap.size, 0, none⟩)) rfl (by kernel_rfl) (by kernel_rfl) (by kernel_rfl) (by kernel_rfl) (fun _ _ _ h => h) (Or.inl ⟨by rfl, fun _ _ => by go_simp⟩) hS0 rfl ?_
  simp only [Act.put, List.setIfInBounds_toArray, List.set_cons_zero, List.set_cons_succ]
  refine orders_take 2 (some 49) (v := .pointer (some ⟨W.heap.size, 2, none⟩)) rfl (by kernel_rfl) (by kernel_rfl) (by kernel_rfl) (by kernel_rfl) (fun _ _ _ h => h) (Or.inl ⟨by rfl, fun _ _ => by go_simp⟩) hS0 rfl ?_
  simp only [Act.put, List.setIfInBounds_toArray, List.set_cons_zero, List.set_cons_succ]
  refine orders_take 3 (some 50) (v := .pointer (some ⟨pb, 0, none⟩)) rfl (by kernel_rfl) (by kernel_rfl) (by kernel_rfl) (by kernel_rfl) (fun _ _ _ h => h) (Or.inl ⟨by rfl, fun w' hw => by have hcc := hw.1; go_simp⟩) hS0 rfl ?_
  simp only [Act.put, List.setIfInBounds_toArray, List.set_cons_zero, List.set_cons_succ]
  refine orders_take 4 (some 51) (v := .int .i64 b) rfl (by kernel_rfl) (by kernel_rfl) (by kernel_rfl) (by kernel_rfl) (fun _ _ _ h => h) (Or.inl ⟨by rfl, fun _ _ => rfl⟩) hS0 rfl ?_
  simp only [Act.put, List.setIfInBounds_toArray, List.set_cons_zero, List.set_cons_succ]
  refine orders_take 5 (some 52) (v := .pointer (some ⟨W.heap.size, 0, none⟩)) rfl (by kernel_rfl) (by kernel_rfl) (by kernel_rfl) (by kernel_rfl) (fun _ _ _ h => h) (Or.inl ⟨by rfl, fun _ _ => rfl⟩) hS0 rfl ?_
  simp only [Act.put, List.setIfInBounds_toArray, List.set_cons_zero, List.set_cons_succ]
  refine orders_take 6 (some 53) (v := .pointer (some ⟨W.heap.size, 0, none⟩)) rfl (by kernel_rfl) (by kernel_rfl) (by kernel_rfl) (by kernel_rfl) (fun _ _ _ h => h) (Or.inl ⟨by rfl, fun _ _ => by go_simp⟩) hS0 rfl ?_
  simp only [Act.put, List.setIfInBounds_toArray, List.set_cons_zero, List.set_cons_succ]
  refine orders_take 7 (some 54) (v := .pointer (some ⟨W.heap.size, 0, none⟩)) rfl (by kernel_rfl) (by kernel_rfl) (by kernel_rfl) (by kernel_rfl) (fun _ _ _ h => h) (Or.inl ⟨by rfl, fun _ _ => by go_simp⟩) hS0 rfl ?_
  simp only [Act.put, List.setIfInBounds_toArray, List.set_cons_zero, List.set_cons_succ]
  refine orders_take 8 (some 55) (v := .int .i64 (D : Int)) rfl (by kernel_rfl) (by kernel_rfl) (by kernel_rfl) (by kernel_rfl) (fun _ _ _ h => h) (Or.inl ⟨by rfl, fun w' hw => by have hcc := hw.2; go_simp⟩) hS0 rfl ?_
  simp only [Act.put, List.setIfInBounds_toArray, List.set_cons_zero, List.set_cons_succ]
  refine orders_take 9 (some 56) (v := .int .i64 ((D : Int) - 2)) rfl (by kernel_rfl) (by kernel_rfl) (by kernel_rfl) (by kernel_rfl) (fun _ _ _ h => h) (Or.inl ⟨by rfl, fun _ _ => by go_simp; (try go_ints); (try trivial)⟩) hS0 rfl ?_
  simp only [Act.put, List.setIfInBounds_toArray, List.set_cons_zero, List.set_cons_succ]
  refine orders_take 11 (some 58) (v := .slice (some ⟨w1.heap.size, 0, none⟩) 16 16) rfl (by kernel_rfl) (by kernel_rfl) (by kernel_rfl) (by kernel_rfl) (fun _ _ _ h => h) (Or.inl ⟨by rfl, fun _ _ => rfl⟩) hS0 rfl ?_
  simp only [Act.put, List.setIfInBounds_toArray, List.set_cons_zero, List.set_cons_succ]
  refine orders_one 10 (by kernel_rfl) rfl (by rfl) (fun K hK => ?_)
  go_simp
  refine (unhide HPK).mono ?_
  rintro e wy ⟨rfl, hwy⟩
  rw [hwy]
  clear hwy wy
  refine hK.out _ _ (fun _ => hS0) ?_
  clear hK K HPK
  refine orders_one 12 (by kernel_rfl) rfl (by rfl) (fun K hK => ?_)
  go_simp
  refine hK.out _ _ (fun _ => hS0) ?_
  clear hK K
  refine orders_one 13 (by kernel_rfl) rfl (by rfl) (fun K hK => ?_)
  go_simp
  refine (unhide HSW).mono ?_
  rintro e w4 ⟨rfl, tb, bs, O4, hbs, v4, c4, o4⟩
  have hgb4 := (unhide HGB3).drew.chg c4 hgo
  have hS4 : (fun w' : World => w'.cell? ⟨W.heap.size, 2, none⟩ = some (.pointer (some ⟨pb, 0, none⟩)) ∧ w'.cell? ⟨W.heap.size, 0, none⟩ = some (.int .i64 (D : Int))) w4 := ⟨hgb4.cell 2, hgb4.cell 0⟩
  refine hK.out _ _ (fun _ => hS4) ?_
  clear hK K hS0 HSW
  have HV4 := hide v4
  have HC4 := hide c4
  have HO4 := hide o4
  have HGB4 := hide hgb4
  clear v4 c4 o4 hgb4
  refine orders_one 14 (by kernel_rfl) rfl (by rfl) (fun K hK => ?_)
  go_simp
  refine hK.out _ _ (fun _ => hS4) ?_
  clear hK K
  refine orders_take 15 (some 61) (v := .int .i64 1) rfl (by kernel_rfl) (by kernel_rfl) (by kernel_rfl) (by kernel_rfl) (fun _ _ _ h => h) (Or.inl ⟨by rfl, fun _ _ => by go_simp⟩) hS4 rfl ?_
  simp only [Act.put, List.setIfInBounds_toArray, List.set_cons_zero, List.set_cons_succ]
  refine orders_take 16 (some 62) (v := .int .i64 0) rfl (by kernel_rfl) (by kernel_rfl) (by kernel_rfl) (by kernel_rfl) (fun _ _ _ h => h) (Or.inl ⟨by rfl, fun _ _ => by go_simp⟩) hS4 rfl ?_
  simp only [Act.put, List.setIfInBounds_toArray, List.set_cons_zero, List.set_cons_succ]
  refine orders_one 17 (by kernel_rfl) rfl (by rfl) (fun K hK => ?_)
  go_simp
  refine hK.out _ _ (fun _ => hS4) ?_
  clear hK K
  refine orders_one 18 (by kernel_rfl) rfl (by rfl) (fun K hK => ?_)
  go_simp
  refine hK.out _ _ (fun h => absurd rfl h) ?_
  clear hK K hS4
  refine orders_end (by kernel_rfl) ?_
  refine NoPanic.normal ?_
  have q2 : w4.cell? ⟨W.heap.size, 2, none⟩ = some (.pointer (some ⟨pb, 0, none⟩)) := (unhide HGB4).cell 2
  have hR4 := rig_step (rig_new (unhide HR3) (Below.refl w3.heap.size w3).drew) (unhide HC4) (unhide HO4)
  have hs4 := (unhide HC4).size
  have hs34 : w3.heap.size ≤ w4.heap.size := hs4
  have hWs3 := (unhide HBL3).size
  have hbo4 : ∀ b ∈ O4, W.heap.size ≤ b := fun b hb => by
    rcases unhide HO4 b hb with q | q
    · exact unhide HBO b q
    · have q' : w3.heap.size ≤ b := q
      omega
  have hbl4 : Below W.heap.size W w4 := Below.on (unhide HBL3).drew hWs3 (unhide HC4) (fun b hb => unhide HBO b hb)
  have hpo4 : pb ∉ O4 := fun h => hR4.pno (mem_pl.2 (Or.inl h))
  have hgo4 : W.heap.size ∉ O4 := fun h => hR4.gno (mem_pl.2 (Or.inl h))
  have HSF := hide (submitFlush D S tb0 (D + D) pb vb tb O4 n bs w4 hD4 (unhide HV4) (hR4.vol.cell 0) hpo4)
  have HR4 := hide hR4
  have HBO4 := hide hbo4
  have HBL4 := hide hbl4
  clear hR4 hbo4 hbl4 HC4 HO4 HV3 HR3 HBL3 HCB3 HCY3 HCZ3 HGB3 HBO HLT1 hs4 hgl3
  go_wp2_with fail
  refine (unhide HSF).mono ?_
  rintro e w5 ⟨rfl, cs5, O5, v5, c5, o5⟩
  have hR5 := rig_step (unhide HR4) c5 o5
  have hWs4 := (unhide HBL4).size
  have hbo5 : ∀ b ∈ O5, W.heap.size ≤ b := fun b hb => by
    rcases o5 b hb with q | q
    · exact unhide HBO4 b q
    · omega
  have hbl5 : Below W.heap.size W w5 := Below.on (unhide HBL4) hWs4 c5 (fun b hb => unhide HBO4 b hb)
  have HST5 : Hid (∃ A, lossA D S tb0 (D + D) tb xa 0 n bs cs5 A ∧ Vol w5 vb A O5) := ⟨_, loss_zero D S tb0 (D + D) tb xa n bs cs5 hD4 hD8 hxD, v5⟩
  have HR5 : Hid (Rig w5 W.heap.size D S pb vb (Pl O5 W.heap.size) (lgK D xa 0) M) := hR5
  have HBO5 := hide hbo5
  have HBL5 := hide hbl5
  clear hR5 hbo5 hbl5 v5 c5 o5 HSF HR4 HBO4 HBL4 HV4 q2 HGB4
  go_wp2
  go_loopw [16] (fun iv wr => ∃ (k : Nat) (Ok : List Nat) (A : VA), k ≤ 3 ∧ iv = .int .i64 (k : Int) ∧ lossA D S tb0 (D + D) tb xa k n bs cs5 A ∧ Vol wr vb A Ok ∧ Rig wr W.heap.size D S pb vb (Pl Ok W.heap.size) (lgK D xa k) M ∧ (∀ b ∈ Ok, W.heap.size ≤ b) ∧ Below W.heap.size W wr) (fun i _ => 3 - (intOf i).toNat)
  case atStart =>
    obtain ⟨A5, hl5, v5⟩ := unhide HST5
    exact ⟨0, O5, A5, by omega, rfl, hl5, v5, unhide HR5, unhide HBO5, unhide HBL5⟩
  case round =>
    clear HST5 HR5 HBO5 HBL5
    obtain ⟨k, Ok, A, hk, rfl, hla, hvk, hrk, hbok, hblk⟩ := hrel
    obtain ⟨ssk, gsk, dnk, _, hgbk, _⟩ := id hrk.own
    have gk0 : wr.cell? ⟨W.heap.size, 0, none⟩ = some (.int .i64 (D : Int)) := hgbk.cell 0
    have gk2 : wr.cell? ⟨W.heap.size, 2, none⟩ = some (.pointer (some ⟨pb, 0, none⟩)) := hgbk.cell 2
    rcases Nat.lt_or_ge k 3 with hlt | hge
    · obtain ⟨A', hla', hfail⟩ := loss_step D S tb0 (D + D) tb vb xa k n bs cs5 A Ok hD4 hD8 hxD hlt hla
      have hmod : (xa + k) % D < D := Nat.mod_lt _ (by omega)
      have HLO := hide (rigLose W.heap.size D S pb vb Ok (lgK D xa k) M ((xa + k) % D) W.heap.size W A A' wr hblk.size hbok hblk hrk hvk hmod hfail)
      have HLA := hide hla'
      have ik : (k : Int) < 3 := by omega
      have ik0 : (0 : Int) ≤ (k : Int) := by omega
      have ix : (xa : Int) < 8 := by omega
      have ix0 : (0 : Int) ≤ (xa : Int) := by omega
      have hcast : (((xa + k) % D : Nat) : Int) = ((xa : Int) + (k : Int)) % (D : Int) := by push_cast; rfl
      rw [hcast] at HLO
      clear hla hla' hfail hvk hrk hbok hblk hgbk gk2 hcast
      go_wp2_with (go_at_call 9; refine (unhide HLO).mono ?_; rintro e w6 ⟨rfl, O6, r6, v6, bo6, be6⟩; have HR6 := hide r6; have HV6 := hide v6; have HBO6 := hide bo6; have HBE6 := hide be6; clear r6 v6 bo6 be6 HLO gk0)
      go_roundw
      case rel =>
        refine ⟨k + 1, O6, A', by omega, by go_num, unhide HLA, unhide HV6, (unhide HR6).congr (fun d hd => ?_), unhide HBO6, unhide HBE6⟩
        unfold lgK
        rw [List.range_succ, List.any_append]
        simp
      case measure => simp [intOf]; omega
    · have hk3 : 3 = k := by omega
      subst hk3
      have hA := loss_three hla
      subst hA
      have hlt3 := hvk.lt
      have hpok : pb ∉ Ok := fun h => hrk.pno (mem_pl.2 (Or.inl h))
      have hgok : W.heap.size ∉ Ok := fun h => hrk.gno (mem_pl.2 (Or.inl h))
      have HS1 := hide (submitFailed pb vb _ Ok 3 0 wr hvk rfl (hrk.vol.cell 0) hpok)
      have HVK := hide hvk
      have HRK := hide hrk
      have HBK := hide hbok
      have HLK := hide hblk
      clear hla hvk hrk hbok hblk hgbk gk0 hlt3
      go_wp2_with (go_at_call 14; refine (unhide HS1).mono ?_; rintro e w6 ⟨rfl, hb6⟩; have HB6 := hide hb6; clear hb6 HS1 gk2; have hr6 := rig_new (unhide HRK) (unhide HB6); obtain ⟨ss6, gs6, dn6, _, hgb6, _⟩ := id hr6.own; have gk2 : w6.cell? ⟨W.heap.size, 2, none⟩ = some (.pointer (some ⟨pb, 0, none⟩)) := hgb6.cell 2; have HS2 := hide (submitFailed pb vb _ Ok 9 0 w6 ((unhide HVK).new (unhide HB6)) rfl (hr6.vol.cell 0) hpok); clear hgb6 hr6)
      refine (unhide HS2).mono ?_
      rintro e w7 ⟨rfl, hb7⟩
      have hb67 : Below wr.heap.size wr w7 := (unhide HB6).trans (hb7.mono (unhide HB6).size)
      have hr7 := rig_new (unhide HRK) hb67
      have hv7 := (unhide HVK).new hb67
      have hbl7 : Below W.heap.size W w7 := (unhide HLK).trans (hb67.mono (unhide HLK).size)
      have hWs7 := hbl7.size
      obtain ⟨ss7, gs7, dn7, _, hgb7, _⟩ := id hr7.own
      have gk7 : w7.cell? ⟨W.heap.size, 2, none⟩ = some (.pointer (some ⟨pb, 0, none⟩)) := hgb7.cell 2
      have HRS := hide (wrapResults pb vb (fun v w' => ∃ O', Vol w' vb { finA D S tb0 (D + D) tb xa n bs cs5 with ress := [] } O' ∧ Chg (fun b => b ∈ Ok) w7 w' ∧ (∀ b ∈ O', b ∈ Ok ∨ w7.heap.size ≤ b) ∧ w'.ownsRow w7.heap.size 39 5 v 2 ((finA D S tb0 (D + D) tb xa n bs cs5).ress.flatten) ∧ ∀ b ∈ dBlk v, b ∉ O') w7 (hr7.vol.cell 0) ((results_any vb _ Ok w7 hv7 (by simp [finA]) (by intro x hx; simp only [finA, List.mem_cons, List.not_mem_nil, or_false] at hx; rcases hx with rfl | rfl; exact ⟨_, _, rfl⟩; exact ⟨_, _, rfl⟩)).mono (fun e w' ⟨v, O', h1, h2⟩ => ⟨v, h1, O', h2⟩)))
      have HR7 := hide hr7
      have HBL7 := hide hbl7
      clear hb7 hb67 hr7 hv7 hbl7 hgb7 HS2 HB6 HRK HVK HLK gk2
      go_wp2_with fail
      refine (unhide HRS).mono ?_
      rintro e w8 ⟨v8, rfl, O8, hv8, hc8, ho8, hrw8, hno8⟩
      obtain ⟨rb, rc, cur8, rfl, hrb8, hel8⟩ := two_results hrw8
      have hrbo : rb ∉ O8 := hno8 rb (by simp [dBlk])
      have hr8 := rig_step (unhide HR7) hc8 ho8
      have hbo8 : ∀ b ∈ O8, W.heap.size ≤ b := fun b hb => by
        rcases ho8 b hb with q | q
        · exact unhide HBK b q
        · omega
      have hbl8 : Below W.heap.size W w8 := Below.on (unhide HBL7) hWs7 hc8 (fun b hb => unhide HBK b hb)
      have hWs8 := hbl8.size
      obtain ⟨ss8, gs8, dn8, _, hgb8, _⟩ := id hr8.own
      have gk8 : w8.cell? ⟨W.heap.size, 2, none⟩ = some (.pointer (some ⟨pb, 0, none⟩)) := hgb8.cell 2
      have HCM := hide (wrapCommands pb vb (fun v w' => ∃ O', Vol w' vb (toldA { finA D S tb0 (D + D) tb xa n bs cs5 with ress := [] } 0) O' ∧ Chg (fun b => b ∈ O8) w8 w' ∧ (∀ b ∈ O', b ∈ O8 ∨ w8.heap.size ≤ b) ∧ Handed w' w8.heap.size v [] O') w8 (hr8.vol.cell 0) ((commands_any vb _ O8 w8 hv8 (by simp [finA, flA, wrA, readyA, newA]) (by intro c hc; simp [finA, flA, wrA, readyA, newA] at hc) (by show D + D ≤ 100000; omega)).mono (fun e w' ⟨v, O', h1, h2⟩ => ⟨v, h1, O', h2⟩)))
      have HR8 := hide hr8
      have HBO8 := hide hbo8
      have HBL8 := hide hbl8
      have HRB8 := hide hrb8
      have HEL8 := hide hel8
      clear hr8 hbo8 hbl8 hrb8 hel8 hgb8 hv8 hc8 ho8 hrw8 hno8 HRS HR7 HBL7 HBK gk7
      go_wp2_with fail
      refine (unhide HCM).mono ?_
      rintro e w9 ⟨v9, rfl, O9, hv9, hc9, ho9, hh9⟩
      obtain ⟨a9, c9, rfl⟩ := handed_none hh9
      have hr9 := rig_step (unhide HR8) hc9 ho9
      have hbl9 : Below W.heap.size W w9 := Below.on (unhide HBL8) hWs8 hc9 (fun b hb => unhide HBO8 b hb)
      have hrb9 := (unhide HRB8).chg hc9 hrbo
      obtain ⟨ss9, gs9, dn9, _, hgb9, _⟩ := id hr9.own
      have hgl9 := hgb9.lt
      have gk9 : w9.cell? ⟨W.heap.size, 2, none⟩ = some (.pointer (some ⟨pb, 0, none⟩)) := hgb9.cell 2
      have HSV := hide (wrapState pb vb _ O9 w9 (hr9.vol.cell 0) hv9)
      have r0 : w9.cell? ⟨rb, 0, none⟩ = some (.int .i64 1) := (hrb9.cell 0).trans (unhide HEL8 0 (by omega))
      have r1 : w9.cell? ⟨rb, 1, none⟩ = some (.int .i64 3) := (hrb9.cell 1).trans (unhide HEL8 1 (by omega))
      have r2 : w9.cell? ⟨rb, 2, none⟩ = some (.slice none 0 0) := (hrb9.cell 2).trans (unhide HEL8 2 (by omega))
      have r5 : w9.cell? ⟨rb, 5, none⟩ = some (.int .i64 2) := (hrb9.cell 5).trans (unhide HEL8 5 (by omega))
      have r6 : w9.cell? ⟨rb, 6, none⟩ = some (.int .i64 3) := (hrb9.cell 6).trans (unhide HEL8 6 (by omega))
      have r7 : w9.cell? ⟨rb, 7, none⟩ = some (.slice none 0 0) := (hrb9.cell 7).trans (unhide HEL8 7 (by omega))
      have HR9 := hide hr9
      have HBL9 := hide hbl9
      have HGB9 := hide hgb9
      clear hr9 hbl9 hrb9 hgb9 hv9 hc9 ho9 hh9 HCM HR8 HBO8 HBL8 HRB8 HEL8 gk8
      go_wp2_with (go_at_call 17; refine (unhide HSV).mono ?_; rintro e wz ⟨rfl, hwz⟩; subst wz)
      clear HSV gk9 r0 r1 r2 r5 r6 r7
      have hS9 : (fun w' : World => w'.cell? ⟨W.heap.size, 0, none⟩ = some (.int .i64 (D : Int)) ∧ w'.cell? ⟨W.heap.size, 1, none⟩ = some (.int .i64 (S : Int))) w9.drew := ⟨(unhide HGB9).cell 0, (unhide HGB9).cell 1⟩
      have HOP := hide (platOpen_any D S false w9.drew hD4 hD8 hS1 hS6)
      refine wp_region_noPanic ?_
      refine orders_begin 13 (fun w' : World => w'.cell? ⟨W.heap.size, 0, none⟩ = some (.int .i64 (D : Int)) ∧ w'.cell? ⟨W.heap.size, 1, none⟩ = some (.int .i64 (S : Int))) (by kernel_rfl) ?_
      refine orders_take 0 (some 198) (v := .pointer (some ⟨W.heap.size, 0, none⟩)) rfl (by kernel_rfl) (by kernel_rfl) (by kernel_rfl) (by kernel_rfl) (fun _ _ _ h => h) (Or.inl ⟨by rfl, fun _ _ => rfl⟩) hS9 rfl ?_
      simp only [Act.put, List.setIfInBounds_toArray, List.set_cons_zero, List.set_cons_succ]
      refine orders_take 1 (some 199) (v := .pointer (some ⟨W.heap.size, 0, none⟩)) rfl (by kernel_rfl) (by kernel_rfl) (by kernel_rfl) (by kernel_rfl) (fun _ _ _ h => h) (Or.inl ⟨by rfl, fun _ _ => by go_simp⟩) hS9 rfl ?_
      simp only [Act.put, List.setIfInBounds_toArray, List.set_cons_zero, List.set_cons_succ]
      refine orders_take 2 (some 200) (v := .pointer (some ⟨W.heap.size, 0, none⟩)) rfl (by kernel_rfl) (by kernel_rfl) (by kernel_rfl) (by kernel_rfl) (fun _ _ _ h => h) (Or.inl ⟨by rfl, fun _ _ => by go_simp⟩) hS9 rfl ?_
      simp only [Act.put, List.setIfInBounds_toArray, List.set_cons_zero, List.set_cons_succ]
      refine orders_take 3 (some 201) (v := .int .i64 (D : Int)) rfl (by kernel_rfl) (by kernel_rfl) (by kernel_rfl) (by kernel_rfl) (fun _ _ _ h => h) (Or.inl ⟨by rfl, fun w' hw => by have hcc := hw.1; go_simp⟩) hS9 rfl ?_
      simp only [Act.put, List.setIfInBounds_toArray, List.set_cons_zero, List.set_cons_succ]
      refine orders_take 4 (some 202) (v := .pointer (some ⟨W.heap.size, 0, none⟩)) rfl (by kernel_rfl) (by kernel_rfl) (by kernel_rfl) (by kernel_rfl) (fun _ _ _ h => h) (Or.inl ⟨by rfl, fun _ _ => rfl⟩) hS9 rfl ?_
      simp only [Act.put, List.setIfInBounds_toArray, List.set_cons_zero, List.set_cons_succ]
      refine orders_take 5 (some 203) (v := .pointer (some ⟨W.heap.size, 0, none⟩)) rfl (by kernel_rfl) (by kernel_rfl) (by kernel_rfl) (by kernel_rfl) (fun _ _ _ h => h) (Or.inl ⟨by rfl, fun _ _ => by go_simp⟩) hS9 rfl ?_
      simp only [Act.put, List.setIfInBounds_toArray, List.set_cons_zero, List.set_cons_succ]
      refine orders_take 6 (some 204) (v := .pointer (some ⟨W.heap.size, 1, none⟩)) rfl (by kernel_rfl) (by kernel_rfl) (by kernel_rfl) (by kernel_rfl) (fun _ _ _ h => h) (Or.inl ⟨by rfl, fun _ _ => by go_simp⟩) hS9 rfl ?_
      simp only [Act.put, List.setIfInBounds_toArray, List.set_cons_zero, List.set_cons_succ]
      refine orders_take 7 (some 205) (v := .int .i64 (S : Int)) rfl (by kernel_rfl) (by kernel_rfl) (by kernel_rfl) (by kernel_rfl) (fun _ _ _ h => h) (Or.inl ⟨by rfl, fun w' hw => by have hcc := hw.2; go_simp⟩) hS9 rfl ?_
      simp only [Act.put, List.setIfInBounds_toArray, List.set_cons_zero, List.set_cons_succ]
      refine orders_one 8 (by kernel_rfl) rfl (by rfl) (fun K hK => ?_)
      go_simp
      refine (unhide HOP).mono ?_
      rintro e w10 ⟨pb2, vb2, tb2, hb2, A2, O2, nx2, w1', rfl, hop, hw2, hpb⟩
      have hb10 : Below w9.heap.size w9 w10 := opened_below hop hw2
      have hgb10 := (unhide HGB9).below hb10 hgl9
      have hS10 : (fun w' : World => w'.cell? ⟨W.heap.size, 0, none⟩ = some (.int .i64 (D : Int)) ∧ w'.cell? ⟨W.heap.size, 1, none⟩ = some (.int .i64 (S : Int))) w10 := ⟨hgb10.cell 0, hgb10.cell 1⟩
      refine hK.out _ _ (fun _ => hS10) ?_
      clear hK K hS9 HOP
      have HPN := hide hop
      have HW2 := hide hw2
      have HPB := hide hpb
      have HGB10 := hide hgb10
      clear hop hw2 hpb hgb10 hb10
      refine orders_one 9 (by kernel_rfl) rfl (by rfl) (fun K hK => ?_)
      go_simp
      refine hK.out _ _ (fun _ => hS10) ?_
      clear hK K
      refine orders_take 10 (some 207) (v := .pointer (some ⟨pb2, 0, none⟩)) rfl (by kernel_rfl) (by kernel_rfl) (by kernel_rfl) (by kernel_rfl) (fun _ _ _ h => h) (Or.inl ⟨by rfl, fun _ _ => by go_simp⟩) hS10 rfl ?_
      simp only [Act.put, List.setIfInBounds_toArray, List.set_cons_zero, List.set_cons_succ]
      refine orders_take 11 (some 208) (v := .int .i64 0) rfl (by kernel_rfl) (by kernel_rfl) (by kernel_rfl) (by kernel_rfl) (fun _ _ _ h => h) (Or.inl ⟨by rfl, fun _ _ => by go_simp⟩) hS10 rfl ?_
      simp only [Act.put, List.setIfInBounds_toArray, List.set_cons_zero, List.set_cons_succ]
      refine orders_one 12 (by kernel_rfl) rfl (by rfl) (fun K hK => ?_)
      go_simp
      refine hK.out _ _ (fun _ => hS10) ?_
      clear hK K
      refine orders_one 13 (by kernel_rfl) rfl (by rfl) (fun K hK => ?_)
      go_simp
      refine hK.out _ _ (fun h => absurd rfl h) ?_
      clear hK K hS10
      refine orders_end (by kernel_rfl) ?_
      refine NoPanic.normal ?_
      have gA : w10.cell? ⟨W.heap.size, 2, none⟩ = some (.pointer (some ⟨pb, 0, none⟩)) := (unhide HGB10).cell 2
      have gF := (unhide HGB10).free 2
      have HRE := hide (rest_old W W.heap.size D S pb2 vb2 tb2 hb2 M xa nx2 _ hD4 hD8 hxD (by omega) (oldw_of ((unhide HR9).congr (fun d hd => lgK_three D (by omega) xa hxD d hd)) (unhide HBL9) (unhide HPN) (unhide HW2) (unhide HPB)))
      clear HR9 HBL9 HGB9 HGB10 HPN HW2 HPB hgl9
      go_wp2_with (first | (go_at_call 15; refine (unhide HRE).mono ?_; rintro e w11 ⟨rfl, hst⟩; have HST := hide hst; clear hst HRE gA gF; obtain ⟨O11, M11, hbo11, hbe11, hr11, hv11⟩ := unhide HST; have HSV := hide (wrapState pb2 vb2 _ O11 w11 (hr11.vol.cell 0) hv11); have HBE := hide hbe11; clear hbo11 hbe11 hr11 hv11 HST) | (go_at_call 17; refine (unhide HSV).mono ?_; rintro e w12 ⟨rfl, hw12⟩; obtain rfl := hw12; rw [old_state D S tb2 xa hD4 hD8 hxD]))
      go_ret
      exact ⟨rfl, unhide HBE⟩

end Go.Proofs.YtdcinlkkjbclmabGreat
