/- A disk is lost; too many are. -/
import Derived.Test.YtdcinlkkjbclmaaGreatVCommands
namespace Go.Proofs.YtdcinlkkjbclmaaGreat
open Go.RowKit

set_option maxRecDepth 100000 in
set_option maxHeartbeats 1000000 in
theorem keepF_none (vb o : Nat) (fv : Value) (w : World) (hc : w.cell? ⟨vb, o + 2, none⟩ = some (.int .i64 0)) :
    Calls Tryz.prog 103 #[.pointer (some ⟨vb, o, none⟩), fv] w fun e w' => e = .returned (.tuple #[]) ∧ w' = w := by
  go_enter Tryz.func103, Tryz.ntmps103
  go_wp2
  go_loopw [10] (fun iv wr => iv = .int .i64 0 ∧ wr = w) (fun _ _ => 0)
  case atStart => exact ⟨rfl, rfl⟩
  case round =>
    obtain ⟨rfl, rfl⟩ := hrel
    go_wp2
    refine bodyPost_end (results_none rfl _ _ _) rfl ⟨rfl, rfl⟩
theorem run_idle (vb : Nat) (A : VA) (O : List Nat) (w : World) (h : Vol w vb A O) (hi : Idle A) :
    Calls Tryz.prog 78 #[.pointer (some ⟨vb, 0, none⟩)] w fun e w' => e = .returned (.tuple #[]) ∧ w' = w :=
  run_by vb (fun _ w' => w' = w) (fun w' => w' = w) (fun _ w' e => Or.inl ⟨A, O, e ▸ h, hi, e⟩) 0 (by omega) w rfl
theorem nodup_w0 {G : VG} {vb : Nat} (h : (G.own vb).Nodup) : (VG.own { G with gw := 0, nw := 0, fw := 0 } vb).Nodup := by
  unfold VG.own opt at *
  simp only [List.nodup_append, List.nodup_cons, List.mem_cons, List.mem_append] at *
  grind
/-- nothing waits any more -/
theorem vol_clear {w : World} {vb : Nat} {A : VA} {O : List Nat} (h : Vol w vb A O) : Step w O (((w.setCell ⟨vb, 4, none⟩ (.slice none 0 0)).setCell ⟨vb, 5, none⟩ (.int .i64 0)).setCell ⟨vb, 6, none⟩ (.int .i64 0)) vb { A with wait := [] } := by
  obtain ⟨G, h, rfl, hnd, hdi⟩ := h
  have hap := apart_of h.nd
  have hch : Chg (fun b => b = vb) w (((w.setCell ⟨vb, 4, none⟩ (.slice none 0 0)).setCell ⟨vb, 5, none⟩ (.int .i64 0)).setCell ⟨vb, 6, none⟩ (.int .i64 0)) := Chg.setCell (X := fun b => b = vb) (Chg.setCell (X := fun b => b = vb) (Chg.setCell (X := fun b => b = vb) (Chg.refl _ w) ⟨vb, 4, none⟩ _ (Or.inl rfl)) ⟨vb, 5, none⟩ _ (Or.inl rfl)) ⟨vb, 6, none⟩ _ (Or.inl rfl)
  refine Vol.lift_sub hnd hdi ⟨{ G with gw := 0, nw := 0, fw := 0 }, ⟨?_, h.std.chg hch hap.sv, h.map.chg hch hap.mv, RingB.nil _ _ _ _, ring_chg h.rq hch (fun hn => (hap.r1 hn).1), ring_chg h.sq hch (fun hn => (hap.s1 hn).1), nodup_w0 h.nd, by have := h.few; exact ⟨by simp, this.2.1, this.2.2⟩⟩, hch.mono (fun k _ hk => by rw [hk]; exact own_mem.2 (Or.inl rfl)), fun b hb => Or.inl ?_⟩ (List.nil_sublist _)
  · have e : volC { A with wait := [] } { G with gw := 0, nw := 0, fw := 0 } = (((volC A G).setIfInBounds 4 (.slice none 0 0)).setIfInBounds 5 (.int .i64 0)).setIfInBounds 6 (.int .i64 0) := by
      unfold volC plV
      simp
    rw [e]
    exact ((h.blk.set 4 _).set 5 _).set 6 _
  · rcases own_mem.1 hb with q | q | q | ⟨q, q'⟩ | ⟨q, q'⟩ | ⟨q, q'⟩
    · exact own_mem.2 (Or.inl q)
    · exact own_mem.2 (Or.inr (Or.inl q))
    · exact own_mem.2 (Or.inr (Or.inr (Or.inl q)))
    · exact absurd rfl q'
    · exact own_mem.2 (Or.inr (Or.inr (Or.inr (Or.inr (Or.inl ⟨q, q'⟩)))))
    · exact own_mem.2 (Or.inr (Or.inr (Or.inr (Or.inr (Or.inr ⟨q, q'⟩)))))
/-- how a disk stands is set down anew -/
theorem vol_stand {w : World} {vb : Nat} {A : VA} {O : List Nat} {G : VG} (h : VolAt w vb A G) (hO : O = G.own vb ++ dats A.wait) (hnd : O.Nodup) (hdi : ∀ c ∈ A.wait, DataIn w c) (d : Nat) (x : Int) : Step w O (w.setCell ⟨G.sb, d, none⟩ (.int .i64 x)) vb { A with stand := A.stand.set d x } := by
  subst hO
  have hap := apart_of h.nd
  have hch : Chg (fun b => b = G.sb) w (w.setCell ⟨G.sb, d, none⟩ (.int .i64 x)) := (Chg.refl _ _).setCell _ _ (Or.inl rfl)
  refine Vol.lift_sub hnd hdi ⟨G, ⟨?_, ?_, h.map.chg hch (fun e => hap.sm e.symm), ring_chg h.wq hch (fun hn => (hap.w1 hn).2.1), ring_chg h.rq hch (fun hn => (hap.r1 hn).2.1), ring_chg h.sq hch (fun hn => (hap.s1 hn).2.1), h.nd, h.few⟩, hch.mono (fun k _ hk => by rw [hk]; exact own_mem.2 (by simp)), fun b hb => Or.inl hb⟩ (List.Sublist.refl _)
  · have e : volC { A with stand := A.stand.set d x } G = volC A G := by unfold volC; simp
    rw [e]
    exact h.blk.chg hch (fun e => hap.sv e.symm)
  · have e : ((A.stand.set d x).map (Value.int .i64)).toArray = (A.stand.map (Value.int .i64)).toArray.setIfInBounds d (.int .i64 x) := by simp [List.map_set]
    rw [e]
    exact h.std.set d _

set_option maxRecDepth 100000 in
set_option maxHeartbeats 4000000 in
theorem failIfLost_any (vb : Nat) (A : VA) (O : List Nat) (w : World) (h : Vol w vb A O) (hs : A.stand.length ≤ 8) (hs4 : 4 ≤ A.stand.length) (hr : A.reqs.length ≤ 6) (hq : A.ress.length ≤ 80000) (hsh : ∀ x ∈ A.reqs, ∃ n xr, x = Value.int .i64 n :: xr) :
    Calls Tryz.prog 105 #[.pointer (some ⟨vb, 0, none⟩)] w fun e w' => e = .returned (.tuple #[]) ∧ Step w O w' vb (failA A) := by
  have HV := hide h
  have HSH := hide hsh
  have hcl := Nat.le_trans (curTo_len A.stand A.stand.length) hs
  have hC8 : (cur A.stand).length ≤ 8 := hcl
  have i1 : ((cur A.stand).length : Int) ≤ 8 := by omega
  have i2 : (A.stand.length : Int) ≤ 8 := by omega
  have i3 : (4 : Int) ≤ (A.stand.length : Int) := by omega
  clear h hsh hcl
  unfold failA
  by_cases hge : (A.stand.length : Int) - 2 ≤ ((cur A.stand).length : Int)
  · rw [if_pos hge]
    go_enter Tryz.func105, Tryz.ntmps105
    go_wp2_with fail
    refine (current_any vb A O w (unhide HV) hs).mono ?_
    rintro e w1 ⟨v, rfl, hov, hb1⟩
    have hv1 := (unhide HV).new hb1
    obtain ⟨lb, ⟨la, c, rfl, _⟩, _⟩ := diskL_own hov
    have HV1 := hide hv1
    have HB1 := hide hb1
    clear hov hv1 hb1
    have HDK := hide (disks_any vb A O w1 (unhide HV1))
    go_wp2_with (go_at_call 106; refine (unhide HDK).mono ?_; rintro e w2 ⟨rfl, hw2⟩; obtain rfl := hw2)
    refine bodyPost_ret (results_none rfl _ _ _) rfl ⟨rfl, Step.new (unhide HB1) (Step.refl (unhide HV1))⟩
  · rw [if_neg hge]
    go_enter Tryz.func105, Tryz.ntmps105
    go_wp2_with fail
    refine (current_any vb A O w (unhide HV) hs).mono ?_
    rintro e w1 ⟨v, rfl, hov, hb1⟩
    have hv1 := (unhide HV).new hb1
    obtain ⟨lb, ⟨la, c, rfl, _⟩, _⟩ := diskL_own hov
    have HV1 := hide hv1
    have HB1 := hide hb1
    clear hov hv1 hb1
    have HDK := hide (disks_any vb A O w1 (unhide HV1))
    obtain ⟨G, hG, _⟩ := id (unhide HV1)
    have c2 : w1.cell? ⟨vb, 2, none⟩ = some (.int .i64 A.state) := hG.blk.cell 2
    have c3 : w1.cell? ⟨vb, 3, none⟩ = some A.at' := hG.blk.cell 3
    have c4 : w1.cell? ⟨vb, 4, none⟩ = some (plV G.gw G.nw) := hG.blk.cell 4
    have c5 : w1.cell? ⟨vb, 5, none⟩ = some (.int .i64 (G.fw : Int)) := hG.blk.cell 5
    have c6 : w1.cell? ⟨vb, 6, none⟩ = some (.int .i64 (A.wait.length : Int)) := hG.blk.cell 6
    have c16 : w1.cell? ⟨vb, 16, none⟩ = some (.slice none 0 0) := hG.blk.cell 16
    have c17 : w1.cell? ⟨vb, 17, none⟩ = some (.int .i64 0) := hG.blk.cell 17
    have c18 : w1.cell? ⟨vb, 18, none⟩ = some (.int .i64 0) := hG.blk.cell 18
    have f2 := hG.blk.free 2
    have f3 := hG.blk.free 3
    have f4 := hG.blk.free 4
    have f5 := hG.blk.free 5
    have f6 := hG.blk.free 6
    have f16 := hG.blk.free 16
    have f17 := hG.blk.free 17
    have f18 := hG.blk.free 18
    generalize plV G.gw G.nw = pw at *
    clear hG
    go_wp2_with (go_at_call 106; refine (unhide HDK).mono ?_; rintro e w2 ⟨rfl, hw2⟩; obtain rfl := hw2)
    clear c2 c3 c4 c5 c6 c16 c17 c18 f2 f3 f4 f5 f6 f16 f17 f18
    have hst : Step w O ((((((((w2.setCell ⟨vb, 2, none⟩ (.int .i64 2)).setCell ⟨vb, 3, none⟩ .nilIface).setCell ⟨vb, 4, none⟩ (.slice none 0 0)).setCell ⟨vb, 5, none⟩ (.int .i64 0)).setCell ⟨vb, 6, none⟩ (.int .i64 0)).setCell ⟨vb, 16, none⟩ (.slice none 0 0)).setCell ⟨vb, 17, none⟩ (.int .i64 0)).setCell ⟨vb, 18, none⟩ (.int .i64 0)) vb { A with state := 2, at' := .nilIface, wait := [] } := by
      obtain ⟨O3, v3, ch3, o3⟩ := Step.new (unhide HB1) (vol_set (A' := { A with state := 2 }) (unhide HV1) 2 (.int .i64 2) (fun G => by unfold volC; simp) rfl rfl rfl rfl rfl)
      obtain ⟨O4, v4, ch4, o4⟩ := Step.trans ch3 o3 (vol_set (A' := { A with state := 2, at' := .nilIface }) v3 3 .nilIface (fun G => by unfold volC; simp) rfl rfl rfl rfl rfl)
      obtain ⟨O5, v5, ch5, o5⟩ := Step.trans ch4 o4 (vol_clear v4)
      obtain ⟨O6, v6, ch6, o6⟩ := Step.trans ch5 o5 (vol_set (A' := { A with state := 2, at' := .nilIface, wait := [] }) v5 16 (.slice none 0 0) (fun G => by unfold volC; simp) rfl rfl rfl rfl rfl)
      obtain ⟨O7, v7, ch7, o7⟩ := Step.trans ch6 o6 (vol_set (A' := { A with state := 2, at' := .nilIface, wait := [] }) v6 17 (.int .i64 0) (fun G => by unfold volC; simp) rfl rfl rfl rfl rfl)
      exact Step.trans ch7 o7 (vol_set (A' := { A with state := 2, at' := .nilIface, wait := [] }) v7 18 (.int .i64 0) (fun G => by unfold volC; simp) rfl rfl rfl rfl rfl)
    have HST := hide hst
    clear hst HV1 HB1 HDK
    generalize (((((((w2.setCell ⟨vb, 2, none⟩ (.int .i64 2)).setCell ⟨vb, 3, none⟩ .nilIface).setCell ⟨vb, 4, none⟩ (.slice none 0 0)).setCell ⟨vb, 5, none⟩ (.int .i64 0)).setCell ⟨vb, 6, none⟩ (.int .i64 0)).setCell ⟨vb, 16, none⟩ (.slice none 0 0)).setCell ⟨vb, 17, none⟩ (.int .i64 0)).setCell ⟨vb, 18, none⟩ (.int .i64 0) = w3 at *
    go_loopw [26] (fun _ wr => ∃ (k : Nat) (Ok : List Nat), k ≤ A.reqs.length ∧ Vol wr vb { A with state := 2, at' := .nilIface, wait := [], reqs := A.reqs.drop k, ress := A.ress ++ (A.reqs.take k).map failed } Ok ∧ Chg (fun b => b ∈ O) w wr ∧ ∀ b ∈ Ok, b ∈ O ∨ w.heap.size ≤ b) (fun _ wr => match wr.cell? ⟨vb, 11, none⟩ with | some (.int _ n) => n.toNat | _ => 0)
    case atStart =>
      obtain ⟨O3, v3, ch3, o3⟩ := unhide HST
      exact ⟨0, O3, Nat.zero_le _, by simpa using v3, ch3, o3⟩
    case round =>
      obtain ⟨k, Ok, hk, hvk, hck, hok⟩ := hrel
      obtain ⟨Gk, hGk, _⟩ := id hvk
      have c11 : wr.cell? ⟨vb, 9 + 2, none⟩ = some (.int .i64 ((A.reqs.length - k : Nat) : Int)) := (hGk.blk.cell 11).trans (by show some (Value.int .i64 ((A.reqs.drop k).length : Int)) = _; rw [List.length_drop])
      rcases Nat.lt_or_ge k A.reqs.length with hlt | hge2
      · obtain ⟨n, xr, hx⟩ := unhide HSH A.reqs[k] (List.getElem_mem hlt)
        have hdr : A.reqs.drop k = (.int .i64 n :: xr) :: A.reqs.drop (k + 1) := by rw [List.drop_eq_getElem_cons hlt, hx]
        have htk : (A.reqs.take (k + 1)).map failed = (A.reqs.take k).map failed ++ [[.int .i64 n, .int .i64 3, .slice none 0 0, .int .i64 0, .int .i64 0]] := by
          rw [List.take_succ_eq_append_getElem hlt, List.map_append, hx]
          rfl
        have hrl : (A.ress ++ (A.reqs.take k).map failed).length ≤ 90000 := by rw [List.length_append, List.length_map, List.length_take]; omega
        have HF := hide (finish_any vb _ Ok n 3 0 0 (.slice none 0 0) xr (A.reqs.drop (k + 1)) wr hvk hdr ⟨none, 0, 0, rfl⟩ hrl 0)
        have HTK := hide htk
        have HCK := hide hck
        have HOK := hide hok
        have hm : 0 < A.reqs.length - k := by omega
        have hm1 : (0 : Int) < ((A.reqs.length - k : Nat) : Int) := by omega
        have HC11 := hide c11
        generalize hmm : A.reqs.length - k = m at *
        clear hvk hck hok hGk hdr htk hrl hx HST
        go_wp2_with (first | (go_at_call 76; refine (lenR_any vb 9 _ _ c11).mono ?_; rintro e wx ⟨rfl, hwx⟩; obtain rfl := hwx) | (go_at_call 124; refine (unhide HF).mono ?_; rintro e w5 ⟨rfl, hs5⟩; have HS5 := hide hs5; clear hs5 HF c11))
        obtain ⟨O5, v5, ch5, o5⟩ := Step.trans (unhide HCK) (unhide HOK) (unhide HS5)
        obtain ⟨G5, hG5, _⟩ := id v5
        have d11 : w5.cell? ⟨vb, 11, none⟩ = some (.int .i64 ((A.reqs.length - (k + 1) : Nat) : Int)) := (hG5.blk.cell 11).trans (by show some (Value.int .i64 ((A.reqs.drop (k + 1)).length : Int)) = _; rw [List.length_drop])
        have HV5 := hide v5
        have HC5 := hide ch5
        have HO5 := hide o5
        clear v5 ch5 o5 hG5
        go_roundw
        case rel =>
          refine ⟨k + 1, O5, by omega, ?_, unhide HC5, unhide HO5⟩
          rw [unhide HTK, ← List.append_assoc]
          exact unhide HV5
        case measure =>
          have := unhide HC11
          rw [d11, show (9 + 2 : Nat) = 11 from rfl] at *
          rw [this]
          simp
          omega
      · obtain rfl : k = A.reqs.length := by omega
        rw [Nat.sub_self] at c11
        rw [List.take_length, List.drop_length] at hvk
        have HS5 : Hid (Step w O wr vb (endA A)) := ⟨Ok, hvk, hck, hok⟩
        clear hvk hck hok hGk HST
        go_wp2_with (go_at_call 76; refine (lenR_any vb 9 _ _ c11).mono ?_; rintro e wx ⟨rfl, hwx⟩; obtain rfl := hwx)
        refine bodyPost_end (results_none rfl _ _ _) rfl ⟨rfl, unhide HS5⟩

end Go.Proofs.YtdcinlkkjbclmaaGreat

/- A disk fails. -/
namespace Go.Proofs.YtdcinlkkjbclmaaGreat
open Go.RowKit

theorem at_neq_o (tb : Nat) (w : World) : (binOp .neq 113 (.iface 127 (.pointer (some ⟨tb, 0, none⟩))) .nilIface).run Tryz.prog w = .ok (.bool true) w := by kernel_rfl
theorem at_neq_w (tb : Nat) (w : World) : (binOp .neq 113 (.iface 204 (.pointer (some ⟨tb, 0, none⟩))) .nilIface).run Tryz.prog w = .ok (.bool true) w := by kernel_rfl
theorem at_neq_n (w : World) : (binOp .neq 113 .nilIface .nilIface).run Tryz.prog w = .ok (.bool false) w := by kernel_rfl

set_option maxRecDepth 100000 in
set_option maxHeartbeats 4000000 in
theorem lose_o (vb tb : Nat) (A : VA) (O : List Nat) (d : Nat) (w : World) (h : Vol w vb A O) (hd : d < A.stand.length) (ha : A.at' = opnV tb) (hs : A.stand.length ≤ 8) (hs4 : 4 ≤ A.stand.length) (hr : A.reqs.length ≤ 6) (hq : A.ress.length ≤ 80000) (hsh : ∀ x ∈ A.reqs, ∃ n xr, x = Value.int .i64 n :: xr) :
    Calls Tryz.prog 79 #[.pointer (some ⟨vb, 0, none⟩), .int .i64 (d : Int)] w fun e w' => e = .returned (.tuple #[]) ∧ Step w O w' vb (failA (lostA A d)) := by
  have hlt := h.lt
  have hb0 := (Below.refl w.heap.size w).alloc (Nat.le_refl _) (.cells #[.int .i64 (d : Int)] 3)
  have hk0 := Blk.new w #[.int .i64 (d : Int)] 3
  have HV0 := hide (h.new hb0)
  have HB0 := hide hb0
  have HK0 := hide hk0
  have hs0 : (w.alloc (.cells #[.int .i64 (d : Int)] 3)).heap.size = w.heap.size + 1 := by simp
  have HS0 := hide hs0
  have hwo : w.heap.size ∉ O := fun ho => by have := hlt _ ho; omega
  have hd0 : (0 : Int) ≤ (d : Int) := by omega
  have hd1 : (d : Int) < (A.stand.length : Int) := by omega
  clear h hb0 hk0 hs0
  go_enter Tryz.func79, Tryz.ntmps79
  go_wp2_with fail
  generalize w.alloc (.cells #[.int .i64 (d : Int)] 3) = w0 at *
  have hs0 := unhide HS0
  refine region_tail 6 (by kernel_rfl) (by kernel_rfl) ?_
  rintro w1 hw1
  have hv1 : Vol w1 vb A O := by rw [hw1]; exact (unhide HV0).chg (X := fun _ => False) (Chg.refl _ _).drew (fun _ _ => id)
  have hb1 : Below w.heap.size w w1 := by rw [hw1]; exact (unhide HB0).drew
  have hk1 : Blk w1 w.heap.size #[.int .i64 (d : Int)] 3 := by rw [hw1]; exact (unhide HK0).drew
  clear hw1 HV0 HB0 HK0 HS0 hs0
  obtain ⟨G, hG, hGO, hGn, hGd⟩ := id hv1
  have c0 : w1.cell? ⟨vb, 0, none⟩ = some (.slice (some ⟨G.sb, 0, none⟩) A.stand.length A.stand.length) := hG.blk.cell 0
  have b0 : w1.cell? ⟨w.heap.size, 0, none⟩ = some (.int .i64 (d : Int)) := hk1.cell 0
  have s0 := stand_at hG.std d hd
  have sf := hG.std.free d
  obtain ⟨O2, v2, ch2, o2⟩ := vol_stand hG hGO hGn hGd d 1
  have hwc : w.heap.size < w1.heap.size := hk1.lt
  have hch2 : Chg (fun b => b ∈ O) w (w1.setCell ⟨G.sb, d, none⟩ (.int .i64 1)) := (Chg.of_new (X := fun b => b ∈ O) hb1).trans ch2 (fun b hb => Or.inl hb)
  have hO2 : ∀ b ∈ O2, b ∈ O ∨ w.heap.size ≤ b := fun b hb => by rcases o2 b hb with q | q; exact Or.inl q; exact Or.inr (by omega)
  have hwo2 : w.heap.size ∉ O2 := fun ho => by rcases o2 _ ho with q | q; exact hwo q; omega
  have hk2 := hk1.chg ch2 hwo
  have HV2 := hide v2
  have HC2 := hide hch2
  have HO2 := hide hO2
  have HK2 := hide hk2
  have hs2 := ch2.size
  clear v2 ch2 o2 hG hGO hGn hGd hv1 hb1 hk1 hch2 hO2 hk2
  simp only [List.take_succ_cons, List.take_zero, List.drop_succ_cons, List.drop_zero]
  repeat (refine wpStill_step (fun K hK => ?_); go_simp; (try go_ints); refine hK _ ?_; clear hK K)
  refine wpStill_nil ?_
  have HKE := hide (wait_keep vb { A with stand := A.stand.set d 1 } O2 (d : Int) w.heap.size _ (unhide HV2) (unhide HK2) hwo2)
  go_wp2_with fail
  clear c0 b0 s0 sf
  generalize w1.setCell ⟨G.sb, d, none⟩ (.int .i64 1) = w2 at *
  refine (unhide HKE).mono ?_
  rintro e w3 ⟨rfl, O3, v3, c3, o3⟩
  obtain ⟨G3, hG3, _⟩ := id v3
  have c18 : w3.cell? ⟨vb, 16 + 2, none⟩ = some (.int .i64 0) := hG3.blk.cell 18
  have cA : w3.cell? ⟨vb, 3, none⟩ = some (opnV tb) := (hG3.blk.cell 3).trans (congrArg some ha)
  have b3 : w3.cell? ⟨w.heap.size, 0, none⟩ = some (.int .i64 (d : Int)) := ((unhide HK2).chg c3 hwo2).cell 0
  obtain ⟨O4, v4, ch4, o4⟩ := Step.trans (unhide HC2) (unhide HO2) ⟨O3, v3, c3, o3⟩
  have hneq := at_neq_o tb
  have hinv := inv_miss_o tb
  have hkf : ∀ fv, Calls Tryz.prog 103 #[.pointer (some ⟨vb, 16, none⟩), fv] w3 fun e w' => e = .returned (.tuple #[]) ∧ w' = w3 := fun fv => keepF_none vb 16 fv w3 c18
  have HKF := hide hkf
  have HV4 := hide v4
  have HC4 := hide ch4
  have HO4 := hide o4
  unfold opnV at cA
  clear v3 c3 o3 v4 ch4 o4 hG3 c18 hkf HKE HV2 HC2 HO2 HK2
  go_wp2_with (go_at_call 103; refine (unhide HKF _).mono ?_; rintro e wx ⟨rfl, hwx⟩; obtain rfl := hwx)
  refine region_tail 5 (by kernel_rfl) (by kernel_rfl) ?_
  rintro w5 hw5
  have HV5 : Hid (Vol w5 vb (lostA A d) O4) := by rw [hw5]; exact (unhide HV4).chg (X := fun _ => False) (Chg.refl _ _).drew (fun _ _ => id)
  have HC5 : Hid (Chg (fun b => b ∈ O) w w5) := by rw [hw5]; exact (unhide HC4).drew
  have q3 : w5.cell? ⟨vb, 3, none⟩ = some (.iface 127 (.pointer (some ⟨tb, 0, none⟩))) := by rw [hw5]; exact cA
  have q0 : w5.cell? ⟨w.heap.size, 0, none⟩ = some (.int .i64 (d : Int)) := by rw [hw5]; exact b3
  clear hw5 HV4 HC4 HKF cA b3
  simp only [List.take_succ_cons, List.take_zero, List.drop_succ_cons, List.drop_zero]
  repeat (refine wpStill_step (fun K hK => ?_); go_simp; (try go_ints); refine hK _ ?_; clear hK K)
  refine wpStill_nil ?_
  have HFL := hide (failIfLost_any vb (lostA A d) O4 w5 (unhide HV5) (by show (A.stand.set d 1).length ≤ 8; rw [List.length_set]; exact hs) (by show 4 ≤ (A.stand.set d 1).length; rw [List.length_set]; exact hs4) hr hq hsh)
  clear q0 q3
  go_wp2_with (first | (go_at_call 160; refine (miss_any tb _ _).mono ?_; rintro e wx ⟨rfl, hwx⟩; obtain rfl := hwx) | (go_at_call 105; refine (unhide HFL).mono ?_; rintro e w6 ⟨rfl, hs6⟩; have HS6 := hide hs6; clear hs6 HFL))
  refine bodyPost_end (results_none rfl _ _ _) rfl ⟨rfl, Step.trans (unhide HC5) (unhide HO4) (unhide HS6)⟩

set_option maxRecDepth 100000 in
set_option maxHeartbeats 4000000 in
theorem lose_w (vb tb : Nat) (A : VA) (O : List Nat) (d : Nat) (w : World) (h : Vol w vb A O) (hd : d < A.stand.length) (ha : A.at' = wrtV tb) (hs : A.stand.length ≤ 8) (hs4 : 4 ≤ A.stand.length) (hr : A.reqs.length ≤ 6) (hq : A.ress.length ≤ 80000) (hsh : ∀ x ∈ A.reqs, ∃ n xr, x = Value.int .i64 n :: xr) :
    Calls Tryz.prog 79 #[.pointer (some ⟨vb, 0, none⟩), .int .i64 (d : Int)] w fun e w' => e = .returned (.tuple #[]) ∧ Step w O w' vb (failA (lostA A d)) := by
  have hlt := h.lt
  have hb0 := (Below.refl w.heap.size w).alloc (Nat.le_refl _) (.cells #[.int .i64 (d : Int)] 3)
  have hk0 := Blk.new w #[.int .i64 (d : Int)] 3
  have HV0 := hide (h.new hb0)
  have HB0 := hide hb0
  have HK0 := hide hk0
  have hs0 : (w.alloc (.cells #[.int .i64 (d : Int)] 3)).heap.size = w.heap.size + 1 := by simp
  have HS0 := hide hs0
  have hwo : w.heap.size ∉ O := fun ho => by have := hlt _ ho; omega
  have hd0 : (0 : Int) ≤ (d : Int) := by omega
  have hd1 : (d : Int) < (A.stand.length : Int) := by omega
  clear h hb0 hk0 hs0
  go_enter Tryz.func79, Tryz.ntmps79
  go_wp2_with fail
  generalize w.alloc (.cells #[.int .i64 (d : Int)] 3) = w0 at *
  have hs0 := unhide HS0
  refine region_tail 6 (by kernel_rfl) (by kernel_rfl) ?_
  rintro w1 hw1
  have hv1 : Vol w1 vb A O := by rw [hw1]; exact (unhide HV0).chg (X := fun _ => False) (Chg.refl _ _).drew (fun _ _ => id)
  have hb1 : Below w.heap.size w w1 := by rw [hw1]; exact (unhide HB0).drew
  have hk1 : Blk w1 w.heap.size #[.int .i64 (d : Int)] 3 := by rw [hw1]; exact (unhide HK0).drew
  clear hw1 HV0 HB0 HK0 HS0 hs0
  obtain ⟨G, hG, hGO, hGn, hGd⟩ := id hv1
  have c0 : w1.cell? ⟨vb, 0, none⟩ = some (.slice (some ⟨G.sb, 0, none⟩) A.stand.length A.stand.length) := hG.blk.cell 0
  have b0 : w1.cell? ⟨w.heap.size, 0, none⟩ = some (.int .i64 (d : Int)) := hk1.cell 0
  have s0 := stand_at hG.std d hd
  have sf := hG.std.free d
  obtain ⟨O2, v2, ch2, o2⟩ := vol_stand hG hGO hGn hGd d 1
  have hwc : w.heap.size < w1.heap.size := hk1.lt
  have hch2 : Chg (fun b => b ∈ O) w (w1.setCell ⟨G.sb, d, none⟩ (.int .i64 1)) := (Chg.of_new (X := fun b => b ∈ O) hb1).trans ch2 (fun b hb => Or.inl hb)
  have hO2 : ∀ b ∈ O2, b ∈ O ∨ w.heap.size ≤ b := fun b hb => by rcases o2 b hb with q | q; exact Or.inl q; exact Or.inr (by omega)
  have hwo2 : w.heap.size ∉ O2 := fun ho => by rcases o2 _ ho with q | q; exact hwo q; omega
  have hk2 := hk1.chg ch2 hwo
  have HV2 := hide v2
  have HC2 := hide hch2
  have HO2 := hide hO2
  have HK2 := hide hk2
  have hs2 := ch2.size
  clear v2 ch2 o2 hG hGO hGn hGd hv1 hb1 hk1 hch2 hO2 hk2
  simp only [List.take_succ_cons, List.take_zero, List.drop_succ_cons, List.drop_zero]
  repeat (refine wpStill_step (fun K hK => ?_); go_simp; (try go_ints); refine hK _ ?_; clear hK K)
  refine wpStill_nil ?_
  have HKE := hide (wait_keep vb { A with stand := A.stand.set d 1 } O2 (d : Int) w.heap.size _ (unhide HV2) (unhide HK2) hwo2)
  go_wp2_with fail
  clear c0 b0 s0 sf
  generalize w1.setCell ⟨G.sb, d, none⟩ (.int .i64 1) = w2 at *
  refine (unhide HKE).mono ?_
  rintro e w3 ⟨rfl, O3, v3, c3, o3⟩
  obtain ⟨G3, hG3, _⟩ := id v3
  have c18 : w3.cell? ⟨vb, 16 + 2, none⟩ = some (.int .i64 0) := hG3.blk.cell 18
  have cA : w3.cell? ⟨vb, 3, none⟩ = some (wrtV tb) := (hG3.blk.cell 3).trans (congrArg some ha)
  have b3 : w3.cell? ⟨w.heap.size, 0, none⟩ = some (.int .i64 (d : Int)) := ((unhide HK2).chg c3 hwo2).cell 0
  obtain ⟨O4, v4, ch4, o4⟩ := Step.trans (unhide HC2) (unhide HO2) ⟨O3, v3, c3, o3⟩
  have hneq := at_neq_w tb
  have hinv := inv_miss_w tb
  have hkf : ∀ fv, Calls Tryz.prog 103 #[.pointer (some ⟨vb, 16, none⟩), fv] w3 fun e w' => e = .returned (.tuple #[]) ∧ w' = w3 := fun fv => keepF_none vb 16 fv w3 c18
  have HKF := hide hkf
  have HV4 := hide v4
  have HC4 := hide ch4
  have HO4 := hide o4
  unfold wrtV at cA
  clear v3 c3 o3 v4 ch4 o4 hG3 c18 hkf HKE HV2 HC2 HO2 HK2
  go_wp2_with (go_at_call 103; refine (unhide HKF _).mono ?_; rintro e wx ⟨rfl, hwx⟩; obtain rfl := hwx)
  refine region_tail 5 (by kernel_rfl) (by kernel_rfl) ?_
  rintro w5 hw5
  have HV5 : Hid (Vol w5 vb (lostA A d) O4) := by rw [hw5]; exact (unhide HV4).chg (X := fun _ => False) (Chg.refl _ _).drew (fun _ _ => id)
  have HC5 : Hid (Chg (fun b => b ∈ O) w w5) := by rw [hw5]; exact (unhide HC4).drew
  have q3 : w5.cell? ⟨vb, 3, none⟩ = some (.iface 204 (.pointer (some ⟨tb, 0, none⟩))) := by rw [hw5]; exact cA
  have q0 : w5.cell? ⟨w.heap.size, 0, none⟩ = some (.int .i64 (d : Int)) := by rw [hw5]; exact b3
  clear hw5 HV4 HC4 HKF cA b3
  simp only [List.take_succ_cons, List.take_zero, List.drop_succ_cons, List.drop_zero]
  repeat (refine wpStill_step (fun K hK => ?_); go_simp; (try go_ints); refine hK _ ?_; clear hK K)
  refine wpStill_nil ?_
  have HFL := hide (failIfLost_any vb (lostA A d) O4 w5 (unhide HV5) (by show (A.stand.set d 1).length ≤ 8; rw [List.length_set]; exact hs) (by show 4 ≤ (A.stand.set d 1).length; rw [List.length_set]; exact hs4) hr hq hsh)
  clear q0 q3
  go_wp2_with (first | (go_at_call 160; refine (miss_any tb _ _).mono ?_; rintro e wx ⟨rfl, hwx⟩; obtain rfl := hwx) | (go_at_call 105; refine (unhide HFL).mono ?_; rintro e w6 ⟨rfl, hs6⟩; have HS6 := hide hs6; clear hs6 HFL))
  refine bodyPost_end (results_none rfl _ _ _) rfl ⟨rfl, Step.trans (unhide HC5) (unhide HO4) (unhide HS6)⟩

set_option maxRecDepth 100000 in
set_option maxHeartbeats 1000000 in
theorem hasDisk_any (vb : Nat) (A : VA) (O : List Nat) (d : Nat) (w : World) (h : Vol w vb A O) (hd : d < A.stand.length) :
    Calls Tryz.prog 80 #[.pointer (some ⟨vb, 0, none⟩), .int .i64 (d : Int)] w fun e w' => e = .returned (.bool true) ∧ w' = w := by
  have hd0 : (0 : Int) ≤ (d : Int) := by omega
  have hd1 : (d : Int) < (A.stand.length : Int) := by omega
  have HD := hide (disks_any vb A O w h)
  clear h
  go_enter Tryz.func80, Tryz.ntmps80
  go_wp2_with (go_at_call 106; refine (unhide HD).mono ?_; rintro e wx ⟨rfl, hwx⟩; obtain rfl := hwx)
  go_ret
  exact ⟨rfl, rfl⟩

set_option maxRecDepth 100000 in
set_option maxHeartbeats 2000000 in
/-- a disk of a volume that is at a Write fails -/
theorem fail_any (vb tb : Nat) (A : VA) (O : List Nat) (d : Nat) (w : World) (h : Vol w vb A O) (hd : d < A.stand.length) (hst : A.stand.getD d 0 ≠ 1) (ha : A.at' = wrtV tb) (hs : A.stand.length ≤ 8) (hs4 : 4 ≤ A.stand.length) (hr : A.reqs.length ≤ 6) (hq : A.ress.length ≤ 80000) (hsh : ∀ x ∈ A.reqs, ∃ n xr, x = Value.int .i64 n :: xr) (hi : Idle (failA (lostA A d))) :
    Calls Tryz.prog 115 #[.pointer (some ⟨vb, 0, none⟩), .int .i64 (d : Int)] w fun e w' => e = .returned (.int .i64 0) ∧ Step w O w' vb (failA (lostA A d)) := by
  obtain ⟨G, hG, _⟩ := id h
  have c0 : w.cell? ⟨vb, 0, none⟩ = some (.slice (some ⟨G.sb, 0, none⟩) A.stand.length A.stand.length) := hG.blk.cell 0
  have s0 := stand_at hG.std d hd
  have hb1 : (A.stand.getD d 0 == 1) = false := by simpa using hst
  have hd0 : (0 : Int) ≤ (d : Int) := by omega
  have hd1 : (d : Int) < (A.stand.length : Int) := by omega
  have HH := hide (hasDisk_any vb A O d w h hd)
  have HL := hide (lose_w vb tb A O d w h hd ha hs hs4 hr hq hsh)
  have HI := hide hi
  clear h hG ha hs hs4 hr hq hsh hi hst
  generalize A.stand.getD d 0 = s at *
  go_enter Tryz.func115, Tryz.ntmps115
  go_wp2_with (first | (go_at_call 80; refine (unhide HH).mono ?_; rintro e wx ⟨rfl, hwx⟩; obtain rfl := hwx) | (go_at_call 79; refine (unhide HL).mono ?_; rintro e w2 ⟨rfl, hs2⟩; have HS2 := hide hs2; clear hs2 HL c0 s0; obtain ⟨O2, v2, ch2, o2⟩ := unhide HS2; have HR := hide (run_idle vb _ O2 w2 v2 (unhide HI)); clear v2 ch2 o2) | (go_at_call 78; refine (unhide HR).mono ?_; rintro e wx ⟨rfl, hwx⟩; obtain rfl := hwx))
  go_ret
  exact ⟨rfl, unhide HS2⟩

end Go.Proofs.YtdcinlkkjbclmaaGreat
