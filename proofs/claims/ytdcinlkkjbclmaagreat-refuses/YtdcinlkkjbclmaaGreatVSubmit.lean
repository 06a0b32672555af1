/- Submit. -/
import Derived.Test.YtdcinlkkjbclmaaGreatMVFirstVChoose
namespace Go.Proofs.YtdcinlkkjbclmaaGreat
open Go.RowKit

theorem u8_size : (Tryz.prog.info? 5).map (·.size) = some 1 := by kernel_rfl
set_option maxRecDepth 100000 in
set_option maxHeartbeats 4000000 in
/-- a request that may be is set down, and carried out as far as run goes -/
theorem submit_by (vb : Nat) (A : VA) (O : List Nat) (k n : Int) (da : Option Addr) (dn dc : Nat) (cs : List Value) (R : World → Prop) (w : World) (h : Vol w vb A O) (hs : A.state ≠ 2) (hrq : A.reqs.length ≤ 5) (hlr : A.lastR ≤ 100000)
    (hdl : cs.length = dn) (hd16 : dn = 0 ∨ dn = 16) (hdo : ∀ v ∈ cs, v.oneCell' = true) (hda : ∀ j v, cs[j]? = some v → ∃ g o, da = some ⟨g, o, none⟩ ∧ w.cell? ⟨g, o + j, none⟩ = some v ∧ g ∉ O)
    (hmay : ∀ w', Below w.heap.size w w' → Calls Tryz.prog 75 #[.pointer (some ⟨vb, 0, none⟩), .agg #[.int .i64 k, .int .i64 n, .slice da dn dc]] w' fun e w'' => e = .returned (.bool true) ∧ Below w'.heap.size w' w'')
    (hrun : ∀ w1 O1 bs, bs.length = 16 → Vol w1 vb { A with lastR := A.lastR + 1, reqs := A.reqs ++ [.int .i64 ((A.lastR : Int) + 1) :: .int .i64 k :: .int .i64 n :: bs] } O1 → Chg (fun b => b ∈ O) w w1 → (∀ b ∈ O1, b ∈ O ∨ w.heap.size ≤ b) →
      Calls Tryz.prog 78 #[.pointer (some ⟨vb, 0, none⟩)] w1 fun e w' => e = .returned (.tuple #[]) ∧ R w' ∧ Chg (fun b => b ∈ O1) w1 w') :
    Calls Tryz.prog 41 #[.pointer (some ⟨vb, 0, none⟩), .agg #[.int .i64 k, .int .i64 n, .slice da dn dc]] w fun e w' => e = .returned (.tuple #[.int .i64 ((A.lastR : Int) + 1), .int .i64 0]) ∧ R w' := by
  have hlt := h.lt
  have hb0 := (Below.refl w.heap.size w).alloc (Nat.le_refl _) (.cells #[.int .i64 k, .int .i64 n, .slice da dn dc] 38)
  have hk0 := Blk.new w #[.int .i64 k, .int .i64 n, .slice da dn dc] 38
  obtain ⟨G, hG, _⟩ := id (h.new hb0)
  have c2 : (w.alloc (.cells #[.int .i64 k, .int .i64 n, .slice da dn dc] 38)).cell? ⟨vb, 2, none⟩ = some (.int .i64 A.state) := hG.blk.cell 2
  have hb1 : (A.state == 2) = false := by simpa using hs
  have HV0 := hide (h.new hb0)
  have HB0 := hide hb0
  have HK0 := hide hk0
  have HMAY := hide hmay
  have HRUN := hide hrun
  have HLT := hide hlt
  have HDA := hide hda
  have HDO := hide hdo
  have hs0 : (w.alloc (.cells #[.int .i64 k, .int .i64 n, .slice da dn dc] 38)).heap.size = w.heap.size + 1 := by simp
  have HS0 := hide hs0
  have hvl : vb < w.heap.size := by obtain ⟨G', hG', _⟩ := id h; exact hG'.blk.lt
  clear h hG hb0 hk0 hmay hrun hlt hda hdo hs0 hs
  go_enter Tryz.func41, Tryz.ntmps41
  go_wp2_with fail
  clear c2
  generalize w.alloc (.cells #[.int .i64 k, .int .i64 n, .slice da dn dc] 38) = w0 at *
  have hs0 := unhide HS0
  refine (unhide HMAY w0 (unhide HB0)).mono ?_
  rintro e w1 ⟨rfl, hbb⟩
  have hB1 := (unhide HB0).trans (hbb.mono (unhide HB0).size)
  have hs1 := hbb.size
  have hv1 := (unhide HV0).new hbb
  have hk1 := (unhide HK0).below hbb (by omega)
  obtain ⟨G1, hG1, _⟩ := id hv1
  have c11 : w1.cell? ⟨vb, 9 + 2, none⟩ = some (.int .i64 (A.reqs.length : Int)) := hG1.blk.cell 11
  have c15 : w1.cell? ⟨vb, 15, none⟩ = some (.int .i64 (A.lastR : Int)) := hG1.blk.cell 15
  have f15 := hG1.blk.free 15
  obtain ⟨O2, v2, ch2, o2⟩ := vol_set (A' := { A with lastR := A.lastR + 1 }) hv1 15 (.int .i64 ((A.lastR : Int) + 1)) (fun G => by unfold volC; simp) rfl rfl rfl rfl rfl
  have HV2 := hide v2
  have HC2 : Hid (Chg (fun b => b ∈ O) w (w1.setCell ⟨vb, 15, none⟩ (.int .i64 ((A.lastR : Int) + 1)))) := (Chg.of_new (X := fun b => b ∈ O) hB1).trans ch2 (fun k hk => Or.inl hk)
  have HO2 := hide o2
  have HK2 : Hid (Blk (w1.setCell ⟨vb, 15, none⟩ (.int .i64 ((A.lastR : Int) + 1))) w.heap.size #[.int .i64 k, .int .i64 n, .slice da dn dc] 38) := hk1.other _ _ (by show w.heap.size ≠ vb; omega)
  clear hbb hv1 hk1 hG1 v2 ch2 o2 HV0 HK0 HB0 HMAY
  have hri : (A.reqs.length : Int) ≤ 5 := by omega
  have hri0 : (0 : Int) ≤ (A.reqs.length : Int) := by omega
  have hli : (A.lastR : Int) ≤ 100000 := by omega
  have hli0 : (0 : Int) ≤ (A.lastR : Int) := by omega
  go_wp2_with (go_at_call 76; refine (lenR_any vb 9 _ _ c11).mono ?_; rintro e wx ⟨rfl, hwx⟩; obtain rfl := hwx)
  have q0 : (wx.setCell ⟨vb, 15, none⟩ (.int .i64 ((A.lastR : Int) + 1))).drew.cell? ⟨w.heap.size, 0, none⟩ = some (.int .i64 k) := (unhide HK2).cell 0
  have q1 : (wx.setCell ⟨vb, 15, none⟩ (.int .i64 ((A.lastR : Int) + 1))).drew.cell? ⟨w.heap.size, 1, none⟩ = some (.int .i64 n) := (unhide HK2).cell 1
  obtain ⟨G2, hG2, _⟩ := id (unhide HV2)
  have q15 : (wx.setCell ⟨vb, 15, none⟩ (.int .i64 ((A.lastR : Int) + 1))).drew.cell? ⟨vb, 15, none⟩ = some (.int .i64 ((A.lastR : Int) + 1)) := hG2.blk.cell 15
  clear hG2 c11 c15 f15
  have hS0 : (fun w' : World => w'.cell? ⟨vb, 15, none⟩ = some (.int .i64 ((A.lastR : Int) + 1)) ∧ w'.cell? ⟨w.heap.size, 0, none⟩ = some (.int .i64 k) ∧ w'.cell? ⟨w.heap.size, 1, none⟩ = some (.int .i64 n)) (wx.setCell ⟨vb, 15, none⟩ (.int .i64 ((A.lastR : Int) + 1))).drew := ⟨q15, q0, q1⟩
  clear q15 q0 q1
  have hs3 : (wx.setCell ⟨vb, 15, none⟩ (.int .i64 ((A.lastR : Int) + 1))).heap.size = wx.heap.size := by simp
  have HS3 := hide hs3
  clear hs3
  generalize wx.setCell ⟨vb, 15, none⟩ (.int .i64 ((A.lastR : Int) + 1)) = w3 at *
  refine wp_region_noPanic ?_
  refine orders_begin 10 (fun w' => w'.cell? ⟨vb, 15, none⟩ = some (.int .i64 ((A.lastR : Int) + 1)) ∧ w'.cell? ⟨w.heap.size, 0, none⟩ = some (.int .i64 k) ∧ w'.cell? ⟨w.heap.size, 1, none⟩ = some (.int .i64 n)) (by kernel_rfl) ?_
  refine orders_take 0 (some 28) (v := .pointer (some ⟨vb, 0, none⟩)) rfl (by kernel_rfl) (by kernel_rfl) (by kernel_rfl) (by kernel_rfl) (fun _ _ _ h => h) (Or.inl ⟨by rfl, fun _ _ => rfl⟩) hS0 rfl ?_
  simp only [Act.put, List.setIfInBounds_toArray, List.set_cons_zero, List.set_cons_succ]
  refine orders_take 1 (some 29) (v := .pointer (some ⟨vb, 0, none⟩)) rfl (by kernel_rfl) (by kernel_rfl) (by kernel_rfl) (by kernel_rfl) (fun _ _ _ h => h) (Or.inl ⟨by rfl, fun _ _ => by go_simp⟩) hS0 rfl ?_
  simp only [Act.put, List.setIfInBounds_toArray, List.set_cons_zero, List.set_cons_succ]
  refine orders_take 2 (some 30) (v := .pointer (some ⟨vb, 15, none⟩)) rfl (by kernel_rfl) (by kernel_rfl) (by kernel_rfl) (by kernel_rfl) (fun _ _ _ h => h) (Or.inl ⟨by rfl, fun _ _ => by go_simp⟩) hS0 rfl ?_
  simp only [Act.put, List.setIfInBounds_toArray, List.set_cons_zero, List.set_cons_succ]
  refine orders_take 3 (some 31) (v := .int .i64 ((A.lastR : Int) + 1)) rfl (by kernel_rfl) (by kernel_rfl) (by kernel_rfl) (by kernel_rfl) (fun _ _ _ h => h) (Or.inl ⟨by rfl, fun w' hw => by have hcc := hw.1; go_simp⟩) hS0 rfl ?_
  simp only [Act.put, List.setIfInBounds_toArray, List.set_cons_zero, List.set_cons_succ]
  refine orders_take 4 (some 32) (v := .pointer (some ⟨w.heap.size, 0, none⟩)) rfl (by kernel_rfl) (by kernel_rfl) (by kernel_rfl) (by kernel_rfl) (fun _ _ _ h => h) (Or.inl ⟨by rfl, fun _ _ => by go_simp⟩) hS0 rfl ?_
  simp only [Act.put, List.setIfInBounds_toArray, List.set_cons_zero, List.set_cons_succ]
  refine orders_take 5 (some 33) (v := .int .i64 k) rfl (by kernel_rfl) (by kernel_rfl) (by kernel_rfl) (by kernel_rfl) (fun _ _ _ h => h) (Or.inl ⟨by rfl, fun w' hw => by have hcc := hw.2.1; go_simp⟩) hS0 rfl ?_
  simp only [Act.put, List.setIfInBounds_toArray, List.set_cons_zero, List.set_cons_succ]
  refine orders_take 6 (some 34) (v := .pointer (some ⟨w.heap.size, 1, none⟩)) rfl (by kernel_rfl) (by kernel_rfl) (by kernel_rfl) (by kernel_rfl) (fun _ _ _ h => h) (Or.inl ⟨by rfl, fun _ _ => by go_simp⟩) hS0 rfl ?_
  simp only [Act.put, List.setIfInBounds_toArray, List.set_cons_zero, List.set_cons_succ]
  refine orders_take 7 (some 35) (v := .int .i64 n) rfl (by kernel_rfl) (by kernel_rfl) (by kernel_rfl) (by kernel_rfl) (fun _ _ _ h => h) (Or.inl ⟨by rfl, fun w' hw => by have hcc := hw.2.2; go_simp⟩) hS0 rfl ?_
  simp only [Act.put, List.setIfInBounds_toArray, List.set_cons_zero, List.set_cons_succ]
  refine orders_take 8 (some 36) (v := .agg #[.int .i64 ((A.lastR : Int) + 1), .int .i64 k, .int .i64 n, .int .u8 0, .int .u8 0, .int .u8 0, .int .u8 0, .int .u8 0, .int .u8 0, .int .u8 0, .int .u8 0, .int .u8 0, .int .u8 0, .int .u8 0, .int .u8 0, .int .u8 0, .int .u8 0, .int .u8 0, .int .u8 0]) rfl (by kernel_rfl) (by kernel_rfl) (by kernel_rfl) (by kernel_rfl) (fun _ _ _ h => h) (Or.inl ⟨by rfl, fun _ _ => by go_simp⟩) hS0 rfl ?_
  simp only [Act.put, List.setIfInBounds_toArray, List.set_cons_zero, List.set_cons_succ]
  have hnk := (Blk.new w3 #[Value.int .i64 0, Value.int .i64 0, Value.int .i64 0, Value.int .u8 0, Value.int .u8 0, Value.int .u8 0, Value.int .u8 0, Value.int .u8 0, Value.int .u8 0, Value.int .u8 0, Value.int .u8 0, Value.int .u8 0, Value.int .u8 0, Value.int .u8 0, Value.int .u8 0, Value.int .u8 0, Value.int .u8 0, Value.int .u8 0, Value.int .u8 0] 142).drew
  have hwk : Below w3.heap.size w3 (w3.alloc (.cells #[Value.int .i64 0, Value.int .i64 0, Value.int .i64 0, Value.int .u8 0, Value.int .u8 0, Value.int .u8 0, Value.int .u8 0, Value.int .u8 0, Value.int .u8 0, Value.int .u8 0, Value.int .u8 0, Value.int .u8 0, Value.int .u8 0, Value.int .u8 0, Value.int .u8 0, Value.int .u8 0, Value.int .u8 0, Value.int .u8 0, Value.int .u8 0] 142)).drew := ((Below.refl _ _).alloc (Nat.le_refl _) _).drew
  have hth : (w3.alloc (.cells #[Value.int .i64 0, Value.int .i64 0, Value.int .i64 0, Value.int .u8 0, Value.int .u8 0, Value.int .u8 0, Value.int .u8 0, Value.int .u8 0, Value.int .u8 0, Value.int .u8 0, Value.int .u8 0, Value.int .u8 0, Value.int .u8 0, Value.int .u8 0, Value.int .u8 0, Value.int .u8 0, Value.int .u8 0, Value.int .u8 0, Value.int .u8 0] 142)).drew.there w3.heap.size 0 19 := hnk.there 0 19 (by simp)
  have hbk : Blk ((w3.alloc (.cells #[Value.int .i64 0, Value.int .i64 0, Value.int .i64 0, Value.int .u8 0, Value.int .u8 0, Value.int .u8 0, Value.int .u8 0, Value.int .u8 0, Value.int .u8 0, Value.int .u8 0, Value.int .u8 0, Value.int .u8 0, Value.int .u8 0, Value.int .u8 0, Value.int .u8 0, Value.int .u8 0, Value.int .u8 0, Value.int .u8 0, Value.int .u8 0] 142)).drew.setCells w3.heap.size 0 [Value.int .i64 ((A.lastR : Int) + 1), .int .i64 k, .int .i64 n, .int .u8 0, .int .u8 0, .int .u8 0, .int .u8 0, .int .u8 0, .int .u8 0, .int .u8 0, .int .u8 0, .int .u8 0, .int .u8 0, .int .u8 0, .int .u8 0, .int .u8 0, .int .u8 0, .int .u8 0, .int .u8 0]) w3.heap.size ([Value.int .i64 ((A.lastR : Int) + 1), .int .i64 k, .int .i64 n, .int .u8 0, .int .u8 0, .int .u8 0, .int .u8 0, .int .u8 0, .int .u8 0, .int .u8 0, .int .u8 0, .int .u8 0, .int .u8 0, .int .u8 0, .int .u8 0, .int .u8 0, .int .u8 0, .int .u8 0, .int .u8 0] : List Value).toArray 142 := hnk.whole [Value.int .i64 ((A.lastR : Int) + 1), .int .i64 k, .int .i64 n, .int .u8 0, .int .u8 0, .int .u8 0, .int .u8 0, .int .u8 0, .int .u8 0, .int .u8 0, .int .u8 0, .int .u8 0, .int .u8 0, .int .u8 0, .int .u8 0, .int .u8 0, .int .u8 0, .int .u8 0, .int .u8 0] rfl
  have hwk2 : Below w3.heap.size w3 ((w3.alloc (.cells #[Value.int .i64 0, Value.int .i64 0, Value.int .i64 0, Value.int .u8 0, Value.int .u8 0, Value.int .u8 0, Value.int .u8 0, Value.int .u8 0, Value.int .u8 0, Value.int .u8 0, Value.int .u8 0, Value.int .u8 0, Value.int .u8 0, Value.int .u8 0, Value.int .u8 0, Value.int .u8 0, Value.int .u8 0, Value.int .u8 0, Value.int .u8 0] 142)).drew.setCells w3.heap.size 0 [Value.int .i64 ((A.lastR : Int) + 1), .int .i64 k, .int .i64 n, .int .u8 0, .int .u8 0, .int .u8 0, .int .u8 0, .int .u8 0, .int .u8 0, .int .u8 0, .int .u8 0, .int .u8 0, .int .u8 0, .int .u8 0, .int .u8 0, .int .u8 0, .int .u8 0, .int .u8 0, .int .u8 0]) := below_setCells hwk _ _ _ (Nat.le_refl _)
  have HTH := hide hth
  have HBK := hide hbk
  have HWK := hide hwk
  have HWK2 := hide hwk2
  have hs3 := unhide HS3
  have hbl : vb < w3.heap.size := by omega
  have hrl : w.heap.size < w3.heap.size := by omega
  have hS1 : (fun w' : World => w'.cell? ⟨vb, 15, none⟩ = some (.int .i64 ((A.lastR : Int) + 1)) ∧ w'.cell? ⟨w.heap.size, 0, none⟩ = some (.int .i64 k) ∧ w'.cell? ⟨w.heap.size, 1, none⟩ = some (.int .i64 n)) (w3.alloc (.cells #[Value.int .i64 0, Value.int .i64 0, Value.int .i64 0, Value.int .u8 0, Value.int .u8 0, Value.int .u8 0, Value.int .u8 0, Value.int .u8 0, Value.int .u8 0, Value.int .u8 0, Value.int .u8 0, Value.int .u8 0, Value.int .u8 0, Value.int .u8 0, Value.int .u8 0, Value.int .u8 0, Value.int .u8 0, Value.int .u8 0, Value.int .u8 0] 142)).drew := ⟨(hwk.cell (p := ⟨vb, 15, none⟩) hbl).trans hS0.1, (hwk.cell (p := ⟨w.heap.size, 0, none⟩) hrl).trans hS0.2.1, (hwk.cell (p := ⟨w.heap.size, 1, none⟩) hrl).trans hS0.2.2⟩
  have HS1' := hide hS1
  clear hnk hwk hth hbk hwk2 hS1 hs3
  refine orders_one 9 (by kernel_rfl) rfl (by rfl) (fun K hK => ?_)
  go_simp
  refine hK.out _ _ (fun _ => unhide HS1') ?_
  clear hK K hS0
  refine orders_one 10 (by kernel_rfl) rfl (by rfl) (fun K hK => ?_)
  refine wp_store_mid 142 _ _ rfl w3.heap.size 0 ([Value.int .i64 ((A.lastR : Int) + 1), .int .i64 k, .int .i64 n, .int .u8 0, .int .u8 0, .int .u8 0, .int .u8 0, .int .u8 0, .int .u8 0, .int .u8 0, .int .u8 0, .int .u8 0, .int .u8 0, .int .u8 0, .int .u8 0, .int .u8 0, .int .u8 0, .int .u8 0, .int .u8 0] : List Value).toArray rfl rfl (unhide HTH) elInfoR (by simp [Value.oneCell']) ?_
  refine hK.out _ _ (fun h => absurd rfl h) ?_
  clear hK K HS1' HTH HWK
  refine orders_end (by kernel_rfl) ?_
  refine NoPanic.normal ?_
  have HLT2 := hide (unhide HV2).lt
  have HV4 := hide ((unhide HV2).new (unhide HWK2))
  have HC4 := hide (chg_new (unhide HC2) (unhide HWK2))
  have HK4 := hide ((unhide HK2).below (unhide HWK2) hrl)
  have HS4 := hide (unhide HWK2).size
  generalize (w3.alloc (.cells #[Value.int .i64 0, Value.int .i64 0, Value.int .i64 0, Value.int .u8 0, Value.int .u8 0, Value.int .u8 0, Value.int .u8 0, Value.int .u8 0, Value.int .u8 0, Value.int .u8 0, Value.int .u8 0, Value.int .u8 0, Value.int .u8 0, Value.int .u8 0, Value.int .u8 0, Value.int .u8 0, Value.int .u8 0, Value.int .u8 0, Value.int .u8 0] 142)).drew.setCells w3.heap.size 0 [Value.int .i64 ((A.lastR : Int) + 1), .int .i64 k, .int .i64 n, .int .u8 0, .int .u8 0, .int .u8 0, .int .u8 0, .int .u8 0, .int .u8 0, .int .u8 0, .int .u8 0, .int .u8 0, .int .u8 0, .int .u8 0, .int .u8 0, .int .u8 0, .int .u8 0, .int .u8 0, .int .u8 0] = w4 at *
  clear HV2 HC2 HK2 HWK2
  obtain ⟨X0, hX0⟩ : ∃ X : List Value, X = [Value.int .i64 ((A.lastR : Int) + 1), .int .i64 k, .int .i64 n, .int .u8 0, .int .u8 0, .int .u8 0, .int .u8 0, .int .u8 0, .int .u8 0, .int .u8 0, .int .u8 0, .int .u8 0, .int .u8 0, .int .u8 0, .int .u8 0, .int .u8 0, .int .u8 0, .int .u8 0, .int .u8 0] := ⟨_, rfl⟩
  have HBK' : Hid (Blk w4 w3.heap.size X0.toArray 142) := by rw [hX0]; exact unhide HBK
  have hX0l : X0.length = 19 := by rw [hX0]; rfl
  have HXO : Hid (∀ v ∈ X0, v.oneCell' = true) := by rw [hX0]; intro v hv; simp only [List.mem_cons, List.not_mem_nil, or_false] at hv; rcases hv with rfl | rfl | rfl | rfl | rfl | rfl | rfl | rfl | rfl | rfl | rfl | rfl | rfl | rfl | rfl | rfl | rfl | rfl | rfl <;> rfl
  have HX3 : Hid (X0.take 3 = [.int .i64 ((A.lastR : Int) + 1), .int .i64 k, .int .i64 n]) := by rw [hX0]; rfl
  clear hX0 HBK
  go_wp2
  refine region_tail 4 (by kernel_rfl) (by kernel_rfl) ?_
  rintro w5 hw5
  have HV5 : Hid (Vol w5 vb { A with lastR := A.lastR + 1 } O2) := by rw [hw5]; exact (unhide HV4).chg (X := fun _ => False) (Chg.refl _ _).drew (fun _ _ => id)
  have HC5 : Hid (Chg (fun b => b ∈ O) w w5) := by rw [hw5]; exact (unhide HC4).drew
  have HBK5 : Hid (Blk w5 w3.heap.size X0.toArray 142) := by rw [hw5]; exact (unhide HBK').drew
  have k2 : w5.cell? ⟨w.heap.size, 2, none⟩ = some (.slice da dn dc) := by rw [hw5]; exact (unhide HK4).cell 2
  have hs5 : w3.heap.size ≤ w5.heap.size := by rw [hw5]; exact unhide HS4
  clear hw5 HV4 HC4 HBK' HK4 HS4
  simp only [List.take_succ_cons, List.take_zero, List.drop_succ_cons, List.drop_zero]
  repeat (refine wpStill_step (fun K hK => ?_); go_simp; (try go_ints); refine hK _ ?_; clear hK K)
  refine wpStill_nil ?_
  have HCS : Hid (0 < cs.length → (some (⟨w3.heap.size, 3, none⟩ : Addr)) = some ⟨w3.heap.size, 3, none⟩ ∧ ∃ ad, da = some ad ∧ ∀ j v, cs[j]? = some v → w5.cell? (ad.add j) = some v) := fun h0 => by
    obtain ⟨g, o, rfl, _, hgo⟩ := unhide HDA 0 cs[0] (List.getElem?_eq_getElem h0)
    refine ⟨rfl, _, rfl, fun j v hj => ?_⟩
    obtain ⟨g', o', e, hc, hgo'⟩ := unhide HDA j v hj
    cases e
    rw [Addr.add_mid, World.cell?_of_block (w := w) (a := ⟨g, o + j, none⟩) ((unhide HC5).block g (block_lt_of_cell hc) hgo')]
    exact hc
  refine wpList_copy_splice rfl (.tmp 38) (.tmp 40) 36 36 rfl 5 Tryz.underlying36 u8_size (some ⟨w3.heap.size, 3, none⟩) da 16 16 dn dc (by rfl) (by rfl) w3.heap.size 3 X0 142 (unhide HBK5) cs (by rw [hdl]; rcases hd16 with e | e <;> rw [e] <;> rfl) (unhide HCS) (by rw [hX0l, hdl]; omega) (unhide HDO) w3.heap.size w5 (Below.refl _ _) (Nat.le_refl _) ?_
  intro w6 hg6 hb6
  have hcl : 3 + cs.length ≤ X0.length := by rw [hX0l, hdl]; omega
  have hYl : (splice X0 3 cs).length = 19 := by rw [length_splice _ _ _ hcl]; exact hX0l
  have hY3 : splice X0 3 cs = .int .i64 ((A.lastR : Int) + 1) :: .int .i64 k :: .int .i64 n :: (cs ++ X0.drop (3 + cs.length)) := by
    unfold splice
    rw [unhide HX3]
    rfl
  have hbl : (cs ++ X0.drop (3 + cs.length)).length = 16 := by
    have := congrArg List.length hY3
    rw [hYl] at this
    simp only [List.length_cons] at this
    omega
  have hYo : ∀ v ∈ splice X0 3 cs, v.oneCell' = true := fun v hv => by
    unfold splice at hv
    rcases List.mem_append.1 hv with q | q
    · exact unhide HXO v (List.mem_of_mem_take q)
    · rcases List.mem_append.1 q with q | q
      · exact unhide HDO v q
      · exact unhide HXO v (List.mem_of_mem_drop q)
  have hv6 : Vol w6 vb { A with lastR := A.lastR + 1 } O2 := (unhide HV5).chg (X := fun b => w3.heap.size ≤ b) (Chg.of_below hb6 (fun k h1 _ => h1)) (fun b hb => by have := unhide HLT2 b hb; omega)
  have hc6 : Chg (fun b => b ∈ O) w w6 := (unhide HC5).trans (Chg.of_below (X := fun b => w3.heap.size ≤ b) hb6 (fun k h1 _ => h1)) (fun k hk => Or.inr (by omega))
  have hk6 : Blk w6 w3.heap.size (splice X0 3 cs).toArray 142 := hg6.out
  have HV6 := hide hv6
  have HC6 := hide hc6
  have HK6 := hide hk6
  have HY3 := hide hY3
  have HBL := hide hbl
  have HYO := hide hYo
  have HYL := hide hYl
  clear hg6 hb6 hcl hY3 hbl hYo hv6 hc6 hk6 hYl HCS HV5 HC5 HBK5 HDA HDO HXO HX3 hX0l k2
  generalize splice X0 3 cs = Y at *
  generalize cs ++ X0.drop (3 + cs.length) = bs at *
  go_wp2
  refine region_tail 4 (by kernel_rfl) (by kernel_rfl) ?_
  rintro w7 hw7
  have HV7 : Hid (Vol w7 vb { A with lastR := A.lastR + 1 } O2) := by rw [hw7]; exact (unhide HV6).chg (X := fun _ => False) (Chg.refl _ _).drew (fun _ _ => id)
  have HC7 : Hid (Chg (fun b => b ∈ O) w w7) := by rw [hw7]; exact (unhide HC6).drew
  have HK7 : Hid (Blk w7 w3.heap.size Y.toArray 142) := by rw [hw7]; exact (unhide HK6).drew
  have hs7 := (unhide HK7).lt
  clear hw7 HV6 HC6 HK6
  have HRG : Hid (w7.rangeAt w3.heap.size 0 Y) := (unhide HK7).range 0 Y (fun j v hj => by simpa using hj)
  have HSZ : Hid ((Tryz.prog.info? 142).map (·.size) = some Y.length) := by rw [unhide HYL]; exact elInfoR
  simp only [List.take_succ_cons, List.take_zero, List.drop_succ_cons, List.drop_zero]
  repeat (refine wpStill_step (fun K hK => ?_); go_simp; (try go_ints); refine hK _ ?_; clear hK K)
  refine still_load_mid rfl 142 _ rfl w3.heap.size 0 rfl Y _ (unhide HRG) Tryz.underlying142 rfl (unhide HSZ) ?_
  refine wpStill_nil ?_
  have HP := hide (req_put vb { A with lastR := A.lastR + 1 } O2 Y w7 (unhide HV7) (by show A.reqs.length ≤ 100000; omega) ⟨unhide HYL, unhide HYO⟩)
  go_wp2_with fail
  refine (unhide HP).mono ?_
  rintro e w8 ⟨rfl, O8, v8, c8, o8⟩
  have hno : w3.heap.size ∉ O2 := fun ho => by have := unhide HLT2 _ ho; omega
  have hk8 := (unhide HK7).chg c8 hno
  have hno8 : w3.heap.size ∉ O8 := fun ho => by rcases o8 _ ho with q | q; exact hno q; omega
  have hO8 : ∀ b ∈ O8, b ∈ O ∨ w.heap.size ≤ b := fun b hb => by
    have hs3 := unhide HS3
    rcases o8 b hb with q | q
    · rcases unhide HO2 b q with q | q
      · exact Or.inl q
      · exact Or.inr (by omega)
    · exact Or.inr (by omega)
  have hc8 : Chg (fun b => b ∈ O) w w8 := (unhide HC7).trans c8 (fun b hb => by
    rcases unhide HO2 b hb with q | q
    · exact Or.inl q
    · exact Or.inr (by omega))
  have HRU := hide (unhide HRUN w8 O8 bs (unhide HBL) (by rw [← unhide HY3]; exact v8) hc8 hO8)
  have HK8 := hide hk8
  clear hk8 v8 c8 o8 HP HRG HSZ hO8 hc8 HRUN
  go_wp2_with fail
  refine (unhide HRU).mono ?_
  rintro e w9 ⟨rfl, hR, c9⟩
  have e0 : w9.cell? ⟨w3.heap.size, 0, none⟩ = some (.int .i64 ((A.lastR : Int) + 1)) := ((unhide HK8).chg c9 hno8).cell 0 |>.trans (by rw [unhide HY3]; rfl)
  have HR := hide hR
  clear hR c9 HRU
  go_wp2
  refine bodyPost_ret (results_tmp2 rfl _ _ _) rfl ⟨rfl, unhide HR⟩

end Go.Proofs.YtdcinlkkjbclmaaGreat
