/- What comes next of what waits: a Write. -/
import Derived.Test.YtdcinlkkjbclmaaGreatMVMadeVAsk
namespace Go.Proofs.YtdcinlkkjbclmaaGreat
open Go.RowKit

/-- a task that writes: its volume, its next step, its block -/
def WriteT (w : World) (tb vb : Nat) (b : Int) : Prop := ∃ cs, Blk w tb cs 206 ∧ cs[0]? = some (.pointer (some ⟨vb, 0, none⟩)) ∧ cs[2]? = some .nilFunc ∧ cs[3]? = some (.int .i64 b)
theorem col_size : (Tryz.prog.info? 133).map (·.size) = some 16 := by kernel_rfl
theorem list16 {x : List Value} (h : x.length = 16) : ∃ v0 v1 v2 v3 v4 v5 v6 v7 v8 v9 v10 v11 v12 v13 v14 v15, x = [v0, v1, v2, v3, v4, v5, v6, v7, v8, v9, v10, v11, v12, v13, v14, v15] := by
  rcases x with _ | ⟨v0, _ | ⟨v1, _ | ⟨v2, _ | ⟨v3, _ | ⟨v4, _ | ⟨v5, _ | ⟨v6, _ | ⟨v7, _ | ⟨v8, _ | ⟨v9, _ | ⟨v10, _ | ⟨v11, _ | ⟨v12, _ | ⟨v13, _ | ⟨v14, _ | ⟨v15, _ | ⟨z, rr⟩⟩⟩⟩⟩⟩⟩⟩⟩⟩⟩⟩⟩⟩⟩⟩⟩
  all_goals first | (simp at h; done) | exact ⟨_, _, _, _, _, _, _, _, _, _, _, _, _, _, _, _, rfl⟩
set_option maxRecDepth 100000 in
set_option maxHeartbeats 4000000 in
theorem firstWrite_any (vb : Nat) (A : VA) (O : List Nat) (n b : Int) (bs : List Value) (r : List (List Value)) (w : World) (h : Vol w vb A O) (hw : A.reqs = (.int .i64 n :: .int .i64 2 :: .int .i64 b :: bs) :: r) (hbs : bs.length = 16) :
    Calls Tryz.prog 120 #[.pointer (some ⟨vb, 0, none⟩)] w fun e w' => ∃ tb, e = .returned (wrtV tb) ∧ w.heap.size ≤ tb ∧ WriteT w' tb vb b ∧ Below w.heap.size w w' := by
  obtain ⟨G, hG, _⟩ := id h
  have hea := hG.rq.each (.int .i64 n :: .int .i64 2 :: .int .i64 b :: bs) (by rw [hw]; simp)
  have hq := hG.rq
  have hn : G.nr ≠ 0 := by have := hq.len; rw [hw] at this; simp at this; omega
  rw [hw] at hq
  have HF := hide (firstR_some vb 9 (volC A G) _ G.gr G.nr G.fr _ r w hG.blk rfl rfl (by show some (Value.int .i64 (A.reqs.length : Int)) = _; rw [hw]; rfl) hq (by have := hG.few.2.1; omega))
  have HEA := hide hea
  clear h hG hea hq hw
  go_enter Tryz.func120, Tryz.ntmps120
  go_wp2_with fail
  refine (unhide HF).mono ?_
  rintro e w2 ⟨rfl, hb2⟩
  have HB2 := hide hb2
  have hs2 := hb2.size
  clear hb2 HF
  have hx19 := (unhide HEA).1
  have hxo := all_oneCell_toArray (unhide HEA).2
  have HX1 : Hid ((.int .i64 n :: .int .i64 2 :: .int .i64 b :: bs : List Value)[1]? = some (.int .i64 2)) := rfl
  have HX2 : Hid ((.int .i64 n :: .int .i64 2 :: .int .i64 b :: bs : List Value)[2]? = some (.int .i64 b)) := rfl
  have HX3 : Hid (∀ j v, bs[j]? = some v → (.int .i64 n :: .int .i64 2 :: .int .i64 b :: bs : List Value)[3 + j]? = some v) := fun j v hj => by
    rw [show 3 + j = j + 1 + 1 + 1 by omega, List.getElem?_cons_succ, List.getElem?_cons_succ, List.getElem?_cons_succ]
    exact hj
  clear HEA
  generalize (.int .i64 n :: .int .i64 2 :: .int .i64 b :: bs : List Value) = x at *
  have hszx : (Tryz.prog.info? 142).map (·.size) = some x.toArray.size := by rw [List.size_toArray, hx19]; exact elInfoR
  have HSX := hide hszx
  have HOX := hide hxo
  have HN2 := hide (Blk.new w2 #[Value.int .i64 0, Value.int .i64 0, Value.int .i64 0, Value.int .u8 0, Value.int .u8 0, Value.int .u8 0, Value.int .u8 0, Value.int .u8 0, Value.int .u8 0, Value.int .u8 0, Value.int .u8 0, Value.int .u8 0, Value.int .u8 0, Value.int .u8 0, Value.int .u8 0, Value.int .u8 0, Value.int .u8 0, Value.int .u8 0, Value.int .u8 0] 142)
  have HT2 : Hid ((w2.alloc (.cells #[Value.int .i64 0, Value.int .i64 0, Value.int .i64 0, Value.int .u8 0, Value.int .u8 0, Value.int .u8 0, Value.int .u8 0, Value.int .u8 0, Value.int .u8 0, Value.int .u8 0, Value.int .u8 0, Value.int .u8 0, Value.int .u8 0, Value.int .u8 0, Value.int .u8 0, Value.int .u8 0, Value.int .u8 0, Value.int .u8 0, Value.int .u8 0] 142)).there w2.heap.size 0 x.toArray.size) := by rw [show x.toArray.size = 19 from hx19]; exact (unhide HN2).there 0 19 (by simp)
  have HL3 : Hid (Blk ((w2.alloc (.cells #[Value.int .i64 0, Value.int .i64 0, Value.int .i64 0, Value.int .u8 0, Value.int .u8 0, Value.int .u8 0, Value.int .u8 0, Value.int .u8 0, Value.int .u8 0, Value.int .u8 0, Value.int .u8 0, Value.int .u8 0, Value.int .u8 0, Value.int .u8 0, Value.int .u8 0, Value.int .u8 0, Value.int .u8 0, Value.int .u8 0, Value.int .u8 0] 142)).setCells w2.heap.size 0 x) w2.heap.size x.toArray 142) := (unhide HN2).whole x (by rw [hx19]; rfl)
  have HB3 : Hid (Below w2.heap.size w2 ((w2.alloc (.cells #[Value.int .i64 0, Value.int .i64 0, Value.int .i64 0, Value.int .u8 0, Value.int .u8 0, Value.int .u8 0, Value.int .u8 0, Value.int .u8 0, Value.int .u8 0, Value.int .u8 0, Value.int .u8 0, Value.int .u8 0, Value.int .u8 0, Value.int .u8 0, Value.int .u8 0, Value.int .u8 0, Value.int .u8 0, Value.int .u8 0, Value.int .u8 0] 142)).setCells w2.heap.size 0 x)) := below_setCells ((Below.refl _ _).alloc (Nat.le_refl _) _) _ _ _ (Nat.le_refl _)
  clear hszx hxo HN2
  go_wp2_with (show wpList _ _ _ (Oper.mk none (Op.store 142 (Operand.tmp 3) _) _ _ _ _ :: _) _ _; refine wpList_store_mid rfl 142 _ _ rfl w2.heap.size 0 x.toArray rfl rfl (unhide HT2) (unhide HSX) (unhide HOX) ?_; generalize (w2.alloc (.cells #[Value.int .i64 0, Value.int .i64 0, Value.int .i64 0, Value.int .u8 0, Value.int .u8 0, Value.int .u8 0, Value.int .u8 0, Value.int .u8 0, Value.int .u8 0, Value.int .u8 0, Value.int .u8 0, Value.int .u8 0, Value.int .u8 0, Value.int .u8 0, Value.int .u8 0, Value.int .u8 0, Value.int .u8 0, Value.int .u8 0, Value.int .u8 0] 142)).setCells w2.heap.size 0 x = w3 at *; have e1 : w3.cell? ⟨w2.heap.size, 1, none⟩ = some (.int .i64 2) := (unhide HL3).cell 1 |>.trans (by simpa using unhide HX1))
  obtain ⟨v0, v1, v2, v3, v4, v5, v6, v7, v8, v9, v10, v11, v12, v13, v14, v15, rfl⟩ := list16 hbs
  have HLD : Hid (∀ w', Blk w' w2.heap.size x.toArray 142 → w'.cell? ⟨w2.heap.size, 2, none⟩ = some (.int .i64 b) ∧ w'.rangeAt w2.heap.size 3 [v0, v1, v2, v3, v4, v5, v6, v7, v8, v9, v10, v11, v12, v13, v14, v15]) := fun w' hw => ⟨(hw.cell 2).trans (by simpa using unhide HX2), hw.range 3 _ (fun j v hj => by simpa using unhide HX3 j v hj)⟩
  refine wp_region_noPanic ?_
  refine orders_begin 10 (fun w' => Blk w' w2.heap.size x.toArray 142) (by kernel_rfl) ?_
  refine orders_take 0 (some 27) (v := .pointer (some ⟨vb, 0, none⟩)) rfl (by kernel_rfl) (by kernel_rfl) (by kernel_rfl) (by kernel_rfl) (fun _ _ _ h => h) (Or.inl ⟨by rfl, fun _ _ => rfl⟩) (unhide HL3).drew rfl ?_
  simp only [Act.put, List.setIfInBounds_toArray, List.set_cons_zero, List.set_cons_succ]
  refine orders_take 2 (some 29) (v := .pointer (some ⟨w2.heap.size, 2, none⟩)) rfl (by kernel_rfl) (by kernel_rfl) (by kernel_rfl) (by kernel_rfl) (fun _ _ _ h => h) (Or.inl ⟨by rfl, fun _ _ => by go_simp⟩) (unhide HL3).drew rfl ?_
  simp only [Act.put, List.setIfInBounds_toArray, List.set_cons_zero, List.set_cons_succ]
  refine orders_take 3 (some 30) (v := .int .i64 b) rfl (by kernel_rfl) (by kernel_rfl) (by kernel_rfl) (by kernel_rfl) (fun _ _ _ h => h) (Or.inl ⟨by rfl, fun w' hw => by have hcc := (unhide HLD w' hw).1; go_simp⟩) (unhide HL3).drew rfl ?_
  simp only [Act.put, List.setIfInBounds_toArray, List.set_cons_zero, List.set_cons_succ]
  refine orders_take 5 (some 32) (v := .pointer (some ⟨w2.heap.size, 3, none⟩)) rfl (by kernel_rfl) (by kernel_rfl) (by kernel_rfl) (by kernel_rfl) (fun _ _ _ h => h) (Or.inl ⟨by rfl, fun _ _ => by go_simp⟩) (unhide HL3).drew rfl ?_
  simp only [Act.put, List.setIfInBounds_toArray, List.set_cons_zero, List.set_cons_succ]
  refine orders_take 6 (some 33) rfl (by kernel_rfl) (by kernel_rfl) (by kernel_rfl) (by kernel_rfl) (fun _ _ _ h => h) (yieldsIf_load_mid (by rfl) 133 _ rfl w2.heap.size 3 rfl [v0, v1, v2, v3, v4, v5, v6, v7, v8, v9, v10, v11, v12, v13, v14, v15] _ (fun w' hw => (unhide HLD w' hw).2) Tryz.underlying133 rfl col_size) (unhide HL3).drew rfl ?_
  simp only [Act.put, List.setIfInBounds_toArray, List.set_cons_zero, List.set_cons_succ]
  refine orders_one 1 (by kernel_rfl) rfl (by rfl) (fun K hK => ?_)
  go_simp
  refine (work_any vb _).mono ?_
  rintro e w4 ⟨hb, rfl, hhb, hhe, hb4⟩
  have hk4 : Blk w4 w2.heap.size x.toArray 142 := (unhide HL3).below (w' := w4) (n := w3.heap.size) ((Below.refl _ _).drew.trans hb4) (unhide HL3).lt
  have hb5 : Below w.heap.size w w4 := ((unhide HB2).trans ((unhide HB3).mono hs2)).trans (((Below.refl _ _).drew.trans hb4).mono (Nat.le_trans hs2 (unhide HB3).size))
  refine hK.out _ _ (fun _ => hk4) ?_
  clear hK K hhe hhb hb4
  have HK4 := hide hk4
  have HB5 := hide hb5
  clear hk4 hb5 HLD HX1 HX2 HX3 HL3 HB3 HB2
  refine orders_one 4 (by kernel_rfl) rfl (by rfl) (fun K hK => ?_)
  go_simp
  refine hK.out _ _ (fun _ => unhide HK4) ?_
  clear hK K
  refine orders_one 7 (by kernel_rfl) rfl (by rfl) (fun K hK => ?_)
  go_simp
  refine hK.out _ _ (fun _ => unhide HK4) ?_
  clear hK K
  simp only [Tryz.zeroCells206, List.setIfInBounds_toArray]
  refine orders_one 8 (by kernel_rfl) rfl (by rfl) (fun K hK => ?_)
  go_simp
  refine hK.out _ _ (fun _ => (unhide HK4).alloc _) ?_
  clear hK K
  refine orders_one 9 (by kernel_rfl) rfl (by rfl) (fun K hK => ?_)
  go_simp
  refine hK.out _ _ (fun _ => (unhide HK4).alloc _) ?_
  clear hK K
  refine orders_one 10 (by kernel_rfl) rfl (by rfl) (fun K hK => ?_)
  go_simp
  refine hK.out _ _ (fun h => absurd rfl h) ?_
  clear hK K
  refine orders_end (by kernel_rfl) ?_
  refine NoPanic.normal ?_
  go_wp2
  go_ret
  exact ⟨w4.heap.size, rfl, (unhide HB5).size, ⟨_, Blk.new w4 _ _, rfl, rfl, rfl⟩, (unhide HB5).alloc (unhide HB5).size _⟩

end Go.Proofs.YtdcinlkkjbclmaaGreat

/- A Write begins; a request may be. -/
namespace Go.Proofs.YtdcinlkkjbclmaaGreat
open Go.RowKit

set_option maxRecDepth 100000 in
set_option maxHeartbeats 1000000 in
theorem start_w (vb tb : Nat) (A : VA) (O : List Nat) (R : World → Prop) (w : World) (h : Vol w vb A O)
    (hb : Calls Tryz.prog 224 #[.pointer (some ⟨tb, 0, none⟩)] (w.setCell ⟨vb, 3, none⟩ (wrtV tb)) fun e w' => e = .returned (.tuple #[]) ∧ R w') :
    Calls Tryz.prog 71 #[.pointer (some ⟨vb, 0, none⟩), wrtV tb] w fun e w' => e = .returned (.tuple #[]) ∧ R w' := by
  obtain ⟨G, hG, _⟩ := id h
  have c3 : w.cell? ⟨vb, 3, none⟩ = some A.at' := hG.blk.cell 3
  have f3 := hG.blk.free 3
  have hi := inv_begin_w tb
  unfold wrtV at *
  have HB := hide hb
  clear h hG hb
  go_enter Tryz.func71, Tryz.ntmps71
  go_wp2_with fail
  refine (unhide HB).mono ?_
  rintro e w1 ⟨rfl, hr⟩
  have HR := hide hr
  clear hr
  go_wp2
  refine bodyPost_end (results_none rfl _ _ _) rfl ⟨rfl, unhide HR⟩

set_option maxRecDepth 100000 in
set_option maxHeartbeats 2000000 in
theorem chooseWrite_any (vb : Nat) (A : VA) (O : List Nat) (n b : Int) (bs : List Value) (r : List (List Value)) (w : World) (h : Vol w vb A O) (hw : A.reqs = (.int .i64 n :: .int .i64 2 :: .int .i64 b :: bs) :: r) (hbs : bs.length = 16) :
    Calls Tryz.prog 100 #[.pointer (some ⟨vb, 0, none⟩)] w fun e w' => ∃ tb O', e = .returned (wrtV tb) ∧ Vol w' vb { A with first := true } O' ∧ Chg (fun b => b ∈ O) w w' ∧ (∀ b ∈ O', b ∈ O ∨ w.heap.size ≤ b) ∧ tb ∉ O' ∧ w.heap.size ≤ tb ∧ WriteT w' tb vb b := by
  obtain ⟨G, hG, _⟩ := id h
  have c18 : w.cell? ⟨vb, 16 + 2, none⟩ = some (.int .i64 0) := hG.blk.cell 18
  have c19 : w.cell? ⟨vb, 19, none⟩ = some (.bool A.first) := hG.blk.cell 19
  have f19 := hG.blk.free 19
  obtain ⟨O1, v1, ch1, o1⟩ := vol_set (A' := { A with first := true }) h 19 (.bool true) (fun G => by unfold volC; simp) rfl rfl rfl rfl rfl
  have HLT := hide v1.lt
  have HF := hide (firstWrite_any vb { A with first := true } O1 n b bs r _ v1 hw hbs)
  have HV1 := hide v1
  have HC1 := hide ch1
  have HO1 := hide o1
  clear h hG v1 ch1 o1 hw
  go_enter Tryz.func100, Tryz.ntmps100
  go_wp2_with (first | (go_at_call 99; refine (lenF_any vb 16 _ _ c18).mono ?_; rintro e w1 ⟨rfl, rfl⟩) | (go_at_call 120; refine (unhide HF).mono ?_; rintro e w2 ⟨tb, rfl, htb, hwt, hb2⟩; have HWT := hide hwt; have HB2 := hide hb2; have HTB := hide htb; clear hwt hb2 htb HF))
  go_ret
  have htb := unhide HTB
  have hs1 := (unhide HC1).size
  refine ⟨tb, O1, rfl, (unhide HV1).new (unhide HB2), (unhide HC1).trans (Chg.of_new (X := fun _ => False) (unhide HB2)) (fun k h => h.elim), unhide HO1, fun ho => ?_, by omega, unhide HWT⟩
  have := unhide HLT _ ho
  omega

/-- a Write begins: its stripe is to be read -/
theorem writeTurn (vb : Nat) (A : VA) (O : List Nat) (n b : Int) (bs : List Value) (r : List (List Value)) (w : World) (h : Vol w vb A O) (hw : A.reqs = (.int .i64 n :: .int .i64 2 :: .int .i64 b :: bs) :: r) (hbs : bs.length = 16) (h1 : 4 ≤ A.stand.length) (h2 : A.stand.length ≤ 8) (h3 : 0 ≤ b) (h4 : b ≤ 6 * ((A.stand.length : Int) - 2) - 1) (hl : A.wait.length ≤ 70000) :
    Calls Tryz.prog 100 #[.pointer (some ⟨vb, 0, none⟩)] w fun e w' => ∃ v, e = .returned v ∧ Calls Tryz.prog 71 #[.pointer (some ⟨vb, 0, none⟩), v] w' fun e w'' => e = .returned (.tuple #[]) ∧
      ∃ tb O', Vol w'' vb (stripeRead { A with first := true, at' := wrtV tb } (b / ((A.stand.length : Int) - 2)) (cur A.stand)) O' ∧ Chg (fun b => b ∈ O) w w'' ∧ ∀ b ∈ O', b ∈ O ∨ w.heap.size ≤ b := by
  refine (chooseWrite_any vb A O n b bs r w h hw hbs).mono ?_
  rintro e w1 ⟨tb, O1, rfl, v1, c1, o1, ht1, htb, ⟨cs, k1, k2, k3, k4⟩⟩
  refine ⟨_, rfl, ?_⟩
  have hs1 := c1.size
  have htl := k1.lt
  have hlt := v1.lt
  obtain ⟨O2, v2, c2, o2⟩ := vol_set (A' := { A with first := true, at' := wrtV tb }) v1 3 (wrtV tb) (fun G => by unfold volC; simp) rfl rfl rfl rfl rfl
  have hs2 := c2.size
  have ht2 : tb ∉ O2 := fun ho => by rcases o2 _ ho with q | q; exact ht1 q; omega
  have kk := k1.chg c2 ht1
  refine start_w vb tb _ O1 _ w1 v1 ((writeBegin_any tb vb { A with first := true, at' := wrtV tb } O2 b .nilFunc _ v2 ht2 ((kk.cell 0).trans k2) ((kk.cell 2).trans k3) (kk.free 2) ((kk.cell 3).trans k4) h1 h2 h3 h4 hl).mono ?_)
  rintro e w3 ⟨rfl, O3, v3, c3, o3⟩
  refine ⟨rfl, tb, O3, v3, ?_, fun k hk => ?_⟩
  · refine (c1.trans c2 o1).trans c3 (fun k hk => ?_)
    rcases hk with hk | rfl
    · rcases o2 k hk with q | q
      · exact o1 k q
      · exact Or.inr (by omega)
    · exact Or.inr htb
  · rcases o3 k hk with q | q
    · rcases o2 k q with q | q
      · exact o1 k q
      · exact Or.inr (by omega)
    · exact Or.inr (by omega)

set_option maxRecDepth 100000 in
set_option maxHeartbeats 2000000 in
theorem mayWrite_any (vb : Nat) (A : VA) (O : List Nat) (b : Int) (da : Option Addr) (dc : Nat) (w : World) (h : Vol w vb A O) (h1 : 4 ≤ A.stand.length) (h2 : A.stand.length ≤ 8) (hst : A.stripes ≤ 6) (h3 : 0 ≤ b) (h4 : b < (A.stripes : Int) * ((A.stand.length : Int) - 2)) :
    Calls Tryz.prog 75 #[.pointer (some ⟨vb, 0, none⟩), .agg #[.int .i64 2, .int .i64 b, .slice da 16 dc]] w fun e w' => e = .returned (.bool true) ∧ Below w.heap.size w w' := by
  have HB0 := hide ((Below.refl w.heap.size w).alloc (Nat.le_refl _) (.cells #[.int .i64 2, .int .i64 b, .slice da 16 dc] 38))
  have HK0 := hide (Blk.new w #[.int .i64 2, .int .i64 b, .slice da 16 dc] 38)
  have HBL := hide (blocks_any vb A O _ (h.new (unhide HB0)) h1 h2 hst)
  clear h hst h1 h2
  generalize (A.stripes : Int) * ((A.stand.length : Int) - 2) = N at *
  go_enter Tryz.func75, Tryz.ntmps75
  go_wp2_with fail
  refine (unhide HBL).mono ?_
  rintro e w1 ⟨rfl, q, hq⟩
  have HB1 : Hid (Below w.heap.size w w1) := by rw [hq]; exact below_drewN (unhide HB0) q
  have hk : Blk w1 w.heap.size #[.int .i64 2, .int .i64 b, .slice da 16 dc] 38 := by rw [hq]; exact (unhide HK0).chg (X := fun _ => False) ((Chg.refl _ _).drewN q) id
  have k1 : w1.cell? ⟨w.heap.size, 1, none⟩ = some (.int .i64 b) := hk.cell 1
  have k2 : w1.cell? ⟨w.heap.size, 2, none⟩ = some (.slice da 16 dc) := hk.cell 2
  clear hq hk HBL HK0 HB0
  go_wp2
  go_ret
  exact ⟨rfl, unhide HB1⟩

set_option maxRecDepth 100000 in
set_option maxHeartbeats 2000000 in
theorem mayFlush_any (vb : Nat) (w : World) :
    Calls Tryz.prog 75 #[.pointer (some ⟨vb, 0, none⟩), .agg #[.int .i64 3, .int .i64 0, .slice none 0 0]] w fun e w' => e = .returned (.bool true) ∧ Below w.heap.size w w' := by
  have HB0 := hide ((Below.refl w.heap.size w).alloc (Nat.le_refl _) (.cells #[.int .i64 3, .int .i64 0, .slice none 0 0] 38))
  go_enter Tryz.func75, Tryz.ntmps75
  go_wp2
  go_ret
  exact ⟨rfl, unhide HB0⟩

set_option maxRecDepth 100000 in
set_option maxHeartbeats 2000000 in
theorem submit_failed (vb : Nat) (A : VA) (O : List Nat) (k n : Int) (da : Option Addr) (dn dc : Nat) (w : World) (h : Vol w vb A O) (hs : A.state = 2) :
    Calls Tryz.prog 41 #[.pointer (some ⟨vb, 0, none⟩), .agg #[.int .i64 k, .int .i64 n, .slice da dn dc]] w fun e w' => e = .returned (.tuple #[.int .i64 0, .int .i64 3]) ∧ Below w.heap.size w w' := by
  obtain ⟨G, hG, _⟩ := id (h.new ((Below.refl w.heap.size w).alloc (Nat.le_refl _) (.cells #[.int .i64 k, .int .i64 n, .slice da dn dc] 38)))
  have c2 : (w.alloc (.cells #[.int .i64 k, .int .i64 n, .slice da dn dc] 38)).cell? ⟨vb, 2, none⟩ = some (.int .i64 A.state) := hG.blk.cell 2
  rw [hs] at c2
  have HB0 := hide ((Below.refl w.heap.size w).alloc (Nat.le_refl _) (.cells #[.int .i64 k, .int .i64 n, .slice da dn dc] 38))
  clear h hG hs
  go_enter Tryz.func41, Tryz.ntmps41
  go_wp2
  refine bodyPost_ret (results_tmp2 rfl _ _ _) rfl ⟨rfl, unhide HB0⟩

end Go.Proofs.YtdcinlkkjbclmaaGreat
