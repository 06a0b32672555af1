/- A Write begins; a request may be. -/
import Derived.Test.YtdcinlkkjbclmabGreatVFirst
namespace Go.Proofs.YtdcinlkkjbclmabGreat
open Go.RowKit

set_option maxRecDepth 100000 in
set_option maxHeartbeats 1000000 in
theorem start_w (vb tb : Nat) (A : VA) (O : List Nat) (R : World → Prop) (w : World) (h : Vol w vb A O)
    (hb : Calls Tryz.prog 168 #[.pointer (some ⟨tb, 0, none⟩)] (w.setCell ⟨vb, 3, none⟩ (wrtV tb)) fun e w' => e = .returned (.tuple #[]) ∧ R w') :
    Calls Tryz.prog 40 #[.pointer (some ⟨vb, 0, none⟩), wrtV tb] w fun e w' => e = .returned (.tuple #[]) ∧ R w' := by
  obtain ⟨G, hG, _⟩ := id h
  have c3 : w.cell? ⟨vb, 3, none⟩ = some A.at' := hG.blk.cell 3
  have f3 := hG.blk.free 3
  have hi := inv_begin_w tb
  unfold wrtV at *
  have HB := hide hb
  clear h hG hb
  go_enter Tryz.func40, Tryz.ntmps40
  go_wp2_with fail
  refine (unhide HB).mono ?_
  rintro e w1 ⟨rfl, hr⟩
  have HR := hide hr
  clear hr
  go_wp2
  refine bodyPost_end (results_none rfl _ _ _) rfl ⟨rfl, unhide HR⟩

set_option maxRecDepth 100000 in
set_option maxHeartbeats 2000000 in
theorem chooseWrite_any (vb : Nat) (A : VA) (O : List Nat) (n b : Int) (bs : List Value) (r : List (List Value)) (w : World) (h : Vol w vb A O) (hw : A.reqs = (.int .i64 n :: .int .i64 2 :: .int .i64 b :: bs) :: r) (hbs : bs.length = 16) :
    Calls Tryz.prog 53 #[.pointer (some ⟨vb, 0, none⟩)] w fun e w' => ∃ tb O', e = .returned (wrtV tb) ∧ Vol w' vb { A with first := true } O' ∧ Chg (fun b => b ∈ O) w w' ∧ (∀ b ∈ O', b ∈ O ∨ w.heap.size ≤ b) ∧ tb ∉ O' ∧ w.heap.size ≤ tb ∧ WriteT w' tb vb b := by
  obtain ⟨G, hG, _⟩ := id h
  have c18 : w.cell? ⟨vb, 16 + 2, none⟩ = some (.int .i64 0) := hG.blk.cell 18
  have c19 : w.cell? ⟨vb, 19, none⟩ = some (.bool A.first) := hG.blk.cell 19
  have f19 := hG.blk.free 19
  obtain ⟨O1, v1, ch1, o1⟩ := vol_set (A' := { A with first := true }) h 19 (.bool true) (fun G => by unfold volC; simp) rfl rfl rfl rfl rfl
  have HLT := hide v1.lt
  have HF := hide (firstWrite_any vb { A with first := true } O1 n b bs r _ v1 hw hbs)
  have HV1 := hide v1
  have HC1 := hide ch1
  have HO1 := hide o1
  clear h hG v1 ch1 o1 hw
  go_enter Tryz.func53, Tryz.ntmps53
  go_wp2_with (first | (go_at_call 52; refine (lenF_any vb 16 _ _ c18).mono ?_; rintro e w1 ⟨rfl, rfl⟩) | (go_at_call 66; refine (unhide HF).mono ?_; rintro e w2 ⟨tb, rfl, htb, hwt, hb2⟩; have HWT := hide hwt; have HB2 := hide hb2; have HTB := hide htb; clear hwt hb2 htb HF))
  go_ret
  have htb := unhide HTB
  have hs1 := (unhide HC1).size
  refine ⟨tb, O1, rfl, (unhide HV1).new (unhide HB2), (unhide HC1).trans (Chg.of_new (X := fun _ => False) (unhide HB2)) (fun k h => h.elim), unhide HO1, fun ho => ?_, by omega, unhide HWT⟩
  have := unhide HLT _ ho
  omega

/-- a Write begins: its stripe is to be read -/
theorem writeTurn (vb : Nat) (A : VA) (O : List Nat) (n b : Int) (bs : List Value) (r : List (List Value)) (w : World) (h : Vol w vb A O) (hw : A.reqs = (.int .i64 n :: .int .i64 2 :: .int .i64 b :: bs) :: r) (hbs : bs.length = 16) (h1 : 4 ≤ A.stand.length) (h2 : A.stand.length ≤ 8) (h3 : 0 ≤ b) (h4 : b ≤ 6 * ((A.stand.length : Int) - 2) - 1) (hl : A.wait.length ≤ 70000) :
    Calls Tryz.prog 53 #[.pointer (some ⟨vb, 0, none⟩)] w fun e w' => ∃ v, e = .returned v ∧ Calls Tryz.prog 40 #[.pointer (some ⟨vb, 0, none⟩), v] w' fun e w'' => e = .returned (.tuple #[]) ∧
      ∃ tb O', Vol w'' vb (stripeRead { A with first := true, at' := wrtV tb } (b / ((A.stand.length : Int) - 2)) (cur A.stand)) O' ∧ Chg (fun b => b ∈ O) w w'' ∧ ∀ b ∈ O', b ∈ O ∨ w.heap.size ≤ b := by
  refine (chooseWrite_any vb A O n b bs r w h hw hbs).mono ?_
  rintro e w1 ⟨tb, O1, rfl, v1, c1, o1, ht1, htb, ⟨cs, k1, k2, k3, k4⟩⟩
  refine ⟨_, rfl, ?_⟩
  have hs1 := c1.size
  have htl := k1.lt
  have hlt := v1.lt
  obtain ⟨O2, v2, c2, o2⟩ := vol_set (A' := { A with first := true, at' := wrtV tb }) v1 3 (wrtV tb) (fun G => by unfold volC; simp) rfl rfl rfl rfl rfl
  have hs2 := c2.size
  have ht2 : tb ∉ O2 := fun ho => by rcases o2 _ ho with q | q; exact ht1 q; omega
  have kk := k1.chg c2 ht1
  refine start_w vb tb _ O1 _ w1 v1 ((writeBegin_any tb vb { A with first := true, at' := wrtV tb } O2 b .nilFunc _ v2 ht2 ((kk.cell 0).trans k2) ((kk.cell 2).trans k3) (kk.free 2) ((kk.cell 3).trans k4) h1 h2 h3 h4 hl).mono ?_)
  rintro e w3 ⟨rfl, O3, v3, c3, o3⟩
  refine ⟨rfl, tb, O3, v3, ?_, fun k hk => ?_⟩
  · refine (c1.trans c2 o1).trans c3 (fun k hk => ?_)
    rcases hk with hk | rfl
    · rcases o2 k hk with q | q
      · exact o1 k q
      · exact Or.inr (by omega)
    · exact Or.inr htb
  · rcases o3 k hk with q | q
    · rcases o2 k q with q | q
      · exact o1 k q
      · exact Or.inr (by omega)
    · exact Or.inr (by omega)

set_option maxRecDepth 100000 in
set_option maxHeartbeats 2000000 in
theorem mayWrite_any (vb : Nat) (A : VA) (O : List Nat) (b : Int) (da : Option Addr) (dc : Nat) (w : World) (h : Vol w vb A O) (h1 : 4 ≤ A.stand.length) (h2 : A.stand.length ≤ 8) (hst : A.stripes ≤ 6) (h3 : 0 ≤ b) (h4 : b < (A.stripes : Int) * ((A.stand.length : Int) - 2)) :
    Calls Tryz.prog 34 #[.pointer (some ⟨vb, 0, none⟩), .agg #[.int .i64 2, .int .i64 b, .slice da 16 dc]] w fun e w' => e = .returned (.bool true) ∧ Below w.heap.size w w' := by
  have HB0 := hide ((Below.refl w.heap.size w).alloc (Nat.le_refl _) (.cells #[.int .i64 2, .int .i64 b, .slice da 16 dc] 46))
  have HK0 := hide (Blk.new w #[.int .i64 2, .int .i64 b, .slice da 16 dc] 46)
  have HBL := hide (blocks_any vb A O _ (h.new (unhide HB0)) h1 h2 hst)
  clear h hst h1 h2
  generalize (A.stripes : Int) * ((A.stand.length : Int) - 2) = N at *
  go_enter Tryz.func34, Tryz.ntmps34
  go_wp2_with fail
  refine (unhide HBL).mono ?_
  rintro e w1 ⟨rfl, q, hq⟩
  have HB1 : Hid (Below w.heap.size w w1) := by rw [hq]; exact below_drewN (unhide HB0) q
  have hk : Blk w1 w.heap.size #[.int .i64 2, .int .i64 b, .slice da 16 dc] 46 := by rw [hq]; exact (unhide HK0).chg (X := fun _ => False) ((Chg.refl _ _).drewN q) id
  have k1 : w1.cell? ⟨w.heap.size, 1, none⟩ = some (.int .i64 b) := hk.cell 1
  have k2 : w1.cell? ⟨w.heap.size, 2, none⟩ = some (.slice da 16 dc) := hk.cell 2
  clear hq hk HBL HK0 HB0
  go_wp2
  go_ret
  exact ⟨rfl, unhide HB1⟩

set_option maxRecDepth 100000 in
set_option maxHeartbeats 2000000 in
theorem mayFlush_any (vb : Nat) (w : World) :
    Calls Tryz.prog 34 #[.pointer (some ⟨vb, 0, none⟩), .agg #[.int .i64 3, .int .i64 0, .slice none 0 0]] w fun e w' => e = .returned (.bool true) ∧ Below w.heap.size w w' := by
  have HB0 := hide ((Below.refl w.heap.size w).alloc (Nat.le_refl _) (.cells #[.int .i64 3, .int .i64 0, .slice none 0 0] 46))
  go_enter Tryz.func34, Tryz.ntmps34
  go_wp2
  go_ret
  exact ⟨rfl, unhide HB0⟩

set_option maxRecDepth 100000 in
set_option maxHeartbeats 2000000 in
theorem submit_failed (vb : Nat) (A : VA) (O : List Nat) (k n : Int) (da : Option Addr) (dn dc : Nat) (w : World) (h : Vol w vb A O) (hs : A.state = 2) :
    Calls Tryz.prog 24 #[.pointer (some ⟨vb, 0, none⟩), .agg #[.int .i64 k, .int .i64 n, .slice da dn dc]] w fun e w' => e = .returned (.tuple #[.int .i64 0, .int .i64 3]) ∧ Below w.heap.size w w' := by
  obtain ⟨G, hG, _⟩ := id (h.new ((Below.refl w.heap.size w).alloc (Nat.le_refl _) (.cells #[.int .i64 k, .int .i64 n, .slice da dn dc] 46)))
  have c2 : (w.alloc (.cells #[.int .i64 k, .int .i64 n, .slice da dn dc] 46)).cell? ⟨vb, 2, none⟩ = some (.int .i64 A.state) := hG.blk.cell 2
  rw [hs] at c2
  have HB0 := hide ((Below.refl w.heap.size w).alloc (Nat.le_refl _) (.cells #[.int .i64 k, .int .i64 n, .slice da dn dc] 46))
  clear h hG hs
  go_enter Tryz.func24, Tryz.ntmps24
  go_wp2
  refine bodyPost_ret (results_tmp2 rfl _ _ _) rfl ⟨rfl, unhide HB0⟩

end Go.Proofs.YtdcinlkkjbclmabGreat
