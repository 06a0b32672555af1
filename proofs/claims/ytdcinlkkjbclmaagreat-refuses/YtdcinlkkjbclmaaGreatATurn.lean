/- A Read, a Scrub, a Flush begin. -/
import Derived.Test.YtdcinlkkjbclmaaGreatAFirst
namespace Go.Proofs.YtdcinlkkjbclmaaGreat
open Go.RowKit

theorem inv_begin_f (tb : Nat) (w : World) : (method 382 210 (.pointer (some ⟨tb, 0, none⟩)) "platter/volume.begin").run Tryz.prog w = .ok (234, .pointer (some ⟨tb, 0, none⟩)) w := by kernel_rfl
theorem inv_begin_s (tb : Nat) (w : World) : (method 382 207 (.pointer (some ⟨tb, 0, none⟩)) "platter/volume.begin").run Tryz.prog w = .ok (227, .pointer (some ⟨tb, 0, none⟩)) w := by kernel_rfl
theorem inv_begin_r (tb : Nat) (w : World) : (method 382 198 (.pointer (some ⟨tb, 0, none⟩)) "platter/volume.begin").run Tryz.prog w = .ok (220, .pointer (some ⟨tb, 0, none⟩)) w := by kernel_rfl
theorem inv_goOn_f (tb : Nat) (w : World) : (method 382 210 (.pointer (some ⟨tb, 0, none⟩)) "platter/volume.goOn").run Tryz.prog w = .ok (158, .pointer (some ⟨tb, 0, none⟩)) w := by kernel_rfl
set_option maxRecDepth 100000 in
set_option maxHeartbeats 1000000 in
theorem start_f (vb tb : Nat) (A : VA) (O : List Nat) (R : World → Prop) (w : World) (h : Vol w vb A O)
    (hb : Calls Tryz.prog 234 #[.pointer (some ⟨tb, 0, none⟩)] (w.setCell ⟨vb, 3, none⟩ (flsV tb)) fun e w' => e = .returned (.tuple #[]) ∧ R w') :
    Calls Tryz.prog 71 #[.pointer (some ⟨vb, 0, none⟩), flsV tb] w fun e w' => e = .returned (.tuple #[]) ∧ R w' := by
  obtain ⟨G, hG, _⟩ := id h
  have c3 : w.cell? ⟨vb, 3, none⟩ = some A.at' := hG.blk.cell 3
  have f3 := hG.blk.free 3
  have hi := inv_begin_f tb
  unfold flsV at *
  have HB := hide hb
  clear h hG hb
  go_enter Tryz.func71, Tryz.ntmps71
  go_wp2_with fail
  refine (unhide HB).mono ?_
  rintro e w1 ⟨rfl, hr⟩
  have HR := hide hr
  clear hr
  go_wp2
  refine bodyPost_end (results_none rfl _ _ _) rfl ⟨rfl, unhide HR⟩

set_option maxRecDepth 100000 in
set_option maxHeartbeats 1000000 in
theorem start_s (vb tb : Nat) (A : VA) (O : List Nat) (R : World → Prop) (w : World) (h : Vol w vb A O)
    (hb : Calls Tryz.prog 227 #[.pointer (some ⟨tb, 0, none⟩)] (w.setCell ⟨vb, 3, none⟩ (scrV tb)) fun e w' => e = .returned (.tuple #[]) ∧ R w') :
    Calls Tryz.prog 71 #[.pointer (some ⟨vb, 0, none⟩), scrV tb] w fun e w' => e = .returned (.tuple #[]) ∧ R w' := by
  obtain ⟨G, hG, _⟩ := id h
  have c3 : w.cell? ⟨vb, 3, none⟩ = some A.at' := hG.blk.cell 3
  have f3 := hG.blk.free 3
  have hi := inv_begin_s tb
  unfold scrV at *
  have HB := hide hb
  clear h hG hb
  go_enter Tryz.func71, Tryz.ntmps71
  go_wp2_with fail
  refine (unhide HB).mono ?_
  rintro e w1 ⟨rfl, hr⟩
  have HR := hide hr
  clear hr
  go_wp2
  refine bodyPost_end (results_none rfl _ _ _) rfl ⟨rfl, unhide HR⟩

set_option maxRecDepth 100000 in
set_option maxHeartbeats 1000000 in
theorem start_r (vb tb : Nat) (A : VA) (O : List Nat) (R : World → Prop) (w : World) (h : Vol w vb A O)
    (hb : Calls Tryz.prog 220 #[.pointer (some ⟨tb, 0, none⟩)] (w.setCell ⟨vb, 3, none⟩ (rdgV tb)) fun e w' => e = .returned (.tuple #[]) ∧ R w') :
    Calls Tryz.prog 71 #[.pointer (some ⟨vb, 0, none⟩), rdgV tb] w fun e w' => e = .returned (.tuple #[]) ∧ R w' := by
  obtain ⟨G, hG, _⟩ := id h
  have c3 : w.cell? ⟨vb, 3, none⟩ = some A.at' := hG.blk.cell 3
  have f3 := hG.blk.free 3
  have hi := inv_begin_r tb
  unfold rdgV at *
  have HB := hide hb
  clear h hG hb
  go_enter Tryz.func71, Tryz.ntmps71
  go_wp2_with fail
  refine (unhide HB).mono ?_
  rintro e w1 ⟨rfl, hr⟩
  have HR := hide hr
  clear hr
  go_wp2
  refine bodyPost_end (results_none rfl _ _ _) rfl ⟨rfl, unhide HR⟩

set_option maxRecDepth 100000 in
set_option maxHeartbeats 2000000 in
theorem choose_by (vb : Nat) (A : VA) (O : List Nat) (F : Value → World → Prop) (w : World) (h : Vol w vb A O)
    (hf : ∀ w' O', Vol w' vb { A with first := true } O' → w.heap.size ≤ w'.heap.size → Calls Tryz.prog 120 #[.pointer (some ⟨vb, 0, none⟩)] w' fun e w'' => ∃ v, e = .returned v ∧ F v w'' ∧ Below w'.heap.size w' w'') :
    Calls Tryz.prog 100 #[.pointer (some ⟨vb, 0, none⟩)] w fun e w' => ∃ v O', e = .returned v ∧ Vol w' vb { A with first := true } O' ∧ Chg (fun b => b ∈ O) w w' ∧ (∀ b ∈ O', b ∈ O ∨ w.heap.size ≤ b) ∧ F v w' ∧ (∀ b ∈ O', b < w.heap.size) := by
  obtain ⟨G, hG, _⟩ := id h
  have c18 : w.cell? ⟨vb, 16 + 2, none⟩ = some (.int .i64 0) := hG.blk.cell 18
  have c19 : w.cell? ⟨vb, 19, none⟩ = some (.bool A.first) := hG.blk.cell 19
  have f19 := hG.blk.free 19
  obtain ⟨O1, v1, ch1, o1⟩ := vol_set (A' := { A with first := true }) h 19 (.bool true) (fun G => by unfold volC; simp) rfl rfl rfl rfl rfl
  have HLT : Hid (∀ b ∈ O1, b < w.heap.size) := fun b hb => by have := v1.lt b hb; simpa using this
  have HF := hide (hf _ O1 v1 ch1.size)
  have HV1 := hide v1
  have HC1 := hide ch1
  have HO1 := hide o1
  clear h hG v1 ch1 o1 hf
  go_enter Tryz.func100, Tryz.ntmps100
  go_wp2_with (first | (go_at_call 99; refine (lenF_any vb 16 _ _ c18).mono ?_; rintro e w1 ⟨rfl, rfl⟩) | (go_at_call 120; refine (unhide HF).mono ?_; rintro e w2 ⟨v, rfl, hv2, hb2⟩; have HFV := hide hv2; have HB2 := hide hb2; clear hv2 hb2 HF))
  go_ret
  exact ⟨v, O1, rfl, (unhide HV1).new (unhide HB2), (unhide HC1).trans (Chg.of_new (X := fun _ => False) (unhide HB2)) (fun k h => h.elim), unhide HO1, unhide HFV, unhide HLT⟩

set_option maxRecDepth 100000 in
set_option maxHeartbeats 2000000 in
theorem flushBegin_any (tb vb : Nat) (A : VA) (O : List Nat) (n : Int) (xr : List Value) (r : List (List Value)) (w : World) (h : Vol w vb A O) (hw : A.reqs = (.int .i64 n :: xr) :: r) (hl : A.ress.length ≤ 90000) (t0 : w.cell? ⟨tb, 0, none⟩ = some (.pointer (some ⟨vb, 0, none⟩))) :
    Calls Tryz.prog 234 #[.pointer (some ⟨tb, 0, none⟩)] w fun e w' => e = .returned (.tuple #[]) ∧ Step w O w' vb { A with reqs := r, ress := A.ress ++ [[.int .i64 n, .int .i64 0, .slice none 0 0, .int .i64 0, .int .i64 0]] } := by
  have HF := hide (finish_any vb A O n 0 0 0 (.slice none 0 0) xr r w h hw ⟨none, 0, 0, rfl⟩ hl 0)
  clear h hw
  go_enter Tryz.func234, Tryz.ntmps234
  go_wp2_with (go_at_call 124; refine (unhide HF).mono ?_; rintro e w1 ⟨rfl, hs⟩; have HS := hide hs; clear hs HF)
  refine bodyPost_end (results_none rfl _ _ _) rfl ⟨rfl, unhide HS⟩

set_option maxRecDepth 100000 in
set_option maxHeartbeats 2000000 in
theorem degraded_no (tb vb : Nat) (A : VA) (O : List Nat) (w : World) (h : Vol w vb A O) (h2 : A.stand.length ≤ 8) (hc : (cur A.stand).length = A.stand.length) (t0 : w.cell? ⟨tb, 0, none⟩ = some (.pointer (some ⟨vb, 0, none⟩))) :
    Calls Tryz.prog 228 #[.pointer (some ⟨tb, 0, none⟩)] w fun e w' => e = .returned (.bool false) ∧ Below w.heap.size w w' := by
  have htl := block_lt_of_cell t0
  have HCU : Hid (∀ w', Below w.heap.size w w' → Calls Tryz.prog 123 #[.pointer (some ⟨vb, 0, none⟩)] w' fun e w'' => ∃ (la : Option Addr) (c : Nat), e = .returned (.slice la A.stand.length c) ∧ Below w'.heap.size w' w'') := fun w' hw => (current_any vb A O w' (h.new hw) h2).mono (fun e w'' hh => by
    obtain ⟨v, rfl, hrow, hbb⟩ := hh
    obtain ⟨lb, ⟨la, c, rfl, _⟩, _⟩ := diskL_own hrow
    exact ⟨la, c, by rw [hc], hbb⟩)
  have HDI : Hid (∀ w', Below w.heap.size w w' → Calls Tryz.prog 106 #[.pointer (some ⟨vb, 0, none⟩)] w' fun e w'' => e = .returned (.int .i64 (A.stand.length : Int)) ∧ w'' = w') := fun w' hw => disks_any vb A O w' (h.new hw)
  have T0 := hide t0
  clear h hc
  generalize A.stand.length = m at *
  have hm : (m : Int) ≤ 8 := by omega
  go_enter Tryz.func228, Tryz.ntmps228
  go_wp2_with fail
  go_region_held3 (fun w' => w'.cell? ⟨tb, 0, none⟩ = some (.pointer (some ⟨vb, 0, none⟩))) (first | exact t0 | exact q0)
    (first | (go_at_call 123; refine (unhide HCU _ (Below.refl _ _).drew).mono ?_; rintro e w3 ⟨la, c, rfl, hb3⟩; have hB3 : Below w.heap.size w w3 := (Below.refl w.heap.size w).drew.trans hb3; have q0 : w3.cell? ⟨tb, 0, none⟩ = some (.pointer (some ⟨vb, 0, none⟩)) := (hB3.cell htl).trans (unhide T0); clear hb3) |
      (go_at_call 106; refine (unhide HDI _ hB3).mono ?_; rintro e w4 ⟨rfl, hw4⟩; obtain rfl := hw4))
  go_wp2
  go_ret
  exact ⟨rfl, hB3⟩

set_option maxRecDepth 100000 in
set_option maxHeartbeats 2000000 in
theorem scrubBegin_any (tb vb : Nat) (A : VA) (O : List Nat) (s : Int) (x : Value) (w : World) (h : Vol w vb A O) (hto : tb ∉ O) (h2 : A.stand.length ≤ 8) (hc : (cur A.stand).length = A.stand.length) (t0 : w.cell? ⟨tb, 0, none⟩ = some (.pointer (some ⟨vb, 0, none⟩))) (t2 : w.cell? ⟨tb, 2, none⟩ = some x) (tf : w.frozen? ⟨tb, 2, none⟩ = false) (t3 : w.cell? ⟨tb, 3, none⟩ = some (.int .i64 s)) (h3 : 0 ≤ s) (h4 : s ≤ 5) (hl : A.wait.length ≤ 70000) :
    Calls Tryz.prog 227 #[.pointer (some ⟨tb, 0, none⟩)] w fun e w' => e = .returned (.tuple #[]) ∧ ∃ O', Vol w' vb (stripeRead A s (cur A.stand)) O' ∧ Chg (fun k => k ∈ O ∨ k = tb) w w' ∧ (∀ k ∈ O', k ∈ O ∨ w.heap.size ≤ k) := by
  have htl := block_lt_of_cell t0
  have HDG := hide (degraded_no tb vb A O w h h2 hc t0)
  have HRS : Hid (∀ w', Below w.heap.size w w' → Calls Tryz.prog 195 #[.pointer (some ⟨tb, 0, none⟩), .int .i64 s] w' fun e w'' => e = .returned (.tuple #[]) ∧ Step w' O w'' vb (stripeRead A s (cur A.stand))) := fun w' hw => readStripe_any tb vb A O _ w' (h.new hw) ((hw.cell (by exact htl)).trans t0) hto h2 (by omega) h3 h4
  have T2 := hide t2
  have TF := hide tf
  have T3 := hide t3
  clear h h2 hc t0 t2 tf t3 h3 h4
  go_enter Tryz.func227, Tryz.ntmps227
  go_wp2_with (go_at_call 228; refine (unhide HDG).mono ?_; rintro e w2 ⟨rfl, hb2⟩; have HB2 := hide hb2; have t3 : w2.drew.cell? ⟨tb, 3, none⟩ = some (.int .i64 s) := (hb2.cell (by exact htl)).trans (unhide T3); clear hb2 HDG)
  go_region_held3 (fun w' => w'.cell? ⟨tb, 3, none⟩ = some (.int .i64 s)) (first | exact t3 | exact q3)
    (first | (go_at_call 195; refine (unhide HRS _ (unhide HB2).drew).mono ?_; rintro e w4 ⟨rfl, hst⟩; have HST := hide (Step.new (unhide HB2).drew hst); obtain ⟨O1, v1, c1, o1⟩ := unhide HST; have q3 : w4.cell? ⟨tb, 3, none⟩ = some (.int .i64 s) := (World.cell?_of_block (w := w) (a := ⟨tb, 3, none⟩) (c1.block tb htl hto)).trans (unhide T3); clear hst))
  have q2 : w4.cell? ⟨tb, 2, none⟩ = some x := (World.cell?_of_block (w := w) (a := ⟨tb, 2, none⟩) (c1.block tb htl hto)).trans (unhide T2)
  have qf : w4.frozen? ⟨tb, 2, none⟩ = false := (World.frozen?_of_block (w := w) (a := ⟨tb, 2, none⟩) (c1.block tb htl hto)).trans (unhide TF)
  have HV1 := hide v1
  have HC1 := hide c1
  have HO1 := hide o1
  clear v1 c1 o1 HST HRS HB2 t3 q3
  go_wp2
  have hto1 : tb ∉ O1 := fun ho => by rcases unhide HO1 _ ho with q | q; exact hto q; (have htl' : tb < w.heap.size := htl; omega)
  refine bodyPost_end (results_none rfl _ _ _) rfl ⟨rfl, O1, (unhide HV1).chg (X := fun b => b = tb) ((Chg.refl _ _).setCell _ _ (Or.inl rfl)) (fun b hb e => hto1 (e ▸ hb)), (((unhide HC1).mono (fun k _ hk => Or.inl hk)).setCell _ _ (Or.inl (Or.inr rfl))), unhide HO1⟩

set_option maxRecDepth 100000 in
set_option maxHeartbeats 2000000 in
theorem readBegin_any (tb vb : Nat) (A : VA) (O : List Nat) (s : Int) (d : Nat) (x : Value) (w : World) (h : Vol w vb A O) (hto : tb ∉ O) (hd : d < A.stand.length) (hcu : A.stand.getD d 0 = 0) (t0 : w.cell? ⟨tb, 0, none⟩ = some (.pointer (some ⟨vb, 0, none⟩))) (t2 : w.cell? ⟨tb, 2, none⟩ = some x) (tf : w.frozen? ⟨tb, 2, none⟩ = false) (t3 : w.cell? ⟨tb, 3, none⟩ = some (.int .i64 s)) (t5 : w.cell? ⟨tb, 5, none⟩ = some (.int .i64 (d : Int))) (h3 : 0 ≤ s) (h4 : s ≤ 5) (hl : A.wait.length ≤ 70000) :
    Calls Tryz.prog 220 #[.pointer (some ⟨tb, 0, none⟩)] w fun e w' => e = .returned (.tuple #[]) ∧ ∃ O', Vol w' vb (colRead A s d) O' ∧ Chg (fun k => k ∈ O ∨ k = tb) w w' ∧ (∀ k ∈ O', k ∈ O ∨ w.heap.size ≤ k) := by
  have htl := block_lt_of_cell t0
  have HIC : Hid (∀ w', Below w.heap.size w w' → Calls Tryz.prog 133 #[.pointer (some ⟨vb, 0, none⟩), .int .i64 (d : Int)] w' fun e w'' => e = .returned (.bool true) ∧ Below w'.heap.size w' w'') := fun w' hw => (isCurrent_any vb A O d w' (h.new hw) hd).mono (fun e w'' hh => by
    obtain ⟨e1, e2⟩ := hh
    rw [hcu] at e1
    exact ⟨e1, by rw [e2]; exact Below.refl _ _⟩)
  have HRS : Hid (∀ w', Below w.heap.size w w' → Calls Tryz.prog 197 #[.pointer (some ⟨tb, 0, none⟩), .int .i64 s, .int .i64 (d : Int)] w' fun e w'' => e = .returned (.tuple #[]) ∧ Step w' O w'' vb (colRead A s d)) := fun w' hw => readColumn_any tb vb A O s d w' (h.new hw) ((hw.cell (by exact htl)).trans t0) hto hd (by omega) h3 h4
  have T0 := hide t0
  have T2 := hide t2
  have TF := hide tf
  have T3 := hide t3
  have T5 := hide t5
  clear h hd hcu t2 tf t3 h3 h4
  have z0 : w.drew.cell? ⟨tb, 0, none⟩ = some (.pointer (some ⟨vb, 0, none⟩)) := t0
  have z5 : w.drew.cell? ⟨tb, 5, none⟩ = some (.int .i64 (d : Int)) := t5
  clear t0 t5
  go_enter Tryz.func220, Tryz.ntmps220
  go_wp2_with fail
  go_region_held3 (fun w' => w'.cell? ⟨tb, 0, none⟩ = some (.pointer (some ⟨vb, 0, none⟩)) ∧ w'.cell? ⟨tb, 5, none⟩ = some (.int .i64 (d : Int))) (first | exact ⟨z0, z5⟩ | exact ⟨y0, y5⟩)
    (first | (go_at_call 133; refine (unhide HIC _ (Below.refl _ _).drew).mono ?_; rintro e w2 ⟨rfl, hb2⟩; have hB2 : Below w.heap.size w w2 := (Below.refl w.heap.size w).drew.trans hb2; have y0 : w2.cell? ⟨tb, 0, none⟩ = some (.pointer (some ⟨vb, 0, none⟩)) := (hB2.cell (by exact htl)).trans (unhide T0); have y5 : w2.cell? ⟨tb, 5, none⟩ = some (.int .i64 (d : Int)) := (hB2.cell (by exact htl)).trans (unhide T5); clear hb2))
  have HB2 := hide hB2
  have z3 : w2.drew.cell? ⟨tb, 3, none⟩ = some (.int .i64 s) := (hB2.cell (by exact htl)).trans (unhide T3)
  have z6 : w2.drew.cell? ⟨tb, 5, none⟩ = some (.int .i64 (d : Int)) := (hB2.cell (by exact htl)).trans (unhide T5)
  clear hB2 y0 y5 z0 z5 HIC
  go_wp2_with fail
  go_region_held3 (fun w' => w'.cell? ⟨tb, 3, none⟩ = some (.int .i64 s) ∧ w'.cell? ⟨tb, 5, none⟩ = some (.int .i64 (d : Int))) (first | exact ⟨z3, z6⟩ | exact ⟨q3, q5⟩)
    (first | (go_at_call 197; refine (unhide HRS _ (unhide HB2).drew).mono ?_; rintro e w4 ⟨rfl, hst⟩; have HST := hide (Step.new (unhide HB2).drew hst); obtain ⟨O1, v1, c1, o1⟩ := unhide HST; have q3 : w4.cell? ⟨tb, 3, none⟩ = some (.int .i64 s) := (World.cell?_of_block (w := w) (a := ⟨tb, 3, none⟩) (c1.block tb htl hto)).trans (unhide T3); have q5 : w4.cell? ⟨tb, 5, none⟩ = some (.int .i64 (d : Int)) := (World.cell?_of_block (w := w) (a := ⟨tb, 5, none⟩) (c1.block tb htl hto)).trans (unhide T5); clear hst))
  have q2 : w4.cell? ⟨tb, 2, none⟩ = some x := (World.cell?_of_block (w := w) (a := ⟨tb, 2, none⟩) (c1.block tb htl hto)).trans (unhide T2)
  have qf : w4.frozen? ⟨tb, 2, none⟩ = false := (World.frozen?_of_block (w := w) (a := ⟨tb, 2, none⟩) (c1.block tb htl hto)).trans (unhide TF)
  have HV1 := hide v1
  have HC1 := hide c1
  have HO1 := hide o1
  clear v1 c1 o1 HST HRS HB2 z3 z6 q3 q5
  go_wp2
  have hto1 : tb ∉ O1 := fun ho => by rcases unhide HO1 _ ho with q | q; exact hto q; (have htl' : tb < w.heap.size := htl; omega)
  refine bodyPost_end (results_none rfl _ _ _) rfl ⟨rfl, O1, (unhide HV1).chg (X := fun b => b = tb) ((Chg.refl _ _).setCell _ _ (Or.inl rfl)) (fun b hb e => hto1 (e ▸ hb)), (((unhide HC1).mono (fun k _ hk => Or.inl hk)).setCell _ _ (Or.inl (Or.inr rfl))), unhide HO1⟩

end Go.Proofs.YtdcinlkkjbclmaaGreat
