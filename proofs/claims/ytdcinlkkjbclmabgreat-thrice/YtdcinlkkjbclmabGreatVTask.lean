/- What a volume is at: a task's own cells, goOn, miss. -/
import Derived.Test.YtdcinlkkjbclmabGreatVStripe
import Derived.Laws.EntriesVeiled
namespace Go.Proofs.YtdcinlkkjbclmabGreat
open Go.RowKit

theorem func_nil (fn : Fn) (a c : Array Value) (w : World) : (binOp .eql 1 (.func fn a c) .nilFunc).run Tryz.prog w = .ok (.bool false) w := by kernel_rfl
theorem nil_nil (w : World) : (binOp .eql 1 .nilFunc .nilFunc).run Tryz.prog w = .ok (.bool true) w := by kernel_rfl
set_option maxRecDepth 100000 in
set_option maxHeartbeats 1000000 in
theorem goOn_nil (tb : Nat) (w : World) (h2 : w.cell? ⟨tb, 2, none⟩ = some .nilFunc) :
    Calls Tryz.prog 103 #[.pointer (some ⟨tb, 0, none⟩)] w fun e w' => e = .returned (.bool false) ∧ w' = w := by
  have hn := nil_nil
  go_enter Tryz.func103, Tryz.ntmps103
  go_wp2
  go_ret
  exact ⟨rfl, rfl⟩
set_option maxRecDepth 100000 in
set_option maxHeartbeats 1000000 in
theorem goOn_next (tb f : Nat) (R : World → Prop) (w : World) (h2 : w.cell? ⟨tb, 2, none⟩ = some (.func (.func f) #[.pointer (some ⟨tb, 0, none⟩)] #[])) (hf2 : w.frozen? ⟨tb, 2, none⟩ = false)
    (hcf : ∀ (args : Array Value) (w : World), (callFunc f args).run Tryz.prog w = .ok (.enter f args) w)
    (hc : Calls Tryz.prog f #[.pointer (some ⟨tb, 0, none⟩)] (w.setCell ⟨tb, 2, none⟩ .nilFunc) fun e w' => e = .returned (.tuple #[]) ∧ R w') :
    Calls Tryz.prog 103 #[.pointer (some ⟨tb, 0, none⟩)] w fun e w' => e = .returned (.bool true) ∧ R w' := by
  have HC := hide hc
  have hn := func_nil (.func f) #[.pointer (some ⟨tb, 0, none⟩)] #[]
  clear hc
  go_enter Tryz.func103, Tryz.ntmps103
  go_wp2_with fail
  refine (unhide HC).mono ?_
  rintro e w1 ⟨rfl, hr⟩
  have HR := hide hr
  clear hr hcf
  go_wp2
  go_ret
  exact ⟨rfl, unhide HR⟩
theorem enters_makeLabelsSafe (args : Array Value) (w : World) : (callFunc 107 args).run Tryz.prog w = .ok (.enter 107 args) w := by kernel_rfl
theorem enters_ready (args : Array Value) (w : World) : (callFunc 113 args).run Tryz.prog w = .ok (.enter 113 args) w := by kernel_rfl
theorem miss_any (tb : Nat) (d : Int) (w : World) :
    Calls Tryz.prog 105 #[.pointer (some ⟨tb, 0, none⟩), .int .i64 d] w fun e w' => e = .returned (.tuple #[]) ∧ w' = w := by
  go_enter Tryz.func105, Tryz.ntmps105
  go_wp2
  refine bodyPost_end (results_none rfl _ _ _) rfl ⟨rfl, rfl⟩

/-- one cell of the volume is set -/
theorem vol_set {w : World} {vb : Nat} {A A' : VA} {O : List Nat} (h : Vol w vb A O) (i : Nat) (v : Value) (hA : ∀ G, volC A' G = (volC A G).setIfInBounds i v) (hs : A'.stand = A.stand) (hw : A'.wait = A.wait) (ht : A'.told = A.told) (hr : A'.reqs = A.reqs) (hq : A'.ress = A.ress) :
    Step w O (w.setCell ⟨vb, i, none⟩ v) vb A' := by
  obtain ⟨G, h, rfl, hnd, hdi⟩ := h
  have hap := apart_of h.nd
  have hch : Chg (fun b => b = vb) w (w.setCell ⟨vb, i, none⟩ v) := (Chg.refl _ _).setCell _ _ (Or.inl rfl)
  refine Vol.lift_sub hnd hdi ⟨G, ⟨by rw [hA]; exact h.blk.set i v, by rw [hs]; exact h.std.chg hch hap.sv, by rw [ht]; exact h.map.chg hch hap.mv, by rw [hw]; exact ring_chg h.wq hch (fun hn => (hap.w1 hn).1), by rw [hr]; exact ring_chg h.rq hch (fun hn => (hap.r1 hn).1), by rw [hq]; exact ring_chg h.sq hch (fun hn => (hap.s1 hn).1), h.nd, h.few⟩, hch.mono (fun k _ hk => by rw [hk]; exact own_mem.2 (Or.inl rfl)), fun b hb => Or.inl hb⟩ (by rw [hw]; exact List.Sublist.refl _)

set_option maxRecDepth 100000 in
set_option maxHeartbeats 1000000 in
theorem ready_any (tb vb : Nat) (A : VA) (O : List Nat) (w : World) (h : Vol w vb A O) (ht : w.cell? ⟨tb, 0, none⟩ = some (.pointer (some ⟨vb, 0, none⟩))) :
    Calls Tryz.prog 113 #[.pointer (some ⟨tb, 0, none⟩)] w fun e w' => e = .returned (.tuple #[]) ∧ Step w O w' vb { A with state := 1 } := by
  obtain ⟨G, hG, _⟩ := id h
  have c2 : w.cell? ⟨vb, 2, none⟩ = some (.int .i64 A.state) := hG.blk.cell 2
  have f2 := hG.blk.free 2
  have HST := hide (vol_set (A' := { A with state := 1 }) h 2 (.int .i64 1) (fun G => by unfold volC; simp) rfl rfl rfl rfl rfl)
  clear h hG
  go_enter Tryz.func113, Tryz.ntmps113
  go_wp2
  refine bodyPost_end (results_none rfl _ _ _) rfl ⟨rfl, unhide HST⟩

set_option maxRecDepth 100000 in
set_option maxHeartbeats 2000000 in
theorem makeLabelsSafe_any (tb vb : Nat) (A : VA) (O : List Nat) (x : Value) (w : World) (h : Vol w vb A O) (hto : tb ∉ O) (ht : w.cell? ⟨tb, 0, none⟩ = some (.pointer (some ⟨vb, 0, none⟩))) (h2 : w.cell? ⟨tb, 2, none⟩ = some x) (hf2 : w.frozen? ⟨tb, 2, none⟩ = false) (hs : A.stand.length ≤ 8) (hl : A.wait.length ≤ 90000) :
    Calls Tryz.prog 107 #[.pointer (some ⟨tb, 0, none⟩)] w fun e w' => e = .returned (.tuple #[]) ∧ ∃ w1, Step w O w1 vb (safeA A (cur A.stand)) ∧ w' = w1.setCell ⟨tb, 2, none⟩ (.func (.func 113) #[.pointer (some ⟨tb, 0, none⟩)] #[]) := by
  have htl := block_lt_of_cell ht
  have hlt := h.lt
  have hcl := Nat.le_trans (curTo_len A.stand A.stand.length) hs
  have HV := hide h
  have HLT := hide hlt
  have HCU : Hid (∀ d ∈ cur A.stand, d < A.stand.length) := curTo_lt A.stand A.stand.length
  have HM : Hid (∀ w' v, Below w.heap.size w w' → w'.ownsRow w.heap.size 3 1 v (cur A.stand).length (ints (cur A.stand)) → Calls Tryz.prog 112 #[.pointer (some ⟨tb, 0, none⟩), v] w' fun e w'' => e = .returned (.tuple #[]) ∧ Step w' O w'' vb (safeA A (cur A.stand))) := fun w' v hw hov => by
    obtain ⟨lb, hdl, hlb⟩ := diskL_own hov
    exact makeSafe_any tb vb A O v (cur A.stand) lb w' (h.new hw) ((hw.cell (by exact htl)).trans ht) hto hdl (fun b hb ho => by have := hlb b hb; have := hlt b ho; omega) (unhide HCU) (by have : (cur A.stand).length ≤ 8 := hcl; omega)
  clear h hlt
  go_enter Tryz.func107, Tryz.ntmps107
  go_wp2_with fail
  go_region_held3 (fun w' => w'.cell? ⟨tb, 0, none⟩ = some (.pointer (some ⟨vb, 0, none⟩))) (first | exact ht | exact q0 | exact p0)
    (first | (go_at_call 71; refine (current_any vb A O _ ((unhide HV).new (Below.refl _ _).drew) hs).mono ?_; rintro e w3 ⟨v, rfl, hov, hb3⟩; have hB3 : Below w.heap.size w w3 := (Below.refl w.heap.size w).drew.trans hb3; have q0 := (hB3.cell (p := ⟨tb, 0, none⟩) (by exact htl)).trans ht; have HOV := hide hov; clear hov hb3) |
      (go_at_call 112; refine (unhide HM _ v hB3 (unhide HOV)).mono ?_; rintro e w4 ⟨rfl, hst⟩; have hch := hst.chg'; have p0 := (World.cell?_of_block (w := w3) (a := ⟨tb, 0, none⟩) (hch.block tb (by have := hB3.size; omega) hto)).trans q0; have p2 : w4.cell? ⟨tb, 2, none⟩ = some x := (World.cell?_of_block (w := w3) (a := ⟨tb, 2, none⟩) (hch.block tb (by have := hB3.size; omega) hto)).trans ((hB3.cell (p := ⟨tb, 2, none⟩) (by exact htl)).trans h2); have pf : w4.frozen? ⟨tb, 2, none⟩ = false := (World.frozen?_of_block (w := w3) (a := ⟨tb, 2, none⟩) (hch.block tb (by have := hB3.size; omega) hto)).trans ((hB3.frozen (p := ⟨tb, 2, none⟩) (by exact htl)).trans hf2); have HST := hide (Step.new hB3 hst); clear hst hch))
  clear ht h2 hf2 q0 p0
  go_wp2
  refine bodyPost_end (results_none rfl _ _ _) rfl ⟨rfl, w4, unhide HST, rfl⟩

end Go.Proofs.YtdcinlkkjbclmabGreat
