/- A request is carried out: where its block lies, a Write's first step. -/
import Derived.Test.YtdcinlkkjbclmabGreatVMade
namespace Go.Proofs.YtdcinlkkjbclmabGreat
open Go.RowKit

theorem results_one {P : Program} {fn : Func} {p : Tmp} {ty : TypeId} (h : fn.results = #[.cell p ty]) (tmps : Array Value) (w : World) (g : Nat) (t : TypeId) (cs : Array Value) (fr : Nat × Nat) (d : TypeDesc)
    (hp : tmps.getD p undef = .pointer (some ⟨g, 0, none⟩)) (hg : w.heap[g]? = some (.cells cs t fr))
    (hu : P.underlying ty = some d) (hd : (match d with | .struct _ | .array _ _ => true | _ => false) = true) (hi : (P.info? ty).map (·.size) = some cs.size) :
    (results fn tmps).run P w = .ok (.agg cs) w := by
  have h1 : tmps[p]?.getD undef = .pointer (some ⟨g, 0, none⟩) := by simpa using hp
  simp [results, h, h1, asAddr, run_loadVar_row w g t ty cs fr d hg hu hd hi]
theorem place_field (a b c d : Value) (w : World) : (Instr.field 143 (.agg #[a, b, c, d]) 0).run Tryz.prog w = .ok a w := by kernel_rfl
theorem place_size : (Tryz.prog.info? 143).map (·.size) = some 4 := by kernel_rfl
def placeV (D b : Int) : Array Value := #[.int .i64 (b / (D - 2)), .int .i64 (b % (D - 2)), .int .i64 (dskAt D (b / (D - 2)) (b % (D - 2))), .int .i64 (17 + 2 * (b / (D - 2)))]
set_option maxRecDepth 100000 in
set_option maxHeartbeats 1000000 in
theorem place_any (vb : Nat) (A : VA) (O : List Nat) (b : Int) (w : World) (h : Vol w vb A O) (h1 : 4 ≤ A.stand.length) (h2 : A.stand.length ≤ 8) (h3 : 0 ≤ b) (h4 : b ≤ 6 * ((A.stand.length : Int) - 2) - 1) :
    Calls Tryz.prog 75 #[.pointer (some ⟨vb, 0, none⟩), .int .i64 b] w fun e w' => e = .returned (.agg (placeV (A.stand.length : Int) b)) ∧ Below w.heap.size w w' := by
  have hd : (4 : Int) ≤ (A.stand.length : Int) := by omega
  have hd8 : (A.stand.length : Int) ≤ 8 := by omega
  have HBL : Hid (∀ w, Calls Tryz.prog 81 #[.int .i64 (A.stand.length : Int), .int .i64 b] w fun e w' => e = .returned (.agg #[.int .i64 (b / ((A.stand.length : Int) - 2)), .int .i64 (b % ((A.stand.length : Int) - 2)), .int .i64 (dskAt (A.stand.length : Int) (b / ((A.stand.length : Int) - 2)) (b % ((A.stand.length : Int) - 2))), .int .i64 (17 + 2 * (b / ((A.stand.length : Int) - 2)))]) ∧ Below w.heap.size w w') := fun w => block_any _ _ w hd hd8 h3 h4
  have HDK : Hid (∀ w', Below w.heap.size w w' → Calls Tryz.prog 58 #[.pointer (some ⟨vb, 0, none⟩)] w' fun e w'' => e = .returned (.int .i64 (A.stand.length : Int)) ∧ w'' = w') := fun w' hw => disks_any vb A O w' (h.new hw)
  clear h h4 h1 h2
  unfold placeV
  generalize (A.stand.length : Int) = D at *
  generalize b / (D - 2) = x0 at *
  generalize b % (D - 2) = x1 at *
  generalize dskAt D x0 x1 = x2 at *
  generalize 17 + 2 * x0 = x3 at *
  go_enter Tryz.func75, Tryz.ntmps75
  go_wp2_with fail
  refine (unhide HDK _ ((Below.refl _ _).alloc (Nat.le_refl _) _)).mono ?_
  rintro e w1 ⟨rfl, hw1⟩
  have hb1 : Below w.heap.size w w1 := by rw [hw1]; exact (Below.refl _ _).alloc (Nat.le_refl _) _
  have hk1 : Blk w1 w.heap.size #[.int .i64 0, .int .i64 0, .int .i64 0, .int .i64 0] 143 := by rw [hw1]; exact Blk.new w _ _
  clear hw1
  have hs1 := hk1.lt
  go_wp2_with fail
  refine (unhide HBL w1).mono ?_
  rintro e w2 ⟨rfl, hb2⟩
  have hk2 := hk1.below hb2 hs1
  have hbw := hb1.trans (hb2.mono hb1.size)
  have c0 : w2.cell? ⟨w.heap.size, 0, none⟩ = some (.int .i64 0) := hk2.cell 0
  have c1 : w2.cell? ⟨w.heap.size, 1, none⟩ = some (.int .i64 0) := hk2.cell 1
  have c2 : w2.cell? ⟨w.heap.size, 2, none⟩ = some (.int .i64 0) := hk2.cell 2
  have c3 : w2.cell? ⟨w.heap.size, 3, none⟩ = some (.int .i64 0) := hk2.cell 3
  have f0 := hk2.free 0
  have f1 := hk2.free 1
  have f2 := hk2.free 2
  have f3 := hk2.free 3
  have HBW := hide hbw
  have HK2 := hide hk2
  clear hb2 hbw hk1 hk2 hb1 HBL HDK
  go_wp2
  have hk3 := ((((unhide HK2).set 0 (.int .i64 x0)).set 1 (.int .i64 x1)).set 2 (.int .i64 x2)).set 3 (.int .i64 x3)
  refine bodyPost_ret (results_one Tryz.results75 _ _ w.heap.size 143 _ (0, 0) _ rfl hk3 Tryz.underlying143 rfl place_size) rfl ⟨rfl, ?_⟩
  exact ((((unhide HBW).setCell (by simp) _).setCell (by simp) _).setCell (by simp) _).setCell (by simp) _

set_option maxRecDepth 100000 in
set_option maxHeartbeats 2000000 in
theorem savingPlace_any (tb vb : Nat) (A : VA) (O : List Nat) (b : Int) (w : World) (h : Vol w vb A O) (t0 : w.cell? ⟨tb, 0, none⟩ = some (.pointer (some ⟨vb, 0, none⟩))) (t3 : w.cell? ⟨tb, 3, none⟩ = some (.int .i64 b)) (h1 : 4 ≤ A.stand.length) (h2 : A.stand.length ≤ 8) (h3 : 0 ≤ b) (h4 : b ≤ 6 * ((A.stand.length : Int) - 2) - 1) :
    Calls Tryz.prog 130 #[.pointer (some ⟨tb, 0, none⟩)] w fun e w' => e = .returned (.agg (placeV (A.stand.length : Int) b)) ∧ Below w.heap.size w w' := by
  have htl := block_lt_of_cell t0
  have HPL : Hid (∀ w', Below w.heap.size w w' → Calls Tryz.prog 75 #[.pointer (some ⟨vb, 0, none⟩), .int .i64 b] w' fun e w'' => e = .returned (.agg (placeV (A.stand.length : Int) b)) ∧ Below w'.heap.size w' w'') := fun w' hw => place_any vb A O b w' (h.new hw) h1 h2 h3 h4
  have HB1 := hide ((Below.refl w.heap.size w).alloc (Nat.le_refl _) (.cells #[.int .i64 0, .int .i64 0, .int .i64 0, .int .i64 0] 143))
  have HK1 := hide (Blk.new w #[.int .i64 0, .int .i64 0, .int .i64 0, .int .i64 0] 143)
  clear h h1 h2 h3 h4
  generalize (A.stand.length : Int) = D at *
  unfold placeV at *
  generalize b / (D - 2) = x0 at *
  generalize b % (D - 2) = x1 at *
  generalize dskAt D x0 x1 = x2 at *
  generalize 17 + 2 * x0 = x3 at *
  go_enter Tryz.func130, Tryz.ntmps130
  go_wp2_with fail
  refine region_tail 9 (by kernel_rfl) (by kernel_rfl) ?_
  rintro w4 hw4
  have HB4 : Hid (Below w.heap.size w w4) := by rw [hw4]; exact (unhide HB1).drew
  have HK4 : Hid (Blk w4 w.heap.size #[.int .i64 0, .int .i64 0, .int .i64 0, .int .i64 0] 143) := by rw [hw4]; exact (unhide HK1).drew
  have q0 : w4.cell? ⟨tb, 0, none⟩ = some (.pointer (some ⟨vb, 0, none⟩)) := ((unhide HB4).cell (by exact htl)).trans t0
  have q3 : w4.cell? ⟨tb, 3, none⟩ = some (.int .i64 b) := ((unhide HB4).cell (by exact htl)).trans t3
  clear hw4 HB1 HK1 t0 t3
  simp only [List.take_succ_cons, List.take_zero, List.drop_succ_cons, List.drop_zero]
  repeat (refine wpStill_step (fun K hK => ?_); go_simp; (try go_ints); refine hK _ ?_; clear hK K)
  refine wpStill_nil ?_
  clear q0 q3
  go_wp2_with fail
  refine (unhide HPL w4 (unhide HB4)).mono ?_
  rintro e w2 ⟨rfl, hb2⟩
  have hk2 := (unhide HK4).below hb2 (unhide HK4).lt
  have hbw := (unhide HB4).trans (hb2.mono (unhide HB4).size)
  have c0 : w2.cell? ⟨w.heap.size, 0, none⟩ = some (.int .i64 0) := hk2.cell 0
  have c1 : w2.cell? ⟨w.heap.size, 1, none⟩ = some (.int .i64 0) := hk2.cell 1
  have c2 : w2.cell? ⟨w.heap.size, 2, none⟩ = some (.int .i64 0) := hk2.cell 2
  have c3 : w2.cell? ⟨w.heap.size, 3, none⟩ = some (.int .i64 0) := hk2.cell 3
  have f0 := hk2.free 0
  have f1 := hk2.free 1
  have f2 := hk2.free 2
  have f3 := hk2.free 3
  have HBW := hide hbw
  have HK2 := hide hk2
  clear hb2 hbw hk2 HB4 HK4 HPL
  go_wp2
  have hk3 := ((((unhide HK2).set 0 (.int .i64 x0)).set 1 (.int .i64 x1)).set 2 (.int .i64 x2)).set 3 (.int .i64 x3)
  refine bodyPost_ret (results_one Tryz.results130 _ _ w.heap.size 143 _ (0, 0) _ rfl hk3 Tryz.underlying143 rfl place_size) rfl ⟨rfl, ?_⟩
  exact ((((unhide HBW).setCell (by simp) _).setCell (by simp) _).setCell (by simp) _).setCell (by simp) _

set_option maxRecDepth 100000 in
set_option maxHeartbeats 2000000 in
theorem writeBegin_any (tb vb : Nat) (A : VA) (O : List Nat) (b : Int) (x : Value) (w : World) (h : Vol w vb A O) (hto : tb ∉ O) (t0 : w.cell? ⟨tb, 0, none⟩ = some (.pointer (some ⟨vb, 0, none⟩))) (t2 : w.cell? ⟨tb, 2, none⟩ = some x) (tf : w.frozen? ⟨tb, 2, none⟩ = false) (t3 : w.cell? ⟨tb, 3, none⟩ = some (.int .i64 b)) (h1 : 4 ≤ A.stand.length) (h2 : A.stand.length ≤ 8) (h3 : 0 ≤ b) (h4 : b ≤ 6 * ((A.stand.length : Int) - 2) - 1) (hl : A.wait.length ≤ 70000) :
    Calls Tryz.prog 168 #[.pointer (some ⟨tb, 0, none⟩)] w fun e w' => e = .returned (.tuple #[]) ∧ ∃ O', Vol w' vb (stripeRead A (b / ((A.stand.length : Int) - 2)) (cur A.stand)) O' ∧ Chg (fun k => k ∈ O ∨ k = tb) w w' ∧ (∀ k ∈ O', k ∈ O ∨ w.heap.size ≤ k) := by
  have htl := block_lt_of_cell t0
  have hlt := h.lt
  have q1 : 0 ≤ b / ((A.stand.length : Int) - 2) := Int.ediv_nonneg h3 (by omega)
  have q2 : b / ((A.stand.length : Int) - 2) ≤ 5 := by
    have : b / ((A.stand.length : Int) - 2) < 6 := Int.ediv_lt_of_lt_mul (by omega) (by omega)
    omega
  have HPL : Hid (∀ w', Below w.heap.size w w' → Calls Tryz.prog 130 #[.pointer (some ⟨tb, 0, none⟩)] w' fun e w'' => e = .returned (.agg (placeV (A.stand.length : Int) b)) ∧ Below w'.heap.size w' w'') := fun w' hw => savingPlace_any tb vb A O b w' (h.new hw) ((hw.cell (by exact htl)).trans t0) ((hw.cell (by exact htl)).trans t3) h1 h2 h3 h4
  have HRS : Hid (∀ w', Below w.heap.size w w' → Calls Tryz.prog 139 #[.pointer (some ⟨tb, 0, none⟩), .int .i64 (b / ((A.stand.length : Int) - 2))] w' fun e w'' => e = .returned (.tuple #[]) ∧ Step w' O w'' vb (stripeRead A (b / ((A.stand.length : Int) - 2)) (cur A.stand))) := fun w' hw => readStripe_any tb vb A O _ w' (h.new hw) ((hw.cell (by exact htl)).trans t0) hto h2 (by omega) q1 q2
  have T2 := hide t2
  have TF := hide tf
  have HLT := hide hlt
  clear h h1 h2 h3 h4 q1 q2 t0 t3 t2 tf hlt
  generalize (A.stand.length : Int) = D at *
  unfold placeV at *
  generalize b / (D - 2) = x0 at *
  generalize b % (D - 2) = x1 at *
  generalize dskAt D x0 x1 = x2 at *
  generalize 17 + 2 * x0 = x3 at *
  have hfd := place_field
  go_enter Tryz.func168, Tryz.ntmps168
  go_wp2_with fail
  go_region_held3 (fun _ => True) (exact trivial)
    (first | (go_at_call 130; refine (unhide HPL _ (Below.refl _ _).drew).mono ?_; rintro e w3 ⟨rfl, hb3⟩; have hB3 : Below w.heap.size w w3 := (Below.refl w.heap.size w).drew.trans hb3; clear hb3) |
      (go_at_call 139; refine (unhide HRS _ hB3).mono ?_; rintro e w4 ⟨rfl, hst⟩; have HST := hide (Step.new hB3 hst); clear hst))
  obtain ⟨O1, v1, c1, o1⟩ := unhide HST
  have q2 : w4.cell? ⟨tb, 2, none⟩ = some x := (World.cell?_of_block (w := w) (a := ⟨tb, 2, none⟩) (c1.block tb htl hto)).trans (unhide T2)
  have qf : w4.frozen? ⟨tb, 2, none⟩ = false := (World.frozen?_of_block (w := w) (a := ⟨tb, 2, none⟩) (c1.block tb htl hto)).trans (unhide TF)
  have HV1 := hide v1
  have HC1 := hide c1
  have HO1 := hide o1
  clear v1 c1 o1 HST HPL HRS hB3
  go_wp2
  have hto1 : tb ∉ O1 := fun ho => by rcases unhide HO1 _ ho with q | q; exact hto q; (have htl' : tb < w.heap.size := htl; omega)
  refine bodyPost_end (results_none rfl _ _ _) rfl ⟨rfl, O1, (unhide HV1).chg (X := fun b => b = tb) ((Chg.refl _ _).setCell _ _ (Or.inl rfl)) (fun b hb e => hto1 (e ▸ hb)), (((unhide HC1).mono (fun k _ hk => Or.inl hk)).setCell _ _ (Or.inl (Or.inr rfl))), unhide HO1⟩

end Go.Proofs.YtdcinlkkjbclmabGreat
