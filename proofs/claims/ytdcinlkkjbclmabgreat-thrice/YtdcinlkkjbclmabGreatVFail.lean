/- Results come about; too many disks are lost. -/
import Derived.Test.YtdcinlkkjbclmabGreatVTask
namespace Go.Proofs.YtdcinlkkjbclmabGreat
open Go.RowKit

set_option maxRecDepth 100000 in
set_option maxHeartbeats 2000000 in
theorem finish_any (vb : Nat) (A : VA) (O : List Nat) (n e v c : Int) (data : Value) (xr : List Value) (r : List (List Value)) (w : World) (h : Vol w vb A O) (hw : A.reqs = (.int .i64 n :: xr) :: r) (hs : IsSl data) (hl : A.ress.length ≤ 90000) (rid : Int) :
    Calls Tryz.prog 72 #[.pointer (some ⟨vb, 0, none⟩), .agg #[.int .i64 rid, .int .i64 e, data, .int .i64 v, .int .i64 c]] w fun e' w' => e' = .returned (.tuple #[]) ∧ Step w O w' vb { A with reqs := r, ress := A.ress ++ [[.int .i64 n, .int .i64 e, data, .int .i64 v, .int .i64 c]] } := by
  obtain ⟨da, dn, dc, rfl⟩ := hs
  have hlt := h.lt
  have HV := hide h
  have HLT := hide hlt
  obtain ⟨G, hG, _⟩ := id h
  have hea := hG.rq.each (.int .i64 n :: xr) (by rw [hw]; simp)
  have HEA := hide hea
  clear h hlt hG hea
  have hb1 := (Below.refl w.heap.size w).alloc (Nat.le_refl _) (.cells #[.int .i64 rid, .int .i64 e, .slice da dn dc, .int .i64 v, .int .i64 c] 39)
  have HB1 := hide hb1
  have HK1 := hide (Blk.new w #[.int .i64 rid, .int .i64 e, .slice da dn dc, .int .i64 v, .int .i64 c] 39)
  have hs1 : (w.alloc (.cells #[.int .i64 rid, .int .i64 e, .slice da dn dc, .int .i64 v, .int .i64 c] 39)).heap.size = w.heap.size + 1 := by simp
  have HS1 := hide hs1
  clear hb1 hs1
  go_enter Tryz.func72, Tryz.ntmps72
  go_wp2_with fail
  generalize w.alloc (.cells #[.int .i64 rid, .int .i64 e, .slice da dn dc, .int .i64 v, .int .i64 c] 39) = w1 at *
  have hs1 := unhide HS1
  refine (req_take vb A O (.int .i64 n :: xr) r w1 ((unhide HV).new (unhide HB1)) hw).mono ?_
  rintro e' w2 ⟨rfl, O2, v2, c2, o2⟩
  have hs2 := c2.size
  have hwo : w.heap.size ∉ O := fun ho => by have := unhide HLT _ ho; omega
  have HK2 := hide ((unhide HK1).chg c2 hwo)
  have HV2 := hide v2
  have HC2 := hide c2
  have HO2 := hide o2
  clear v2 c2 o2 HK1
  have hx19 := (unhide HEA).1
  have hxo := all_oneCell_toArray (unhide HEA).2
  have HX0 : Hid ((.int .i64 n :: xr : List Value)[0]? = some (.int .i64 n)) := rfl
  clear HEA hw
  generalize (.int .i64 n :: xr : List Value) = x at *
  have hszx : (Tryz.prog.info? 86).map (·.size) = some x.toArray.size := by rw [List.size_toArray, hx19]; exact elInfoR
  have HSX := hide hszx
  have HOX := hide hxo
  have HN2 := hide (Blk.new w2 #[Value.int .i64 0, Value.int .i64 0, Value.int .i64 0, Value.int .u8 0, Value.int .u8 0, Value.int .u8 0, Value.int .u8 0, Value.int .u8 0, Value.int .u8 0, Value.int .u8 0, Value.int .u8 0, Value.int .u8 0, Value.int .u8 0, Value.int .u8 0, Value.int .u8 0, Value.int .u8 0, Value.int .u8 0, Value.int .u8 0, Value.int .u8 0] 86)
  have HT2 : Hid ((w2.alloc (.cells #[Value.int .i64 0, Value.int .i64 0, Value.int .i64 0, Value.int .u8 0, Value.int .u8 0, Value.int .u8 0, Value.int .u8 0, Value.int .u8 0, Value.int .u8 0, Value.int .u8 0, Value.int .u8 0, Value.int .u8 0, Value.int .u8 0, Value.int .u8 0, Value.int .u8 0, Value.int .u8 0, Value.int .u8 0, Value.int .u8 0, Value.int .u8 0] 86)).there w2.heap.size 0 x.toArray.size) := by rw [show x.toArray.size = 19 from hx19]; exact (unhide HN2).there 0 19 (by simp)
  have HL3 : Hid (Blk ((w2.alloc (.cells #[Value.int .i64 0, Value.int .i64 0, Value.int .i64 0, Value.int .u8 0, Value.int .u8 0, Value.int .u8 0, Value.int .u8 0, Value.int .u8 0, Value.int .u8 0, Value.int .u8 0, Value.int .u8 0, Value.int .u8 0, Value.int .u8 0, Value.int .u8 0, Value.int .u8 0, Value.int .u8 0, Value.int .u8 0, Value.int .u8 0, Value.int .u8 0] 86)).setCells w2.heap.size 0 x) w2.heap.size x.toArray 86) := (unhide HN2).whole x (by rw [hx19]; rfl)
  have HB3 : Hid (Below w2.heap.size w2 ((w2.alloc (.cells #[Value.int .i64 0, Value.int .i64 0, Value.int .i64 0, Value.int .u8 0, Value.int .u8 0, Value.int .u8 0, Value.int .u8 0, Value.int .u8 0, Value.int .u8 0, Value.int .u8 0, Value.int .u8 0, Value.int .u8 0, Value.int .u8 0, Value.int .u8 0, Value.int .u8 0, Value.int .u8 0, Value.int .u8 0, Value.int .u8 0, Value.int .u8 0] 86)).setCells w2.heap.size 0 x)) := below_setCells ((Below.refl _ _).alloc (Nat.le_refl _) _) _ _ _ (Nat.le_refl _)
  clear hszx hxo HN2
  go_wp2_with (show wpList _ _ _ (Oper.mk none (Op.store 86 (Operand.tmp 4) _) _ _ _ _ :: _) _ _; refine wpList_store_mid rfl 86 _ _ rfl w2.heap.size 0 x.toArray rfl rfl (unhide HT2) (unhide HSX) (unhide HOX) ?_; generalize (w2.alloc (.cells #[Value.int .i64 0, Value.int .i64 0, Value.int .i64 0, Value.int .u8 0, Value.int .u8 0, Value.int .u8 0, Value.int .u8 0, Value.int .u8 0, Value.int .u8 0, Value.int .u8 0, Value.int .u8 0, Value.int .u8 0, Value.int .u8 0, Value.int .u8 0, Value.int .u8 0, Value.int .u8 0, Value.int .u8 0, Value.int .u8 0, Value.int .u8 0] 86)).setCells w2.heap.size 0 x = w3 at *; have hk3 := (unhide HK2).below (unhide HB3) (by omega); have e0 : w3.cell? ⟨w2.heap.size, 0, none⟩ = some (.int .i64 n) := (unhide HL3).cell 0 |>.trans (by simpa using unhide HX0); have b0 : w3.cell? ⟨w.heap.size, 0, none⟩ = some (.int .i64 rid) := hk3.cell 0; have bf := hk3.free 0; have HK3 := hide hk3; clear hk3)
  have HK4 := hide ((unhide HK3).set 0 (.int .i64 n))
  have HB4 : Hid (Below w1.heap.size w1 w1) := Below.refl _ _
  have hch4 : Chg (fun b => b ∈ O) w (w3.setCell ⟨w.heap.size, 0, none⟩ (.int .i64 n)) := (((Chg.of_new (X := fun b => b ∈ O) (unhide HB1)).trans (unhide HC2) (fun k hk => Or.inl hk)).trans (Chg.of_new (X := fun _ => False) (unhide HB3)) (fun k hk => hk.elim)).setCell _ _ (Or.inr (Nat.le_refl _))
  have hwo2 : w.heap.size ∉ O2 := fun ho => by rcases unhide HO2 _ ho with q | q; exact hwo q; omega
  have hv4 : Vol (w3.setCell ⟨w.heap.size, 0, none⟩ (.int .i64 n)) vb { A with reqs := r } O2 := ((unhide HV2).new (unhide HB3)).chg (X := fun b => b = w.heap.size) ((Chg.refl _ _).setCell _ _ (Or.inl rfl)) (fun b hb e => hwo2 (e ▸ hb))
  have HC4 := hide hch4
  have HV4 := hide hv4
  clear hch4 hv4 e0 b0 bf HK3 HB4
  generalize w3.setCell ⟨w.heap.size, 0, none⟩ (.int .i64 n) = w4 at *
  refine region_tail 4 (by kernel_rfl) (by kernel_rfl) ?_
  rintro w5 hw5
  have HK5 : Hid (Blk w5 w.heap.size (Array.setIfInBounds #[.int .i64 rid, .int .i64 e, .slice da dn dc, .int .i64 v, .int .i64 c] 0 (.int .i64 n)) 39) := by rw [hw5]; exact unhide HK4
  have HC5 : Hid (Chg (fun b => b ∈ O) w w5) := by rw [hw5]; exact (unhide HC4).drew
  have HV5 : Hid (Vol w5 vb { A with reqs := r } O2) := by rw [hw5]; exact (unhide HV4).chg (X := fun _ => False) (Chg.refl _ _).drew (fun _ _ => id)
  have d0 : w5.cell? ⟨w.heap.size, 0, none⟩ = some (.int .i64 n) := (unhide HK5).cell 0
  have d1 : w5.cell? ⟨w.heap.size, 1, none⟩ = some (.int .i64 e) := (unhide HK5).cell 1
  have d2 : w5.cell? ⟨w.heap.size, 2, none⟩ = some (.slice da dn dc) := (unhide HK5).cell 2
  have d3 : w5.cell? ⟨w.heap.size, 3, none⟩ = some (.int .i64 v) := (unhide HK5).cell 3
  have d4 : w5.cell? ⟨w.heap.size, 4, none⟩ = some (.int .i64 c) := (unhide HK5).cell 4
  have HP := hide (res_put vb { A with reqs := r } O2 [.int .i64 n, .int .i64 e, .slice da dn dc, .int .i64 v, .int .i64 c] w5 (unhide HV5) (by show A.ress.length ≤ 100000; omega) ⟨rfl, by intro u hu; simp only [List.mem_cons, List.not_mem_nil, or_false] at hu; rcases hu with rfl | rfl | rfl | rfl | rfl <;> rfl⟩)
  clear hw5 HK4 HC4 HV4
  simp only [List.take_succ_cons, List.take_zero, List.drop_succ_cons, List.drop_zero]
  repeat (refine wpStill_step (fun K hK => ?_); go_simp; (try go_ints); refine hK _ ?_; clear hK K)
  refine wpStill_nil ?_
  go_wp2_with fail
  refine (unhide HP).mono ?_
  rintro e' w6 ⟨rfl, hst⟩
  have HST : Hid (Step w O w6 vb { A with reqs := r, ress := A.ress ++ [[.int .i64 n, .int .i64 e, .slice da dn dc, .int .i64 v, .int .i64 c]] }) := Step.trans (unhide HC5) (fun b hb => by rcases unhide HO2 b hb with q | q; exact Or.inl q; exact Or.inr (by omega)) hst
  clear hst d0 d1 d2 d3 d4 HP
  go_wp2
  refine bodyPost_end (results_none rfl _ _ _) rfl ⟨rfl, unhide HST⟩

end Go.Proofs.YtdcinlkkjbclmabGreat
