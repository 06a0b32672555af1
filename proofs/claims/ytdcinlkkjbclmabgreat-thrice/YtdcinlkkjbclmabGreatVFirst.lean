/- What comes next of what waits: a Write. -/
import Derived.Test.YtdcinlkkjbclmabGreatVAsk
namespace Go.Proofs.YtdcinlkkjbclmabGreat
open Go.RowKit

/-- a task that writes: its volume, its next step, its block -/
def WriteT (w : World) (tb vb : Nat) (b : Int) : Prop := ∃ cs, Blk w tb cs 149 ∧ cs[0]? = some (.pointer (some ⟨vb, 0, none⟩)) ∧ cs[2]? = some .nilFunc ∧ cs[3]? = some (.int .i64 b)
theorem col_size : (Tryz.prog.info? 84).map (·.size) = some 16 := by kernel_rfl
theorem list16 {x : List Value} (h : x.length = 16) : ∃ v0 v1 v2 v3 v4 v5 v6 v7 v8 v9 v10 v11 v12 v13 v14 v15, x = [v0, v1, v2, v3, v4, v5, v6, v7, v8, v9, v10, v11, v12, v13, v14, v15] := by
  rcases x with _ | ⟨v0, _ | ⟨v1, _ | ⟨v2, _ | ⟨v3, _ | ⟨v4, _ | ⟨v5, _ | ⟨v6, _ | ⟨v7, _ | ⟨v8, _ | ⟨v9, _ | ⟨v10, _ | ⟨v11, _ | ⟨v12, _ | ⟨v13, _ | ⟨v14, _ | ⟨v15, _ | ⟨z, rr⟩⟩⟩⟩⟩⟩⟩⟩⟩⟩⟩⟩⟩⟩⟩⟩⟩
  all_goals first | (simp at h; done) | exact ⟨_, _, _, _, _, _, _, _, _, _, _, _, _, _, _, _, rfl⟩
set_option maxRecDepth 100000 in
set_option maxHeartbeats 4000000 in
theorem firstWrite_any (vb : Nat) (A : VA) (O : List Nat) (n b : Int) (bs : List Value) (r : List (List Value)) (w : World) (h : Vol w vb A O) (hw : A.reqs = (.int .i64 n :: .int .i64 2 :: .int .i64 b :: bs) :: r) (hbs : bs.length = 16) :
    Calls Tryz.prog 66 #[.pointer (some ⟨vb, 0, none⟩)] w fun e w' => ∃ tb, e = .returned (wrtV tb) ∧ w.heap.size ≤ tb ∧ WriteT w' tb vb b ∧ Below w.heap.size w w' := by
  obtain ⟨G, hG, _⟩ := id h
  have hea := hG.rq.each (.int .i64 n :: .int .i64 2 :: .int .i64 b :: bs) (by rw [hw]; simp)
  have hq := hG.rq
  have hn : G.nr ≠ 0 := by have := hq.len; rw [hw] at this; simp at this; omega
  rw [hw] at hq
  have HF := hide (firstR_some vb 9 (volC A G) _ G.gr G.nr G.fr _ r w hG.blk rfl rfl (by show some (Value.int .i64 (A.reqs.length : Int)) = _; rw [hw]; rfl) hq (by have := hG.few.2.1; omega))
  have HEA := hide hea
  clear h hG hea hq hw
  go_enter Tryz.func66, Tryz.ntmps66
  go_wp2_with fail
  refine (unhide HF).mono ?_
  rintro e w2 ⟨rfl, hb2⟩
  have HB2 := hide hb2
  have hs2 := hb2.size
  clear hb2 HF
  have hx19 := (unhide HEA).1
  have hxo := all_oneCell_toArray (unhide HEA).2
  have HX1 : Hid ((.int .i64 n :: .int .i64 2 :: .int .i64 b :: bs : List Value)[1]? = some (.int .i64 2)) := rfl
  have HX2 : Hid ((.int .i64 n :: .int .i64 2 :: .int .i64 b :: bs : List Value)[2]? = some (.int .i64 b)) := rfl
  have HX3 : Hid (∀ j v, bs[j]? = some v → (.int .i64 n :: .int .i64 2 :: .int .i64 b :: bs : List Value)[3 + j]? = some v) := fun j v hj => by
    rw [show 3 + j = j + 1 + 1 + 1 by omega, List.getElem?_cons_succ, List.getElem?_cons_succ, List.getElem?_cons_succ]
    exact hj
  clear HEA
  generalize (.int .i64 n :: .int .i64 2 :: .int .i64 b :: bs : List Value) = x at *
  have hszx : (Tryz.prog.info? 86).map (·.size) = some x.toArray.size := by rw [List.size_toArray, hx19]; exact elInfoR
  have HSX := hide hszx
  have HOX := hide hxo
  have HN2 := hide (Blk.new w2 #[Value.int .i64 0, Value.int .i64 0, Value.int .i64 0, Value.int .u8 0, Value.int .u8 0, Value.int .u8 0, Value.int .u8 0, Value.int .u8 0, Value.int .u8 0, Value.int .u8 0, Value.int .u8 0, Value.int .u8 0, Value.int .u8 0, Value.int .u8 0, Value.int .u8 0, Value.int .u8 0, Value.int .u8 0, Value.int .u8 0, Value.int .u8 0] 86)
  have HT2 : Hid ((w2.alloc (.cells #[Value.int .i64 0, Value.int .i64 0, Value.int .i64 0, Value.int .u8 0, Value.int .u8 0, Value.int .u8 0, Value.int .u8 0, Value.int .u8 0, Value.int .u8 0, Value.int .u8 0, Value.int .u8 0, Value.int .u8 0, Value.int .u8 0, Value.int .u8 0, Value.int .u8 0, Value.int .u8 0, Value.int .u8 0, Value.int .u8 0, Value.int .u8 0] 86)).there w2.heap.size 0 x.toArray.size) := by rw [show x.toArray.size = 19 from hx19]; exact (unhide HN2).there 0 19 (by simp)
  have HL3 : Hid (Blk ((w2.alloc (.cells #[Value.int .i64 0, Value.int .i64 0, Value.int .i64 0, Value.int .u8 0, Value.int .u8 0, Value.int .u8 0, Value.int .u8 0, Value.int .u8 0, Value.int .u8 0, Value.int .u8 0, Value.int .u8 0, Value.int .u8 0, Value.int .u8 0, Value.int .u8 0, Value.int .u8 0, Value.int .u8 0, Value.int .u8 0, Value.int .u8 0, Value.int .u8 0] 86)).setCells w2.heap.size 0 x) w2.heap.size x.toArray 86) := (unhide HN2).whole x (by rw [hx19]; rfl)
  have HB3 : Hid (Below w2.heap.size w2 ((w2.alloc (.cells #[Value.int .i64 0, Value.int .i64 0, Value.int .i64 0, Value.int .u8 0, Value.int .u8 0, Value.int .u8 0, Value.int .u8 0, Value.int .u8 0, Value.int .u8 0, Value.int .u8 0, Value.int .u8 0, Value.int .u8 0, Value.int .u8 0, Value.int .u8 0, Value.int .u8 0, Value.int .u8 0, Value.int .u8 0, Value.int .u8 0, Value.int .u8 0] 86)).setCells w2.heap.size 0 x)) := below_setCells ((Below.refl _ _).alloc (Nat.le_refl _) _) _ _ _ (Nat.le_refl _)
  clear hszx hxo HN2
  go_wp2_with (show wpList _ _ _ (Oper.mk none (Op.store 86 (Operand.tmp 3) _) _ _ _ _ :: _) _ _; refine wpList_store_mid rfl 86 _ _ rfl w2.heap.size 0 x.toArray rfl rfl (unhide HT2) (unhide HSX) (unhide HOX) ?_; generalize (w2.alloc (.cells #[Value.int .i64 0, Value.int .i64 0, Value.int .i64 0, Value.int .u8 0, Value.int .u8 0, Value.int .u8 0, Value.int .u8 0, Value.int .u8 0, Value.int .u8 0, Value.int .u8 0, Value.int .u8 0, Value.int .u8 0, Value.int .u8 0, Value.int .u8 0, Value.int .u8 0, Value.int .u8 0, Value.int .u8 0, Value.int .u8 0, Value.int .u8 0] 86)).setCells w2.heap.size 0 x = w3 at *; have e1 : w3.cell? ⟨w2.heap.size, 1, none⟩ = some (.int .i64 2) := (unhide HL3).cell 1 |>.trans (by simpa using unhide HX1))
  obtain ⟨v0, v1, v2, v3, v4, v5, v6, v7, v8, v9, v10, v11, v12, v13, v14, v15, rfl⟩ := list16 hbs
  have HLD : Hid (∀ w', Blk w' w2.heap.size x.toArray 86 → w'.cell? ⟨w2.heap.size, 2, none⟩ = some (.int .i64 b) ∧ w'.rangeAt w2.heap.size 3 [v0, v1, v2, v3, v4, v5, v6, v7, v8, v9, v10, v11, v12, v13, v14, v15]) := fun w' hw => ⟨(hw.cell 2).trans (by simpa using unhide HX2), hw.range 3 _ (fun j v hj => by simpa using unhide HX3 j v hj)⟩
  refine wp_region_noPanic ?_
  refine orders_begin 10 (fun w' => Blk w' w2.heap.size x.toArray 86) (by kernel_rfl) ?_
  refine orders_take 0 (some 27) (v := .pointer (some ⟨vb, 0, none⟩)) rfl (by kernel_rfl) (by kernel_rfl) (by kernel_rfl) (by kernel_rfl) (fun _ _ _ h => h) (Or.inl ⟨by rfl, fun _ _ => rfl⟩) (unhide HL3).drew rfl ?_
  simp only [Act.put, List.setIfInBounds_toArray, List.set_cons_zero, List.set_cons_succ]
  refine orders_take 2 (some 29) (v := .pointer (some ⟨w2.heap.size, 2, none⟩)) rfl (by kernel_rfl) (by kernel_rfl) (by kernel_rfl) (by kernel_rfl) (fun _ _ _ h => h) (Or.inl ⟨by rfl, fun _ _ => by go_simp⟩) (unhide HL3).drew rfl ?_
  simp only [Act.put, List.setIfInBounds_toArray, List.set_cons_zero, List.set_cons_succ]
  refine orders_take 3 (some 30) (v := .int .i64 b) rfl (by kernel_rfl) (by kernel_rfl) (by kernel_rfl) (by kernel_rfl) (fun _ _ _ h => h) (Or.inl ⟨by rfl, fun w' hw => by have hcc := (unhide HLD w' hw).1; go_simp⟩) (unhide HL3).drew rfl ?_
  simp only [Act.put, List.setIfInBounds_toArray, List.set_cons_zero, List.set_cons_succ]
  refine orders_take 5 (some 32) (v := .pointer (some ⟨w2.heap.size, 3, none⟩)) rfl (by kernel_rfl) (by kernel_rfl) (by kernel_rfl) (by kernel_rfl) (fun _ _ _ h => h) (Or.inl ⟨by rfl, fun _ _ => by go_simp⟩) (unhide HL3).drew rfl ?_
  simp only [Act.put, List.setIfInBounds_toArray, List.set_cons_zero, List.set_cons_succ]
  refine orders_take 6 (some 33) rfl (by kernel_rfl) (by kernel_rfl) (by kernel_rfl) (by kernel_rfl) (fun _ _ _ h => h) (yieldsIf_load_mid (by rfl) 84 _ rfl w2.heap.size 3 rfl [v0, v1, v2, v3, v4, v5, v6, v7, v8, v9, v10, v11, v12, v13, v14, v15] _ (fun w' hw => (unhide HLD w' hw).2) Tryz.underlying84 rfl col_size) (unhide HL3).drew rfl ?_
  simp only [Act.put, List.setIfInBounds_toArray, List.set_cons_zero, List.set_cons_succ]
  refine orders_one 1 (by kernel_rfl) rfl (by rfl) (fun K hK => ?_)
  go_simp
  refine (work_any vb _).mono ?_
  rintro e w4 ⟨hb, rfl, hhb, hhe, hb4⟩
  have hk4 : Blk w4 w2.heap.size x.toArray 86 := (unhide HL3).below (w' := w4) (n := w3.heap.size) ((Below.refl _ _).drew.trans hb4) (unhide HL3).lt
  have hb5 : Below w.heap.size w w4 := ((unhide HB2).trans ((unhide HB3).mono hs2)).trans (((Below.refl _ _).drew.trans hb4).mono (Nat.le_trans hs2 (unhide HB3).size))
  refine hK.out _ _ (fun _ => hk4) ?_
  clear hK K hhe hhb hb4
  have HK4 := hide hk4
  have HB5 := hide hb5
  clear hk4 hb5 HLD HX1 HX2 HX3 HL3 HB3 HB2
  refine orders_one 4 (by kernel_rfl) rfl (by rfl) (fun K hK => ?_)
  go_simp
  refine hK.out _ _ (fun _ => unhide HK4) ?_
  clear hK K
  refine orders_one 7 (by kernel_rfl) rfl (by rfl) (fun K hK => ?_)
  go_simp
  refine hK.out _ _ (fun _ => unhide HK4) ?_
  clear hK K
  simp only [Tryz.zeroCells149, List.setIfInBounds_toArray]
  refine orders_one 8 (by kernel_rfl) rfl (by rfl) (fun K hK => ?_)
  go_simp
  refine hK.out _ _ (fun _ => (unhide HK4).alloc _) ?_
  clear hK K
  refine orders_one 9 (by kernel_rfl) rfl (by rfl) (fun K hK => ?_)
  go_simp
  refine hK.out _ _ (fun _ => (unhide HK4).alloc _) ?_
  clear hK K
  refine orders_one 10 (by kernel_rfl) rfl (by rfl) (fun K hK => ?_)
  go_simp
  refine hK.out _ _ (fun h => absurd rfl h) ?_
  clear hK K
  refine orders_end (by kernel_rfl) ?_
  refine NoPanic.normal ?_
  go_wp2
  go_ret
  exact ⟨w4.heap.size, rfl, (unhide HB5).size, ⟨_, Blk.new w4 _ _, rfl, rfl, rfl⟩, (unhide HB5).alloc (unhide HB5).size _⟩

end Go.Proofs.YtdcinlkkjbclmabGreat
