/- What comes next of what waits: a Flush, a Scrub. -/
import Derived.Test.YtdcinlkkjbclmaaGreatMVResultsAMay
namespace Go.Proofs.YtdcinlkkjbclmaaGreat
open Go.RowKit

def flsV (tb : Nat) : Value := .iface 210 (.pointer (some ⟨tb, 0, none⟩))
def scrV (tb : Nat) : Value := .iface 207 (.pointer (some ⟨tb, 0, none⟩))
def rdgV (tb : Nat) : Value := .iface 198 (.pointer (some ⟨tb, 0, none⟩))
def FlushT (w : World) (tb vb : Nat) : Prop := ∃ cs, Blk w tb cs 212 ∧ cs[0]? = some (.pointer (some ⟨vb, 0, none⟩)) ∧ cs[2]? = some .nilFunc
def ScrubT (w : World) (tb vb : Nat) (b : Int) : Prop := ∃ cs, Blk w tb cs 209 ∧ cs[0]? = some (.pointer (some ⟨vb, 0, none⟩)) ∧ cs[2]? = some .nilFunc ∧ cs[3]? = some (.int .i64 b)
set_option maxRecDepth 100000 in
set_option maxHeartbeats 4000000 in
theorem firstFlush_any (vb : Nat) (A : VA) (O : List Nat) (n b : Int) (bs : List Value) (r : List (List Value)) (w : World) (h : Vol w vb A O) (hw : A.reqs = (.int .i64 n :: .int .i64 3 :: .int .i64 b :: bs) :: r) :
    Calls Tryz.prog 120 #[.pointer (some ⟨vb, 0, none⟩)] w fun e w' => ∃ tb, e = .returned (flsV tb) ∧ w.heap.size ≤ tb ∧ FlushT w' tb vb ∧ Below w.heap.size w w' := by
  obtain ⟨G, hG, _⟩ := id h
  have hea := hG.rq.each (.int .i64 n :: .int .i64 3 :: .int .i64 b :: bs) (by rw [hw]; simp)
  have hq := hG.rq
  have hn : G.nr ≠ 0 := by have := hq.len; rw [hw] at this; simp at this; omega
  rw [hw] at hq
  have HF := hide (firstR_some vb 9 (volC A G) _ G.gr G.nr G.fr _ r w hG.blk rfl rfl (by show some (Value.int .i64 (A.reqs.length : Int)) = _; rw [hw]; rfl) hq (by have := hG.few.2.1; omega))
  have HEA := hide hea
  clear h hG hea hq hw
  go_enter Tryz.func120, Tryz.ntmps120
  go_wp2_with fail
  refine (unhide HF).mono ?_
  rintro e w2 ⟨rfl, hb2⟩
  have HB2 := hide hb2
  have hs2 := hb2.size
  clear hb2 HF
  have hx19 := (unhide HEA).1
  have hxo := all_oneCell_toArray (unhide HEA).2
  have HX1 : Hid ((.int .i64 n :: .int .i64 3 :: .int .i64 b :: bs : List Value)[1]? = some (.int .i64 3)) := rfl
  have HX2 : Hid ((.int .i64 n :: .int .i64 3 :: .int .i64 b :: bs : List Value)[2]? = some (.int .i64 b)) := rfl
  have HX3 : Hid (∀ j v, bs[j]? = some v → (.int .i64 n :: .int .i64 3 :: .int .i64 b :: bs : List Value)[3 + j]? = some v) := fun j v hj => by
    rw [show 3 + j = j + 1 + 1 + 1 by omega, List.getElem?_cons_succ, List.getElem?_cons_succ, List.getElem?_cons_succ]
    exact hj
  clear HEA
  generalize (.int .i64 n :: .int .i64 3 :: .int .i64 b :: bs : List Value) = x at *
  have hszx : (Tryz.prog.info? 142).map (·.size) = some x.toArray.size := by rw [List.size_toArray, hx19]; exact elInfoR
  have HSX := hide hszx
  have HOX := hide hxo
  have HN2 := hide (Blk.new w2 #[Value.int .i64 0, Value.int .i64 0, Value.int .i64 0, Value.int .u8 0, Value.int .u8 0, Value.int .u8 0, Value.int .u8 0, Value.int .u8 0, Value.int .u8 0, Value.int .u8 0, Value.int .u8 0, Value.int .u8 0, Value.int .u8 0, Value.int .u8 0, Value.int .u8 0, Value.int .u8 0, Value.int .u8 0, Value.int .u8 0, Value.int .u8 0] 142)
  have HT2 : Hid ((w2.alloc (.cells #[Value.int .i64 0, Value.int .i64 0, Value.int .i64 0, Value.int .u8 0, Value.int .u8 0, Value.int .u8 0, Value.int .u8 0, Value.int .u8 0, Value.int .u8 0, Value.int .u8 0, Value.int .u8 0, Value.int .u8 0, Value.int .u8 0, Value.int .u8 0, Value.int .u8 0, Value.int .u8 0, Value.int .u8 0, Value.int .u8 0, Value.int .u8 0] 142)).there w2.heap.size 0 x.toArray.size) := by rw [show x.toArray.size = 19 from hx19]; exact (unhide HN2).there 0 19 (by simp)
  have HL3 : Hid (Blk ((w2.alloc (.cells #[Value.int .i64 0, Value.int .i64 0, Value.int .i64 0, Value.int .u8 0, Value.int .u8 0, Value.int .u8 0, Value.int .u8 0, Value.int .u8 0, Value.int .u8 0, Value.int .u8 0, Value.int .u8 0, Value.int .u8 0, Value.int .u8 0, Value.int .u8 0, Value.int .u8 0, Value.int .u8 0, Value.int .u8 0, Value.int .u8 0, Value.int .u8 0] 142)).setCells w2.heap.size 0 x) w2.heap.size x.toArray 142) := (unhide HN2).whole x (by rw [hx19]; rfl)
  have HB3 : Hid (Below w2.heap.size w2 ((w2.alloc (.cells #[Value.int .i64 0, Value.int .i64 0, Value.int .i64 0, Value.int .u8 0, Value.int .u8 0, Value.int .u8 0, Value.int .u8 0, Value.int .u8 0, Value.int .u8 0, Value.int .u8 0, Value.int .u8 0, Value.int .u8 0, Value.int .u8 0, Value.int .u8 0, Value.int .u8 0, Value.int .u8 0, Value.int .u8 0, Value.int .u8 0, Value.int .u8 0] 142)).setCells w2.heap.size 0 x)) := below_setCells ((Below.refl _ _).alloc (Nat.le_refl _) _) _ _ _ (Nat.le_refl _)
  clear hszx hxo HN2
  go_wp2_with (show wpList _ _ _ (Oper.mk none (Op.store 142 (Operand.tmp 3) _) _ _ _ _ :: _) _ _; refine wpList_store_mid rfl 142 _ _ rfl w2.heap.size 0 x.toArray rfl rfl (unhide HT2) (unhide HSX) (unhide HOX) ?_; generalize (w2.alloc (.cells #[Value.int .i64 0, Value.int .i64 0, Value.int .i64 0, Value.int .u8 0, Value.int .u8 0, Value.int .u8 0, Value.int .u8 0, Value.int .u8 0, Value.int .u8 0, Value.int .u8 0, Value.int .u8 0, Value.int .u8 0, Value.int .u8 0, Value.int .u8 0, Value.int .u8 0, Value.int .u8 0, Value.int .u8 0, Value.int .u8 0, Value.int .u8 0] 142)).setCells w2.heap.size 0 x = w3 at *; have e1 : w3.cell? ⟨w2.heap.size, 1, none⟩ = some (.int .i64 3) := (unhide HL3).cell 1 |>.trans (by simpa using unhide HX1))
  go_wp2_with (go_at_call 72; refine (work_any vb _).mono ?_; rintro e w4 ⟨hb, rfl, hhb, hhe, hb4⟩; have HB5 : Hid (Below w.heap.size w w4) := ((unhide HB2).trans ((unhide HB3).mono hs2)).trans (hb4.mono (Nat.le_trans hs2 (unhide HB3).size)); clear hhb hhe hb4)
  go_ret
  exact ⟨w4.heap.size, rfl, (unhide HB5).size, ⟨_, Blk.new w4 _ _, rfl, rfl⟩, (unhide HB5).alloc (unhide HB5).size _⟩
set_option maxRecDepth 100000 in
set_option maxHeartbeats 4000000 in
theorem firstScrub_any (vb : Nat) (A : VA) (O : List Nat) (n b : Int) (bs : List Value) (r : List (List Value)) (w : World) (h : Vol w vb A O) (hw : A.reqs = (.int .i64 n :: .int .i64 4 :: .int .i64 b :: bs) :: r) :
    Calls Tryz.prog 120 #[.pointer (some ⟨vb, 0, none⟩)] w fun e w' => ∃ tb, e = .returned (scrV tb) ∧ w.heap.size ≤ tb ∧ ScrubT w' tb vb b ∧ Below w.heap.size w w' := by
  obtain ⟨G, hG, _⟩ := id h
  have hea := hG.rq.each (.int .i64 n :: .int .i64 4 :: .int .i64 b :: bs) (by rw [hw]; simp)
  have hq := hG.rq
  have hn : G.nr ≠ 0 := by have := hq.len; rw [hw] at this; simp at this; omega
  rw [hw] at hq
  have HF := hide (firstR_some vb 9 (volC A G) _ G.gr G.nr G.fr _ r w hG.blk rfl rfl (by show some (Value.int .i64 (A.reqs.length : Int)) = _; rw [hw]; rfl) hq (by have := hG.few.2.1; omega))
  have HEA := hide hea
  clear h hG hea hq hw
  go_enter Tryz.func120, Tryz.ntmps120
  go_wp2_with fail
  refine (unhide HF).mono ?_
  rintro e w2 ⟨rfl, hb2⟩
  have HB2 := hide hb2
  have hs2 := hb2.size
  clear hb2 HF
  have hx19 := (unhide HEA).1
  have hxo := all_oneCell_toArray (unhide HEA).2
  have HX1 : Hid ((.int .i64 n :: .int .i64 4 :: .int .i64 b :: bs : List Value)[1]? = some (.int .i64 4)) := rfl
  have HX2 : Hid ((.int .i64 n :: .int .i64 4 :: .int .i64 b :: bs : List Value)[2]? = some (.int .i64 b)) := rfl
  have HX3 : Hid (∀ j v, bs[j]? = some v → (.int .i64 n :: .int .i64 4 :: .int .i64 b :: bs : List Value)[3 + j]? = some v) := fun j v hj => by
    rw [show 3 + j = j + 1 + 1 + 1 by omega, List.getElem?_cons_succ, List.getElem?_cons_succ, List.getElem?_cons_succ]
    exact hj
  clear HEA
  generalize (.int .i64 n :: .int .i64 4 :: .int .i64 b :: bs : List Value) = x at *
  have hszx : (Tryz.prog.info? 142).map (·.size) = some x.toArray.size := by rw [List.size_toArray, hx19]; exact elInfoR
  have HSX := hide hszx
  have HOX := hide hxo
  have HN2 := hide (Blk.new w2 #[Value.int .i64 0, Value.int .i64 0, Value.int .i64 0, Value.int .u8 0, Value.int .u8 0, Value.int .u8 0, Value.int .u8 0, Value.int .u8 0, Value.int .u8 0, Value.int .u8 0, Value.int .u8 0, Value.int .u8 0, Value.int .u8 0, Value.int .u8 0, Value.int .u8 0, Value.int .u8 0, Value.int .u8 0, Value.int .u8 0, Value.int .u8 0] 142)
  have HT2 : Hid ((w2.alloc (.cells #[Value.int .i64 0, Value.int .i64 0, Value.int .i64 0, Value.int .u8 0, Value.int .u8 0, Value.int .u8 0, Value.int .u8 0, Value.int .u8 0, Value.int .u8 0, Value.int .u8 0, Value.int .u8 0, Value.int .u8 0, Value.int .u8 0, Value.int .u8 0, Value.int .u8 0, Value.int .u8 0, Value.int .u8 0, Value.int .u8 0, Value.int .u8 0] 142)).there w2.heap.size 0 x.toArray.size) := by rw [show x.toArray.size = 19 from hx19]; exact (unhide HN2).there 0 19 (by simp)
  have HL3 : Hid (Blk ((w2.alloc (.cells #[Value.int .i64 0, Value.int .i64 0, Value.int .i64 0, Value.int .u8 0, Value.int .u8 0, Value.int .u8 0, Value.int .u8 0, Value.int .u8 0, Value.int .u8 0, Value.int .u8 0, Value.int .u8 0, Value.int .u8 0, Value.int .u8 0, Value.int .u8 0, Value.int .u8 0, Value.int .u8 0, Value.int .u8 0, Value.int .u8 0, Value.int .u8 0] 142)).setCells w2.heap.size 0 x) w2.heap.size x.toArray 142) := (unhide HN2).whole x (by rw [hx19]; rfl)
  have HB3 : Hid (Below w2.heap.size w2 ((w2.alloc (.cells #[Value.int .i64 0, Value.int .i64 0, Value.int .i64 0, Value.int .u8 0, Value.int .u8 0, Value.int .u8 0, Value.int .u8 0, Value.int .u8 0, Value.int .u8 0, Value.int .u8 0, Value.int .u8 0, Value.int .u8 0, Value.int .u8 0, Value.int .u8 0, Value.int .u8 0, Value.int .u8 0, Value.int .u8 0, Value.int .u8 0, Value.int .u8 0] 142)).setCells w2.heap.size 0 x)) := below_setCells ((Below.refl _ _).alloc (Nat.le_refl _) _) _ _ _ (Nat.le_refl _)
  clear hszx hxo HN2
  go_wp2_with (show wpList _ _ _ (Oper.mk none (Op.store 142 (Operand.tmp 3) _) _ _ _ _ :: _) _ _; refine wpList_store_mid rfl 142 _ _ rfl w2.heap.size 0 x.toArray rfl rfl (unhide HT2) (unhide HSX) (unhide HOX) ?_; generalize (w2.alloc (.cells #[Value.int .i64 0, Value.int .i64 0, Value.int .i64 0, Value.int .u8 0, Value.int .u8 0, Value.int .u8 0, Value.int .u8 0, Value.int .u8 0, Value.int .u8 0, Value.int .u8 0, Value.int .u8 0, Value.int .u8 0, Value.int .u8 0, Value.int .u8 0, Value.int .u8 0, Value.int .u8 0, Value.int .u8 0, Value.int .u8 0, Value.int .u8 0] 142)).setCells w2.heap.size 0 x = w3 at *; have e1 : w3.cell? ⟨w2.heap.size, 1, none⟩ = some (.int .i64 4) := (unhide HL3).cell 1 |>.trans (by simpa using unhide HX1))
  have HLD : Hid (∀ w', Blk w' w2.heap.size x.toArray 142 → w'.cell? ⟨w2.heap.size, 2, none⟩ = some (.int .i64 b)) := fun w' hw => (hw.cell 2).trans (by simpa using unhide HX2)
  refine wp_region_noPanic ?_
  refine orders_begin 7 (fun w' => Blk w' w2.heap.size x.toArray 142) (by kernel_rfl) ?_
  refine orders_take 0 (some 39) (v := .pointer (some ⟨vb, 0, none⟩)) rfl (by kernel_rfl) (by kernel_rfl) (by kernel_rfl) (by kernel_rfl) (fun _ _ _ h => h) (Or.inl ⟨by rfl, fun _ _ => rfl⟩) (unhide HL3).drew rfl ?_
  simp only [Act.put, List.setIfInBounds_toArray, List.set_cons_zero, List.set_cons_succ]
  refine orders_take 2 (some 41) (v := .pointer (some ⟨w2.heap.size, 2, none⟩)) rfl (by kernel_rfl) (by kernel_rfl) (by kernel_rfl) (by kernel_rfl) (fun _ _ _ h => h) (Or.inl ⟨by rfl, fun _ _ => by go_simp⟩) (unhide HL3).drew rfl ?_
  simp only [Act.put, List.setIfInBounds_toArray, List.set_cons_zero, List.set_cons_succ]
  refine orders_take 3 (some 42) (v := .int .i64 b) rfl (by kernel_rfl) (by kernel_rfl) (by kernel_rfl) (by kernel_rfl) (fun _ _ _ h => h) (Or.inl ⟨by rfl, fun w' hw => by have hcc := unhide HLD w' hw; go_simp⟩) (unhide HL3).drew rfl ?_
  simp only [Act.put, List.setIfInBounds_toArray, List.set_cons_zero, List.set_cons_succ]
  refine orders_one 1 (by kernel_rfl) rfl (by rfl) (fun K hK => ?_)
  go_simp
  refine (work_any vb _).mono ?_
  rintro e w4 ⟨hb, rfl, hhb, hhe, hb4⟩
  have hk4 : Blk w4 w2.heap.size x.toArray 142 := (unhide HL3).below (w' := w4) (n := w3.heap.size) ((Below.refl _ _).drew.trans hb4) (unhide HL3).lt
  have hb5 : Below w.heap.size w w4 := ((unhide HB2).trans ((unhide HB3).mono hs2)).trans (((Below.refl _ _).drew.trans hb4).mono (Nat.le_trans hs2 (unhide HB3).size))
  refine hK.out _ _ (fun _ => hk4) ?_
  clear hK K hhe hhb hb4
  have HK4 := hide hk4
  have HB5 := hide hb5
  clear hk4 hb5 HLD HX1 HX2 HX3 HL3 HB3 HB2
  refine orders_one 4 (by kernel_rfl) rfl (by rfl) (fun K hK => ?_)
  go_simp
  refine hK.out _ _ (fun _ => unhide HK4) ?_
  clear hK K
  refine orders_one 5 (by kernel_rfl) rfl (by rfl) (fun K hK => ?_)
  go_simp
  refine hK.out _ _ (fun _ => (unhide HK4).alloc _) ?_
  clear hK K
  refine orders_one 6 (by kernel_rfl) rfl (by rfl) (fun K hK => ?_)
  go_simp
  refine hK.out _ _ (fun _ => (unhide HK4).alloc _) ?_
  clear hK K
  refine orders_one 7 (by kernel_rfl) rfl (by rfl) (fun K hK => ?_)
  go_simp
  refine hK.out _ _ (fun h => absurd rfl h) ?_
  clear hK K
  refine orders_end (by kernel_rfl) ?_
  refine NoPanic.normal ?_
  go_wp2
  go_ret
  exact ⟨w4.heap.size, rfl, (unhide HB5).size, ⟨_, Blk.new w4 _ _, rfl, rfl, rfl⟩, (unhide HB5).alloc (unhide HB5).size _⟩
def ReadT (w : World) (tb vb : Nat) (D b : Int) : Prop := ∃ cs, Blk w tb cs 203 ∧ cs[0]? = some (.pointer (some ⟨vb, 0, none⟩)) ∧ cs[2]? = some .nilFunc ∧ cs[3]? = some (.int .i64 (b / (D - 2))) ∧ cs[5]? = some (.int .i64 (dskAt D (b / (D - 2)) (b % (D - 2))))
set_option maxRecDepth 100000 in
set_option maxHeartbeats 4000000 in
theorem firstRead_any (vb : Nat) (A : VA) (O : List Nat) (n b : Int) (bs : List Value) (r : List (List Value)) (w : World) (h : Vol w vb A O) (hw : A.reqs = (.int .i64 n :: .int .i64 1 :: .int .i64 b :: bs) :: r) (h1 : 4 ≤ A.stand.length) (h2 : A.stand.length ≤ 8) (h3 : 0 ≤ b) (h4 : b ≤ 6 * ((A.stand.length : Int) - 2) - 1) :
    Calls Tryz.prog 120 #[.pointer (some ⟨vb, 0, none⟩)] w fun e w' => ∃ tb, e = .returned (rdgV tb) ∧ w.heap.size ≤ tb ∧ ReadT w' tb vb (A.stand.length : Int) b ∧ Below w.heap.size w w' := by
  have HV := hide h
  obtain ⟨G, hG, _⟩ := id h
  have hea := hG.rq.each (.int .i64 n :: .int .i64 1 :: .int .i64 b :: bs) (by rw [hw]; simp)
  have hq := hG.rq
  have hn : G.nr ≠ 0 := by have := hq.len; rw [hw] at this; simp at this; omega
  rw [hw] at hq
  have HF := hide (firstR_some vb 9 (volC A G) _ G.gr G.nr G.fr _ r w hG.blk rfl rfl (by show some (Value.int .i64 (A.reqs.length : Int)) = _; rw [hw]; rfl) hq (by have := hG.few.2.1; omega))
  have HEA := hide hea
  clear h hG hea hq hw
  go_enter Tryz.func120, Tryz.ntmps120
  go_wp2_with fail
  refine (unhide HF).mono ?_
  rintro e w2 ⟨rfl, hb2⟩
  have HB2 := hide hb2
  have hs2 := hb2.size
  clear hb2 HF
  have hx19 := (unhide HEA).1
  have hxo := all_oneCell_toArray (unhide HEA).2
  have HX1 : Hid ((.int .i64 n :: .int .i64 1 :: .int .i64 b :: bs : List Value)[1]? = some (.int .i64 1)) := rfl
  have HX2 : Hid ((.int .i64 n :: .int .i64 1 :: .int .i64 b :: bs : List Value)[2]? = some (.int .i64 b)) := rfl
  have HX3 : Hid (∀ j v, bs[j]? = some v → (.int .i64 n :: .int .i64 1 :: .int .i64 b :: bs : List Value)[3 + j]? = some v) := fun j v hj => by
    rw [show 3 + j = j + 1 + 1 + 1 by omega, List.getElem?_cons_succ, List.getElem?_cons_succ, List.getElem?_cons_succ]
    exact hj
  clear HEA
  generalize (.int .i64 n :: .int .i64 1 :: .int .i64 b :: bs : List Value) = x at *
  have hszx : (Tryz.prog.info? 142).map (·.size) = some x.toArray.size := by rw [List.size_toArray, hx19]; exact elInfoR
  have HSX := hide hszx
  have HOX := hide hxo
  have HN2 := hide (Blk.new w2 #[Value.int .i64 0, Value.int .i64 0, Value.int .i64 0, Value.int .u8 0, Value.int .u8 0, Value.int .u8 0, Value.int .u8 0, Value.int .u8 0, Value.int .u8 0, Value.int .u8 0, Value.int .u8 0, Value.int .u8 0, Value.int .u8 0, Value.int .u8 0, Value.int .u8 0, Value.int .u8 0, Value.int .u8 0, Value.int .u8 0, Value.int .u8 0] 142)
  have HT2 : Hid ((w2.alloc (.cells #[Value.int .i64 0, Value.int .i64 0, Value.int .i64 0, Value.int .u8 0, Value.int .u8 0, Value.int .u8 0, Value.int .u8 0, Value.int .u8 0, Value.int .u8 0, Value.int .u8 0, Value.int .u8 0, Value.int .u8 0, Value.int .u8 0, Value.int .u8 0, Value.int .u8 0, Value.int .u8 0, Value.int .u8 0, Value.int .u8 0, Value.int .u8 0] 142)).there w2.heap.size 0 x.toArray.size) := by rw [show x.toArray.size = 19 from hx19]; exact (unhide HN2).there 0 19 (by simp)
  have HL3 : Hid (Blk ((w2.alloc (.cells #[Value.int .i64 0, Value.int .i64 0, Value.int .i64 0, Value.int .u8 0, Value.int .u8 0, Value.int .u8 0, Value.int .u8 0, Value.int .u8 0, Value.int .u8 0, Value.int .u8 0, Value.int .u8 0, Value.int .u8 0, Value.int .u8 0, Value.int .u8 0, Value.int .u8 0, Value.int .u8 0, Value.int .u8 0, Value.int .u8 0, Value.int .u8 0] 142)).setCells w2.heap.size 0 x) w2.heap.size x.toArray 142) := (unhide HN2).whole x (by rw [hx19]; rfl)
  have HB3 : Hid (Below w2.heap.size w2 ((w2.alloc (.cells #[Value.int .i64 0, Value.int .i64 0, Value.int .i64 0, Value.int .u8 0, Value.int .u8 0, Value.int .u8 0, Value.int .u8 0, Value.int .u8 0, Value.int .u8 0, Value.int .u8 0, Value.int .u8 0, Value.int .u8 0, Value.int .u8 0, Value.int .u8 0, Value.int .u8 0, Value.int .u8 0, Value.int .u8 0, Value.int .u8 0, Value.int .u8 0] 142)).setCells w2.heap.size 0 x)) := below_setCells ((Below.refl _ _).alloc (Nat.le_refl _) _) _ _ _ (Nat.le_refl _)
  clear hszx hxo HN2
  go_wp2_with (show wpList _ _ _ (Oper.mk none (Op.store 142 (Operand.tmp 3) _) _ _ _ _ :: _) _ _; refine wpList_store_mid rfl 142 _ _ rfl w2.heap.size 0 x.toArray rfl rfl (unhide HT2) (unhide HSX) (unhide HOX) ?_; generalize (w2.alloc (.cells #[Value.int .i64 0, Value.int .i64 0, Value.int .i64 0, Value.int .u8 0, Value.int .u8 0, Value.int .u8 0, Value.int .u8 0, Value.int .u8 0, Value.int .u8 0, Value.int .u8 0, Value.int .u8 0, Value.int .u8 0, Value.int .u8 0, Value.int .u8 0, Value.int .u8 0, Value.int .u8 0, Value.int .u8 0, Value.int .u8 0, Value.int .u8 0] 142)).setCells w2.heap.size 0 x = w3 at *; have e1 : w3.cell? ⟨w2.heap.size, 1, none⟩ = some (.int .i64 1) := (unhide HL3).cell 1 |>.trans (by simpa using unhide HX1))
  have HLD : Hid (∀ w', Blk w' w2.heap.size x.toArray 142 → w'.cell? ⟨w2.heap.size, 2, none⟩ = some (.int .i64 b)) := fun w' hw => (hw.cell 2).trans (by simpa using unhide HX2)
  refine wp_region_noPanic ?_
  refine orders_begin 9 (fun w' => Blk w' w2.heap.size x.toArray 142) (by kernel_rfl) ?_
  refine orders_take 0 (some 16) (v := .pointer (some ⟨vb, 0, none⟩)) rfl (by kernel_rfl) (by kernel_rfl) (by kernel_rfl) (by kernel_rfl) (fun _ _ _ h => h) (Or.inl ⟨by rfl, fun _ _ => rfl⟩) (unhide HL3).drew rfl ?_
  simp only [Act.put, List.setIfInBounds_toArray, List.set_cons_zero, List.set_cons_succ]
  refine orders_take 2 (some 18) (v := .pointer (some ⟨vb, 0, none⟩)) rfl (by kernel_rfl) (by kernel_rfl) (by kernel_rfl) (by kernel_rfl) (fun _ _ _ h => h) (Or.inl ⟨by rfl, fun _ _ => rfl⟩) (unhide HL3).drew rfl ?_
  simp only [Act.put, List.setIfInBounds_toArray, List.set_cons_zero, List.set_cons_succ]
  refine orders_take 3 (some 19) (v := .pointer (some ⟨w2.heap.size, 2, none⟩)) rfl (by kernel_rfl) (by kernel_rfl) (by kernel_rfl) (by kernel_rfl) (fun _ _ _ h => h) (Or.inl ⟨by rfl, fun _ _ => by go_simp⟩) (unhide HL3).drew rfl ?_
  simp only [Act.put, List.setIfInBounds_toArray, List.set_cons_zero, List.set_cons_succ]
  refine orders_take 4 (some 20) (v := .int .i64 b) rfl (by kernel_rfl) (by kernel_rfl) (by kernel_rfl) (by kernel_rfl) (fun _ _ _ h => h) (Or.inl ⟨by rfl, fun w' hw => by have hcc := unhide HLD w' hw; go_simp⟩) (unhide HL3).drew rfl ?_
  simp only [Act.put, List.setIfInBounds_toArray, List.set_cons_zero, List.set_cons_succ]
  refine orders_one 1 (by kernel_rfl) rfl (by rfl) (fun K hK => ?_)
  go_simp
  refine (work_any vb _).mono ?_
  rintro e w4 ⟨hb, rfl, hhb, hhe, hb4⟩
  have hk4 : Blk w4 w2.heap.size x.toArray 142 := (unhide HL3).below (w' := w4) (n := w3.heap.size) ((Below.refl _ _).drew.trans hb4) (unhide HL3).lt
  have hb5 : Below w.heap.size w w4 := ((unhide HB2).trans ((unhide HB3).mono hs2)).trans (((Below.refl _ _).drew.trans hb4).mono (Nat.le_trans hs2 (unhide HB3).size))
  refine hK.out _ _ (fun _ => hk4) ?_
  clear hK K hhe hhb hb4
  have HK4 := hide hk4
  have HB5 := hide hb5
  have HPL := hide (place_any vb A O b w4 ((unhide HV).new hb5) h1 h2 h3 h4)
  clear hk4 hb5 HV HLD HX1 HX2 HX3 HL3 HB3 HB2
  refine orders_one 5 (by kernel_rfl) rfl (by rfl) (fun K hK => ?_)
  go_simp
  refine (unhide HPL).mono ?_
  rintro e w5 ⟨rfl, hb6⟩
  have hk5 := (unhide HK4).below hb6 (unhide HK4).lt
  have HB6 : Hid (Below w.heap.size w w5) := (unhide HB5).trans (hb6.mono (unhide HB5).size)
  refine hK.out _ _ (fun _ => hk5) ?_
  have HK5 := hide hk5
  clear hK K hb6 hk5 HK4 HB5 HPL
  unfold placeV
  refine orders_one 6 (by kernel_rfl) rfl (by rfl) (fun K hK => ?_)
  go_simp
  refine hK.out _ _ (fun _ => unhide HK5) ?_
  clear hK K
  refine orders_one 7 (by kernel_rfl) rfl (by rfl) (fun K hK => ?_)
  go_simp
  refine hK.out _ _ (fun _ => (unhide HK5).alloc _) ?_
  clear hK K
  refine orders_one 8 (by kernel_rfl) rfl (by rfl) (fun K hK => ?_)
  go_simp
  refine hK.out _ _ (fun _ => (unhide HK5).alloc _) ?_
  clear hK K
  refine orders_one 9 (by kernel_rfl) rfl (by rfl) (fun K hK => ?_)
  go_simp
  refine hK.out _ _ (fun h => absurd rfl h) ?_
  clear hK K
  refine orders_end (by kernel_rfl) ?_
  refine NoPanic.normal ?_
  go_wp2
  go_ret
  exact ⟨w5.heap.size, rfl, (unhide HB6).size, ⟨_, Blk.new w5 _ _, rfl, rfl, rfl, rfl⟩, (unhide HB6).alloc (unhide HB6).size _⟩

end Go.Proofs.YtdcinlkkjbclmaaGreat
