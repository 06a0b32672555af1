/- The volume takes steps: start, run. -/
import Derived.Test.YtdcinlkkjbclmaaGreatMVOpenVMath
import Derived.Laws.CopyOwn
namespace Go.Proofs.YtdcinlkkjbclmaaGreat
open Go.RowKit

/-- a task as the volume keeps it -/
def opnV (tb : Nat) : Value := .iface 127 (.pointer (some ⟨tb, 0, none⟩))
def wrtV (tb : Nat) : Value := .iface 204 (.pointer (some ⟨tb, 0, none⟩))
theorem inv_begin_o (tb : Nat) (w : World) : (method 382 127 (.pointer (some ⟨tb, 0, none⟩)) "platter/volume.begin").run Tryz.prog w = .ok (157, .pointer (some ⟨tb, 0, none⟩)) w := by kernel_rfl
theorem inv_begin_w (tb : Nat) (w : World) : (method 382 204 (.pointer (some ⟨tb, 0, none⟩)) "platter/volume.begin").run Tryz.prog w = .ok (224, .pointer (some ⟨tb, 0, none⟩)) w := by kernel_rfl
theorem inv_goOn_o (tb : Nat) (w : World) : (method 382 127 (.pointer (some ⟨tb, 0, none⟩)) "platter/volume.goOn").run Tryz.prog w = .ok (158, .pointer (some ⟨tb, 0, none⟩)) w := by kernel_rfl
theorem inv_miss_o (tb : Nat) (w : World) : (method 382 127 (.pointer (some ⟨tb, 0, none⟩)) "platter/volume.miss").run Tryz.prog w = .ok (160, .pointer (some ⟨tb, 0, none⟩)) w := by kernel_rfl
theorem inv_miss_w (tb : Nat) (w : World) : (method 382 204 (.pointer (some ⟨tb, 0, none⟩)) "platter/volume.miss").run Tryz.prog w = .ok (160, .pointer (some ⟨tb, 0, none⟩)) w := by kernel_rfl
theorem inv_hear_o (tb : Nat) (w : World) : (method 382 127 (.pointer (some ⟨tb, 0, none⟩)) "platter/volume.hear").run Tryz.prog w = .ok (159, .pointer (some ⟨tb, 0, none⟩)) w := by kernel_rfl

set_option maxRecDepth 100000 in
set_option maxHeartbeats 1000000 in
theorem start_o (vb tb : Nat) (A : VA) (O : List Nat) (R : World → Prop) (w : World) (h : Vol w vb A O)
    (hb : Calls Tryz.prog 157 #[.pointer (some ⟨tb, 0, none⟩)] (w.setCell ⟨vb, 3, none⟩ (opnV tb)) fun e w' => e = .returned (.tuple #[]) ∧ R w') :
    Calls Tryz.prog 71 #[.pointer (some ⟨vb, 0, none⟩), opnV tb] w fun e w' => e = .returned (.tuple #[]) ∧ R w' := by
  obtain ⟨G, hG, _⟩ := id h
  have c3 : w.cell? ⟨vb, 3, none⟩ = some A.at' := hG.blk.cell 3
  have f3 := hG.blk.free 3
  have hi := inv_begin_o tb
  unfold opnV at *
  have HB := hide hb
  clear h hG hb
  go_enter Tryz.func71, Tryz.ntmps71
  go_wp2_with fail
  refine (unhide HB).mono ?_
  rintro e w1 ⟨rfl, hr⟩
  have HR := hide hr
  clear hr
  go_wp2
  refine bodyPost_end (results_none rfl _ _ _) rfl ⟨rfl, unhide HR⟩

theorem at_nil (w : World) : (binOp .eql 113 .nilIface .nilIface).run Tryz.prog w = .ok (.bool true) w := by kernel_rfl
theorem at_opn (tb : Nat) (w : World) : (binOp .eql 113 (.iface 127 (.pointer (some ⟨tb, 0, none⟩))) .nilIface).run Tryz.prog w = .ok (.bool false) w := by kernel_rfl
theorem told_under : Tryz.prog.underlying 111 = some (.map 3 91) := by kernel_rfl
theorem lenF_any (vb o : Nat) (c : Int) (w : World) (hc : w.cell? ⟨vb, o + 2, none⟩ = some (.int .i64 c)) :
    Calls Tryz.prog 99 #[.pointer (some ⟨vb, o, none⟩)] w fun e w' => e = .returned (.int .i64 c) ∧ w' = w := by
  go_enter Tryz.func99, Tryz.ntmps99
  go_wp2
  go_ret
  exact ⟨rfl, rfl⟩
/-- there is nothing to do now -/
def Idle (A : VA) : Prop := A.state = 2 ∨ (A.state ≠ 2 ∧ A.wait ≠ []) ∨ (A.state ≠ 2 ∧ A.wait = [] ∧ A.told ≠ []) ∨ (A.state ≠ 2 ∧ A.wait = [] ∧ A.told = [] ∧ A.at' = .nilIface ∧ A.reqs = [])
def Busy (A : VA) : Prop := A.state ≠ 2 ∧ A.wait = [] ∧ A.told = []
/-- one turn of run -/
def RunTurn (vb : Nat) (J : Nat → World → Prop) (R : World → Prop) (k : Nat) (w : World) : Prop :=
  (∃ A O, Vol w vb A O ∧ Idle A ∧ R w) ∨
  (∃ A O tb k', k' < k ∧ Vol w vb A O ∧ Busy A ∧ A.at' = opnV tb ∧ Calls Tryz.prog 158 #[.pointer (some ⟨tb, 0, none⟩)] w fun e w' => e = .returned (.bool true) ∧ J k' w') ∨
  (∃ A O tb k', k' < k ∧ Vol w vb A O ∧ Busy A ∧ A.at' = opnV tb ∧ (Calls Tryz.prog 158 #[.pointer (some ⟨tb, 0, none⟩)] w fun e w' => e = .returned (.bool false) ∧ w' = w) ∧ J k' (w.setCell ⟨vb, 3, none⟩ .nilIface)) ∨
  (∃ A O k', k' < k ∧ Vol w vb A O ∧ Busy A ∧ A.at' = .nilIface ∧ A.reqs ≠ [] ∧ Calls Tryz.prog 100 #[.pointer (some ⟨vb, 0, none⟩)] w fun e w' => ∃ v, e = .returned v ∧ Calls Tryz.prog 71 #[.pointer (some ⟨vb, 0, none⟩), v] w' fun e w'' => e = .returned (.tuple #[]) ∧ J k' w'')
theorem least_of (J : Nat → World → Prop) (w : World) (k : Nat) (hk : k ≤ 3) (h : J k w) :
    ∃ m, m ≤ 3 ∧ J m w ∧ m = (@ite _ (J 0 w) (Classical.propDecidable _) 0 (@ite _ (J 1 w) (Classical.propDecidable _) 1 (@ite _ (J 2 w) (Classical.propDecidable _) 2 3))) := by
  by_cases h0 : J 0 w
  · exact ⟨0, by omega, h0, (if_pos h0).symm⟩
  · by_cases h1 : J 1 w
    · exact ⟨1, by omega, h1, by rw [if_neg h0, if_pos h1]⟩
    · by_cases h2 : J 2 w
      · exact ⟨2, by omega, h2, by rw [if_neg h0, if_neg h1, if_pos h2]⟩
      · refine ⟨3, by omega, ?_, by rw [if_neg h0, if_neg h1, if_neg h2]⟩
        rcases Nat.lt_or_ge k 3 with q | q
        · rcases Nat.lt_or_ge k 1 with q1 | q1
          · obtain rfl : k = 0 := by omega
            exact absurd h h0
          · rcases Nat.lt_or_ge k 2 with q2 | q2
            · obtain rfl : k = 1 := by omega
              exact absurd h h1
            · obtain rfl : k = 2 := by omega
              exact absurd h h2
        · obtain rfl : k = 3 := by omega
          exact h
theorem least_le (J : Nat → World → Prop) (w : World) (k : Nat) (hk : k ≤ 3) (h : J k w) :
    (@ite _ (J 0 w) (Classical.propDecidable _) 0 (@ite _ (J 1 w) (Classical.propDecidable _) 1 (@ite _ (J 2 w) (Classical.propDecidable _) 2 3))) ≤ k := by
  by_cases h0 : J 0 w
  · rw [if_pos h0]; omega
  · rw [if_neg h0]
    by_cases h1 : J 1 w
    · rw [if_pos h1]
      rcases Nat.eq_zero_or_pos k with e | e
      · subst e; exact absurd h h0
      · omega
    · rw [if_neg h1]
      by_cases h2 : J 2 w
      · rw [if_pos h2]
        rcases Nat.lt_or_ge k 2 with q | q
        · rcases Nat.eq_zero_or_pos k with e | e
          · subst e; exact absurd h h0
          · obtain rfl : k = 1 := by omega
            exact absurd h h1
        · omega
      · rw [if_neg h2]
        rcases Nat.lt_or_ge k 3 with q | q
        · rcases Nat.lt_or_ge k 1 with q1 | q1
          · obtain rfl : k = 0 := by omega
            exact absurd h h0
          · rcases Nat.lt_or_ge k 2 with q2 | q2
            · obtain rfl : k = 1 := by omega
              exact absurd h h1
            · obtain rfl : k = 2 := by omega
              exact absurd h h2
        · omega
set_option maxRecDepth 100000 in
set_option maxHeartbeats 8000000 in
theorem run_by (vb : Nat) (J : Nat → World → Prop) (R : World → Prop) (hJ : ∀ k w, J k w → RunTurn vb J R k w) (k : Nat) (hk : k ≤ 3) (w : World) (h : J k w) :
    Calls Tryz.prog 78 #[.pointer (some ⟨vb, 0, none⟩)] w fun e w' => e = .returned (.tuple #[]) ∧ R w' := by
  have HJ := hide hJ
  have H0 := hide h
  clear hJ h
  go_enter Tryz.func78, Tryz.ntmps78
  go_wp2
  go_loopw [] (fun wr => ∃ k, k ≤ 3 ∧ J k wr) (fun wr => (@ite _ (J 0 wr) (Classical.propDecidable _) 0 (@ite _ (J 1 wr) (Classical.propDecidable _) 1 (@ite _ (J 2 wr) (Classical.propDecidable _) 2 3))))
  case atStart => exact ⟨k, hk, unhide H0⟩
  case round =>
    clear H0 hk
    obtain ⟨k, hk, hJk⟩ := hrel
    obtain ⟨m, hm, hJm, hme⟩ := least_of J wr k hk hJk
    have HME := hide hme
    clear hJk hk hme
    rcases unhide HJ m wr hJm with ⟨A, O, h, hi, hR⟩ | ⟨A, O, tb, k', hk', h, hbu, ha, hc⟩ | ⟨A, O, tb, k', hk', h, hbu, ha, hc, hj'⟩ | ⟨A, O, k', hk', h, hbu, ha, hr, hc⟩
    · clear hJm
      have HR := hide hR
      clear hR
      obtain ⟨G, hG, _⟩ := id h
      have c2 : wr.cell? ⟨vb, 2, none⟩ = some (.int .i64 A.state) := hG.blk.cell 2
      have c3 : wr.cell? ⟨vb, 3, none⟩ = some A.at' := hG.blk.cell 3
      have c6 : wr.cell? ⟨vb, 4 + 2, none⟩ = some (.int .i64 (A.wait.length : Int)) := hG.blk.cell 6
      have c7 : wr.cell? ⟨vb, 7, none⟩ = some (.map (some G.mb)) := hG.blk.cell 7
      have c11 : wr.cell? ⟨vb, 9 + 2, none⟩ = some (.int .i64 (A.reqs.length : Int)) := hG.blk.cell 11
      have c18 : wr.cell? ⟨vb, 16 + 2, none⟩ = some (.int .i64 0) := hG.blk.cell 18
      have hlen := fun ty => run_len_told (P := Tryz.prog) told_under hG.map ty
      have hnil := at_nil
      clear h hG
      rcases hi with hs | ⟨hs, hw⟩ | ⟨hs, hw, ht⟩ | ⟨hs, hw, ht, ha, hr⟩
      · rw [hs] at c2
        clear c3 c6 c7 c11 c18 hlen hnil
        go_wp2
        refine bodyPost_end (results_none rfl _ _ _) rfl ⟨rfl, unhide HR⟩
      · have hb1 : (A.state != 2) = true := by simpa using hs
        have hn : ¬ A.wait.length = 0 := fun e => hw (List.length_eq_zero_iff.1 e)
        have hb2 : ((A.wait.length : Int) == 0) = false := by simpa using hw
        clear hs hw c3 c7 c11 c18 hlen hnil
        generalize A.wait.length = n at *
        generalize A.state = st at *
        go_wp2_with (first | (go_at_call 98; refine (lenC_any vb 4 _ _ c6).mono ?_; rintro e w1 ⟨rfl, rfl⟩) | (go_at_call 76; refine (lenR_any vb 9 _ _ c11).mono ?_; rintro e w1 ⟨rfl, rfl⟩) | (go_at_call 99; refine (lenF_any vb 16 _ _ c18).mono ?_; rintro e w1 ⟨rfl, rfl⟩))
        refine bodyPost_end (results_none rfl _ _ _) rfl ⟨rfl, unhide HR⟩
      · have hb1 : (A.state != 2) = true := by simpa using hs
        have hn : ¬ A.told.length = 0 := fun e => ht (List.length_eq_zero_iff.1 e)
        have hb2 : ((A.told.length : Int) == 0) = false := by simpa using ht
        rw [hw] at c6
        clear hs hw ht c3 c11 c18 hnil
        generalize A.told.length = n at *
        generalize A.state = st at *
        go_wp2_with (first | (go_at_call 98; refine (lenC_any vb 4 _ _ c6).mono ?_; rintro e w1 ⟨rfl, rfl⟩) | (go_at_call 76; refine (lenR_any vb 9 _ _ c11).mono ?_; rintro e w1 ⟨rfl, rfl⟩) | (go_at_call 99; refine (lenF_any vb 16 _ _ c18).mono ?_; rintro e w1 ⟨rfl, rfl⟩))
        refine bodyPost_end (results_none rfl _ _ _) rfl ⟨rfl, unhide HR⟩
      · have hb1 : (A.state != 2) = true := by simpa using hs
        rw [hw] at c6
        rw [ht] at hlen
        rw [ha] at c3
        rw [hr] at c11
        clear hs hw ht ha hr
        generalize A.state = st at *
        go_wp2_with (first | (go_at_call 98; refine (lenC_any vb 4 _ _ c6).mono ?_; rintro e w1 ⟨rfl, rfl⟩) | (go_at_call 76; refine (lenR_any vb 9 _ _ c11).mono ?_; rintro e w1 ⟨rfl, rfl⟩) | (go_at_call 99; refine (lenF_any vb 16 _ _ c18).mono ?_; rintro e w1 ⟨rfl, rfl⟩))
        refine bodyPost_ret (results_none rfl _ _ _) rfl ⟨rfl, unhide HR⟩
    · obtain ⟨G, hG, _⟩ := id h
      have c2 : wr.cell? ⟨vb, 2, none⟩ = some (.int .i64 A.state) := hG.blk.cell 2
      have c3 : wr.cell? ⟨vb, 3, none⟩ = some A.at' := hG.blk.cell 3
      have c6 : wr.cell? ⟨vb, 4 + 2, none⟩ = some (.int .i64 (A.wait.length : Int)) := hG.blk.cell 6
      have c7 : wr.cell? ⟨vb, 7, none⟩ = some (.map (some G.mb)) := hG.blk.cell 7
      have c11 : wr.cell? ⟨vb, 9 + 2, none⟩ = some (.int .i64 (A.reqs.length : Int)) := hG.blk.cell 11
      have c18 : wr.cell? ⟨vb, 16 + 2, none⟩ = some (.int .i64 0) := hG.blk.cell 18
      have f3 := hG.blk.free 3
      have hlen := fun ty => run_len_told (P := Tryz.prog) told_under hG.map ty
      obtain ⟨hs, hw, ht⟩ := hbu
      have hb1 : (A.state != 2) = true := by simpa using hs
      rw [hw] at c6
      rw [ht] at hlen
      rw [ha] at c3
      have HC := hide hc
      have hopn := at_opn tb
      have hgo := inv_goOn_o tb
      unfold opnV at c3
      clear hs hw ht ha h hG hc hJm c11 c18 f3
      generalize A.state = st at *
      go_wp2_with (first | (go_at_call 98; refine (lenC_any vb 4 _ _ c6).mono ?_; rintro e w1 ⟨rfl, rfl⟩) | (go_at_call 158; refine (unhide HC).mono ?_; rintro e w1 ⟨rfl, hj⟩; have HJ1 := hide hj; clear hj HC))
      go_roundw
      case rel => exact ⟨k', by omega, unhide HJ1⟩
      case measure => rw [← unhide HME]; exact Nat.lt_of_le_of_lt (least_le J _ k' (by omega) (unhide HJ1)) hk'
    · obtain ⟨G, hG, _⟩ := id h
      have c2 : wr.cell? ⟨vb, 2, none⟩ = some (.int .i64 A.state) := hG.blk.cell 2
      have c3 : wr.cell? ⟨vb, 3, none⟩ = some A.at' := hG.blk.cell 3
      have c6 : wr.cell? ⟨vb, 4 + 2, none⟩ = some (.int .i64 (A.wait.length : Int)) := hG.blk.cell 6
      have c7 : wr.cell? ⟨vb, 7, none⟩ = some (.map (some G.mb)) := hG.blk.cell 7
      have c11 : wr.cell? ⟨vb, 9 + 2, none⟩ = some (.int .i64 (A.reqs.length : Int)) := hG.blk.cell 11
      have c18 : wr.cell? ⟨vb, 16 + 2, none⟩ = some (.int .i64 0) := hG.blk.cell 18
      have f3 := hG.blk.free 3
      have hlen := fun ty => run_len_told (P := Tryz.prog) told_under hG.map ty
      obtain ⟨hs, hw, ht⟩ := hbu
      have hb1 : (A.state != 2) = true := by simpa using hs
      rw [hw] at c6
      rw [ht] at hlen
      rw [ha] at c3
      have HC := hide hc
      have hopn := at_opn tb
      have hgo := inv_goOn_o tb
      have HJ1 := hide hj'
      unfold opnV at c3
      clear hs hw ht ha h hG hc hJm hj' c11 c18
      generalize A.state = st at *
      go_wp2_with (first | (go_at_call 98; refine (lenC_any vb 4 _ _ c6).mono ?_; rintro e w1 ⟨rfl, rfl⟩) | (go_at_call 158; refine (unhide HC).mono ?_; rintro e w1 ⟨rfl, rfl⟩; clear HC))
      go_roundw
      case rel => exact ⟨k', by omega, unhide HJ1⟩
      case measure => rw [← unhide HME]; exact Nat.lt_of_le_of_lt (least_le J _ k' (by omega) (unhide HJ1)) hk'
    · obtain ⟨G, hG, _⟩ := id h
      have c2 : wr.cell? ⟨vb, 2, none⟩ = some (.int .i64 A.state) := hG.blk.cell 2
      have c3 : wr.cell? ⟨vb, 3, none⟩ = some A.at' := hG.blk.cell 3
      have c6 : wr.cell? ⟨vb, 4 + 2, none⟩ = some (.int .i64 (A.wait.length : Int)) := hG.blk.cell 6
      have c7 : wr.cell? ⟨vb, 7, none⟩ = some (.map (some G.mb)) := hG.blk.cell 7
      have c11 : wr.cell? ⟨vb, 9 + 2, none⟩ = some (.int .i64 (A.reqs.length : Int)) := hG.blk.cell 11
      have c18 : wr.cell? ⟨vb, 16 + 2, none⟩ = some (.int .i64 0) := hG.blk.cell 18
      have f3 := hG.blk.free 3
      have hlen := fun ty => run_len_told (P := Tryz.prog) told_under hG.map ty
      obtain ⟨hs, hw, ht⟩ := hbu
      have hb1 : (A.state != 2) = true := by simpa using hs
      rw [hw] at c6
      rw [ht] at hlen
      rw [ha] at c3
      have HC := hide hc
      have hnil := at_nil
      have hn : ¬ A.reqs.length = 0 := fun e => hr (List.length_eq_zero_iff.1 e)
      have hb2 : ((A.reqs.length : Int) == 0) = false := by simpa using hr
      clear hs hw ht ha h hG hc hJm hr f3
      generalize A.reqs.length = n at *
      generalize A.state = st at *
      go_wp2_with (first | (go_at_call 98; refine (lenC_any vb 4 _ _ c6).mono ?_; rintro e w1 ⟨rfl, rfl⟩) | (go_at_call 76; refine (lenR_any vb 9 _ _ c11).mono ?_; rintro e w1 ⟨rfl, rfl⟩) | (go_at_call 100; refine (unhide HC).mono ?_; rintro e w1 ⟨v, rfl, hst⟩; have HS := hide hst; clear hst HC c2 c3 c6 c7 c11 c18 hlen) | (go_at_call 71; refine (unhide HS).mono ?_; rintro e w2 ⟨rfl, hj⟩; have HJ1 := hide hj; clear hj HS))
      go_roundw
      case rel => exact ⟨k', by omega, unhide HJ1⟩
      case measure => rw [← unhide HME]; exact Nat.lt_of_le_of_lt (least_le J _ k' (by omega) (unhide HJ1)) hk'

end Go.Proofs.YtdcinlkkjbclmaaGreat

/- A volume is made, and begins to be opened. -/
namespace Go.Proofs.YtdcinlkkjbclmaaGreat
open Go.RowKit

theorem make_heard (w : World) : (Instr.makeMap 128 none).run Tryz.prog w = .ok (.map (some w.heap.size)) (w.alloc (.map #[] 0)) := by kernel_rfl
theorem make_told (w : World) : (Instr.makeMap 111 none).run Tryz.prog w = .ok (.map (some w.heap.size)) (w.alloc (.map #[] 0)) := by kernel_rfl
set_option maxRecDepth 100000 in
set_option maxHeartbeats 1000000 in
theorem work_any (vb : Nat) (w : World) :
    Calls Tryz.prog 72 #[.pointer (some ⟨vb, 0, none⟩)] w fun e w' => ∃ hb, e = .returned (.agg #[.pointer (some ⟨vb, 0, none⟩), .map (some hb), .nilFunc]) ∧ w.heap.size ≤ hb ∧ HeardB w' hb ∧ Below w.heap.size w w' := by
  have hm := make_heard
  go_enter Tryz.func72, Tryz.ntmps72
  go_wp2
  have hh := HeardB.new (w.alloc (.cells #[.pointer (some ⟨vb, 0, none⟩), .map (some (w.heap.size + 1)), .nilFunc] 130))
  rw [World.size_alloc] at hh
  refine bodyPost_ret (v := .agg #[.pointer (some ⟨vb, 0, none⟩), .map (some (w.heap.size + 1)), .nilFunc]) (by simp [results, Tryz.results72, go_sem]) rfl ⟨_, rfl, by omega, hh, ?_⟩
  exact ((Below.refl _ _).alloc (Nat.le_refl _) _).alloc (by simp) _

set_option maxRecDepth 100000 in
set_option maxHeartbeats 1000000 in
theorem begin_fresh (tb hb vb : Nat) (A : VA) (O : List Nat) (nx : Value) (w : World) (h : Vol w vb A O) (ht : OpenT w tb hb vb nx true) (hto : tb ∉ O) (hho : hb ∉ O) (hs : A.stand.length ≤ 8) (hl : A.wait.length ≤ 80000) :
    Calls Tryz.prog 157 #[.pointer (some ⟨tb, 0, none⟩)] w fun e w' => e = .returned (.tuple #[]) ∧ ∃ L : List (Nat × Value), L.map (·.1) = cur A.stand ∧ (∀ p ∈ L, Eight p.2) ∧ ∃ O', Vol w' vb (labelA A L) O' ∧ Chg (fun b => b ∈ O ∨ b = tb) w w' ∧ (∀ b ∈ O', b ∈ O ∨ w.heap.size ≤ b) ∧ OpenT w' tb hb vb (.func (.func 162) #[.pointer (some ⟨tb, 0, none⟩)] #[]) true := by
  have t53 := ht.c53
  have HV := hide h
  have HT := hide ht
  have htl := block_lt_of_cell t53
  clear h
  go_enter Tryz.func157, Tryz.ntmps157
  go_wp2_with fail
  refine (writeLabels_any tb vb A O w (unhide HV) (unhide HT).c0 hto hs (by omega)).mono ?_
  rintro e w1 ⟨rfl, L, hL1, hL2, O1, v1, ch1, o1⟩
  have ht1 := (unhide HT).chg ch1 hto hho
  have q2 := ht1.c2.1
  have qf := ht1.c2.2
  have HT1 := hide ht1
  have HV1 := hide v1
  have HC1 := hide ch1
  have HO1 := hide o1
  have HL1 := hide hL1
  have HL2 := hide hL2
  clear ht1 v1 ch1 o1 hL1 hL2 t53 ht
  go_wp2
  have hto1 : tb ∉ O1 := fun ho => by rcases unhide HO1 _ ho with q | q; exact hto q; omega
  refine bodyPost_ret (results_none rfl _ _ _) rfl ⟨rfl, L, unhide HL1, unhide HL2, O1, (unhide HV1).chg (X := fun b => b = tb) ((Chg.refl _ _).setCell _ _ (Or.inl rfl)) (fun b hb e => hto1 (e ▸ hb)), (((unhide HC1).mono (fun k _ hk => Or.inl hk)).setCell _ _ (Or.inl (Or.inr rfl))), unhide HO1, (unhide HT1).next _⟩

set_option maxRecDepth 100000 in
set_option maxHeartbeats 2000000 in
theorem begin_old (tb hb vb : Nat) (A : VA) (O : List Nat) (nx : Value) (w : World) (h : Vol w vb A O) (ht : OpenT w tb hb vb nx false) (hto : tb ∉ O) (hho : hb ∉ O) (hs : A.stand.length ≤ 8) (hl : A.wait.length ≤ 80000) :
    Calls Tryz.prog 157 #[.pointer (some ⟨tb, 0, none⟩)] w fun e w' => e = .returned (.tuple #[]) ∧ ∃ (O' : List Nat) (nx' : Value), Vol w' vb (looked A A.stand.length) O' ∧ Chg (fun b => b ∈ O ∨ b = tb) w w' ∧ (∀ b ∈ O', b ∈ O ∨ w.heap.size ≤ b) ∧ OpenT w' tb hb vb nx' false := by
  have t53 := ht.c53
  have t0 := ht.c0
  have HV := hide h
  have HT := hide ht
  have htl := block_lt_of_cell t53
  clear h ht
  go_enter Tryz.func157, Tryz.ntmps157
  go_wp2_with (go_at_call 106; refine (disks_any vb A O _ (unhide HV)).mono ?_; rintro e w1 ⟨rfl, rfl⟩)
  clear t53 t0
  obtain ⟨w0, hw0⟩ : ∃ w0, w0 = w1 := ⟨_, rfl⟩
  subst hw0
  go_loopw [26] (fun iv wr => ∃ (k : Nat) (Ok : List Nat), k ≤ A.stand.length ∧ iv = .int .i64 (k : Int) ∧ Vol wr vb (looked A k) Ok ∧ Chg (fun b => b ∈ O) w0 wr ∧ ∀ b ∈ Ok, b ∈ O ∨ w0.heap.size ≤ b) (fun i _ => A.stand.length - (intOf i).toNat)
  case atStart => exact ⟨0, O, Nat.zero_le _, rfl, unhide HV, Chg.refl _ _, fun b hb => Or.inl hb⟩
  case round =>
    obtain ⟨k, Ok, hk, rfl, hvk, hck, hok⟩ := hrel
    rcases Nat.lt_or_ge k A.stand.length with hlt | hge
    · have c1 : wr.cell? ⟨tb, 0, none⟩ = some (.pointer (some ⟨vb, 0, none⟩)) := by
        rw [World.cell?_of_block (w := w0) (hck.block tb htl hto)]
        exact (unhide HT).c0
      obtain ⟨f1, f2⟩ := looked_facts A k
      have HSN := hide (looked_succ A k)
      have HCK := hide hck
      have HOK := hide hok
      have hk0 : (0 : Int) ≤ (k : Int) := by omega
      have hk1 : (k : Int) < (A.stand.length : Int) := by omega
      have HG := hide (read_any tb vb (looked A k) Ok k 0 wr hvk c1 (by rw [f1]; exact hlt) (by omega))
      clear hvk hck hok f1 f2 c1
      go_wp2_with fail
      refine (unhide HG).mono ?_
      rintro e w3 ⟨rfl, hst⟩
      obtain ⟨O1, v1, ch1, o1⟩ := Step.trans (unhide HCK) (unhide HOK) hst
      have HV1 : Hid (Vol w3 vb (looked A (k + 1)) O1) := by rw [unhide HSN]; exact v1
      have HC1 := hide ch1
      have HO1 := hide o1
      clear hst v1 ch1 o1 HG
      go_wp2
      go_roundw
      case rel => exact ⟨k + 1, O1, by omega, by go_num, unhide HV1, unhide HC1, unhide HO1⟩
      case measure => simp [intOf]; omega
    · obtain rfl : k = A.stand.length := by omega
      have ht1 := (unhide HT).chg hck hto hho
      have q2 := ht1.c2.1
      have qf := ht1.c2.2
      have HT1 := hide ht1
      have HVK := hide hvk
      have HCK := hide hck
      have HOK := hide hok
      clear ht1 hvk hck hok
      go_wp2
      have hto1 : tb ∉ Ok := fun ho => by rcases unhide HOK _ ho with q | q; exact hto q; omega
      refine bodyPost_end (results_none rfl _ _ _) rfl ⟨rfl, Ok, _, (unhide HVK).chg (X := fun b => b = tb) ((Chg.refl _ _).setCell _ _ (Or.inl rfl)) (fun b hb e => hto1 (e ▸ hb)), (((unhide HCK).mono (fun k _ hk => Or.inl hk)).setCell _ _ (Or.inl (Or.inr rfl))), unhide HOK, (unhide HT1).next _⟩

end Go.Proofs.YtdcinlkkjbclmaaGreat
