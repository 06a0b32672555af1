/- The volume takes steps: start, run. -/
import Derived.Test.YtdcinlkkjbclmabGreatVMath
namespace Go.Proofs.YtdcinlkkjbclmabGreat
open Go.RowKit

/-- a task as the volume keeps it -/
def opnV (tb : Nat) : Value := .iface 91 (.pointer (some ⟨tb, 0, none⟩))
def wrtV (tb : Nat) : Value := .iface 147 (.pointer (some ⟨tb, 0, none⟩))
theorem inv_begin_o (tb : Nat) (w : World) : (method 327 91 (.pointer (some ⟨tb, 0, none⟩)) "platter/volume.begin").run Tryz.prog w = .ok (102, .pointer (some ⟨tb, 0, none⟩)) w := by kernel_rfl
theorem inv_begin_w (tb : Nat) (w : World) : (method 327 147 (.pointer (some ⟨tb, 0, none⟩)) "platter/volume.begin").run Tryz.prog w = .ok (168, .pointer (some ⟨tb, 0, none⟩)) w := by kernel_rfl
theorem inv_goOn_o (tb : Nat) (w : World) : (method 327 91 (.pointer (some ⟨tb, 0, none⟩)) "platter/volume.goOn").run Tryz.prog w = .ok (103, .pointer (some ⟨tb, 0, none⟩)) w := by kernel_rfl
theorem inv_miss_o (tb : Nat) (w : World) : (method 327 91 (.pointer (some ⟨tb, 0, none⟩)) "platter/volume.miss").run Tryz.prog w = .ok (105, .pointer (some ⟨tb, 0, none⟩)) w := by kernel_rfl
theorem inv_miss_w (tb : Nat) (w : World) : (method 327 147 (.pointer (some ⟨tb, 0, none⟩)) "platter/volume.miss").run Tryz.prog w = .ok (105, .pointer (some ⟨tb, 0, none⟩)) w := by kernel_rfl
theorem inv_hear_o (tb : Nat) (w : World) : (method 327 91 (.pointer (some ⟨tb, 0, none⟩)) "platter/volume.hear").run Tryz.prog w = .ok (104, .pointer (some ⟨tb, 0, none⟩)) w := by kernel_rfl

set_option maxRecDepth 100000 in
set_option maxHeartbeats 1000000 in
theorem start_o (vb tb : Nat) (A : VA) (O : List Nat) (R : World → Prop) (w : World) (h : Vol w vb A O)
    (hb : Calls Tryz.prog 102 #[.pointer (some ⟨tb, 0, none⟩)] (w.setCell ⟨vb, 3, none⟩ (opnV tb)) fun e w' => e = .returned (.tuple #[]) ∧ R w') :
    Calls Tryz.prog 40 #[.pointer (some ⟨vb, 0, none⟩), opnV tb] w fun e w' => e = .returned (.tuple #[]) ∧ R w' := by
  obtain ⟨G, hG, _⟩ := id h
  have c3 : w.cell? ⟨vb, 3, none⟩ = some A.at' := hG.blk.cell 3
  have f3 := hG.blk.free 3
  have hi := inv_begin_o tb
  unfold opnV at *
  have HB := hide hb
  clear h hG hb
  go_enter Tryz.func40, Tryz.ntmps40
  go_wp2_with fail
  refine (unhide HB).mono ?_
  rintro e w1 ⟨rfl, hr⟩
  have HR := hide hr
  clear hr
  go_wp2
  refine bodyPost_end (results_none rfl _ _ _) rfl ⟨rfl, unhide HR⟩

theorem at_nil (w : World) : (binOp .eql 68 .nilIface .nilIface).run Tryz.prog w = .ok (.bool true) w := by kernel_rfl
theorem at_opn (tb : Nat) (w : World) : (binOp .eql 68 (.iface 91 (.pointer (some ⟨tb, 0, none⟩))) .nilIface).run Tryz.prog w = .ok (.bool false) w := by kernel_rfl
theorem told_under : Tryz.prog.underlying 71 = some (.map 3 64) := by kernel_rfl
theorem lenF_any (vb o : Nat) (c : Int) (w : World) (hc : w.cell? ⟨vb, o + 2, none⟩ = some (.int .i64 c)) :
    Calls Tryz.prog 52 #[.pointer (some ⟨vb, o, none⟩)] w fun e w' => e = .returned (.int .i64 c) ∧ w' = w := by
  go_enter Tryz.func52, Tryz.ntmps52
  go_wp2
  go_ret
  exact ⟨rfl, rfl⟩
/-- there is nothing to do now -/
def Idle (A : VA) : Prop := A.state = 2 ∨ (A.state ≠ 2 ∧ A.wait ≠ []) ∨ (A.state ≠ 2 ∧ A.wait = [] ∧ A.told ≠ []) ∨ (A.state ≠ 2 ∧ A.wait = [] ∧ A.told = [] ∧ A.at' = .nilIface ∧ A.reqs = [])
def Busy (A : VA) : Prop := A.state ≠ 2 ∧ A.wait = [] ∧ A.told = []
/-- one turn of run -/
def RunTurn (vb : Nat) (J : Nat → World → Prop) (R : World → Prop) (k : Nat) (w : World) : Prop :=
  (∃ A O, Vol w vb A O ∧ Idle A ∧ R w) ∨
  (∃ A O tb k', k' < k ∧ Vol w vb A O ∧ Busy A ∧ A.at' = opnV tb ∧ Calls Tryz.prog 103 #[.pointer (some ⟨tb, 0, none⟩)] w fun e w' => e = .returned (.bool true) ∧ J k' w') ∨
  (∃ A O tb k', k' < k ∧ Vol w vb A O ∧ Busy A ∧ A.at' = opnV tb ∧ (Calls Tryz.prog 103 #[.pointer (some ⟨tb, 0, none⟩)] w fun e w' => e = .returned (.bool false) ∧ w' = w) ∧ J k' (w.setCell ⟨vb, 3, none⟩ .nilIface)) ∨
  (∃ A O k', k' < k ∧ Vol w vb A O ∧ Busy A ∧ A.at' = .nilIface ∧ A.reqs ≠ [] ∧ Calls Tryz.prog 53 #[.pointer (some ⟨vb, 0, none⟩)] w fun e w' => ∃ v, e = .returned v ∧ Calls Tryz.prog 40 #[.pointer (some ⟨vb, 0, none⟩), v] w' fun e w'' => e = .returned (.tuple #[]) ∧ J k' w'')
theorem least_of (J : Nat → World → Prop) (w : World) (k : Nat) (hk : k ≤ 3) (h : J k w) :
    ∃ m, m ≤ 3 ∧ J m w ∧ m = (@ite _ (J 0 w) (Classical.propDecidable _) 0 (@ite _ (J 1 w) (Classical.propDecidable _) 1 (@ite _ (J 2 w) (Classical.propDecidable _) 2 3))) := by
  by_cases h0 : J 0 w
  · exact ⟨0, by omega, h0, (if_pos h0).symm⟩
  · by_cases h1 : J 1 w
    · exact ⟨1, by omega, h1, by rw [if_neg h0, if_pos h1]⟩
    · by_cases h2 : J 2 w
      · exact ⟨2, by omega, h2, by rw [if_neg h0, if_neg h1, if_pos h2]⟩
      · refine ⟨3, by omega, ?_, by rw [if_neg h0, if_neg h1, if_neg h2]⟩
        rcases Nat.lt_or_ge k 3 with q | q
        · rcases Nat.lt_or_ge k 1 with q1 | q1
          · obtain rfl : k = 0 := by omega
            exact absurd h h0
          · rcases Nat.lt_or_ge k 2 with q2 | q2
            · obtain rfl : k = 1 := by omega
              exact absurd h h1
            · obtain rfl : k = 2 := by omega
              exact absurd h h2
        · obtain rfl : k = 3 := by omega
          exact h
theorem least_le (J : Nat → World → Prop) (w : World) (k : Nat) (hk : k ≤ 3) (h : J k w) :
    (@ite _ (J 0 w) (Classical.propDecidable _) 0 (@ite _ (J 1 w) (Classical.propDecidable _) 1 (@ite _ (J 2 w) (Classical.propDecidable _) 2 3))) ≤ k := by
  by_cases h0 : J 0 w
  · rw [if_pos h0]; omega
  · rw [if_neg h0]
    by_cases h1 : J 1 w
    · rw [if_pos h1]
      rcases Nat.eq_zero_or_pos k with e | e
      · subst e; exact absurd h h0
      · omega
    · rw [if_neg h1]
      by_cases h2 : J 2 w
      · rw [if_pos h2]
        rcases Nat.lt_or_ge k 2 with q | q
        · rcases Nat.eq_zero_or_pos k with e | e
          · subst e; exact absurd h h0
          · obtain rfl : k = 1 := by omega
            exact absurd h h1
        · omega
      · rw [if_neg h2]
        rcases Nat.lt_or_ge k 3 with q | q
        · rcases Nat.lt_or_ge k 1 with q1 | q1
          · obtain rfl : k = 0 := by omega
            exact absurd h h0
          · rcases Nat.lt_or_ge k 2 with q2 | q2
            · obtain rfl : k = 1 := by omega
              exact absurd h h1
            · obtain rfl : k = 2 := by omega
              exact absurd h h2
        · omega
set_option maxRecDepth 100000 in
set_option maxHeartbeats 8000000 in
theorem run_by (vb : Nat) (J : Nat → World → Prop) (R : World → Prop) (hJ : ∀ k w, J k w → RunTurn vb J R k w) (k : Nat) (hk : k ≤ 3) (w : World) (h : J k w) :
    Calls Tryz.prog 37 #[.pointer (some ⟨vb, 0, none⟩)] w fun e w' => e = .returned (.tuple #[]) ∧ R w' := by
  have HJ := hide hJ
  have H0 := hide h
  clear hJ h
  go_enter Tryz.func37, Tryz.ntmps37
  go_wp2
  go_loopw [] (fun wr => ∃ k, k ≤ 3 ∧ J k wr) (fun wr => (@ite _ (J 0 wr) (Classical.propDecidable _) 0 (@ite _ (J 1 wr) (Classical.propDecidable _) 1 (@ite _ (J 2 wr) (Classical.propDecidable _) 2 3))))
  case atStart => exact ⟨k, hk, unhide H0⟩
  case round =>
    clear H0 hk
    obtain ⟨k, hk, hJk⟩ := hrel
    obtain ⟨m, hm, hJm, hme⟩ := least_of J wr k hk hJk
    have HME := hide hme
    clear hJk hk hme
    rcases unhide HJ m wr hJm with ⟨A, O, h, hi, hR⟩ | ⟨A, O, tb, k', hk', h, hbu, ha, hc⟩ | ⟨A, O, tb, k', hk', h, hbu, ha, hc, hj'⟩ | ⟨A, O, k', hk', h, hbu, ha, hr, hc⟩
    · clear hJm
      have HR := hide hR
      clear hR
      obtain ⟨G, hG, _⟩ := id h
      have c2 : wr.cell? ⟨vb, 2, none⟩ = some (.int .i64 A.state) := hG.blk.cell 2
      have c3 : wr.cell? ⟨vb, 3, none⟩ = some A.at' := hG.blk.cell 3
      have c6 : wr.cell? ⟨vb, 4 + 2, none⟩ = some (.int .i64 (A.wait.length : Int)) := hG.blk.cell 6
      have c7 : wr.cell? ⟨vb, 7, none⟩ = some (.map (some G.mb)) := hG.blk.cell 7
      have c11 : wr.cell? ⟨vb, 9 + 2, none⟩ = some (.int .i64 (A.reqs.length : Int)) := hG.blk.cell 11
      have c18 : wr.cell? ⟨vb, 16 + 2, none⟩ = some (.int .i64 0) := hG.blk.cell 18
      have hlen := fun ty => run_len_told (P := Tryz.prog) told_under hG.map ty
      have hnil := at_nil
      clear h hG
      rcases hi with hs | ⟨hs, hw⟩ | ⟨hs, hw, ht⟩ | ⟨hs, hw, ht, ha, hr⟩
      · rw [hs] at c2
        clear c3 c6 c7 c11 c18 hlen hnil
        go_wp2
        refine bodyPost_end (results_none rfl _ _ _) rfl ⟨rfl, unhide HR⟩
      · have hb1 : (A.state != 2) = true := by simpa using hs
        have hn : ¬ A.wait.length = 0 := fun e => hw (List.length_eq_zero_iff.1 e)
        have hb2 : ((A.wait.length : Int) == 0) = false := by simpa using hw
        clear hs hw c3 c7 c11 c18 hlen hnil
        generalize A.wait.length = n at *
        generalize A.state = st at *
        go_wp2_with (first | (go_at_call 51; refine (lenC_any vb 4 _ _ c6).mono ?_; rintro e w1 ⟨rfl, rfl⟩) | (go_at_call 35; refine (lenR_any vb 9 _ _ c11).mono ?_; rintro e w1 ⟨rfl, rfl⟩) | (go_at_call 52; refine (lenF_any vb 16 _ _ c18).mono ?_; rintro e w1 ⟨rfl, rfl⟩))
        refine bodyPost_end (results_none rfl _ _ _) rfl ⟨rfl, unhide HR⟩
      · have hb1 : (A.state != 2) = true := by simpa using hs
        have hn : ¬ A.told.length = 0 := fun e => ht (List.length_eq_zero_iff.1 e)
        have hb2 : ((A.told.length : Int) == 0) = false := by simpa using ht
        rw [hw] at c6
        clear hs hw ht c3 c11 c18 hnil
        generalize A.told.length = n at *
        generalize A.state = st at *
        go_wp2_with (first | (go_at_call 51; refine (lenC_any vb 4 _ _ c6).mono ?_; rintro e w1 ⟨rfl, rfl⟩) | (go_at_call 35; refine (lenR_any vb 9 _ _ c11).mono ?_; rintro e w1 ⟨rfl, rfl⟩) | (go_at_call 52; refine (lenF_any vb 16 _ _ c18).mono ?_; rintro e w1 ⟨rfl, rfl⟩))
        refine bodyPost_end (results_none rfl _ _ _) rfl ⟨rfl, unhide HR⟩
      · have hb1 : (A.state != 2) = true := by simpa using hs
        rw [hw] at c6
        rw [ht] at hlen
        rw [ha] at c3
        rw [hr] at c11
        clear hs hw ht ha hr
        generalize A.state = st at *
        go_wp2_with (first | (go_at_call 51; refine (lenC_any vb 4 _ _ c6).mono ?_; rintro e w1 ⟨rfl, rfl⟩) | (go_at_call 35; refine (lenR_any vb 9 _ _ c11).mono ?_; rintro e w1 ⟨rfl, rfl⟩) | (go_at_call 52; refine (lenF_any vb 16 _ _ c18).mono ?_; rintro e w1 ⟨rfl, rfl⟩))
        refine bodyPost_ret (results_none rfl _ _ _) rfl ⟨rfl, unhide HR⟩
    · obtain ⟨G, hG, _⟩ := id h
      have c2 : wr.cell? ⟨vb, 2, none⟩ = some (.int .i64 A.state) := hG.blk.cell 2
      have c3 : wr.cell? ⟨vb, 3, none⟩ = some A.at' := hG.blk.cell 3
      have c6 : wr.cell? ⟨vb, 4 + 2, none⟩ = some (.int .i64 (A.wait.length : Int)) := hG.blk.cell 6
      have c7 : wr.cell? ⟨vb, 7, none⟩ = some (.map (some G.mb)) := hG.blk.cell 7
      have c11 : wr.cell? ⟨vb, 9 + 2, none⟩ = some (.int .i64 (A.reqs.length : Int)) := hG.blk.cell 11
      have c18 : wr.cell? ⟨vb, 16 + 2, none⟩ = some (.int .i64 0) := hG.blk.cell 18
      have f3 := hG.blk.free 3
      have hlen := fun ty => run_len_told (P := Tryz.prog) told_under hG.map ty
      obtain ⟨hs, hw, ht⟩ := hbu
      have hb1 : (A.state != 2) = true := by simpa using hs
      rw [hw] at c6
      rw [ht] at hlen
      rw [ha] at c3
      have HC := hide hc
      have hopn := at_opn tb
      have hgo := inv_goOn_o tb
      unfold opnV at c3
      clear hs hw ht ha h hG hc hJm c11 c18 f3
      generalize A.state = st at *
      go_wp2_with (first | (go_at_call 51; refine (lenC_any vb 4 _ _ c6).mono ?_; rintro e w1 ⟨rfl, rfl⟩) | (go_at_call 103; refine (unhide HC).mono ?_; rintro e w1 ⟨rfl, hj⟩; have HJ1 := hide hj; clear hj HC))
      go_roundw
      case rel => exact ⟨k', by omega, unhide HJ1⟩
      case measure => rw [← unhide HME]; exact Nat.lt_of_le_of_lt (least_le J _ k' (by omega) (unhide HJ1)) hk'
    · obtain ⟨G, hG, _⟩ := id h
      have c2 : wr.cell? ⟨vb, 2, none⟩ = some (.int .i64 A.state) := hG.blk.cell 2
      have c3 : wr.cell? ⟨vb, 3, none⟩ = some A.at' := hG.blk.cell 3
      have c6 : wr.cell? ⟨vb, 4 + 2, none⟩ = some (.int .i64 (A.wait.length : Int)) := hG.blk.cell 6
      have c7 : wr.cell? ⟨vb, 7, none⟩ = some (.map (some G.mb)) := hG.blk.cell 7
      have c11 : wr.cell? ⟨vb, 9 + 2, none⟩ = some (.int .i64 (A.reqs.length : Int)) := hG.blk.cell 11
      have c18 : wr.cell? ⟨vb, 16 + 2, none⟩ = some (.int .i64 0) := hG.blk.cell 18
      have f3 := hG.blk.free 3
      have hlen := fun ty => run_len_told (P := Tryz.prog) told_under hG.map ty
      obtain ⟨hs, hw, ht⟩ := hbu
      have hb1 : (A.state != 2) = true := by simpa using hs
      rw [hw] at c6
      rw [ht] at hlen
      rw [ha] at c3
      have HC := hide hc
      have hopn := at_opn tb
      have hgo := inv_goOn_o tb
      have HJ1 := hide hj'
      unfold opnV at c3
      clear hs hw ht ha h hG hc hJm hj' c11 c18
      generalize A.state = st at *
      go_wp2_with (first | (go_at_call 51; refine (lenC_any vb 4 _ _ c6).mono ?_; rintro e w1 ⟨rfl, rfl⟩) | (go_at_call 103; refine (unhide HC).mono ?_; rintro e w1 ⟨rfl, rfl⟩; clear HC))
      go_roundw
      case rel => exact ⟨k', by omega, unhide HJ1⟩
      case measure => rw [← unhide HME]; exact Nat.lt_of_le_of_lt (least_le J _ k' (by omega) (unhide HJ1)) hk'
    · obtain ⟨G, hG, _⟩ := id h
      have c2 : wr.cell? ⟨vb, 2, none⟩ = some (.int .i64 A.state) := hG.blk.cell 2
      have c3 : wr.cell? ⟨vb, 3, none⟩ = some A.at' := hG.blk.cell 3
      have c6 : wr.cell? ⟨vb, 4 + 2, none⟩ = some (.int .i64 (A.wait.length : Int)) := hG.blk.cell 6
      have c7 : wr.cell? ⟨vb, 7, none⟩ = some (.map (some G.mb)) := hG.blk.cell 7
      have c11 : wr.cell? ⟨vb, 9 + 2, none⟩ = some (.int .i64 (A.reqs.length : Int)) := hG.blk.cell 11
      have c18 : wr.cell? ⟨vb, 16 + 2, none⟩ = some (.int .i64 0) := hG.blk.cell 18
      have f3 := hG.blk.free 3
      have hlen := fun ty => run_len_told (P := Tryz.prog) told_under hG.map ty
      obtain ⟨hs, hw, ht⟩ := hbu
      have hb1 : (A.state != 2) = true := by simpa using hs
      rw [hw] at c6
      rw [ht] at hlen
      rw [ha] at c3
      have HC := hide hc
      have hnil := at_nil
      have hn : ¬ A.reqs.length = 0 := fun e => hr (List.length_eq_zero_iff.1 e)
      have hb2 : ((A.reqs.length : Int) == 0) = false := by simpa using hr
      clear hs hw ht ha h hG hc hJm hr f3
      generalize A.reqs.length = n at *
      generalize A.state = st at *
      go_wp2_with (first | (go_at_call 51; refine (lenC_any vb 4 _ _ c6).mono ?_; rintro e w1 ⟨rfl, rfl⟩) | (go_at_call 35; refine (lenR_any vb 9 _ _ c11).mono ?_; rintro e w1 ⟨rfl, rfl⟩) | (go_at_call 53; refine (unhide HC).mono ?_; rintro e w1 ⟨v, rfl, hst⟩; have HS := hide hst; clear hst HC c2 c3 c6 c7 c11 c18 hlen) | (go_at_call 40; refine (unhide HS).mono ?_; rintro e w2 ⟨rfl, hj⟩; have HJ1 := hide hj; clear hj HS))
      go_roundw
      case rel => exact ⟨k', by omega, unhide HJ1⟩
      case measure => rw [← unhide HME]; exact Nat.lt_of_le_of_lt (least_le J _ k' (by omega) (unhide HJ1)) hk'

end Go.Proofs.YtdcinlkkjbclmabGreat
