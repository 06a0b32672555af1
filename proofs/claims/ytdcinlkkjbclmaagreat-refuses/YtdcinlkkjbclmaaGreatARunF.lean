/- The steps of a volume that carries out a Flush. -/
import Derived.Test.YtdcinlkkjbclmaaGreatATurn
namespace Go.Proofs.YtdcinlkkjbclmaaGreat
open Go.RowKit

theorem at_fls (tb : Nat) (w : World) : (binOp .eql 113 (.iface 210 (.pointer (some ⟨tb, 0, none⟩))) .nilIface).run Tryz.prog w = .ok (.bool false) w := by kernel_rfl
/-- one turn of run -/
def RunTurnF (vb : Nat) (J : Nat → World → Prop) (R : World → Prop) (k : Nat) (w : World) : Prop :=
  (∃ A O, Vol w vb A O ∧ Idle A ∧ R w) ∨
  (∃ A O tb k', k' < k ∧ Vol w vb A O ∧ Busy A ∧ A.at' = flsV tb ∧ Calls Tryz.prog 158 #[.pointer (some ⟨tb, 0, none⟩)] w fun e w' => e = .returned (.bool true) ∧ J k' w') ∨
  (∃ A O tb k', k' < k ∧ Vol w vb A O ∧ Busy A ∧ A.at' = flsV tb ∧ (Calls Tryz.prog 158 #[.pointer (some ⟨tb, 0, none⟩)] w fun e w' => e = .returned (.bool false) ∧ w' = w) ∧ J k' (w.setCell ⟨vb, 3, none⟩ .nilIface)) ∨
  (∃ A O k', k' < k ∧ Vol w vb A O ∧ Busy A ∧ A.at' = .nilIface ∧ A.reqs ≠ [] ∧ Calls Tryz.prog 100 #[.pointer (some ⟨vb, 0, none⟩)] w fun e w' => ∃ v, e = .returned v ∧ Calls Tryz.prog 71 #[.pointer (some ⟨vb, 0, none⟩), v] w' fun e w'' => e = .returned (.tuple #[]) ∧ J k' w'')
set_option maxRecDepth 100000 in
set_option maxHeartbeats 8000000 in
theorem run_byF (vb : Nat) (J : Nat → World → Prop) (R : World → Prop) (hJ : ∀ k w, J k w → RunTurnF vb J R k w) (k : Nat) (hk : k ≤ 3) (w : World) (h : J k w) :
    Calls Tryz.prog 78 #[.pointer (some ⟨vb, 0, none⟩)] w fun e w' => e = .returned (.tuple #[]) ∧ R w' := by
  have HJ := hide hJ
  have H0 := hide h
  clear hJ h
  go_enter Tryz.func78, Tryz.ntmps78
  go_wp2
  go_loopw [] (fun wr => ∃ k, k ≤ 3 ∧ J k wr) (fun wr => (@ite _ (J 0 wr) (Classical.propDecidable _) 0 (@ite _ (J 1 wr) (Classical.propDecidable _) 1 (@ite _ (J 2 wr) (Classical.propDecidable _) 2 3))))
  case atStart => exact ⟨k, hk, unhide H0⟩
  case round =>
    clear H0 hk
    obtain ⟨k, hk, hJk⟩ := hrel
    obtain ⟨m, hm, hJm, hme⟩ := least_of J wr k hk hJk
    have HME := hide hme
    clear hJk hk hme
    rcases unhide HJ m wr hJm with ⟨A, O, h, hi, hR⟩ | ⟨A, O, tb, k', hk', h, hbu, ha, hc⟩ | ⟨A, O, tb, k', hk', h, hbu, ha, hc, hj'⟩ | ⟨A, O, k', hk', h, hbu, ha, hr, hc⟩
    · clear hJm
      have HR := hide hR
      clear hR
      obtain ⟨G, hG, _⟩ := id h
      have c2 : wr.cell? ⟨vb, 2, none⟩ = some (.int .i64 A.state) := hG.blk.cell 2
      have c3 : wr.cell? ⟨vb, 3, none⟩ = some A.at' := hG.blk.cell 3
      have c6 : wr.cell? ⟨vb, 4 + 2, none⟩ = some (.int .i64 (A.wait.length : Int)) := hG.blk.cell 6
      have c7 : wr.cell? ⟨vb, 7, none⟩ = some (.map (some G.mb)) := hG.blk.cell 7
      have c11 : wr.cell? ⟨vb, 9 + 2, none⟩ = some (.int .i64 (A.reqs.length : Int)) := hG.blk.cell 11
      have c18 : wr.cell? ⟨vb, 16 + 2, none⟩ = some (.int .i64 0) := hG.blk.cell 18
      have hlen := fun ty => run_len_told (P := Tryz.prog) told_under hG.map ty
      have hnil := at_nil
      clear h hG
      rcases hi with hs | ⟨hs, hw⟩ | ⟨hs, hw, ht⟩ | ⟨hs, hw, ht, ha, hr⟩
      · rw [hs] at c2
        clear c3 c6 c7 c11 c18 hlen hnil
        go_wp2
        refine bodyPost_end (results_none rfl _ _ _) rfl ⟨rfl, unhide HR⟩
      · have hb1 : (A.state != 2) = true := by simpa using hs
        have hn : ¬ A.wait.length = 0 := fun e => hw (List.length_eq_zero_iff.1 e)
        have hb2 : ((A.wait.length : Int) == 0) = false := by simpa using hw
        clear hs hw c3 c7 c11 c18 hlen hnil
        generalize A.wait.length = n at *
        generalize A.state = st at *
        go_wp2_with (first | (go_at_call 98; refine (lenC_any vb 4 _ _ c6).mono ?_; rintro e w1 ⟨rfl, rfl⟩) | (go_at_call 76; refine (lenR_any vb 9 _ _ c11).mono ?_; rintro e w1 ⟨rfl, rfl⟩) | (go_at_call 99; refine (lenF_any vb 16 _ _ c18).mono ?_; rintro e w1 ⟨rfl, rfl⟩))
        refine bodyPost_end (results_none rfl _ _ _) rfl ⟨rfl, unhide HR⟩
      · have hb1 : (A.state != 2) = true := by simpa using hs
        have hn : ¬ A.told.length = 0 := fun e => ht (List.length_eq_zero_iff.1 e)
        have hb2 : ((A.told.length : Int) == 0) = false := by simpa using ht
        rw [hw] at c6
        clear hs hw ht c3 c11 c18 hnil
        generalize A.told.length = n at *
        generalize A.state = st at *
        go_wp2_with (first | (go_at_call 98; refine (lenC_any vb 4 _ _ c6).mono ?_; rintro e w1 ⟨rfl, rfl⟩) | (go_at_call 76; refine (lenR_any vb 9 _ _ c11).mono ?_; rintro e w1 ⟨rfl, rfl⟩) | (go_at_call 99; refine (lenF_any vb 16 _ _ c18).mono ?_; rintro e w1 ⟨rfl, rfl⟩))
        refine bodyPost_end (results_none rfl _ _ _) rfl ⟨rfl, unhide HR⟩
      · have hb1 : (A.state != 2) = true := by simpa using hs
        rw [hw] at c6
        rw [ht] at hlen
        rw [ha] at c3
        rw [hr] at c11
        clear hs hw ht ha hr
        generalize A.state = st at *
        go_wp2_with (first | (go_at_call 98; refine (lenC_any vb 4 _ _ c6).mono ?_; rintro e w1 ⟨rfl, rfl⟩) | (go_at_call 76; refine (lenR_any vb 9 _ _ c11).mono ?_; rintro e w1 ⟨rfl, rfl⟩) | (go_at_call 99; refine (lenF_any vb 16 _ _ c18).mono ?_; rintro e w1 ⟨rfl, rfl⟩))
        refine bodyPost_ret (results_none rfl _ _ _) rfl ⟨rfl, unhide HR⟩
    · obtain ⟨G, hG, _⟩ := id h
      have c2 : wr.cell? ⟨vb, 2, none⟩ = some (.int .i64 A.state) := hG.blk.cell 2
      have c3 : wr.cell? ⟨vb, 3, none⟩ = some A.at' := hG.blk.cell 3
      have c6 : wr.cell? ⟨vb, 4 + 2, none⟩ = some (.int .i64 (A.wait.length : Int)) := hG.blk.cell 6
      have c7 : wr.cell? ⟨vb, 7, none⟩ = some (.map (some G.mb)) := hG.blk.cell 7
      have c11 : wr.cell? ⟨vb, 9 + 2, none⟩ = some (.int .i64 (A.reqs.length : Int)) := hG.blk.cell 11
      have c18 : wr.cell? ⟨vb, 16 + 2, none⟩ = some (.int .i64 0) := hG.blk.cell 18
      have f3 := hG.blk.free 3
      have hlen := fun ty => run_len_told (P := Tryz.prog) told_under hG.map ty
      obtain ⟨hs, hw, ht⟩ := hbu
      have hb1 : (A.state != 2) = true := by simpa using hs
      rw [hw] at c6
      rw [ht] at hlen
      rw [ha] at c3
      have HC := hide hc
      have hopn := at_fls tb
      have hgo := inv_goOn_f tb
      unfold flsV at c3
      clear hs hw ht ha h hG hc hJm c11 c18 f3
      generalize A.state = st at *
      go_wp2_with (first | (go_at_call 98; refine (lenC_any vb 4 _ _ c6).mono ?_; rintro e w1 ⟨rfl, rfl⟩) | (go_at_call 158; refine (unhide HC).mono ?_; rintro e w1 ⟨rfl, hj⟩; have HJ1 := hide hj; clear hj HC))
      go_roundw
      case rel => exact ⟨k', by omega, unhide HJ1⟩
      case measure => rw [← unhide HME]; exact Nat.lt_of_le_of_lt (least_le J _ k' (by omega) (unhide HJ1)) hk'
    · obtain ⟨G, hG, _⟩ := id h
      have c2 : wr.cell? ⟨vb, 2, none⟩ = some (.int .i64 A.state) := hG.blk.cell 2
      have c3 : wr.cell? ⟨vb, 3, none⟩ = some A.at' := hG.blk.cell 3
      have c6 : wr.cell? ⟨vb, 4 + 2, none⟩ = some (.int .i64 (A.wait.length : Int)) := hG.blk.cell 6
      have c7 : wr.cell? ⟨vb, 7, none⟩ = some (.map (some G.mb)) := hG.blk.cell 7
      have c11 : wr.cell? ⟨vb, 9 + 2, none⟩ = some (.int .i64 (A.reqs.length : Int)) := hG.blk.cell 11
      have c18 : wr.cell? ⟨vb, 16 + 2, none⟩ = some (.int .i64 0) := hG.blk.cell 18
      have f3 := hG.blk.free 3
      have hlen := fun ty => run_len_told (P := Tryz.prog) told_under hG.map ty
      obtain ⟨hs, hw, ht⟩ := hbu
      have hb1 : (A.state != 2) = true := by simpa using hs
      rw [hw] at c6
      rw [ht] at hlen
      rw [ha] at c3
      have HC := hide hc
      have hopn := at_fls tb
      have hgo := inv_goOn_f tb
      have HJ1 := hide hj'
      unfold flsV at c3
      clear hs hw ht ha h hG hc hJm hj' c11 c18
      generalize A.state = st at *
      go_wp2_with (first | (go_at_call 98; refine (lenC_any vb 4 _ _ c6).mono ?_; rintro e w1 ⟨rfl, rfl⟩) | (go_at_call 158; refine (unhide HC).mono ?_; rintro e w1 ⟨rfl, rfl⟩; clear HC))
      go_roundw
      case rel => exact ⟨k', by omega, unhide HJ1⟩
      case measure => rw [← unhide HME]; exact Nat.lt_of_le_of_lt (least_le J _ k' (by omega) (unhide HJ1)) hk'
    · obtain ⟨G, hG, _⟩ := id h
      have c2 : wr.cell? ⟨vb, 2, none⟩ = some (.int .i64 A.state) := hG.blk.cell 2
      have c3 : wr.cell? ⟨vb, 3, none⟩ = some A.at' := hG.blk.cell 3
      have c6 : wr.cell? ⟨vb, 4 + 2, none⟩ = some (.int .i64 (A.wait.length : Int)) := hG.blk.cell 6
      have c7 : wr.cell? ⟨vb, 7, none⟩ = some (.map (some G.mb)) := hG.blk.cell 7
      have c11 : wr.cell? ⟨vb, 9 + 2, none⟩ = some (.int .i64 (A.reqs.length : Int)) := hG.blk.cell 11
      have c18 : wr.cell? ⟨vb, 16 + 2, none⟩ = some (.int .i64 0) := hG.blk.cell 18
      have f3 := hG.blk.free 3
      have hlen := fun ty => run_len_told (P := Tryz.prog) told_under hG.map ty
      obtain ⟨hs, hw, ht⟩ := hbu
      have hb1 : (A.state != 2) = true := by simpa using hs
      rw [hw] at c6
      rw [ht] at hlen
      rw [ha] at c3
      have HC := hide hc
      have hnil := at_nil
      have hn : ¬ A.reqs.length = 0 := fun e => hr (List.length_eq_zero_iff.1 e)
      have hb2 : ((A.reqs.length : Int) == 0) = false := by simpa using hr
      clear hs hw ht ha h hG hc hJm hr f3
      generalize A.reqs.length = n at *
      generalize A.state = st at *
      go_wp2_with (first | (go_at_call 98; refine (lenC_any vb 4 _ _ c6).mono ?_; rintro e w1 ⟨rfl, rfl⟩) | (go_at_call 76; refine (lenR_any vb 9 _ _ c11).mono ?_; rintro e w1 ⟨rfl, rfl⟩) | (go_at_call 100; refine (unhide HC).mono ?_; rintro e w1 ⟨v, rfl, hst⟩; have HS := hide hst; clear hst HC c2 c3 c6 c7 c11 c18 hlen) | (go_at_call 71; refine (unhide HS).mono ?_; rintro e w2 ⟨rfl, hj⟩; have HJ1 := hide hj; clear hj HS))
      go_roundw
      case rel => exact ⟨k', by omega, unhide HJ1⟩
      case measure => rw [← unhide HME]; exact Nat.lt_of_le_of_lt (least_le J _ k' (by omega) (unhide HJ1)) hk'


end Go.Proofs.YtdcinlkkjbclmaaGreat
