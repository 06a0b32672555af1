/- Requests of one kind: those that may be are taken, the others are refused. -/
import Derived.Test.YtdcinlkkjbclmaaGreatLRefB
namespace Go.Proofs.YtdcinlkkjbclmaaGreat
open Go.RowKit

set_option maxRecDepth 100000 in
set_option maxHeartbeats 16000000 in
theorem refuse_k3 (D S : Nat) (n disk id : Int) (da : Option Addr) (dn dc : Nat) (cs : List Value) (W : World) (hD4 : 4 ≤ D) (hD : D ≤ 8) (hS1 : 1 ≤ S) (hS : S ≤ 6) (hd1 : -9223372036854775808 ≤ id) (hd2 : id ≤ 9223372036854775807) (hdl : cs.length = dn) (hdn : dn ≤ maxLen) (hdo : ∀ v ∈ cs, v.oneCell' = true) (hda : ∀ j v, cs[j]? = some v → ∃ g o, da = some ⟨g, o, none⟩ ∧ W.cell? ⟨g, o + j, none⟩ = some v) :
    Calls Tryz.prog 8 #[.int .i64 (D : Int), .int .i64 (S : Int), .agg #[.int .i64 3, .int .i64 n, .slice da dn dc], .int .i64 disk, .int .i64 id] W fun e W' => e = .returned (.bool true) ∧ Below W.heap.size W W' := by
  have hb0 := (Below.refl W.heap.size W).alloc (Nat.le_refl _) (.cells #[.int .i64 3, .int .i64 n, .slice da dn dc] 38)
  have hk0 := Blk.new W #[.int .i64 3, .int .i64 n, .slice da dn dc] 38
  have HOP := hide (platOpen_any D S true (W.alloc (.cells #[.int .i64 3, .int .i64 n, .slice da dn dc] 38)) hD4 hD hS1 hS)
  have HB0 := hide hb0
  have HK0 := hide hk0
  have HS0 : Hid ((W.alloc (.cells #[.int .i64 3, .int .i64 n, .slice da dn dc] 38)).heap.size = W.heap.size + 1) := by show _ = _; simp
  have HDA := hide hda
  have HDO := hide hdo
  have HDL := hide hdl
  have i4 : (4 : Int) ≤ (D : Int) := by omega
  have i8 : (D : Int) ≤ 8 := by omega
  have i1 : (1 : Int) ≤ (S : Int) := by omega
  have i6 : (S : Int) ≤ 6 := by omega
  have idn : (dn : Int) ≤ 9223372036854775807 := by unfold maxLen at hdn; omega
  clear hb0 hk0 hda hdo hdl
  obtain ⟨nb, hnb, hnb1⟩ : ∃ n : Nat, (n : Int) = (S : Int) * ((D : Int) - 2) ∧ n ≤ 100 := by
    obtain ⟨d2, hd2⟩ : ∃ d2 : Nat, D = d2 + 2 := ⟨D - 2, by omega⟩
    refine ⟨S * d2, ?_, ?_⟩
    · rw [hd2]; push_cast; congr 1; omega
    · exact Nat.le_trans (Nat.mul_le_mul hS (show d2 ≤ 6 by omega)) (by decide)
  have hmul : (S : Int) * ((D : Int) - 2) = (nb : Int) := hnb.symm
  have inb : (nb : Int) ≤ 100 := by omega
  have HNB := hide hnb
  have hws : IntKind.i64.wrap ((D : Int) - 2) = (D : Int) - 2 := Go.IntWalk.i64_in _ (by omega)
  have hwm : IntKind.i64.wrap ((S : Int) * ((D : Int) - 2)) = (nb : Int) := by rw [hmul]; exact Go.IntWalk.i64_in _ (by omega)
  clear hnb
  go_enter Tryz.func8, Tryz.ntmps8
  go_wp2_with fail
  refine (unhide HOP).mono ?_
  rintro e w1 ⟨pb0, vb0, tb0, hb0, A0, O0, nx0, wq, rfl, hop, hw1, hpb0⟩
  have hn1 : Below (W.heap.size + 1) (W.alloc (.cells #[.int .i64 3, .int .i64 n, .slice da dn dc] 38)) w1 := by
    rw [hw1, ← unhide HS0]
    exact hop.new.alloc hop.new.size _
  have HB1 : Hid (Below W.heap.size W w1) := (unhide HB0).trans (hn1.mono (by omega))
  have HK1 := hide ((unhide HK0).below hn1 (by omega))
  have HS1 : Hid (W.heap.size + 1 ≤ w1.heap.size) := by have := hn1.size; rw [unhide HS0] at this; exact this
  have HBE := hide (lawBegun_any D S w1 hD4 hD hS1 hS)
  clear hop hw1 hpb0 hn1 HOP HB0 HK0
  go_wp2_with fail
  refine (unhide HBE).mono ?_
  rintro e w2 ⟨wb, vb, tb, hb, db, rfl, hph⟩
  have HQU := hide (quiet_any w1 wb D S vb tb hb db id disk hD4 hD hS hd1 hd2 w2 hph)
  clear hph HBE
  go_wp2_with fail
  refine (unhide HQU).mono ?_
  rintro e w3 ⟨rfl, X, us, kk, cus, ckk, F, lc, O, hst, eD, henv⟩
  have hk3 := (unhide HK1).below henv.bel (by have := unhide HS1; omega)
  have r0 : w3.cell? ⟨W.heap.size, 0, none⟩ = some (.int .i64 3) := hk3.cell 0
  have r1 : w3.cell? ⟨W.heap.size, 1, none⟩ = some (.int .i64 n) := hk3.cell 1
  have r2 : w3.cell? ⟨W.heap.size, 2, none⟩ = some (.slice da dn dc) := hk3.cell 2
  have HST := hide hst
  have HEN := hide henv
  have HK3 := hide hk3
  clear hst henv eD HQU hk3
  go_upto_region 13 with fail
  go_cut [18] (fun g wx => g = .bool (decide (n = 0 ∧ dn = 0)) ∧ wx = w3)
  case first =>
    by_cases h2 : n = 0
    · skip
      have b2 : (n == 0) = true := by rw [h2]; rfl
      have H2 := hide h2
      clear h2
      by_cases h4 : dn = 0
      · skip
        have b4 : ((dn : Int) == 0) = true := by rw [h4]; rfl
        have b5 : (dn == 0) = true := by rw [h4]; rfl
        have H4 := hide h4
        clear h4
        go_wp2
        go_meet
        case rel => exact ⟨congrArg Value.bool (decide_eq_true ⟨unhide H2, unhide H4⟩).symm, rfl⟩
      · skip
        have b4 : ((dn : Int) == 0) = false := beq_eq_false_iff_ne.2 (by omega)
        have b5 : (dn == 0) = false := beq_eq_false_iff_ne.2 h4
        have H4 := hide h4
        clear h4
        go_wp2
        go_meet
        case rel => exact ⟨congrArg Value.bool (decide_eq_false (fun h => by have h0 := h.2; have h9 := unhide H4; omega)).symm, rfl⟩
    · skip
      have b2 : (n == 0) = false := beq_eq_false_iff_ne.2 h2
      have H2 := hide h2
      clear h2
      go_wp2
      go_meet
      case rel => exact ⟨congrArg Value.bool (decide_eq_false (fun h => by have h0 := h.1; have h9 := unhide H2; omega)).symm, rfl⟩
  case rest =>
    obtain ⟨rfl, hwx⟩ := hcut
    obtain rfl := hwx
    obtain ⟨w3, hw3⟩ : ∃ w3, w3 = wc := ⟨_, rfl⟩
    subst hw3
    have hmay : mayB (readyA D S tb lc) 3 n dn = decide (n = 0 ∧ dn = 0) := may_of _ _ _ _ (by show _ ↔ (0 ≤ n ∧ n < mayN (readyA D S tb lc) 3 ∧ dn = mayD 3); rw [may_n3 D S tb lc nb (unhide HNB)]; unfold mayD; simp <;> omega)
    obtain ⟨g1, hg1⟩ : ∃ g1, g1 = decide (n = 0 ∧ dn = 0) := ⟨_, rfl⟩
    rw [← hg1] at hmay ⊢
    clear hg1
    cases g1
    · skip
      have hpR : X.pb ∉ O := (unhide HST).ro _ (Or.inr (Or.inr (Or.inr (Or.inr (Or.inr (Or.inr rfl))))))
      have hwO : wb ∉ O := (unhide HST).lo wb (Or.inl rfl)
      have hOn : ∀ b ∈ O, w1.heap.size ≤ b := fun b hb' => (unhide HEN).all b (Or.inr (Or.inr hb'))
      have hdw : ∀ j v, cs[j]? = some v → ∃ g o, da = some ⟨g, o, none⟩ ∧ w3.drew.cell? ⟨g, o + j, none⟩ = some v ∧ g ∉ O := fun j v hj => by
        obtain ⟨g, o, e, hc⟩ := unhide HDA j v hj
        have hgl : g < W.heap.size := block_lt_of_cell hc
        have hs1 := unhide HS1
        refine ⟨g, o, e, ?_, fun ho => by have := hOn g ho; omega⟩
        have h1 := ((unhide HB1).cell (p := ⟨g, o + j, none⟩) hgl).trans hc
        exact ((unhide HEN).bel.cell (p := ⟨g, o + j, none⟩) (show g < w1.heap.size by omega)).trans h1
      have HSUB : Hid (Calls Tryz.prog 17 #[.pointer (some ⟨X.pb, 0, none⟩), .agg #[.int .i64 3, .int .i64 n, .slice da dn dc]] w3.drew fun e w' => e = .returned (.tuple #[.int .i64 0, .int .i64 1]) ∧ Went w3.drew w' O vb D) := by
        have hv3 : Vol w3.drew vb (readyA D S tb lc) O := (unhide HST).vol.chg (X := fun _ => False) (Chg.refl _ _).drew (fun _ _ h => h)
        have hp3 : w3.drew.cell? ⟨X.pb, 0, none⟩ = some (.pointer (some ⟨vb, 0, none⟩)) := (unhide HST).rs.pv.cell 0
        first
          | exact sub_yes D S tb lc X.pb vb O 3 n da dn dc cs w3.drew hD4 hD hS hv3 hp3 hpR hmay (unhide HDL) (unhide HDO) hdw
          | exact sub_no D S tb lc X.pb vb O 3 n da dn dc w3.drew hD4 hD hS hv3 hp3 hpR hmay
      have hOw : ∀ b ∈ O, W.heap.size < b := fun b hb' => by have := hOn b hb'; have := unhide HS1; omega
      have HOW := hide hOw
      have HON := hide hOn
      clear hdw hmay hOn hOw
      have t6 : w3.drew.cell? ⟨wb, 6, none⟩ = some (.pointer (some ⟨X.pb, 0, none⟩)) := (unhide HST).lw.blk.cell 6
      have t0 : w3.drew.cell? ⟨W.heap.size, 0, none⟩ = some (.int .i64 3) := r0
      have t1 : w3.drew.cell? ⟨W.heap.size, 1, none⟩ = some (.int .i64 n) := r1
      have t2 : w3.drew.cell? ⟨W.heap.size, 2, none⟩ = some (.slice da dn dc) := r2
      have hwl3 : wb < w3.heap.size := (unhide HST).lw.blk.lt
      have hrl3 : W.heap.size < w3.heap.size := (unhide HK3).lt
      have hrO : W.heap.size ∉ O := fun ho => by have := unhide HOW _ ho; omega
      go_wp2_with fail
      go_region_held3 (fun w' => w'.cell? ⟨wb, 6, none⟩ = some (.pointer (some ⟨X.pb, 0, none⟩)) ∧ w'.cell? ⟨W.heap.size, 0, none⟩ = some (.int .i64 3) ∧ w'.cell? ⟨W.heap.size, 1, none⟩ = some (.int .i64 n) ∧ w'.cell? ⟨W.heap.size, 2, none⟩ = some (.slice da dn dc)) (first | exact ⟨t6, t0, t1, t2⟩ | exact ⟨q6, q0, q1, q2⟩)
        (first | (go_at_call 17; refine (unhide HSUB).mono ?_; rintro e w4 ⟨rfl, hwent⟩; have hcw : Chg (fun b => b ∈ O) w3.drew w4 := went_chg hwent; have q6 : w4.cell? ⟨wb, 6, none⟩ = some (.pointer (some ⟨X.pb, 0, none⟩)) := (World.cell?_of_block (a := ⟨wb, 6, none⟩) (hcw.block wb (by exact hwl3) hwO)).trans t6; have q0 : w4.cell? ⟨W.heap.size, 0, none⟩ = some (.int .i64 3) := (World.cell?_of_block (a := ⟨W.heap.size, 0, none⟩) (hcw.block W.heap.size (by exact hrl3) hrO)).trans t0; have q1 : w4.cell? ⟨W.heap.size, 1, none⟩ = some (.int .i64 n) := (World.cell?_of_block (a := ⟨W.heap.size, 1, none⟩) (hcw.block W.heap.size (by exact hrl3) hrO)).trans t1; have q2 : w4.cell? ⟨W.heap.size, 2, none⟩ = some (.slice da dn dc) := (World.cell?_of_block (a := ⟨W.heap.size, 2, none⟩) (hcw.block W.heap.size (by exact hrl3) hrO)).trans t2; have HWE := hide hwent; clear hwent hcw))
      clear t6 t0 t1 t2 q0 q1 q2 r0 r1 r2 HSUB
      obtain ⟨A4, O4, v4, es4, et4, c4⟩ := unhide HWE
      have hpb4 : Blk w4 X.pb #[.pointer (some ⟨vb, 0, none⟩)] 81 := (unhide HST).rs.pv.drew.chg c4 hpR
      have hs4 : ∀ j, A4.stand.getD j 0 = 0 := fun j => by rw [es4]; exact getD_rep D j
      have hlen4 : A4.stand.length = D := by rw [es4]; exact List.length_replicate
      have HDN : Hid (Calls Tryz.prog 18 #[.pointer (some ⟨X.pb, 0, none⟩), .int .i64 id, .bool true, .slice none 0 0] w4 fun e w' => e = .returned (.int .i64 1) ∧ Below w4.heap.size w4 w') := wrapDone X.pb vb id true (.slice none 0 0) 1 _ w4 (hpb4.cell 0) (done_none vb A4 O4 id true (.slice none 0 0) w4 v4 (by rw [et4]; rfl))
      have HB4 : Hid (Below W.heap.size W w4) := (unhide HB1).trans (((unhide HEN).bel.mono (by have := unhide HS1; omega)).trans ((Below.refl W.heap.size w3).drew.trans (c4.below W.heap.size (by show W.heap.size ≤ w3.heap.size; omega) (fun b hb' ho => by have := unhide HOW b ho; omega))))
      have hwl4 : wb < w4.heap.size := block_lt_of_cell q6
      have HV4 := hide v4
      have HPB4 := hide hpb4
      have HS4 := hide hs4
      have HL4 := hide hlen4
      clear v4 es4 et4 c4 hpb4 hs4 hlen4
      go_wp2_with fail
      refine (unhide HDN).mono ?_
      rintro e w5 ⟨rfl, hb5⟩
      have q65 : w5.cell? ⟨wb, 6, none⟩ = some (.pointer (some ⟨X.pb, 0, none⟩)) := (hb5.cell (p := ⟨wb, 6, none⟩) hwl4).trans q6
      have hpb5 := (unhide HPB4).below hb5 (unhide HPB4).lt
      have hv5 := (unhide HV4).new hb5
      have HRP := hide (wrapReplace X.pb vb A4 O4 disk w5 (hpb5.cell 0) hv5 (unhide HS4))
      have HMB0 := wrapMember X.pb vb A4 O4 disk w5 (hpb5.cell 0) hv5 (unhide HS4)
      rw [unhide HL4] at HMB0
      have HMB := hide HMB0
      have HB5 : Hid (Below W.heap.size W w5) := (unhide HB4).trans (hb5.mono (unhide HB4).size)
      clear hb5 hpb5 hv5 HDN HMB0 q6
      go_wp2_with fail
      refine (unhide HRP).mono ?_
      rintro e wx ⟨rfl, hwx⟩
      obtain rfl := hwx
      clear HRP
      by_cases hi1 : 0 ≤ disk
      · by_cases hi2 : disk < (D : Int)
        · rw [if_pos ⟨hi1, hi2⟩] at HMB
          go_wp2_with fail
          refine (unhide HMB).mono ?_
          rintro e wy ⟨rfl, hwy⟩
          obtain rfl := hwy
          clear HMB
          go_wp2
          go_ret
          exact ⟨rfl, unhide HB5⟩
        · rw [if_neg (fun h => hi2 h.2)] at HMB
          have bi2 : decide (disk < (D : Int)) = false := decide_eq_false hi2
          go_wp2_with fail
          refine (unhide HMB).mono ?_
          rintro e wy ⟨rfl, hwy⟩
          obtain rfl := hwy
          clear HMB
          go_wp2
          go_ret
          exact ⟨rfl, unhide HB5⟩
      · rw [if_neg (fun h => hi1 h.1)] at HMB
        have bi1 : decide (0 ≤ disk) = false := decide_eq_false hi1
        go_wp2_with fail
        refine (unhide HMB).mono ?_
        rintro e wy ⟨rfl, hwy⟩
        obtain rfl := hwy
        clear HMB
        go_wp2
        go_ret
        exact ⟨rfl, unhide HB5⟩
    · skip
      have hpR : X.pb ∉ O := (unhide HST).ro _ (Or.inr (Or.inr (Or.inr (Or.inr (Or.inr (Or.inr rfl))))))
      have hwO : wb ∉ O := (unhide HST).lo wb (Or.inl rfl)
      have hOn : ∀ b ∈ O, w1.heap.size ≤ b := fun b hb' => (unhide HEN).all b (Or.inr (Or.inr hb'))
      have hdw : ∀ j v, cs[j]? = some v → ∃ g o, da = some ⟨g, o, none⟩ ∧ w3.drew.cell? ⟨g, o + j, none⟩ = some v ∧ g ∉ O := fun j v hj => by
        obtain ⟨g, o, e, hc⟩ := unhide HDA j v hj
        have hgl : g < W.heap.size := block_lt_of_cell hc
        have hs1 := unhide HS1
        refine ⟨g, o, e, ?_, fun ho => by have := hOn g ho; omega⟩
        have h1 := ((unhide HB1).cell (p := ⟨g, o + j, none⟩) hgl).trans hc
        exact ((unhide HEN).bel.cell (p := ⟨g, o + j, none⟩) (show g < w1.heap.size by omega)).trans h1
      have HSUB : Hid (Calls Tryz.prog 17 #[.pointer (some ⟨X.pb, 0, none⟩), .agg #[.int .i64 3, .int .i64 n, .slice da dn dc]] w3.drew fun e w' => e = .returned (.tuple #[.int .i64 1, .int .i64 0]) ∧ Went w3.drew w' O vb D) := by
        have hv3 : Vol w3.drew vb (readyA D S tb lc) O := (unhide HST).vol.chg (X := fun _ => False) (Chg.refl _ _).drew (fun _ _ h => h)
        have hp3 : w3.drew.cell? ⟨X.pb, 0, none⟩ = some (.pointer (some ⟨vb, 0, none⟩)) := (unhide HST).rs.pv.cell 0
        first
          | exact sub_yes D S tb lc X.pb vb O 3 n da dn dc cs w3.drew hD4 hD hS hv3 hp3 hpR hmay (unhide HDL) (unhide HDO) hdw
          | exact sub_no D S tb lc X.pb vb O 3 n da dn dc w3.drew hD4 hD hS hv3 hp3 hpR hmay
      have hOw : ∀ b ∈ O, W.heap.size < b := fun b hb' => by have := hOn b hb'; have := unhide HS1; omega
      have HOW := hide hOw
      have HON := hide hOn
      clear hdw hmay hOn hOw
      have t6 : w3.drew.cell? ⟨wb, 6, none⟩ = some (.pointer (some ⟨X.pb, 0, none⟩)) := (unhide HST).lw.blk.cell 6
      have t0 : w3.drew.cell? ⟨W.heap.size, 0, none⟩ = some (.int .i64 3) := r0
      have t1 : w3.drew.cell? ⟨W.heap.size, 1, none⟩ = some (.int .i64 n) := r1
      have t2 : w3.drew.cell? ⟨W.heap.size, 2, none⟩ = some (.slice da dn dc) := r2
      have hwl3 : wb < w3.heap.size := (unhide HST).lw.blk.lt
      have hrl3 : W.heap.size < w3.heap.size := (unhide HK3).lt
      have hrO : W.heap.size ∉ O := fun ho => by have := unhide HOW _ ho; omega
      go_wp2_with fail
      go_region_held3 (fun w' => w'.cell? ⟨wb, 6, none⟩ = some (.pointer (some ⟨X.pb, 0, none⟩)) ∧ w'.cell? ⟨W.heap.size, 0, none⟩ = some (.int .i64 3) ∧ w'.cell? ⟨W.heap.size, 1, none⟩ = some (.int .i64 n) ∧ w'.cell? ⟨W.heap.size, 2, none⟩ = some (.slice da dn dc)) (first | exact ⟨t6, t0, t1, t2⟩ | exact ⟨q6, q0, q1, q2⟩)
        (first | (go_at_call 17; refine (unhide HSUB).mono ?_; rintro e w4 ⟨rfl, hwent⟩; have hcw : Chg (fun b => b ∈ O) w3.drew w4 := went_chg hwent; have q6 : w4.cell? ⟨wb, 6, none⟩ = some (.pointer (some ⟨X.pb, 0, none⟩)) := (World.cell?_of_block (a := ⟨wb, 6, none⟩) (hcw.block wb (by exact hwl3) hwO)).trans t6; have q0 : w4.cell? ⟨W.heap.size, 0, none⟩ = some (.int .i64 3) := (World.cell?_of_block (a := ⟨W.heap.size, 0, none⟩) (hcw.block W.heap.size (by exact hrl3) hrO)).trans t0; have q1 : w4.cell? ⟨W.heap.size, 1, none⟩ = some (.int .i64 n) := (World.cell?_of_block (a := ⟨W.heap.size, 1, none⟩) (hcw.block W.heap.size (by exact hrl3) hrO)).trans t1; have q2 : w4.cell? ⟨W.heap.size, 2, none⟩ = some (.slice da dn dc) := (World.cell?_of_block (a := ⟨W.heap.size, 2, none⟩) (hcw.block W.heap.size (by exact hrl3) hrO)).trans t2; have HWE := hide hwent; clear hwent hcw))
      clear t6 t0 t1 t2 q0 q1 q2 r0 r1 r2 HSUB
      obtain ⟨A4, O4, v4, es4, et4, c4⟩ := unhide HWE
      have hpb4 : Blk w4 X.pb #[.pointer (some ⟨vb, 0, none⟩)] 81 := (unhide HST).rs.pv.drew.chg c4 hpR
      have hs4 : ∀ j, A4.stand.getD j 0 = 0 := fun j => by rw [es4]; exact getD_rep D j
      have hlen4 : A4.stand.length = D := by rw [es4]; exact List.length_replicate
      have HDN : Hid (Calls Tryz.prog 18 #[.pointer (some ⟨X.pb, 0, none⟩), .int .i64 id, .bool true, .slice none 0 0] w4 fun e w' => e = .returned (.int .i64 1) ∧ Below w4.heap.size w4 w') := wrapDone X.pb vb id true (.slice none 0 0) 1 _ w4 (hpb4.cell 0) (done_none vb A4 O4 id true (.slice none 0 0) w4 v4 (by rw [et4]; rfl))
      have HB4 : Hid (Below W.heap.size W w4) := (unhide HB1).trans (((unhide HEN).bel.mono (by have := unhide HS1; omega)).trans ((Below.refl W.heap.size w3).drew.trans (c4.below W.heap.size (by show W.heap.size ≤ w3.heap.size; omega) (fun b hb' ho => by have := unhide HOW b ho; omega))))
      have hwl4 : wb < w4.heap.size := block_lt_of_cell q6
      have HV4 := hide v4
      have HPB4 := hide hpb4
      have HS4 := hide hs4
      have HL4 := hide hlen4
      clear v4 es4 et4 c4 hpb4 hs4 hlen4
      go_wp2_with fail
      refine (unhide HDN).mono ?_
      rintro e w5 ⟨rfl, hb5⟩
      have q65 : w5.cell? ⟨wb, 6, none⟩ = some (.pointer (some ⟨X.pb, 0, none⟩)) := (hb5.cell (p := ⟨wb, 6, none⟩) hwl4).trans q6
      have hpb5 := (unhide HPB4).below hb5 (unhide HPB4).lt
      have hv5 := (unhide HV4).new hb5
      have HRP := hide (wrapReplace X.pb vb A4 O4 disk w5 (hpb5.cell 0) hv5 (unhide HS4))
      have HMB0 := wrapMember X.pb vb A4 O4 disk w5 (hpb5.cell 0) hv5 (unhide HS4)
      rw [unhide HL4] at HMB0
      have HMB := hide HMB0
      have HB5 : Hid (Below W.heap.size W w5) := (unhide HB4).trans (hb5.mono (unhide HB4).size)
      clear hb5 hpb5 hv5 HDN HMB0 q6
      go_wp2_with fail
      refine (unhide HRP).mono ?_
      rintro e wx ⟨rfl, hwx⟩
      obtain rfl := hwx
      clear HRP
      by_cases hi1 : 0 ≤ disk
      · by_cases hi2 : disk < (D : Int)
        · rw [if_pos ⟨hi1, hi2⟩] at HMB
          go_wp2_with fail
          refine (unhide HMB).mono ?_
          rintro e wy ⟨rfl, hwy⟩
          obtain rfl := hwy
          clear HMB
          go_wp2
          go_ret
          exact ⟨rfl, unhide HB5⟩
        · rw [if_neg (fun h => hi2 h.2)] at HMB
          have bi2 : decide (disk < (D : Int)) = false := decide_eq_false hi2
          go_wp2_with fail
          refine (unhide HMB).mono ?_
          rintro e wy ⟨rfl, hwy⟩
          obtain rfl := hwy
          clear HMB
          go_wp2
          go_ret
          exact ⟨rfl, unhide HB5⟩
      · rw [if_neg (fun h => hi1 h.1)] at HMB
        have bi1 : decide (0 ≤ disk) = false := decide_eq_false hi1
        go_wp2_with fail
        refine (unhide HMB).mono ?_
        rintro e wy ⟨rfl, hwy⟩
        obtain rfl := hwy
        clear HMB
        go_wp2
        go_ret
        exact ⟨rfl, unhide HB5⟩

end Go.Proofs.YtdcinlkkjbclmaaGreat
