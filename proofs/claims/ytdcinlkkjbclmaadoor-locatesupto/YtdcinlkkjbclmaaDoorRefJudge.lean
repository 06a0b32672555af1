/- The contracts of platterref.Judge and platterref.Locate. -/
import Derived.Test.YtdcinlkkjbclmaaDoorRefHold
import Derived.Test.YtdcinlkkjbclmaaDoorRefWith
import Derived.Test.YtdcinlkkjbclmaaDoorLocNo
namespace Go.Proofs.YtdcinlkkjbclmaaDoor
open Go.RowKit

theorem one_slI (w w' : World) (i : Nat) (h : Below (w.heap.size + 1) (w.alloc (.cells #[.int .i64 (i : Int)] 3)) w') : SlI w' (.slice (some ⟨w.heap.size, 0, none⟩) 1 1) [(i : Int)] := by
  refine ⟨_, _, rfl, Or.inr ⟨_, _, rfl, fun j u hj => ?_⟩⟩
  have hj' : j = 0 := by have := (List.getElem?_eq_some_iff.1 hj).1; simp at this; omega
  subst hj'
  simp only [List.map_cons, List.map_nil, List.getElem?_cons_zero, Option.some.injEq] at hj
  subst hj
  rw [h.cell (by simp)]
  exact cell_one_new w (.int .i64 (i : Int)) 3 0 _ rfl
theorem set_cols {Ls : List (List Nat)} {c : List Nat} (h : AreCols Ls) (hc : IsCol c) (i : Nat) (hi : i < Ls.length) : AreCols (Ls.set i c) := ⟨fun j hj => by
  rw [List.length_set] at hj
  rw [set_getD _ _ _ _ hi]
  split
  · exact hc
  · exact h.col j hj⟩

set_option maxRecDepth 100000 in
set_option maxHeartbeats 4000000 in
theorem judge_any (v : Value) (Ls : List (List Nat)) (k : Nat) (w : World) (hv : SlL w v Ls) (hlen : Ls.length = k + 2) (hk2 : 2 ≤ k) (hk6 : k ≤ 6) (hc : AreCols Ls) (hcap : ∀ p n c, v = .slice p n c → n ≤ c) :
    Calls Tryd.prog 34 #[v] w fun e w' => Below w.heap.size w w' ∧ ∃ (vd at' : Int) (val : List Nat) (d : Value), e = .returned (.tuple #[.int .i64 vd, .int .i64 at', d]) ∧ JudR Ls k vd at' val ∧ ((vd ≠ 1 ∧ d = .slice none 0 0) ∨ (vd = 1 ∧ IsCol val ∧ ∃ g c : Nat, d = .slice (some ⟨g, 0, none⟩) 16 c ∧ w.heap.size ≤ g ∧ Buf w' g val)) := by
  obtain ⟨a, cap, hve, _⟩ := id hv
  subst hve
  have hho := hold_any _ Ls k w hv hlen hk2 hk6 hc hcap
  rw [hlen] at hv hho ⊢
  have HV := hide hv
  have HC := hide hc
  have HLEN := hide hlen
  have HHO := hide hho
  clear hv hc hho hlen hcap
  go_enter Tryd.func34, Tryd.ntmps34
  go_wp2_with fail
  refine (unhide HHO).mono ?_
  rintro e w1 ⟨r, rfl, hr, hb1⟩
  have HB1 := hide hb1
  have HR := hide hr
  clear hb1 hr HHO
  cases r
  · have hnot : ¬ HoldL Ls k := fun h => absurd ((unhide HR).2 h) (by decide)
    have HN := hide hnot
    have hs1 := (unhide HB1).size
    clear HR hnot
    go_wp2
    go_loopw [6] (fun iv wr => ∃ i : Nat, i ≤ k + 2 ∧ iv = .int .i64 (i : Int) ∧ (∀ j, j < i → ¬ condL Ls k j) ∧ Below w.heap.size w wr) (fun i _ => k + 2 - (intOf i).toNat)
    case atStart => exact ⟨0, Nat.zero_le _, rfl, fun j hj => by omega, unhide HB1⟩
    case round =>
      obtain ⟨i, hi, rfl, hno, hbw⟩ := hrel
      have HNO := hide hno
      have HB := hide hbw
      have hsw := hbw.size
      clear hno
      rcases Nat.lt_or_ge i (k + 2) with hlt | hge
      · have hi0 : (0 : Int) ≤ (i : Int) := by omega
        have hi1 : (i : Int) < (k : Int) + 2 := by omega
        have hba := (Below.refl wr.heap.size wr).alloc (Nat.le_refl _) (.cells #[.int .i64 (i : Int)] 3)
        have hb0 := hbw.trans (hba.mono hsw)
        have hsz : Sized Ls [(i : Int)] := fun j hj _ => (unhide HC).col j hj
        have hfu := full_any (.slice a (k + 2) cap) (.slice (some ⟨wr.heap.size, 0, none⟩) 1 1) Ls [(i : Int)] k _ (unhide HLEN) hk2 hk6 ((unhide HV).below hb0) (one_slI wr _ i (Below.refl _ _)) (by simp) hsz (lostN_two (by simp) k)
          (fun at' hat => exist_found (takenTo_cols Ls _ (k + 2) (fun j _ hj _ => (unhide HC).col j hj)) (by rw [takenTo_len, unhide HLEN]) hk6 (lostN_two (by simp) k) at' hat)
        have HFU := hide hfu
        have HBA := hide hb0
        clear hfu hb0 hba hsz hbw
        go_wp2_with fail
        refine (unhide HFU).mono ?_
        rintro e w3 ⟨v', G, C, X, rfl, hl, hfo, hge2, hb3⟩
        obtain ⟨hfx, hcn⟩ := judge_col (unhide HC) (unhide HLEN) hk6 hlt hfo
        have hbu := hl.buf i hlt
        have hfc := hl.col i hlt
        rw [hfx] at hbu hfc
        have hgi := hge2 i hlt
        have hgi1 : w.heap.size ≤ G i := by simp at hgi; omega
        have hgi2 := hbu.lt (by rw [hfc.len]; omega)
        have HBF := hide hbu
        have hbu' : SlB w3 (.slice (some ⟨G i, 0, none⟩) 16 (C i)) (fixL Ls k i) := by
          have := hbu.slb (cap := C i)
          rw [hfc.len] at this
          exact this
        obtain ⟨g, cv, hge3, _, hgl⟩ := hl.own.form (by omega)
        subst hge3
        have hcell : w3.cell? ⟨g, i, none⟩ = some (.slice (some ⟨G i, 0, none⟩) 16 (C i)) := by rw [hl.own.cellAt i (by omega), inners_at _ _ _ _ hlt]; rfl
        have hb03 := (unhide HBA).trans (hb3.mono (unhide HBA).size)
        have hwi := with_any (.slice a (k + 2) cap) (.slice (some ⟨G i, 0, none⟩) 16 (C i)) Ls i (fixL Ls k i) w3 ((unhide HV).below hb03) hbu' (by rw [unhide HLEN]; omega) (by rw [unhide HLEN]; exact hlt)
        have HWI := hide hwi
        have HBU := hide hbu'
        have HFC := hide hfc
        have HCN := hide hcn
        have HB3 := hide hb03
        clear hwi hl hfo hge2 hb3 hfx hbu hfc hb03 hbu' hcn HFU HBA hgi
        go_wp2_with fail
        refine (unhide HWI).mono ?_
        rintro e w4 ⟨n, rfl, hsn, hcpn, hb4⟩
        have hb04 := (unhide HB3).trans (hb4.mono (unhide HB3).size)
        have hcell4 : w4.cell? ⟨g, i, none⟩ = some (.slice (some ⟨G i, 0, none⟩) 16 (C i)) := by rw [hb4.cell (by exact hgl)]; exact hcell
        have hho := hold_any n (Ls.set i (fixL Ls k i)) k w4 hsn (by rw [List.length_set]; exact unhide HLEN) hk2 hk6 (set_cols (unhide HC) (unhide HFC) i (by rw [unhide HLEN]; exact hlt)) hcpn
        have HHO := hide hho
        have HBF4 := hide ((unhide HBF).below hb4 hgi2)
        have hgi4 : G i < w4.heap.size := by have := hb4.size; omega
        have HB4 := hide hb04
        have hgl4 : g < w4.heap.size := by have := hb4.size; omega
        clear hho hsn hcpn hb4 hb04 HWI HBU HBF hcell
        go_wp2_with fail
        refine (unhide HHO).mono ?_
        rintro e w5 ⟨r, rfl, hr, hb5⟩
        have hcell5 : w5.cell? ⟨g, i, none⟩ = some (.slice (some ⟨G i, 0, none⟩) 16 (C i)) := by rw [hb5.cell (by exact hgl4)]; exact hcell4
        have HBF5 := hide ((unhide HBF4).below hb5 hgi4)
        have hgi5 : G i < w5.heap.size := by have := hb5.size; omega
        have HB5 := hide ((unhide HB4).trans (hb5.mono (unhide HB4).size))
        have HR := hide (hr.trans (unhide HCN))
        clear hr hb5 HHO HBF4 HB4 HCN hcell4
        cases r
        · clear hcell5
          have HNO2 : Hid (∀ j, j < i + 1 → ¬ condL Ls k j) := fun j hj => by
            rcases Nat.lt_or_ge j i with h | h
            · exact unhide HNO j h
            · obtain rfl : j = i := by omega
              exact fun h => absurd ((unhide HR).2 h) (by decide)
          go_wp2
          go_roundw
          case rel => exact ⟨i + 1, by omega, by go_num, unhide HNO2, unhide HB5⟩
          case measure => simp [intOf]; omega
        · have hi2' : (i : Int) < ((k : Int) + 2) := by omega
          have HCD := hide ((unhide HR).1 rfl)
          go_wp2
          go_quiet (fail)
          have hbq := below_drewN (Below.refl w5.heap.size w5) nq
          have HBF6 := hide ((unhide HBF5).below hbq hgi5)
          have HB6 := hide ((unhide HB5).trans (hbq.mono (unhide HB5).size))
          clear hbq hcell5
          generalize w5.drewN nq = wf at *
          go_wp2
          refine bodyPost_ret (results_tmp3 rfl _ _ _) rfl ?_
          exact ⟨unhide HB6, 1, i, fixL Ls k i, _, rfl, Or.inr (Or.inl ⟨unhide HN, i, hlt, unhide HNO, unhide HCD, rfl, rfl, rfl⟩), Or.inr ⟨rfl, unhide HFC, G i, C i, rfl, hgi1, unhide HBF6⟩⟩
      · obtain rfl : i = k + 2 := by omega
        clear hbw
        go_wp2
        refine bodyPost_ret (results_tmp3 rfl _ _ _) rfl ?_
        exact ⟨unhide HB, 2, 0, [], _, rfl, Or.inr (Or.inr ⟨unhide HN, unhide HNO, rfl, rfl⟩), Or.inl ⟨by decide, rfl⟩⟩
  · have hyes : HoldL Ls k := (unhide HR).1 rfl
    have HN := hide hyes
    clear HR hyes
    go_wp2
    refine bodyPost_ret (results_tmp3 rfl _ _ _) rfl ?_
    exact ⟨unhide HB1, 0, 0, [], _, rfl, Or.inl ⟨unhide HN, rfl, rfl⟩, Or.inl ⟨by decide, rfl⟩⟩

set_option maxHeartbeats 2000000 in
theorem ref_loc_any (v : Value) (Ls : List (List Nat)) (w : World) (hv : SlL w v Ls) (hcap : ∀ p n c, v = .slice p n c → n ≤ c) (hL : Ls.length ≤ 1000000000) (hby : ∀ i, i < Ls.length → ∀ x ∈ Ls.getD i [], x < 256) :
    Calls Tryd.prog 17 #[v] w fun e w' => Below w.heap.size w w' ∧
      ((¬ LocOK Ls ∧ e = .returned (.tuple #[.int .i64 0, .int .i64 0, .slice none 0 0, .int .i64 1])) ∨
       (LocOK Ls ∧ ∃ (vd at' : Int) (val : List Nat) (d : Value), e = .returned (.tuple #[.int .i64 vd, .int .i64 at', d, .int .i64 0]) ∧ JudR Ls (Ls.length - 2) vd at' val ∧ ((vd ≠ 1 ∧ d = .slice none 0 0) ∨ (vd = 1 ∧ IsCol val ∧ ∃ g c : Nat, d = .slice (some ⟨g, 0, none⟩) 16 c ∧ w.heap.size ≤ g ∧ Buf w' g val)))) := by
  obtain ⟨a, cap, hve, _⟩ := id hv
  subst hve
  have HV := hide hv
  have hcp := hcap _ _ _ rfl
  have HCP := hide hcap
  clear hv hcap
  go_enter Tryd.func17, Tryd.ntmps17
  go_wp2_with fail
  refine (sized_any _ _ Ls [] _ (unhide HV) ⟨none, 0, rfl, .inl rfl⟩ (by simp) hL hby).mono ?_
  rintro e w1 ⟨r, rfl, hr, hb1⟩
  rw [sized_cols] at hr
  have HV1 := hide ((unhide HV).below hb1)
  have HB1 := hide hb1
  have HR := hide hr
  clear hb1 hr hby
  by_cases hok : LocOK Ls
  · obtain ⟨h4, h8, hc⟩ := hok
    have hrt : r = true := (unhide HR).2 hc
    subst hrt
    have h4i : ¬ (Ls.length : Int) < 4 := by omega
    have h8i : ¬ (8 : Int) < (Ls.length : Int) := by omega
    have HC := hide hc
    have hju := judge_any _ Ls (Ls.length - 2) w1 (unhide HV1) (by omega) (by omega) (by omega) hc (unhide HCP)
    have HJU := hide hju
    clear hc HR hju
    go_wp2_with fail
    refine (unhide HJU).mono ?_
    rintro e w2 ⟨hb2, vd, at', val, d, rfl, hj, hd⟩
    have HB2 := hide ((unhide HB1).trans (hb2.mono (unhide HB1).size))
    have HJ := hide hj
    have HD := hide hd
    clear hb2 hj hd HJU
    go_wp2
    refine bodyPost_ret (results_tmp4 rfl _ _ _) rfl ?_
    refine ⟨unhide HB2, Or.inr ⟨⟨h4, h8, unhide HC⟩, vd, at', val, d, rfl, unhide HJ, ?_⟩⟩
    rcases unhide HD with h | ⟨q1, q2, g, c, q3, q4, q5⟩
    · exact Or.inl h
    · exact Or.inr ⟨q1, q2, g, c, q3, by have := (unhide HB1).size; omega, q5⟩
  · have HOK := hide hok
    have hcond : (Ls.length : Int) < 4 ∨ (8 : Int) < (Ls.length : Int) ∨ r = false := by
      by_cases h1 : (Ls.length : Int) < 4
      · exact Or.inl h1
      · by_cases h2 : (8 : Int) < (Ls.length : Int)
        · exact Or.inr (Or.inl h2)
        · refine Or.inr (Or.inr ?_)
          cases r with
          | false => rfl
          | true => exact absurd ⟨by omega, by omega, (unhide HR).1 rfl⟩ hok
    clear hok
    rcases hcond with h | h | h
    · go_wp2
      refine bodyPost_ret (results_tmp4 rfl _ _ _) rfl ?_
      exact ⟨unhide HB1, .inl ⟨unhide HOK, rfl⟩⟩
    · have h2 : ¬ (Ls.length : Int) < 4 := by omega
      go_wp2
      refine bodyPost_ret (results_tmp4 rfl _ _ _) rfl ?_
      exact ⟨unhide HB1, .inl ⟨unhide HOK, rfl⟩⟩
    · subst h
      by_cases h1 : (Ls.length : Int) < 4
      · go_wp2
        refine bodyPost_ret (results_tmp4 rfl _ _ _) rfl ?_
        exact ⟨unhide HB1, .inl ⟨unhide HOK, rfl⟩⟩
      · by_cases h2 : (8 : Int) < (Ls.length : Int)
        · go_wp2
          refine bodyPost_ret (results_tmp4 rfl _ _ _) rfl ?_
          exact ⟨unhide HB1, .inl ⟨unhide HOK, rfl⟩⟩
        · go_wp2
          refine bodyPost_ret (results_tmp4 rfl _ _ _) rfl ?_
          exact ⟨unhide HB1, .inl ⟨unhide HOK, rfl⟩⟩

end Go.Proofs.YtdcinlkkjbclmaaDoor
