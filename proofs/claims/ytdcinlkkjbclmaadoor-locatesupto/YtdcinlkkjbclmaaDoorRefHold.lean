/- The contracts of platterref.Hold and platterref.with. -/
import Derived.Test.YtdcinlkkjbclmaaDoorJMath
import Derived.Test.YtdcinlkkjbclmaaDoorRefPar
import Derived.Test.YtdcinlkkjbclmaaDoorSame
namespace Go.Proofs.YtdcinlkkjbclmaaDoor
open Go.RowKit

theorem SlL.take {w : World} {a : Option Addr} {n cap : Nat} {Ls : List (List Nat)} (h : SlL w (.slice a n cap) Ls) (k c : Nat) (hk : k ≤ Ls.length) : SlL w (.slice a k c) (Ls.take k) := by
  obtain ⟨a', cap', he, hd⟩ := h
  simp only [Value.slice.injEq] at he
  obtain ⟨rfl, _, _⟩ := he
  have hl : (Ls.take k).length = k := by rw [List.length_take]; omega
  refine ⟨a, c, by rw [hl], ?_⟩
  rcases hd with h0 | ⟨b, o, rfl, hd⟩
  · left; rw [h0]; simp
  · refine Or.inr ⟨b, o, rfl, fun i hi => ?_⟩
    rw [hl] at hi
    rw [take_getD _ _ _ hi]
    exact hd i (by omega)

set_option maxHeartbeats 2000000 in
theorem hold_any (v : Value) (Ls : List (List Nat)) (k : Nat) (w : World) (hv : SlL w v Ls) (hlen : Ls.length = k + 2) (hk2 : 2 ≤ k) (hk6 : k ≤ 6) (hc : AreCols Ls) (hcap : ∀ p n c, v = .slice p n c → n ≤ c) :
    Calls Tryd.prog 49 #[v] w fun e w' => ∃ r : Bool, e = .returned (.bool r) ∧ (r = true ↔ HoldL Ls k) ∧ Below w.heap.size w w' := by
  obtain ⟨a, cap, hve, hd⟩ := id hv
  subst hve
  have hcp := hcap _ _ _ rfl
  rw [hlen] at hcp hv
  rcases hd with h0 | ⟨b, o, rfl, hd⟩
  · rw [h0] at hlen; simp at hlen
  obtain ⟨u1, hu1, hs1⟩ := hd k (by omega)
  obtain ⟨u2, hu2, hs2⟩ := hd (k + 1) (by omega)
  have hck := hc.col k (by omega)
  have hck1 := hc.col (k + 1) (by omega)
  have hct : AreCols (Ls.take k) := ⟨fun i hi => by rw [List.length_take] at hi; rw [take_getD _ _ _ (by omega)]; exact hc.col i (by omega)⟩
  have hlt : (Ls.take k).length = k := by rw [List.length_take]; omega
  have hpk := parP_take Ls k k (Nat.le_refl _)
  have hsl := fun c : Nat => hv.take k c (by omega)
  have hPc := parP_col hc k (by omega)
  have hQc := parQ_col hc k (by omega)
  have HSL := hide hsl
  rw [hlen]
  have hk0 : (0 : Int) ≤ (k : Int) := by omega
  have hkc : (k : Int) ≤ (cap : Int) := by omega
  clear hsl hv hd
  go_enter Tryd.func49, Tryd.ntmps49
  go_wp2_with fail
  refine (ref_par_any _ (Ls.take k) _ (unhide HSL _) (by omega) (fun i hi => (hct.col i hi).byte)).mono ?_
  rintro e w1 ⟨hb1, hres⟩
  rcases hres with ⟨hno, _⟩ | ⟨_, gx, gy, rfl, hx, hy, _, _⟩
  · exact absurd ⟨by omega, by omega, hct⟩ hno
  rw [hlt, hpk.1] at hx
  rw [hlt, hpk.2] at hy
  obtain ⟨a1, cap1, rfl, hx1⟩ := hs1.below hb1
  obtain ⟨a2, cap2, rfl, hx2⟩ := hs2.below hb1
  have hc1 : w1.cell? ⟨b, o + k, none⟩ = some (.slice a1 (Ls.getD k []).length cap1) := by rw [hb1.cell (block_lt_of_cell hu1)]; exact hu1
  have hc2 : w1.cell? ⟨b, o + (k + 1), none⟩ = some (.slice a2 (Ls.getD (k + 1) []).length cap2) := by rw [hb1.cell (block_lt_of_cell hu2)]; exact hu2
  rcases hx1 with h1 | ⟨b1, o1, rfl, hr1⟩
  · rw [h1] at hck; have := hck.len; simp at this
  rcases hx2 with h1 | ⟨b2, o2, rfl, hr2⟩
  · rw [h1] at hck1; have := hck1.len; simp at this
  rw [hck.len] at hc1
  rw [hck1.len] at hc2
  have hv1 : ∀ n, (convert 31 9 (.slice (some ⟨gx, 0, none⟩) 16 16)).run Tryd.prog (w1.drewN n) = .ok (.string (strOf (parP Ls k))) (w1.drewN n) := fun n => conv_slb (range_keep hx.lies (below_drewN (Below.refl w1.heap.size w1) n)) hPc
  have hv2 : ∀ n, (convert 31 9 (.slice (some ⟨gy, 0, none⟩) 16 16)).run Tryd.prog (w1.drewN n) = .ok (.string (strOf (parQ Ls k))) (w1.drewN n) := fun n => conv_slb (range_keep hy.lies (below_drewN (Below.refl w1.heap.size w1) n)) hQc
  have hv3 : ∀ n, (convert 31 9 (.slice (some ⟨b1, o1, none⟩) 16 cap1)).run Tryd.prog (w1.drewN n) = .ok (.string (strOf (Ls.getD k []))) (w1.drewN n) := fun n => conv_slb (range_keep hr1 (below_drewN (Below.refl w1.heap.size w1) n)) hck
  have hv4 : ∀ n, (convert 31 9 (.slice (some ⟨b2, o2, none⟩) 16 cap2)).run Tryd.prog (w1.drewN n) = .ok (.string (strOf (Ls.getD (k + 1) []))) (w1.drewN n) := fun n => conv_slb (range_keep hr2 (below_drewN (Below.refl w1.heap.size w1) n)) hck1
  have hq1 := str_eq hPc hck
  have hq2 := str_eq hQc hck1
  have HB := hide hb1
  have HH : Hid (HoldL Ls k ↔ parP Ls k = Ls.getD k [] ∧ parQ Ls k = Ls.getD (k + 1) []) := Iff.rfl
  have hk1' : (0 : Int) ≤ (k : Int) + 1 := by omega
  have hk3 : (k : Int) < (k : Int) + 2 := by omega
  have hk4 : (k : Int) + 1 < (k : Int) + 2 := by omega
  clear hx hy hr1 hr2 hs1 hs2 hu1 hu2 hb1 hPc hQc hck hck1 hct HSL hpk hc hlt hlen
  generalize strOf (parP Ls k) = t1 at *
  generalize strOf (parQ Ls k) = t2 at *
  generalize strOf (Ls.getD k []) = t3 at *
  generalize strOf (Ls.getD (k + 1) []) = t4 at *
  generalize parP Ls k = x1 at *
  generalize parQ Ls k = x2 at *
  generalize Ls.getD k [] = x3 at *
  generalize Ls.getD (k + 1) [] = x4 at *
  by_cases e1 : x1 = x3
  · rw [decide_eq_true e1] at hq1
    by_cases e2 : x2 = x4
    · rw [decide_eq_true e2] at hq2
      go_wp2
      go_quiet (fail)
      have HB2 := hide ((unhide HB).trans ((below_drewN (Below.refl w1.heap.size w1) nq).mono (unhide HB).size))
      generalize w1.drewN nq = wf at *
      go_wp2
      go_ret
      exact ⟨true, rfl, by rw [unhide HH]; simp [e1, e2], unhide HB2⟩
    · rw [decide_eq_false e2] at hq2
      go_wp2
      go_quiet (fail)
      have HB2 := hide ((unhide HB).trans ((below_drewN (Below.refl w1.heap.size w1) nq).mono (unhide HB).size))
      generalize w1.drewN nq = wf at *
      go_wp2
      go_ret
      exact ⟨false, rfl, by rw [unhide HH]; simp [e2], unhide HB2⟩
  · rw [decide_eq_false e1] at hq1
    go_wp2
    go_quiet (fail)
    have HB2 := hide ((unhide HB).trans ((below_drewN (Below.refl w1.heap.size w1) nq).mono (unhide HB).size))
    generalize w1.drewN nq = wf at *
    go_wp2
    go_ret
    exact ⟨false, rfl, by rw [unhide HH]; simp [e1], unhide HB2⟩

end Go.Proofs.YtdcinlkkjbclmaaDoor
