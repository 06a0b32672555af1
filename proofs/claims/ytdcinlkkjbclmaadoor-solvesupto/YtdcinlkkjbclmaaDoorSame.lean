/- The contract of platterkeep.same, of the same columns. -/
import Derived.Test.YtdcinlkkjbclmaaDoorLaw
namespace Go.Proofs.YtdcinlkkjbclmaaDoor
open Go.RowKit

theorem conv_slb {W : World} {b o c : Nat} {xs : List Nat} (h : W.rangeAt b o (xs.map B)) (hx : IsCol xs) : (convert 31 9 (.slice (some ⟨b, o, none⟩) 16 c)).run Tryd.prog W = .ok (.string (strOf xs)) W := by
  have hl : (xs.map UInt8.ofNat).length = 16 := by rw [List.length_map, hx.len]
  have := run_convert_bytes_back (P := Tryd.prog) W 31 9 5 ⟨b, o, none⟩ c (xs.map UInt8.ofNat) Tryd.underlying31 Tryd.underlying5 Tryd.underlying9 (fun j hj => by
    rw [Addr.add_mid]
    have hj' : j < xs.length := by simpa using hj
    rw [h j _ (byte_at xs j hj')]
    have hb := hx.at j (by rw [hx.len] at hj'; exact hj')
    have e : xs.getD j 0 = xs[j] := by simp [hj']
    rw [e] at hb ⊢
    simp only [List.getElem_map, UInt8.toNat_ofNat']
    rw [Nat.mod_eq_of_lt (by simpa using hb)])
  rw [hl] at this
  exact this

set_option maxHeartbeats 1000000 in
theorem same_any (v u : Value) (Ls : List (List Nat)) (w : World) (hv : SlL w v Ls) (hu : SlL w u Ls) (hc : AreCols Ls) (h0 : 0 < Ls.length) (h8 : Ls.length ≤ 8) :
    Calls Tryd.prog 21 #[v, u] w fun e w' => e = .returned (.bool true) ∧ Below w.heap.size w w' := by
  obtain ⟨a, cap, rfl, hd⟩ := hv
  obtain ⟨a', cap', rfl, hd'⟩ := hu
  rcases hd with hn | ⟨b, o, rfl, hd⟩
  · rw [hn] at h0; simp at h0
  rcases hd' with hn | ⟨b', o', rfl, hd'⟩
  · rw [hn] at h0; simp at h0
  have HD := hide hd
  have HE := hide hd'
  have HC := hide hc
  clear hd hd' hc
  go_enter Tryd.func21, Tryd.ntmps21
  go_wp2
  go_loopw [5] (fun i wr => ∃ k : Nat, k ≤ Ls.length ∧ i = .int .i64 k ∧ Below w.heap.size w wr) (fun i _ => Ls.length - (intOf i).toNat)
  case atStart => exact ⟨0, Nat.zero_le _, rfl, Below.refl _ _⟩
  case round =>
    obtain ⟨k, hk, rfl, hbel⟩ := hrel
    by_cases hlt : k < Ls.length
    · obtain ⟨u1, hu1, hs1⟩ := (unhide HD) k hlt
      obtain ⟨u2, hu2, hs2⟩ := (unhide HE) k hlt
      have hxc := (unhide HC).col k hlt
      obtain ⟨a1, cap1, rfl, hx1⟩ := hs1.below hbel
      obtain ⟨a2, cap2, rfl, hx2⟩ := hs2.below hbel
      have hc1 : wr.cell? ⟨b, o + k, none⟩ = some (.slice a1 (Ls.getD k []).length cap1) := by rw [hbel.cell (block_lt_of_cell hu1)]; exact hu1
      have hc2 : wr.cell? ⟨b', o' + k, none⟩ = some (.slice a2 (Ls.getD k []).length cap2) := by rw [hbel.cell (block_lt_of_cell hu2)]; exact hu2
      rcases hx1 with h1 | ⟨b1, o1, rfl, hr1⟩
      · rw [h1] at hxc; have := hxc.len; simp at this
      rcases hx2 with h1 | ⟨b2, o2, rfl, hr2⟩
      · rw [h1] at hxc; have := hxc.len; simp at this
      rw [hxc.len] at hc1 hc2
      have hi1 : (0 : Int) ≤ (k : Int) := by omega
      have hi2 : (k : Int) < (Ls.length : Int) := by omega
      generalize Ls.getD k [] = xs at *
      have hv1 : ∀ n, (convert 31 9 (.slice (some ⟨b1, o1, none⟩) 16 cap1)).run Tryd.prog (wr.drewN n) = .ok (.string (strOf xs)) (wr.drewN n) := fun n => conv_slb (range_keep hr1 (below_drewN (Below.refl wr.heap.size wr) n)) hxc
      have hv2 : ∀ n, (convert 31 9 (.slice (some ⟨b2, o2, none⟩) 16 cap2)).run Tryd.prog (wr.drewN n) = .ok (.string (strOf xs)) (wr.drewN n) := fun n => conv_slb (range_keep hr2 (below_drewN (Below.refl wr.heap.size wr) n)) hxc
      have HB := hide hbel
      clear hr1 hr2 hs1 hs2 hu1 hu2 hbel
      go_wp2
      go_quiet (fail)
      have HB2 := hide ((unhide HB).trans ((below_drewN (Below.refl wr.heap.size wr) nq).mono (unhide HB).size))
      generalize wr.drewN nq = wf at *
      clear hv1 hv2 hc1 hc2 HB
      go_wp2
      go_roundw
      case rel => exact ⟨k + 1, by omega, by go_num, unhide HB2⟩
      case measure => simp [intOf]; omega
    · obtain rfl : k = Ls.length := by omega
      have HB := hide hbel
      clear hbel
      go_wp2
      go_ret
      exact ⟨rfl, unhide HB⟩

end Go.Proofs.YtdcinlkkjbclmaaDoor
