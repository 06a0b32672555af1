/- The contract of platter.distinct. -/
import Derived.Test.YtdcinlkkjbclmaaDoorBlank
namespace Go.Proofs.YtdcinlkkjbclmaaDoor
open Go.RowKit

/-- the first k numbers are of columns, and none stands there twice -/
def DistTo (ms : List Int) (n : Int) (k : Nat) : Prop := ∀ i, i < k → 0 ≤ ms.getD i 0 ∧ ms.getD i 0 < n ∧ inI (ms.take i) (ms.getD i 0) = false

def SeenD (w : World) (g : Nat) (ms : List Int) (k : Nat) : Prop := ∀ c : Nat, c < 8 → w.cell? ⟨g, c, none⟩ = some (.bool (inI (ms.take k) (c : Int))) ∧ w.frozen? ⟨g, c, none⟩ = false
theorem SeenD.new (w : World) (ms : List Int) : SeenD (w.alloc (.cells #[.bool false, .bool false, .bool false, .bool false, .bool false, .bool false, .bool false, .bool false] 72)) w.heap.size ms 0 := by
  intro c hc
  have h0 : inI (ms.take 0) (c : Int) = false := by simp [inI]
  rw [h0]
  rcases (show c = 0 ∨ c = 1 ∨ c = 2 ∨ c = 3 ∨ c = 4 ∨ c = 5 ∨ c = 6 ∨ c = 7 from by omega) with rfl | rfl | rfl | rfl | rfl | rfl | rfl | rfl <;> simp
theorem SeenD.store {w : World} {g : Nat} {ms : List Int} {k c : Nat} (h : SeenD w g ms k) (hk : k < ms.length) (hc : ms.getD k 0 = (c : Int)) : SeenD (w.setCell ⟨g, c, none⟩ (.bool true)) g ms (k + 1) := by
  intro j hj
  rw [inI_next ms k hk, hc]
  constructor
  · by_cases e : j = c
    · subst e
      rw [decide_eq_true rfl, Bool.or_true]
      exact World.cell?_setCell_same _ _ _ (h j hj).1
    · rw [decide_eq_false (by omega), Bool.or_false, World.cell?_setCell_other _ _ _ _ (by simp only [ne_eq, Addr.mk.injEq]; omega)]
      exact (h j hj).1
  · simpa using (h j hj).2

set_option maxHeartbeats 1000000 in
theorem distinct_any (m : Value) (ms : List Int) (n : Nat) (w : World) (hm : SlI w m ms) (hl : ms.length ≤ 9223372036854775807) (hn1 : 1 ≤ n) (hn : n ≤ 8) :
    Calls Tryd.prog 29 #[m, .int .i64 (n : Int)] w fun e w' => ∃ r, e = .returned (.bool r) ∧ (r = true ↔ DistTo ms n ms.length) ∧ Below w.heap.size w w' := by
  obtain ⟨ma, mc, hme, hmd⟩ := hm
  subst hme
  have hm : SlI w (.slice ma ms.length mc) ms := ⟨ma, mc, rfl, hmd⟩
  have HM := hide hm
  have HN1 := hide hn1
  clear hmd hm
  go_enter Tryd.func29, Tryd.ntmps29
  go_wp2
  go_loopw [10] (fun i wr => ∃ k : Nat, k ≤ ms.length ∧ i = .int .i64 k ∧ Below w.heap.size w wr ∧ w.heap.size < wr.heap.size ∧ SeenD wr w.heap.size ms k ∧ DistTo ms n k) (fun i _ => ms.length - (intOf i).toNat)
  case atStart => exact ⟨0, Nat.zero_le _, rfl, (Below.refl _ _).alloc (Nat.le_refl _) _, by simp, SeenD.new _ _, fun i hi => by omega⟩
  case round =>
    obtain ⟨k, hk, rfl, hbw, hsw, hsd, hdi⟩ := hrel
    have HBW := hide hbw
    have HDI := hide hdi
    have HSD := hide hsd
    clear hsd hdi
    by_cases hlt : k < ms.length
    · obtain ⟨a', mc', hme, hmd⟩ := (unhide HM).below hbw
      simp only [Value.slice.injEq] at hme
      obtain ⟨rfl, _, rfl⟩ := hme
      rcases hmd with h0 | ⟨b, o, rfl, hr⟩
      · rw [h0] at hlt; simp at hlt
      have hcell := hr k _ (int_at ms k hlt)
      obtain ⟨c, hc⟩ : ∃ c, ms.getD k 0 = c := ⟨_, rfl⟩
      rw [hc] at hcell
      have HC := hide hc
      have hi1 : (0 : Int) ≤ (k : Int) := by omega
      have hi2 : (k : Int) < (ms.length : Int) := by omega
      clear hr hc hbw
      go_wp2_with fail
      refine (between_any _ _ _ _).mono ?_
      rintro e w2 ⟨rfl, rfl⟩
      have hwr : IntKind.i64.wrap ((n : Int) - 1) = (n : Int) - 1 := by rw [IntKind.wrap_i64]; omega
      by_cases hbt : 0 ≤ c ∧ c < (n : Int)
      · obtain ⟨c', rfl⟩ := Int.eq_ofNat_of_zero_le hbt.1
        have hbv : btw (c' : Int) 0 ((n : Int) - 1) = true := by simp [btw]; omega
        have hc8 : c' < 8 := by omega
        have hcI : (c' : Int) < 8 := by omega
        have hcI0 : (0 : Int) ≤ (c' : Int) := by omega
        obtain ⟨hsc, hsf⟩ := unhide HSD c' hc8
        cases hin : inI (ms.take k) (c' : Int) with
        | true =>
          rw [hin] at hsc
          have HIN := hide hin
          clear hin
          try rw [hwr]
          rw [hbv]
          clear hwr
          go_wp2
          go_ret
          refine ⟨false, rfl, ⟨fun h => (by cases h), fun h => ?_⟩, unhide HBW⟩
          have := (h k hlt).2.2
          rw [unhide HC, unhide HIN] at this
          cases this
        | false =>
          rw [hin] at hsc
          have HIN := hide hin
          have HSD2 := hide ((unhide HSD).store hlt (unhide HC))
          have HBW2 := hide ((unhide HBW).setCell (p := ⟨w.heap.size, c', none⟩) (Nat.le_refl _) (.bool true))
          have HDI2 : Hid (DistTo ms n (k + 1)) := fun i hi => by
            rcases Nat.lt_or_ge i k with h | h
            · exact unhide HDI i h
            · obtain rfl : i = k := by omega
              rw [unhide HC]
              exact ⟨hcI0, hbt.2, unhide HIN⟩
          clear hin HSD HDI
          try rw [hwr]
          rw [hbv]
          clear hwr
          go_wp2
          go_roundw
          case rel => exact ⟨k + 1, by omega, by go_num, unhide HBW2, by simp; omega, unhide HSD2, unhide HDI2⟩
          case measure => simp [intOf]; omega
      · have hbv : btw c 0 ((n : Int) - 1) = false := by simp [btw]; omega
        have HBT := hide hbt
        clear hbt
        try rw [hwr]
        rw [hbv]
        clear hwr
        go_wp2
        go_ret
        refine ⟨false, rfl, ⟨fun h => (by cases h), fun h => ?_⟩, unhide HBW⟩
        have := h k hlt
        rw [unhide HC] at this
        exact absurd ⟨this.1, this.2.1⟩ (unhide HBT)
    · obtain rfl : k = ms.length := by omega
      clear hbw
      go_wp2
      go_ret
      exact ⟨true, rfl, ⟨fun _ => unhide HDI, fun _ => rfl⟩, unhide HBW⟩

end Go.Proofs.YtdcinlkkjbclmaaDoor
