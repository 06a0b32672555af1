/- The contract of platterref.Solve. -/
import Derived.Test.YtdcinlkkjbclmaaDoorRefFull
import Derived.Test.YtdcinlkkjbclmaaDoorSol
import Derived.Deep.RegionWith
namespace Go.Proofs.YtdcinlkkjbclmaaDoor
open Go.RowKit


theorem own_base {w : World} {base base' : Nat} {e : TypeId} {size : Nat} {v : Value} {n : Nat} {xs : List Value} (h : w.ownsRow base e size v n xs) (hb : base' ≤ base) : w.ownsRow base' e size v n xs := by
  refine ⟨h.1, ?_⟩
  rcases h.2 with h1 | ⟨g, cap, cur, h1, h2, h3⟩
  · exact Or.inl h1
  · exact Or.inr ⟨g, cap, cur, h1, Nat.le_trans hb h2, h3⟩
theorem listR_base {w : World} {base base' : Nat} {v : Value} {k : Nat} {G C : Nat → Nat} {L : Nat → List Nat} (h : ListR w base v k G C L) (hb : base' ≤ base) : ListR w base' v k G C L := ⟨own_base h.own hb, h.buf, h.col, h.ne⟩

set_option maxRecDepth 100000 in
set_option maxHeartbeats 4000000 in
theorem ref_solve_any (v m : Value) (Ls : List (List Nat)) (ms : List Int) (w : World) (hv : SlL w v Ls) (hm : SlI w m ms) (hll : Ls.length ≤ 1000000000) (hml : ms.length ≤ 1000000000) (hcap : ∀ p n c, m = .slice p n c → n ≤ c)
    (hby : ∀ i, i < Ls.length → ∀ x ∈ Ls.getD i [], x < 256) (hex : SolOK Ls ms → ms.length ≤ 2 → ∀ at', at' < 16 → ∃ x, foundOK (takenTo Ls ms Ls.length) ms (Ls.length - 2) at' x) :
    Calls Tryd.prog 14 #[v, m] w fun e w' => Below w.heap.size w w' ∧
      ((¬ SolOK Ls ms ∧ e = .returned (.tuple #[.slice none 0 0, .int .i64 1])) ∨
       (SolOK Ls ms ∧ 2 < ms.length ∧ e = .returned (.tuple #[.slice none 0 0, .int .i64 5])) ∨
       (SolOK Ls ms ∧ ms.length ≤ 2 ∧ ∃ v' G C X, e = .returned (.tuple #[v', .int .i64 0]) ∧ ListR w' w.heap.size v' Ls.length G C (fullTo (takenTo Ls ms Ls.length) ms (Ls.length - 2) X 16) ∧ (∀ at', at' < 16 → foundOK (takenTo Ls ms Ls.length) ms (Ls.length - 2) at' (X at')) ∧ (∀ i, i < Ls.length → w.heap.size ≤ G i))) := by
  obtain ⟨a, cap, hve, hd⟩ := id hv
  subst hve
  obtain ⟨ma, mc, hme, hmd⟩ := id hm
  subst hme
  have hcm : ms.length ≤ mc := hcap _ _ _ rfl
  have HV := hide hv
  have HM := hide hm
  have HBY := hide hby
  have HEX := hide hex
  clear hv hm hby hex hd hmd hcap
  go_enter Tryd.func14, Tryd.ntmps14
  by_cases h4 : (Ls.length : Int) < 4
  · go_wp2
    refine bodyPost_ret (results_tmp2 rfl _ _ _) rfl ?_
    exact ⟨Below.refl _ _, .inl ⟨fun h => by have := h.1; omega, rfl⟩⟩
  · by_cases h8 : (8 : Int) < (Ls.length : Int)
    · go_wp2
      refine bodyPost_ret (results_tmp2 rfl _ _ _) rfl ?_
      exact ⟨Below.refl _ _, .inl ⟨fun h => by have := h.2.1; omega, rfl⟩⟩
    · go_wp2
      go_loopw [6] (fun iv wr => ∃ i : Nat, i ≤ ms.length ∧ iv = .int .i64 (i : Int) ∧ DistTo ms Ls.length i ∧ Below w.heap.size w wr) (fun i _ => ms.length - (intOf i).toNat)
      case atStart => exact ⟨0, Nat.zero_le _, rfl, fun i hi => by omega, Below.refl _ _⟩
      case round =>
        obtain ⟨i, hi, rfl, hdi, hbw⟩ := hrel
        have HDI := hide hdi
        have HB := hide hbw
        have hsw := hbw.size
        clear hdi
        rcases Nat.lt_or_ge i ms.length with hlt | hge
        · have hmw := (unhide HM).below hbw
          obtain ⟨a', mc', hme, hmd⟩ := id hmw
          simp only [Value.slice.injEq] at hme
          obtain ⟨rfl, _, rfl⟩ := hme
          rcases hmd with h0 | ⟨b, o, rfl, hr⟩
          · rw [h0] at hlt; simp at hlt
          have hcell := hr i _ (int_at ms i hlt)
          obtain ⟨c, hc⟩ : ∃ c, ms.getD i 0 = c := ⟨_, rfl⟩
          rw [hc] at hcell
          have HC := hide hc
          have hi0 : (0 : Int) ≤ (i : Int) := by omega
          have hi2 : (i : Int) < (ms.length : Int) := by omega
          have him : i ≤ mc := by omega
          have him' : (i : Int) ≤ (mc : Int) := by omega
          have hsl : ∀ w', Below w.heap.size w w' → SlI w' (.slice (some ⟨b, o, none⟩) i mc) (ms.take i) := fun w' hb' => by
            obtain ⟨a2, c2, h2, hd2⟩ := (unhide HM).below hb'
            simp only [Value.slice.injEq] at h2
            obtain ⟨rfl, _, rfl⟩ := h2
            rcases hd2 with h0 | ⟨b2, o2, h3, hr2⟩
            · rw [h0] at hlt; simp at hlt
            · simp only [Option.some.injEq, Addr.mk.injEq, and_true] at h3
              obtain ⟨rfl, rfl⟩ := h3
              refine ⟨_, mc, by rw [List.length_take, Nat.min_eq_left (by omega)], Or.inr ⟨b, o, rfl, fun j u hj => ?_⟩⟩
              have hj' : j < i := by have := (List.getElem?_eq_some_iff.1 hj).1; simp at this; omega
              refine hr2 j u ?_
              rw [← hj]
              simp [hj']
          have HSL := hide hsl
          have hbd := (unhide HB).drew
          have HBD := hide hbd
          have HCELL := hide hcell
          clear hbw hmw hc hr hsl hbd
          go_wp2
          go_region_with (go_at_call 31; refine (among_any _ (ms.take i) c _ (unhide HSL _ (unhide HBD)) (by rw [List.length_take]; omega)).mono ?_; rintro e w1 ⟨rfl, hb1⟩)
          have hb2 := (unhide HBD).trans (hb1.mono (by simpa using hsw))
          have HB1 := hide hb2
          have hcw : w1.cell? ⟨b, o + i, none⟩ = some (.int .i64 c) := by
            rw [hb1.cell (by simpa using block_lt_of_cell (unhide HCELL))]
            exact unhide HCELL
          clear hb1 hb2 HBD HB HCELL HSL
          cases hin : inI (ms.take i) c
          · by_cases hc0 : c < 0
            · go_wp2
              refine bodyPost_ret (results_tmp2 rfl _ _ _) rfl ?_
              refine ⟨unhide HB1, .inl ⟨fun h => ?_, rfl⟩⟩
              have hx := h.2.2.1 i hlt
              rw [unhide HC] at hx
              omega
            · by_cases hcl : (Ls.length : Int) ≤ c
              · go_wp2
                refine bodyPost_ret (results_tmp2 rfl _ _ _) rfl ?_
                refine ⟨unhide HB1, .inl ⟨fun h => ?_, rfl⟩⟩
                have hx := h.2.2.1 i hlt
                rw [unhide HC] at hx
                omega
              · have HDI2 : Hid (DistTo ms Ls.length (i + 1)) := fun j hj => by
                  rcases Nat.lt_or_ge j i with h | h
                  · exact unhide HDI j h
                  · obtain rfl : j = i := by omega
                    rw [unhide HC]
                    exact ⟨by omega, by omega, hin⟩
                clear hin HC
                go_wp2
                go_roundw
                case rel => exact ⟨i + 1, by omega, by go_num, unhide HDI2, unhide HB1⟩
                case measure => simp [intOf]; omega
          · go_wp2
            refine bodyPost_ret (results_tmp2 rfl _ _ _) rfl ?_
            refine ⟨unhide HB1, .inl ⟨fun h => ?_, rfl⟩⟩
            have hx := h.2.2.1 i hlt
            rw [unhide HC] at hx
            rw [hin] at hx
            exact absurd hx.2.2 (by decide)
        · obtain rfl : i = ms.length := by omega
          have hsz := sized_any (.slice a Ls.length cap) (.slice ma ms.length mc) Ls ms wr ((unhide HV).below hbw) ((unhide HM).below hbw) hml hll (unhide HBY)
          have HSZ := hide hsz
          clear hsz hbw
          go_wp2_with fail
          refine (unhide HSZ).mono ?_
          rintro e w1 ⟨r, rfl, hr, hb1⟩
          have hb2 := (unhide HB).trans (hb1.mono hsw)
          have HB1 := hide hb2
          have HR := hide hr
          clear hr hb1 HSZ HB
          cases r
          · clear hb2
            go_wp2
            refine bodyPost_ret (results_tmp2 rfl _ _ _) rfl ?_
            exact ⟨unhide HB1, .inl ⟨fun h => Bool.false_ne_true ((unhide HR).2 h.2.2.2), rfl⟩⟩
          · have hsok : SolOK Ls ms := ⟨by omega, by omega, unhide HDI, (unhide HR).1 rfl⟩
            by_cases h2 : (2 : Int) < (ms.length : Int)
            · have HSO := hide hsok
              clear hsok hb2
              go_wp2
              refine bodyPost_ret (results_tmp2 rfl _ _ _) rfl ?_
              exact ⟨unhide HB1, .inr (.inl ⟨unhide HSO, by omega, rfl⟩)⟩
            · have hmn : ms.length ≤ 2 := by omega
              obtain ⟨k, hk⟩ : ∃ k, Ls.length = k + 2 := ⟨Ls.length - 2, by omega⟩
              have hfu := full_any (.slice a Ls.length cap) (.slice ma ms.length mc) Ls ms k w1 hk (by omega) (by omega) ((unhide HV).below hb2) ((unhide HM).below hb2) hml hsok.2.2.2 (lostN_two hmn k) (by have := unhide HEX hsok hmn; rw [hk] at this; exact this)
              have HFU := hide hfu
              have HSO := hide hsok
              have hs2 := hb2.size
              have HK := hide hk
              clear hfu hsok hb2 HEX HV HM hk
              go_wp2_with fail
              refine (unhide HFU).mono ?_
              rintro e w3 ⟨v', G, C, X, rfl, hl, hfo, hge2, hb3⟩
              have HL := hide hl
              have HFO := hide hfo
              have HGE := hide hge2
              have HB3 := hide ((unhide HB1).trans (hb3.mono hs2))
              clear hl hfo hge2 hb3 HFU
              go_wp2
              refine bodyPost_ret (results_tmp2 rfl _ _ _) rfl ?_
              refine ⟨unhide HB3, .inr (.inr ⟨unhide HSO, hmn, v', G, C, X, rfl, ?_⟩)⟩
              rw [unhide HK]
              exact ⟨listR_base (unhide HL) hs2, unhide HFO, fun i hi => Nat.le_trans hs2 (unhide HGE i hi)⟩

end Go.Proofs.YtdcinlkkjbclmaaDoor
