/- Columns as package platterref reckons them. -/
import Derived.Test.YtdcinlkkjbclmaaDoorRefField
import Derived.Test.YtdcinlkkjbclmaaDoorPar
namespace Go.Proofs.YtdcinlkkjbclmaaDoor
open Go.RowKit

theorem nat_at (ds : List Nat) (k : Nat) (h : k < ds.length) : (ds.map Int.ofNat).getD k 0 = ((ds.getD k 0 : Nat) : Int) := by simp [h]

theorem results_tmp2' {fn : Func} {t u : Tmp} (h : fn.results = #[.tmp t, .tmp u]) (tmps : Array Value) (P : Program) (w : World) :
    (results fn tmps).run P w = .ok (.tuple #[tmps.getD t undef, tmps.getD u undef]) w := by
  simp [results, h]

set_option maxHeartbeats 2000000 in
theorem sums_any (v : Value) (ds : List Nat) (w : World) (hv : SlI w v (ds.map Int.ofNat)) (hl : ds.length ≤ 6) (hd : ∀ i, ds.getD i 0 < 256) :
    Calls Tryd.prog 28 #[v] w fun e w' => e = .returned (.tuple #[.int .i64 ((sumP ds ds.length : Nat) : Int), .int .i64 ((sumQ ds ds.length : Nat) : Int)]) ∧ Below w.heap.size w w' := by
  have hml : (ds.map Int.ofNat).length = ds.length := List.length_map _
  obtain ⟨a, cap, rfl, hr⟩ := id hv
  rw [hml] at hv ⊢
  have HV := hide hv
  have HD := hide hd
  clear hr hv hd
  go_enter Tryd.func28, Tryd.ntmps28
  go_wp2
  go_loopw [4, 5, 6] (fun pv qv iv wr => ∃ k : Nat, k ≤ ds.length ∧ iv = .int .i64 k ∧ pv = .int .i64 ((sumP ds k : Nat) : Int) ∧ qv = .int .i64 ((sumQ ds k : Nat) : Int) ∧ Below w.heap.size w wr) (fun _ _ i _ => ds.length - (intOf i).toNat)
  case atStart => exact ⟨0, Nat.zero_le _, rfl, rfl, rfl, Below.refl _ _⟩
  case round =>
    obtain ⟨k, hk, rfl, rfl, rfl, hbw⟩ := hrel
    have HB := hide hbw
    rcases Nat.lt_or_ge k ds.length with hlt | hge
    · have cell : ∀ w', Below w.heap.size w w' → ∃ b o : Nat, a = some ⟨b, o, none⟩ ∧ w'.cell? ⟨b, o + k, none⟩ = some (.int .i64 ((ds.getD k 0 : Nat) : Int)) := fun w' hb' => by
        obtain ⟨a', cap', hv', hd'⟩ := (unhide HV).below hb'
        simp only [Value.slice.injEq] at hv'
        obtain ⟨rfl, _, _⟩ := hv'
        rcases hd' with h0 | ⟨b, o, rfl, hr⟩
        · have : ds.length = 0 := by rw [← hml, h0]; rfl
          omega
        · refine ⟨b, o, rfl, ?_⟩
          have := hr k _ (int_at (ds.map Int.ofNat) k (by rw [hml]; exact hlt))
          rw [nat_at ds k hlt] at this
          exact this
      have HCE := hide cell
      obtain ⟨b, o, rfl, hc1⟩ := cell wr hbw
      have hd0 := unhide HD k
      have hsP := sumP_lt ds (unhide HD) k
      have hsQ := sumQ_lt ds k
      have hi1 : (0 : Int) ≤ (k : Int) := by omega
      have hi2 : (k : Int) < (ds.length : Int) := by omega
      have hP1 := hide (show sumP ds (k + 1) = sumP ds k ^^^ ds.getD k 0 from rfl)
      have hQ1 := hide (show sumQ ds (k + 1) = sumQ ds k ^^^ gmul (ds.getD k 0) (powN k) from rfl)
      have hT := hide (times_at (ds.getD k 0) k hd0 (by omega))
      have hg := gmul_lt (ds.getD k 0) (powN k)
      generalize hde : ds.getD k 0 = d at *
      generalize hpe : sumP ds k = p at *
      generalize hqe : sumQ ds k = q at *
      clear hde hpe hqe cell hbw
      go_wp2_with fail
      refine (either_any p d _ hsP hd0).mono ?_
      rintro e w1 ⟨rfl, hb1⟩
      have HB1 := hide ((unhide HB).trans (hb1.mono (unhide HB).size))
      clear hb1 hc1
      go_wp2_with fail
      refine (ref_power_any k _ (by omega)).mono ?_
      rintro e w2 ⟨rfl, hb2⟩
      have HB2 := hide ((unhide HB1).trans (hb2.mono (unhide HB1).size))
      obtain ⟨b', o', hbe, hc2⟩ := unhide HCE w2 (unhide HB2)
      simp only [Option.some.injEq, Addr.mk.injEq] at hbe
      obtain ⟨rfl, rfl, _⟩ := hbe
      clear hb2
      go_wp2_with fail
      refine (ref_times_any d (powN k) _ hd0 (powN_lt' k (by omega))).mono ?_
      rintro e w3 ⟨rfl, hb3⟩
      have HB3 := hide ((unhide HB2).trans (hb3.mono (unhide HB2).size))
      clear hb3 hc2
      rw [unhide hT]
      go_wp2_with fail
      refine (either_any q (gmul d (powN k)) _ hsQ hg).mono ?_
      rintro e w4 ⟨rfl, hb4⟩
      have HB4 := hide ((unhide HB3).trans (hb4.mono (unhide HB3).size))
      clear hb4
      go_wp2
      go_roundw
      case rel => exact ⟨k + 1, by omega, by go_num, by rw [unhide hP1], by rw [unhide hQ1], unhide HB4⟩
      case measure => simp [intOf]; omega
    · obtain rfl : k = ds.length := by omega
      clear hbw
      go_wp2
      refine bodyPost_ret (results_tmp2' rfl _ _ _) rfl ?_
      exact ⟨rfl, unhide HB⟩

/-- the bytes of some columns at one place -/
def placeL (Ls : List (List Nat)) (at' : Nat) (k : Nat) : List Nat := (List.range k).map fun i => (Ls.getD i []).getD at' 0
theorem placeL_len (Ls : List (List Nat)) (at' k : Nat) : (placeL Ls at' k).length = k := by simp [placeL]
theorem placeL_at (Ls : List (List Nat)) (at' k i : Nat) (h : i < k) : (placeL Ls at' k).getD i 0 = (Ls.getD i []).getD at' 0 := by simp [placeL, h]
theorem placeL_succ (Ls : List (List Nat)) (at' k : Nat) : placeL Ls at' (k + 1) = placeL Ls at' k ++ [(Ls.getD k []).getD at' 0] := by simp [placeL, List.range_succ]
theorem placeL_lt {Ls : List (List Nat)} (h : AreCols Ls) (at' i : Nat) : (placeL Ls at' Ls.length).getD i 0 < 256 := by
  rcases Nat.lt_or_ge i Ls.length with hi | hi
  · rw [placeL_at _ _ _ _ hi]
    rcases Nat.lt_or_ge at' 16 with h16 | h16
    · exact (h.col i hi).at at' h16
    · rw [List.getD_eq_getElem?_getD, List.getElem?_eq_none (by rw [(h.col i hi).len]; exact h16)]
      exact (by decide : (0 : Nat) < 256)
  · rw [List.getD_eq_getElem?_getD, List.getElem?_eq_none (by rw [placeL_len]; exact hi)]
    exact (by decide : (0 : Nat) < 256)

theorem Tryd.info3' : (Tryd.prog.info? 3).map (fun i => (i.zero, i.size, i.bytes)) = some (some (.int .i64 0), 1, 8) := by kernel_rfl

theorem byte_at' (xs : List Nat) (k : Nat) (h : k < xs.length) : (xs.map B)[k]? = some (.int .u8 (xs.getD k 0 : Nat)) := by simp [B, h]
theorem own_slI {w : World} {base : Nat} {v : Value} {ms : List Int} (h : w.ownsRow base 3 1 v ms.length (ms.map (Value.int .i64))) : SlI w v ms := by
  rcases h.2 with ⟨rfl, h0⟩ | ⟨g, cap, cur, rfl, _⟩
  · refine ⟨none, 0, by rw [h0], Or.inl (List.eq_nil_of_length_eq_zero h0)⟩
  · refine ⟨_, cap, rfl, Or.inr ⟨g, 0, rfl, fun j u hj => ?_⟩⟩
    have hj' : j < ms.length := by have := (List.getElem?_eq_some_iff.1 hj).1; rw [List.length_map] at this; exact this
    rw [Nat.zero_add, World.ownsRow.cellAt h j (by omega)]
    exact hj

set_option maxHeartbeats 2000000 in
theorem place_any (v : Value) (Ls : List (List Nat)) (at' : Nat) (w : World) (hv : SlL w v Ls) (hc : AreCols Ls) (h8 : Ls.length ≤ 8) (h16 : at' < 16) :
    Calls Tryd.prog 27 #[v, .int .i64 (at' : Int)] w fun e w' => ∃ v', e = .returned v' ∧ SlI w' v' ((placeL Ls at' Ls.length).map Int.ofNat) ∧ Below w.heap.size w w' := by
  obtain ⟨i0, hi, hz0, hz1, hz2⟩ := info_parts Tryd.info3'
  obtain ⟨a, cap, hve, hd⟩ := id hv
  subst hve
  have HV := hide hv
  have HC := hide hc
  clear hd hv hc
  go_enter Tryd.func27, Tryd.ntmps27
  go_wp2
  go_loopw [5, 6] (fun ov iv wr => ∃ k : Nat, k ≤ Ls.length ∧ iv = .int .i64 k ∧ Below w.heap.size w wr ∧ wr.ownsRow w.heap.size 3 1 ov k (((placeL Ls at' k).map Int.ofNat).map (Value.int .i64))) (fun _ i _ => Ls.length - (intOf i).toNat)
  case atStart => exact ⟨0, Nat.zero_le _, rfl, Below.refl _ _, World.ownsRow_nil _ _ _ _⟩
  case round =>
    obtain ⟨k, hk, rfl, hbw, hlo⟩ := hrel
    have HB := hide hbw
    have HLO := hide hlo
    clear hlo
    rcases Nat.lt_or_ge k Ls.length with hlt | hge
    · obtain ⟨a', cap', hv', hd'⟩ := (unhide HV).below hbw
      simp only [Value.slice.injEq] at hv'
      obtain ⟨rfl, _, rfl⟩ := hv'
      rcases hd' with h0 | ⟨b, o, rfl, hd'⟩
      · rw [h0] at hlt; simp at hlt
      obtain ⟨u, hu, hsb⟩ := hd' k hlt
      have hxc := (unhide HC).col k hlt
      obtain ⟨a1, cap1, rfl, hx⟩ := hsb
      rcases hx with h1 | ⟨b1, o1, rfl, hr1⟩
      · rw [h1] at hxc; have := hxc.len; simp at this
      rw [hxc.len] at hu
      have hx := hr1 at' _ (byte_at' (Ls.getD k []) at' (by rw [hxc.len]; exact h16))
      have hxb := hxc.at at' h16
      have hs := placeL_succ Ls at' k
      obtain ⟨x, hxe⟩ : ∃ x, (Ls.getD k []).getD at' 0 = x := ⟨_, rfl⟩
      rw [hxe] at hx hxb hs
      have HS := hide hs
      have hi1 : (0 : Int) ≤ (k : Int) := by omega
      have hi2 : (k : Int) < (Ls.length : Int) := by omega
      have ha1 : (0 : Int) ≤ (at' : Int) := by omega
      have ha2 : (at' : Int) < 16 := by omega
      have hba := (Below.refl wr.heap.size wr).alloc (Nat.le_refl _) (.cells #[.int .i64 (x : Int)] 3)
      have HL3 := hide (ownsRow_keep (unhide HLO) hba)
      have HN1 := hide (cell_one_new wr (.int .i64 (x : Int)) 3)
      have hsw := (unhide HB).size
      clear hxe hs hr1 hd' hba hbw HLO
      go_wp2_with (at_builtin; refine wpList_append_own _ rfl _ _ 25 rfl w.heap.size 3 i0 (.int .i64 0) 1 8 Tryd.underlying25 hi hz0 hz1 hz2 rfl (by decide) _ _ _ rfl (unhide HL3) ⟨wr.heap.size, 0, none⟩ 1 1 [.int .i64 (x : Int)] rfl rfl (unhide HN1) (by intro u hu; simp only [List.mem_singleton] at hu; subst hu; rfl) (by unfold maxLen; omega) (by omega) (by simp; omega) ?_)
      intro v' w1 hown' hgrow _
      have HLO : Hid (w1.ownsRow w.heap.size 3 1 v' (k + 1) (((placeL Ls at' (k + 1)).map Int.ofNat).map (Value.int .i64))) := by
        rw [unhide HS, List.map_append, List.map_append, List.map_map]; exact hown'
      have HB3 : Hid (Below w.heap.size w w1) := ((unhide HB).alloc hsw _).grown hgrow (by simp; omega) (fun j hj => ((unhide HL3).lt j hj).1)
      clear hown' hgrow HL3 HN1 HS hx hu
      go_wp2
      go_roundw
      case rel => exact ⟨k + 1, by omega, by go_num, unhide HB3, unhide HLO⟩
      case measure => simp [intOf]; omega
    · obtain rfl : k = Ls.length := by omega
      clear hbw
      go_wp2
      go_ret
      refine ⟨u5, rfl, own_slI (base := w.heap.size) ?_, unhide HB⟩
      rw [List.length_map, placeL_len]
      exact unhide HLO

set_option maxHeartbeats 1000000 in
theorem among_any (v : Value) (ms : List Int) (x : Int) (w : World) (hv : SlI w v ms) (hl : ms.length ≤ 1000000000) :
    Calls Tryd.prog 31 #[v, .int .i64 x] w fun e w' => e = .returned (.bool (inI ms x)) ∧ Below w.heap.size w w' := by
  obtain ⟨a, cap, hve, hd⟩ := id hv
  subst hve
  have HV := hide hv
  clear hd hv
  go_enter Tryd.func31, Tryd.ntmps31
  go_wp2
  go_loopw [5] (fun iv wr => ∃ k : Nat, k ≤ ms.length ∧ iv = .int .i64 k ∧ (∀ j, j < k → (x == ms.getD j 0) = false) ∧ Below w.heap.size w wr) (fun i _ => ms.length - (intOf i).toNat)
  case atStart => exact ⟨0, Nat.zero_le _, rfl, fun j hj => by omega, Below.refl _ _⟩
  case round =>
    obtain ⟨k, hk, rfl, hno, hbw⟩ := hrel
    have HB := hide hbw
    have HN := hide hno
    clear hno
    rcases Nat.lt_or_ge k ms.length with hlt | hge
    · obtain ⟨a', cap', hv', hd'⟩ := (unhide HV).below hbw
      simp only [Value.slice.injEq] at hv'
      obtain ⟨rfl, _, rfl⟩ := hv'
      rcases hd' with h0 | ⟨b, o, rfl, hr⟩
      · rw [h0] at hlt; simp at hlt
      have hcell := hr k _ (int_at ms k hlt)
      have hi1 : (0 : Int) ≤ (k : Int) := by omega
      have hi2 : (k : Int) < (ms.length : Int) := by omega
      obtain ⟨y, hy⟩ : ∃ y, ms.getD k 0 = y := ⟨_, rfl⟩
      rw [hy] at hcell
      clear hr hbw
      by_cases hxy : y = x
      · have he : (y == x) = true := by rw [hxy]; simp
        have HY : Hid (inI ms x = true) := yes_head ms x k hlt (by rw [hy, hxy]; simp)
        clear hxy hy
        go_wp2
        go_ret
        exact ⟨by rw [unhide HY]; rfl, unhide HB⟩
      · have he : (y == x) = false := beq_eq_false_iff_ne.2 hxy
        have HN2 : Hid (∀ j, j < k + 1 → (x == ms.getD j 0) = false) := fun j hj => by
          rcases Nat.lt_or_ge j k with h | h
          · exact unhide HN j h
          · obtain rfl : j = k := by omega
            rw [hy]
            exact beq_eq_false_iff_ne.2 (fun e => hxy e.symm)
        clear hxy hy
        go_wp2
        go_roundw
        case rel => exact ⟨k + 1, by omega, by go_num, unhide HN2, unhide HB⟩
        case measure => simp [intOf]; omega
    · have HY : Hid (inI ms x = false) := no_head ms x k (unhide HN) hge
      obtain rfl : k = ms.length := by omega
      clear hbw
      go_wp2
      go_ret
      exact ⟨by rw [unhide HY]; rfl, unhide HB⟩

set_option maxHeartbeats 1000000 in
theorem sized_any (v m : Value) (Ls : List (List Nat)) (ms : List Int) (w : World) (hv : SlL w v Ls) (hm : SlI w m ms) (hl : ms.length ≤ 1000000000) (hL : Ls.length ≤ 1000000000) (hby : ∀ i, i < Ls.length → ∀ x ∈ Ls.getD i [], x < 256) :
    Calls Tryd.prog 26 #[v, m] w fun e w' => ∃ r, e = .returned (.bool r) ∧ (r = true ↔ Sized Ls ms) ∧ Below w.heap.size w w' := by
  obtain ⟨a, cap, hve, hd⟩ := id hv
  subst hve
  have HV := hide hv
  have HM := hide hm
  have HBY := hide hby
  clear hd hv hm hby
  go_enter Tryd.func26, Tryd.ntmps26
  go_wp2
  go_loopw [5] (fun iv wr => ∃ k : Nat, k ≤ Ls.length ∧ iv = .int .i64 k ∧ (∀ j, j < k → inI ms (j : Int) = false → IsCol (Ls.getD j [])) ∧ Below w.heap.size w wr) (fun i _ => Ls.length - (intOf i).toNat)
  case atStart => exact ⟨0, Nat.zero_le _, rfl, fun j hj => by omega, Below.refl _ _⟩
  case round =>
    obtain ⟨k, hk, rfl, hok, hbw⟩ := hrel
    have HB := hide hbw
    have HN := hide hok
    clear hok
    rcases Nat.lt_or_ge k Ls.length with hlt | hge
    · have hki : (k : Int) < (Ls.length : Int) := by omega
      have hk0 : (0 : Int) ≤ (k : Int) := by omega
      go_wp2_with fail
      refine (among_any m ms k _ ((unhide HM).below hbw) hl).mono ?_
      rintro e w1 ⟨rfl, hb1⟩
      have HB1 := hide ((unhide HB).trans (hb1.mono (unhide HB).size))
      clear hb1 hbw
      cases hin : inI ms (k : Int) with
      | true =>
        have HN2 : Hid (∀ j, j < k + 1 → inI ms (j : Int) = false → IsCol (Ls.getD j [])) := fun j hj hj2 => by
          rcases Nat.lt_or_ge j k with h | h
          · exact unhide HN j h hj2
          · obtain rfl : j = k := by omega
            rw [hin] at hj2; cases hj2
        clear hin
        go_wp2
        go_roundw
        case rel => exact ⟨k + 1, by omega, by go_num, unhide HN2, unhide HB1⟩
        case measure => simp [intOf]; omega
      | false =>
        have HIN := hide hin
        clear hin
        obtain ⟨a', cap', hv', hd'⟩ := (unhide HV).below (unhide HB1)
        simp only [Value.slice.injEq] at hv'
        obtain ⟨rfl, _, rfl⟩ := hv'
        rcases hd' with h0 | ⟨b, o, rfl, hd'⟩
        · rw [h0] at hlt; simp at hlt
        obtain ⟨u, hu, hsb⟩ := hd' k hlt
        obtain ⟨a1, cap1, rfl, _⟩ := hsb
        by_cases h16 : (Ls.getD k []).length = 16
        · have h16' : (((Ls.getD k []).length : Int) == 16) = true := by rw [h16]; rfl
          have h16n : (((Ls.getD k []).length : Int) != 16) = false := by rw [h16]; rfl
          have HN2 : Hid (∀ j, j < k + 1 → inI ms (j : Int) = false → IsCol (Ls.getD j [])) := fun j hj hj2 => by
            rcases Nat.lt_or_ge j k with h | h
            · exact unhide HN j h hj2
            · obtain rfl : j = k := by omega
              exact ⟨h16, unhide HBY j hlt⟩
          clear hd' h16'
          generalize (Ls.getD k []).length = L at *
          go_wp2
          go_roundw
          case rel => exact ⟨k + 1, by omega, by go_num, unhide HN2, unhide HB1⟩
          case measure => simp [intOf]; omega
        · have h16n : (((Ls.getD k []).length : Int) != 16) = true := by rw [bne_iff_ne]; omega
          have HNO : Hid (¬ Sized Ls ms) := fun h => h16 (h k hlt (unhide HIN)).len
          clear hd' h16
          generalize (Ls.getD k []).length = L at *
          go_wp2
          go_ret
          exact ⟨false, rfl, ⟨fun h => (by cases h), fun h => absurd h (unhide HNO)⟩, unhide HB1⟩
    · obtain rfl : k = Ls.length := by omega
      clear hbw
      go_wp2
      go_ret
      exact ⟨true, rfl, ⟨fun _ => unhide HN, fun _ => rfl⟩, unhide HB⟩

end Go.Proofs.YtdcinlkkjbclmaaDoor
