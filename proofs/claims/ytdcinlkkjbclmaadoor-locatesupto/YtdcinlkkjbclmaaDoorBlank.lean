/- The contract of stripe.blank. -/
import Derived.Test.YtdcinlkkjbclmaaDoorOwn
namespace Go.Proofs.YtdcinlkkjbclmaaDoor
open Go.RowKit

/-- the data columns that are missing -/
def lostL (ms : List Int) (n : Nat) : List Int := ms.filter fun c => decide (c < (n : Int))
/-- the columns, those missing among the first k numbers being 0 -/
def blankTo (cs : List (List Nat)) (ms : List Int) (k : Nat) : List (List Nat) := (List.range cs.length).map fun (i : Nat) => if inI (ms.take k) (i : Int) = true then zero16 else cs.getD i []
theorem blankTo_len (cs : List (List Nat)) (ms : List Int) (k : Nat) : (blankTo cs ms k).length = cs.length := by simp [blankTo]
theorem blankTo_at (cs : List (List Nat)) (ms : List Int) (k i : Nat) (hi : i < cs.length) : (blankTo cs ms k).getD i [] = if inI (ms.take k) (i : Int) = true then zero16 else cs.getD i [] := by simp [blankTo, hi]
theorem blankTo_cols {cs : List (List Nat)} (h : AreCols cs) (ms : List Int) (k : Nat) : AreCols (blankTo cs ms k) := ⟨fun i hi => by
  rw [blankTo_len] at hi
  rw [blankTo_at _ _ _ _ hi]
  split
  · exact zero_col
  · exact h.col i hi⟩
theorem list_getD {a b : List (List Nat)} (hl : a.length = b.length) (h : ∀ i, i < a.length → a.getD i [] = b.getD i []) : a = b := by
  apply List.ext_getElem hl
  intro i h1 h2
  have := h i h1
  simpa [h1, h2] using this
theorem take_next (ms : List Int) (k : Nat) (hk : k < ms.length) : ms.take (k + 1) = ms.take k ++ [ms.getD k 0] := by
  rw [List.take_add_one, List.getElem?_eq_getElem hk, List.getD_eq_getElem?_getD, List.getElem?_eq_getElem hk]
  rfl
theorem inI_next (ms : List Int) (k : Nat) (hk : k < ms.length) (x : Int) : inI (ms.take (k + 1)) x = (inI (ms.take k) x || decide (x = ms.getD k 0)) := by
  unfold inI
  rw [take_next ms k hk, Bool.eq_iff_iff]
  simp
theorem blankTo_zero (cs : List (List Nat)) (ms : List Int) : blankTo cs ms 0 = cs :=
  list_getD (blankTo_len _ _ _) (fun i hi => by rw [blankTo_len] at hi; rw [blankTo_at _ _ _ _ hi]; simp [inI])
theorem blankTo_skip (cs : List (List Nat)) (ms : List Int) (k : Nat) (hk : k < ms.length) (h : ¬ ms.getD k 0 < (cs.length : Int)) : blankTo cs ms (k + 1) = blankTo cs ms k :=
  list_getD (by rw [blankTo_len, blankTo_len]) (fun i hi => by
    rw [blankTo_len] at hi
    rw [blankTo_at _ _ _ _ hi, blankTo_at _ _ _ _ hi, inI_next ms k hk, decide_eq_false (by omega), Bool.or_false])
theorem blankTo_set (cs : List (List Nat)) (ms : List Int) (k c : Nat) (hk : k < ms.length) (he : ms.getD k 0 = (c : Int)) (hc : c < cs.length) : blankTo cs ms (k + 1) = (blankTo cs ms k).set c zero16 :=
  list_getD (by rw [List.length_set, blankTo_len, blankTo_len]) (fun i hi => by
    rw [blankTo_len] at hi
    rw [getD_set _ _ _ _ (by rw [blankTo_len]; exact hc), blankTo_at _ _ _ _ hi, blankTo_at _ _ _ _ hi, inI_next ms k hk, he]
    by_cases e : i = c
    · subst e; simp
    · rw [if_neg e, decide_eq_false (by omega), Bool.or_false])
theorem lostL_next (ms : List Int) (k n : Nat) (hk : k < ms.length) : lostL (ms.take (k + 1)) n = lostL (ms.take k) n ++ (if ms.getD k 0 < (n : Int) then [ms.getD k 0] else []) := by
  unfold lostL
  rw [take_next ms k hk, List.filter_append]
  congr 1
  by_cases h : ms.getD k 0 < (n : Int)
  · rw [if_pos h, List.filter_cons_of_pos (by simpa using h)]; rfl
  · rw [if_neg h, List.filter_cons_of_neg (by simpa using h)]; rfl
theorem lostL_le (ms : List Int) (n : Nat) : (lostL ms n).length ≤ ms.length := List.length_filter_le _ _

theorem setCells_heap_other (w : World) (b o : Nat) (vs : List Value) (g : Nat) (h : g ≠ b) : (w.setCells b o vs).heap[g]? = w.heap[g]? := by
  induction vs generalizing o w with
  | nil => rfl
  | cons v r ih => rw [World.setCells, ih, heap_setCell_other w ⟨b, o, none⟩ g v h]

theorem wpList_store_zero {ops : Array Oper} {rest : List Oper} {op : Oper} {a : Act} {w : World} {Q : Exit → Act → World → Prop} (hgd : op.guard = none) (x y : Operand) (ho : op.op = .store 51 x y)
    (b o : Nat) (hx : a.eval x = .pointer (some ⟨b, o, none⟩)) (hy : a.eval y = .agg zA) (ht : w.there b o 16)
    (h : wpList Tryd.prog ops Q rest (a.put op.dst undef) (w.setCells b o (colA zero16).toList)) : wpList Tryd.prog ops Q (op :: rest) a w :=
  wpList_store_mid hgd 51 x y ho b o (colA zero16) hx (by rw [hy, zA_eq]) (by rw [colA_size zero_col]; exact ht) (by rw [colA_size zero_col]; exact Tryd.colSize) (colA_one _) h

theorem Tryd.info3 : (Tryd.prog.info? 3).map (fun i => (i.zero, i.size, i.bytes)) = some (some (.int .i64 0), 1, 8) := by kernel_rfl

set_option maxHeartbeats 1000000 in
theorem blank_any (g cap : Nat) (cs : List (List Nat)) (m : Value) (ms : List Int) (w : World) (base : Nat) (hown : Own w base g cap cs) (hg : g < w.heap.size) (hbg : base ≤ g) (hcs : AreCols cs) (hm : ∀ w', Below base w w' → SlI w' m ms) (hnn : ∀ k, k < ms.length → 0 ≤ ms.getD k 0) (hl : ms.length ≤ 8) :
    Calls Tryd.prog 45 #[.slice (some ⟨g, 0, none⟩) cs.length cap, m] w fun e w' => ∃ v : Value, e = .returned v ∧ w'.ownsRow w.heap.size 3 1 v (lostL ms cs.length).length ((lostL ms cs.length).map (Value.int .i64)) ∧ Own w' base g cap (blankTo cs ms ms.length) ∧ Below base w w' := by
  obtain ⟨i0, hi, hz0, hz1, hz2⟩ := info_parts Tryd.info3
  obtain ⟨a, mc, hme, hmd⟩ := hm w (Below.refl _ _)
  subst hme
  have HM := hide hm
  have HO := hide hown
  have HCS := hide hcs
  have HNN := hide hnn
  clear hmd hm hown hcs hnn
  go_enter Tryd.func45, Tryd.ntmps45
  go_wp2
  go_loopw [5, 10] (fun lv i wr => ∃ k : Nat, k ≤ ms.length ∧ i = .int .i64 k ∧ Below base w wr ∧ w.heap.size ≤ wr.heap.size ∧ Own wr base g cap (blankTo cs ms k) ∧ wr.ownsRow w.heap.size 3 1 lv (lostL (ms.take k) cs.length).length ((lostL (ms.take k) cs.length).map (Value.int .i64))) (fun _ i _ => ms.length - (intOf i).toNat)
  case atStart => exact ⟨0, Nat.zero_le _, rfl, Below.refl _ _, Nat.le_refl _, by rw [blankTo_zero]; exact unhide HO, World.ownsRow_nil _ _ _ _⟩
  case round =>
    obtain ⟨k, hk, rfl, hbw, hsw, hod, hlo⟩ := hrel
    clear HO
    have HBW := hide hbw
    have HOD := hide hod
    have HLO := hide hlo
    clear hod hlo
    by_cases hlt : k < ms.length
    · obtain ⟨a', mc', hme, hmd⟩ := unhide HM wr hbw
      simp only [Value.slice.injEq] at hme
      obtain ⟨rfl, _, rfl⟩ := hme
      rcases hmd with h0 | ⟨b, o, rfl, hr⟩
      · rw [h0] at hlt; simp at hlt
      have hcell := hr k _ (int_at ms k hlt)
      have hc0 := unhide HNN k hlt
      obtain ⟨c, hc⟩ := Int.eq_ofNat_of_zero_le hc0
      rw [hc] at hcell
      have HC := hide hc
      have hi1 : (0 : Int) ≤ (k : Int) := by omega
      have hi2 : (k : Int) < (ms.length : Int) := by omega
      clear hr hc hc0 hbw
      by_cases hcn : c < cs.length
      · have hcI : (c : Int) < (cs.length : Int) := by omega
        have hcI0 : (0 : Int) ≤ (c : Int) := by omega
        have hlen := blankTo_len cs ms k
        have hco := (unhide HOD).cols (blankTo_cols (unhide HCS) ms k) (by omega)
        have hth : wr.there g (c * 16) 16 := by
          have := hco.free
          rw [hlen] at this
          exact there_part this (by omega)
        have HTH := hide hth
        have HB2 := hide (below_setCells (unhide HBW) g (c * 16) (colA zero16).toList hbg)
        have hst := (unhide HOD).store c (by rw [hlen]; exact hcn) (x := zero16) (by rfl)
        rw [← blankTo_set cs ms k c hlt (unhide HC) hcn] at hst
        have hlo2 : (wr.setCells g (c * 16) (colA zero16).toList).ownsRow w.heap.size 3 1 u5 (lostL (ms.take k) cs.length).length ((lostL (ms.take k) cs.length).map (Value.int .i64)) := by
          obtain ⟨h1, h2⟩ := unhide HLO
          refine ⟨h1, ?_⟩
          rcases h2 with h2 | ⟨g', cap', cur, e, hg', hh, r⟩
          · exact Or.inl h2
          · exact Or.inr ⟨g', cap', cur, e, hg', by rw [setCells_heap_other _ _ _ _ _ (by omega)]; exact hh, r⟩
        have hss := setCells_size wr g (c * 16) (colA zero16).toList
        have HST := hide hst
        have HL2 := hide hlo2
        clear hco hth hst hlo2 HOD HLO
        obtain ⟨wS, hWS⟩ : ∃ wS, wr.setCells g (c * 16) (colA zero16).toList = wS := ⟨_, rfl⟩
        rw [hWS] at HST HL2 HB2 hss
        have HWS := hide hWS
        have HSS := hide hss
        clear hWS hss
        have hba := (Below.refl wS.heap.size wS).alloc (Nat.le_refl _) (.cells #[.int .i64 (c : Int)] 3)
        have HL3 := hide (ownsRow_keep (unhide HL2) hba)
        have hn1 := cell_one_new wS (.int .i64 (c : Int)) 3
        have HN1 := hide hn1
        have hlen2 := lostL_le (ms.take k) cs.length
        have hlen3 : (ms.take k).length ≤ 8 := by rw [List.length_take]; omega
        clear hba hn1 HL2
        go_wp2_with (first | (show wpList _ _ _ (Oper.mk none (Op.store _ _ _) _ _ _ _ :: _) _ _; refine wpList_store_zero rfl (.tmp 21) (.tmp 20) rfl g (c * 16) rfl rfl (unhide HTH) ?_; rw [unhide HWS]) | (at_builtin; refine wpList_append_own _ rfl _ _ 25 rfl w.heap.size 3 i0 (.int .i64 0) 1 8 Tryd.underlying25 hi hz0 hz1 hz2 rfl (by decide) _ _ _ rfl (unhide HL3) ⟨wS.heap.size, 0, none⟩ 1 1 [.int .i64 (c : Int)] rfl rfl (unhide HN1) (by intro u hu; simp only [List.mem_singleton] at hu; subst hu; rfl) (by unfold maxLen; omega) (by omega) (by have := unhide HSS; simp; omega) ?_))
        intro v' w1 hown' hgrow _
        have hss := unhide HSS
        have hle := lostL_next ms k cs.length hlt
        rw [unhide HC, if_pos hcI] at hle
        have HLO : Hid (w1.ownsRow w.heap.size 3 1 v' (lostL (ms.take (k + 1)) cs.length).length ((lostL (ms.take (k + 1)) cs.length).map (Value.int .i64))) := by
          rw [hle, List.map_append, List.length_append]; exact hown'
        have hb3 : Below w.heap.size wS w1 := ((Below.refl _ _).alloc (by omega) _).grown hgrow (by simp; omega) (fun j hj => ((unhide HL3).lt j hj).1)
        have HB3 := hide ((unhide HB2).trans (hb3.mono (by omega)))
        have HOD := hide ((unhide HST).below hb3 hg)
        have hs3 := hb3.size
        clear hown' hgrow hle hb3 HL3 HN1 HST HB2 HBW
        go_wp2
        go_roundw
        case rel => exact ⟨k + 1, by omega, by go_num, unhide HB3, by omega, unhide HOD, unhide HLO⟩
        case measure => simp [intOf]; omega
      · have hcI : ¬ (c : Int) < (cs.length : Int) := by omega
        have hbe := blankTo_skip cs ms k hlt (by rw [unhide HC]; exact hcI)
        have hle := lostL_next ms k cs.length hlt
        rw [unhide HC, if_neg hcI, List.append_nil] at hle
        have HOD2 : Hid (Own wr base g cap (blankTo cs ms (k + 1))) := by rw [hbe]; exact unhide HOD
        have HLO2 : Hid (wr.ownsRow w.heap.size 3 1 u5 (lostL (ms.take (k + 1)) cs.length).length ((lostL (ms.take (k + 1)) cs.length).map (Value.int .i64))) := by rw [hle]; exact unhide HLO
        clear hbe hle
        go_wp2
        go_roundw
        case rel => exact ⟨k + 1, by omega, by go_num, unhide HBW, hsw, unhide HOD2, unhide HLO2⟩
        case measure => simp [intOf]; omega
    · obtain rfl : k = ms.length := by omega
      rw [List.take_length] at HLO
      clear hbw
      go_wp2
      go_ret
      exact ⟨u5, rfl, unhide HLO, unhide HOD, unhide HBW⟩

end Go.Proofs.YtdcinlkkjbclmaaDoor
