/- platterref.filled: the data bytes at one place, found again. -/
import Derived.Test.YtdcinlkkjbclmaaDoorRefPar
import Derived.Test.YtdcinlkkjbclmaaDoorLOwn
namespace Go.Proofs.YtdcinlkkjbclmaaDoor
open Go.RowKit

set_option maxHeartbeats 2000000 in
theorem place_own (v : Value) (Ls : List (List Nat)) (at' : Nat) (w : World) (hv : SlL w v Ls) (hc : AreCols Ls) (h8 : Ls.length ≤ 8) (h16 : at' < 16) :
    Calls Tryd.prog 27 #[v, .int .i64 (at' : Int)] w fun e w' => ∃ v', e = .returned v' ∧ w'.ownsRow w.heap.size 3 1 v' Ls.length (((placeL Ls at' Ls.length).map Int.ofNat).map (Value.int .i64)) ∧ Below w.heap.size w w' := by
  obtain ⟨i0, hi, hz0, hz1, hz2⟩ := info_parts Tryd.info3'
  obtain ⟨a, cap, hve, hd⟩ := id hv
  subst hve
  have HV := hide hv
  have HC := hide hc
  clear hd hv hc
  go_enter Tryd.func27, Tryd.ntmps27
  go_wp2
  go_loopw [5, 6] (fun ov iv wr => ∃ k : Nat, k ≤ Ls.length ∧ iv = .int .i64 k ∧ Below w.heap.size w wr ∧ wr.ownsRow w.heap.size 3 1 ov k (((placeL Ls at' k).map Int.ofNat).map (Value.int .i64))) (fun _ i _ => Ls.length - (intOf i).toNat)
  case atStart => exact ⟨0, Nat.zero_le _, rfl, Below.refl _ _, World.ownsRow_nil _ _ _ _⟩
  case round =>
    obtain ⟨k, hk, rfl, hbw, hlo⟩ := hrel
    have HB := hide hbw
    have HLO := hide hlo
    clear hlo
    rcases Nat.lt_or_ge k Ls.length with hlt | hge
    · obtain ⟨a', cap', hv', hd'⟩ := (unhide HV).below hbw
      simp only [Value.slice.injEq] at hv'
      obtain ⟨rfl, _, rfl⟩ := hv'
      rcases hd' with h0 | ⟨b, o, rfl, hd'⟩
      · rw [h0] at hlt; simp at hlt
      obtain ⟨u, hu, hsb⟩ := hd' k hlt
      have hxc := (unhide HC).col k hlt
      obtain ⟨a1, cap1, rfl, hx⟩ := hsb
      rcases hx with h1 | ⟨b1, o1, rfl, hr1⟩
      · rw [h1] at hxc; have := hxc.len; simp at this
      rw [hxc.len] at hu
      have hx := hr1 at' _ (byte_at' (Ls.getD k []) at' (by rw [hxc.len]; exact h16))
      have hxb := hxc.at at' h16
      have hs := placeL_succ Ls at' k
      obtain ⟨x, hxe⟩ : ∃ x, (Ls.getD k []).getD at' 0 = x := ⟨_, rfl⟩
      rw [hxe] at hx hxb hs
      have HS := hide hs
      have hi1 : (0 : Int) ≤ (k : Int) := by omega
      have hi2 : (k : Int) < (Ls.length : Int) := by omega
      have ha1 : (0 : Int) ≤ (at' : Int) := by omega
      have ha2 : (at' : Int) < 16 := by omega
      have hba := (Below.refl wr.heap.size wr).alloc (Nat.le_refl _) (.cells #[.int .i64 (x : Int)] 3)
      have HL3 := hide (ownsRow_keep (unhide HLO) hba)
      have HN1 := hide (cell_one_new wr (.int .i64 (x : Int)) 3)
      have hsw := (unhide HB).size
      clear hxe hs hr1 hd' hba hbw HLO
      go_wp2_with (at_builtin; refine wpList_append_own _ rfl _ _ 25 rfl w.heap.size 3 i0 (.int .i64 0) 1 8 Tryd.underlying25 hi hz0 hz1 hz2 rfl (by decide) _ _ _ rfl (unhide HL3) ⟨wr.heap.size, 0, none⟩ 1 1 [.int .i64 (x : Int)] rfl rfl (unhide HN1) (by intro u hu; simp only [List.mem_singleton] at hu; subst hu; rfl) (by unfold maxLen; omega) (by omega) (by simp; omega) ?_)
      intro v' w1 hown' hgrow _
      have HLO : Hid (w1.ownsRow w.heap.size 3 1 v' (k + 1) (((placeL Ls at' (k + 1)).map Int.ofNat).map (Value.int .i64))) := by
        rw [unhide HS, List.map_append, List.map_append, List.map_map]; exact hown'
      have HB3 : Hid (Below w.heap.size w w1) := ((unhide HB).alloc hsw _).grown hgrow (by simp; omega) (fun j hj => ((unhide HL3).lt j hj).1)
      clear hown' hgrow HL3 HN1 HS hx hu
      go_wp2
      go_roundw
      case rel => exact ⟨k + 1, by omega, by go_num, unhide HB3, unhide HLO⟩
      case measure => simp [intOf]; omega
    · obtain rfl : k = Ls.length := by omega
      clear hbw
      go_wp2
      go_ret
      exact ⟨u5, rfl, unhide HLO, unhide HB⟩

/-- which data columns are missing, by their numbers -/
def lostN (ms : List Int) (k : Nat) : List Nat := (List.range k).filter fun i => inI ms (i : Int)
theorem lostN_succ (ms : List Int) (k : Nat) : lostN ms (k + 1) = lostN ms k ++ (if inI ms (k : Int) = true then [k] else []) := by
  unfold lostN
  rw [List.range_succ, List.filter_append]
  congr 1
  by_cases h : inI ms (k : Int) = true
  · simp [h]
  · simp [h]
theorem lostN_lt {ms : List Int} {k i : Nat} (h : i ∈ lostN ms k) : i < k ∧ inI ms (i : Int) = true := by
  unfold lostN at h
  rw [List.mem_filter, List.mem_range] at h
  exact h
theorem lostN_le (ms : List Int) (k : Nat) : (lostN ms k).length ≤ k := by
  have := List.length_filter_le (fun i : Nat => inI ms (i : Int)) (List.range k)
  unfold lostN
  simpa using this

theorem lostN_sorted (ms : List Int) (k : Nat) : (lostN ms k).Pairwise (· < ·) := List.pairwise_lt_range.filter _
def intsF (D : List Nat) (i : Nat) : Value := .int .i64 ((D.getD i 0 : Nat) : Int)
theorem ints_set {w : World} {g k a x : Nat} {D : List Nat} (h : w.rowIs g 3 k (intsF D)) (ha : a < D.length) : (w.setCell ⟨g, a, none⟩ (.int .i64 (x : Int))).rowIs g 3 k (intsF (D.set a x)) :=
  (h.set a _).congr (fun i _ => by
    unfold intsF
    by_cases e : i = a
    · rw [if_pos e]
      subst e
      simp [ha]
    · rw [if_neg e]
      simp [List.getD_eq_getElem?_getD, List.getElem?_set_ne (fun e' => e e'.symm)])
theorem ints_sl {w : World} {g c : Nat} {D : List Nat} (h : w.rowIs g 3 D.length (intsF D)) : SlI w (.slice (some ⟨g, 0, none⟩) D.length c) (D.map Int.ofNat) := by
  refine ⟨_, c, by rw [List.length_map], Or.inr ⟨g, 0, rfl, fun j u hj => ?_⟩⟩
  have hj' : j < D.length := by have := (List.getElem?_eq_some_iff.1 hj).1; simpa using this
  rw [Nat.zero_add, h.cell hj', intsF]
  simp only [List.map_map, List.getElem?_map, List.getElem?_eq_getElem hj', Option.map_some, Option.some.injEq] at hj
  rw [← hj]
  simp [hj']

/-- what a try of x leaves -/
def tryX (D : List Nat) (P : Nat) (k : Nat) (x : Nat) : List Nat → List Nat
  | [a] => D.set a x
  | [a, b] => (D.set a x).set b (sumP ((D.set a x).set b 0) k ^^^ P)
  | _ => D
/-- whether it is right -/
def okX (D : List Nat) (P Q : Nat) (noP : Bool) (k : Nat) (x : Nat) : List Nat → Bool
  | [a] => if noP then decide (sumQ (tryX D P k x [a]) k = Q) else decide (sumP (tryX D P k x [a]) k = P)
  | [a, b] => decide (sumQ (tryX D P k x [a, b]) k = Q)
  | _ => true

theorem nat_set (D : List Nat) (a j x : Nat) (ha : a < D.length) : (D.set a x).getD j 0 = if j = a then x else D.getD j 0 := by
  by_cases e : j = a
  · subst e; simp [ha]
  · rw [if_neg e]
    simp [List.getD_eq_getElem?_getD, List.getElem?_set_ne (fun e' => e e'.symm)]
theorem nat_list_ext {a b : List Nat} (hl : a.length = b.length) (h : ∀ j, a.getD j 0 = b.getD j 0) : a = b := by
  apply List.ext_getElem hl
  intro i h1 h2
  have := h i
  simpa [h1, h2] using this
theorem own_nums {w : World} {base g n c : Nat} {ms : List Int} (h : w.ownsRow base 3 1 (.slice (some ⟨g, 0, none⟩) n c) n (ms.map (Value.int .i64))) (j : Nat) (hj : j < n) (hn : ms.length = n) : w.cell? ⟨g, j, none⟩ = some (.int .i64 (ms.getD j 0)) := by
  rw [World.ownsRow.cellAt h j (by omega), int_at ms j (by omega)]

set_option maxRecDepth 100000 in
set_option maxHeartbeats 8000000 in
theorem filled_any (v mv : Value) (ls : List Nat) (ms : List Int) (k base : Nat) (w : World) (D0 : List Nat) (P Q : Nat) (hD0 : ls.take k = D0) (hP : ls.getD k 0 = P) (hQ : ls.getD (k + 1) 0 = Q) (hlen : ls.length = k + 2) (hk2 : 2 ≤ k) (hk6 : k ≤ 6) (hb : ∀ i, ls.getD i 0 < 256)
    (hv : w.ownsRow base 3 1 v (k + 2) ((ls.map Int.ofNat).map (Value.int .i64))) (hm : SlI w mv ms) (hml : ms.length ≤ 1000000000) (hl2 : (lostN ms k).length ≤ 2)
    (hex : ∃ x, x < 256 ∧ okX D0 P Q (inI ms (k : Int)) k x (lostN ms k) = true) :
    Calls Tryd.prog 48 #[v, mv] w fun e w' => ∃ (go x : Nat), e = .returned (.slice (some ⟨go, 0, none⟩) k k) ∧ x < 256 ∧ okX D0 P Q (inI ms (k : Int)) k x (lostN ms k) = true ∧
      w'.rowIs go 3 k (intsF (tryX D0 P k x (lostN ms k))) ∧ w.heap.size ≤ go ∧ Below w.heap.size w w' := by
  obtain ⟨i3, hi3, hz30, hz31, hz32⟩ := info_parts Tryd.info3'
  obtain ⟨gv, cv, hve, hgv1, hgv2⟩ := hv.form (by omega)
  subst hve
  have hcv : k + 2 ≤ cv := by
    rcases hv.2 with ⟨h, _⟩ | ⟨g', cap', cur, e, _, _, hn, _⟩
    · simp at h
    · simp only [Value.slice.injEq] at e
      obtain ⟨_, _, rfl⟩ := e
      exact hn
  have hll : ((ls.map Int.ofNat)).length = k + 2 := by rw [List.length_map, hlen]
  have cell : ∀ w', Below w.heap.size w w' → ∀ j, j < k + 2 → w'.cell? ⟨gv, j, none⟩ = some (.int .i64 ((ls.getD j 0 : Nat) : Int)) := fun w' hb' j hj => by
    rw [hb'.cell hgv2, own_nums hv j hj hll, nat_at ls j (by omega)]
  have HC := hide cell
  have HM := hide hm
  have HBY := hide hb
  have HEX := hide hex
  have HD0 := hide hD0
  have HP := hide hP
  have HQ := hide hQ
  have hkI : (k : Int) ≤ (cv : Int) := by omega
  have hk0 : (0 : Int) ≤ (k : Int) := by omega
  clear cell hm hv hb hex hD0 hP hQ
  go_enter Tryd.func48, Tryd.ntmps48
  go_wp2
  go_loopw [6, 7] (fun lv iv wr => ∃ i : Nat, i ≤ k ∧ iv = .int .i64 (i : Int) ∧ Below w.heap.size w wr ∧ wr.ownsRow w.heap.size 3 1 lv (lostN ms i).length (((lostN ms i).map Int.ofNat).map (Value.int .i64))) (fun _ i _ => k - (intOf i).toNat)
  case atStart => exact ⟨0, Nat.zero_le _, rfl, Below.refl _ _, World.ownsRow_nil _ _ _ _⟩
  case round =>
    obtain ⟨i, hi, rfl, hbw, hlo⟩ := hrel
    have HB := hide hbw
    have HLO := hide hlo
    have hsw := hbw.size
    clear hlo
    rcases Nat.lt_or_ge i k with hlt | hge
    · have hii : (i : Int) < (k : Int) := by omega
      go_wp2_with fail
      refine (among_any mv ms i _ ((unhide HM).below hbw) hml).mono ?_
      rintro e w1 ⟨rfl, hb1⟩
      have HB1 := hide ((unhide HB).trans (hb1.mono hsw))
      have HLO1 := hide (ownsRow_keep (unhide HLO) hb1)
      have hs1 := hb1.size
      have hsu := lostN_succ ms i
      have hle := lostN_le ms i
      clear hb1 hbw
      cases hin : inI ms (i : Int) with
      | true =>
        rw [hin, if_pos rfl] at hsu
        have HSU := hide hsu
        have hba := (Below.refl w1.heap.size w1).alloc (Nat.le_refl _) (.cells #[.int .i64 (i : Int)] 3)
        obtain ⟨XL, hXL⟩ : ∃ XL, ((lostN ms i).map Int.ofNat).map (Value.int .i64) = XL := ⟨_, rfl⟩
        rw [hXL] at HLO1
        have HXL := hide hXL
        have HL3 := hide (ownsRow_keep (unhide HLO1) hba)
        have HN1 := hide (cell_one_new w1 (.int .i64 (i : Int)) 3)
        clear hin hsu hba hXL
        go_wp2_with (at_builtin; refine wpList_append_own _ rfl _ _ 25 rfl w.heap.size 3 i3 (.int .i64 0) 1 8 Tryd.underlying25 hi3 hz30 hz31 hz32 rfl (by decide) _ _ _ rfl (unhide HL3) ⟨w1.heap.size, 0, none⟩ 1 1 [.int .i64 (i : Int)] rfl rfl (unhide HN1) (by intro u hu; simp only [List.mem_singleton] at hu; subst hu; rfl) (by unfold maxLen; omega) (by omega) (by simp; omega) ?_)
        intro v' w2 hown' hgrow _
        have HLO2 : Hid (w2.ownsRow w.heap.size 3 1 v' (lostN ms (i + 1)).length (((lostN ms (i + 1)).map Int.ofNat).map (Value.int .i64))) := by
          rw [unhide HSU, List.map_append, List.map_append, List.length_append, unhide HXL]
          exact hown'
        have HB3 : Hid (Below w.heap.size w w2) := ((unhide HB1).alloc (by omega) _).grown hgrow (by simp; omega) (fun j hj => ((unhide HL3).lt j hj).1)
        clear hown' hgrow HL3 HN1 HLO1
        go_wp2
        go_roundw
        case rel => exact ⟨i + 1, by omega, by go_num, unhide HB3, unhide HLO2⟩
        case measure => simp [intOf]; omega
      | false =>
        rw [hin, if_neg Bool.false_ne_true, List.append_nil] at hsu
        have HLO2 : Hid (w1.ownsRow w.heap.size 3 1 u6 (lostN ms (i + 1)).length (((lostN ms (i + 1)).map Int.ofNat).map (Value.int .i64))) := by rw [hsu]; exact unhide HLO1
        clear hin hsu HLO1
        go_wp2
        go_roundw
        case rel => exact ⟨i + 1, by omega, by go_num, unhide HB1, unhide HLO2⟩
        case measure => simp [intOf]; omega
    · obtain rfl : i = k := by omega
      go_wp2_with fail
      refine (among_any mv ms i _ ((unhide HM).below hbw) hml).mono ?_
      rintro e w1 ⟨rfl, hb1⟩
      have HB1 := hide ((unhide HB).trans (hb1.mono hsw))
      have HLO1 := hide (ownsRow_keep (unhide HLO) hb1)
      have hs1 := hb1.size
      have hmk : ∀ w' : World, (Instr.makeSlice 25 (.int .i64 (i : Int)) (.int .i64 (i : Int))).run Tryd.prog w' = .ok (.slice (some ⟨w'.heap.size, 0, none⟩) i i) (w'.alloc (.cells (madeCells #[.int .i64 0] i) 3)) := fun w' =>
        run_make_row (P := Tryd.prog) 25 3 i3 (.int .i64 0) Tryd.underlying25 hi3 hz30 hz31 rfl .i64 .i64 i (by rw [hz32]; omega) (by omega) w'
      obtain ⟨cur, hcur⟩ : ∃ cur, (madeCells #[.int .i64 0] i).toList = cur := ⟨_, rfl⟩
      have hcl : cur.length = i := by rw [← hcur]; simp [size_madeCells]
      have hcb : (w1.alloc (.cells (madeCells #[.int .i64 0] i) 3)).heap[w1.heap.size]? = some (.cells cur.toArray 3 (0, 0)) := by
        rw [← hcur]
        exact heap_alloc_new w1 _
      have hba := (Below.refl w1.heap.size w1).alloc (Nat.le_refl _) (.cells (madeCells #[.int .i64 0] i) 3)
      have hb1a := (unhide HB1).trans (hba.mono (by omega))
      have hlt : (ls.take i).length = i := by rw [List.length_take, hlen]; omega
      obtain ⟨X1, hX1⟩ : ∃ X1, ((ls.take i).map Int.ofNat).map (Value.int .i64) = X1 := ⟨_, rfl⟩
      have hXl : X1.length = i := by rw [← hX1, List.length_map, List.length_map, hlt]
      have hXm : X1.length = Nat.min i i := by rw [hXl]; exact (Nat.min_self i).symm
      have hX1a : ∀ j, j < i → X1[j]? = some (.int .i64 ((ls.getD j 0 : Nat) : Int)) := fun j hj => by
        rw [← hX1]
        simp [hj, show j < ls.length by omega]
      have hpos : ∀ j u, X1[j]? = some u → (w1.alloc (.cells (madeCells #[.int .i64 0] i) 3)).cell? ((⟨gv, 0, none⟩ : Addr).add j) = some u := fun j u hj => by
        have hj' : j < i := by have := (List.getElem?_eq_some_iff.1 hj).1; omega
        rw [Addr.add_mid, Nat.zero_add, unhide HC _ hb1a j (by omega), ← hj, hX1a j hj']
      have hone : ∀ u ∈ X1, u.oneCell' = true := by
        rw [← hX1]
        intro u hu
        simp only [List.mem_map] at hu
        obtain ⟨y, _, rfl⟩ := hu
        rfl
      have HCB := hide hcb
      have HCL := hide hcl
      have HPO := hide hpos
      have HONE := hide hone
      have HXM := hide hXm
      have HXL := hide hXl
      have HX1A := hide hX1a
      have HBA := hide hba
      clear hcb hcl hpos hone hXm hXl hX1a hba hb1a hb1 hbw hcur hX1 HLO
      go_wp2_with (show wpList _ _ _ (Oper.mk _ (Op.call (Call.mk (Callee.builtin Builtin.copy) _ _)) _ _ _ _ :: _) _ _; refine wpList_copy_splice rfl (.tmp 37) (.tmp 40) 25 25 rfl 3 Tryd.underlying25 (by kernel_rfl) (some ⟨w1.heap.size, 0, none⟩) (some ⟨gv, 0, none⟩) i i i cv rfl rfl w1.heap.size 0 cur 3 (unhide HCB) X1 (unhide HXM) (fun _ => ⟨rfl, _, rfl, unhide HPO⟩) (by rw [unhide HXL, unhide HCL]; omega) (unhide HONE) w1.heap.size w1 (unhide HBA) (Nat.le_refl _) ?_)
      intro w2 hg2 hb2
      have hrow : w2.rowIs w1.heap.size 3 i (intsF (ls.take i)) := by
        refine ⟨_, unhide hg2, by simp [length_splice _ _ _ (show 0 + X1.length ≤ cur.length by rw [unhide HXL, unhide HCL]; omega), unhide HCL], fun j hj => ?_⟩
        unfold splice intsF
        rw [List.getElem?_toArray, List.take_zero, List.nil_append, List.getElem?_append_left (by rw [unhide HXL]; exact hj), unhide HX1A j hj]
        simp [hj, show j < ls.length by omega]
      have HR := hide hrow
      have HB2 := hide ((unhide HB1).trans (hb2.mono (by omega)))
      have HLO2 := hide (ownsRow_keep (unhide HLO1) hb2)
      have hs2 := hb2.size
      clear hg2 hrow hb2 HCB HCL HPO HONE HXM HXL HX1A HBA hmk HB1
      have hgo : w.heap.size ≤ w1.heap.size := by omega
      have hgol : w1.heap.size < w2.heap.size := (unhide HR).lt
      have HGLT : Hid (∀ g, u6.ownBlock = some g → g < w1.heap.size) := fun g hg => ((unhide HLO1).lt g hg).2
      obtain ⟨go, hgoe⟩ : ∃ go, w1.heap.size = go := ⟨_, rfl⟩
      rw [hgoe] at HR hgo hgol HGLT ⊢
      clear HLO1
      clear hgoe
      have hbt := unhide HBY
      -- what the bytes are
      have hP := unhide HP
      have hQ := unhide HQ
      have hD0 := unhide HD0
      have hP256 : P < 256 := by rw [← hP]; exact hbt i
      have hQ256 : Q < 256 := by rw [← hQ]; exact hbt (i + 1)
      have HPQ : Hid (∀ w', Below w.heap.size w w' → w'.cell? ⟨gv, i, none⟩ = some (.int .i64 (P : Int)) ∧ w'.cell? ⟨gv, i + 1, none⟩ = some (.int .i64 (Q : Int))) := fun w' h' => ⟨by rw [unhide HC w' h' i (by omega), hP], by rw [unhide HC w' h' (i + 1) (by omega), hQ]⟩
      have hD0l : D0.length = i := by rw [← hD0]; exact hlt
      have hD0b : ∀ j, D0.getD j 0 < 256 := fun j => by
        rw [← hD0]
        rcases Nat.lt_or_ge j i with h | h
        · have := hbt j
          simpa [List.getElem?_take, h, List.getD_eq_getElem?_getD] using this
        · rw [List.getD_eq_getElem?_getD, List.getElem?_eq_none (by rw [hlt]; exact h)]
          exact (by decide : (0 : Nat) < 256)
      rw [hD0] at HR
      have HD0B := hide hD0b
      clear hP hQ hD0 HC HBY hbt hlt hD0b HD0 HP HQ
      rcases hlo : lostN ms i with _ | ⟨a, _ | ⟨b, _ | ⟨c, r⟩⟩⟩
      · rw [hlo] at HEX HLO2
        have hln : u6 = .slice none 0 0 ∨ ∃ gl cl : Nat, u6 = .slice (some ⟨gl, 0, none⟩) 0 cl := by
          rcases (unhide HLO2).2 with ⟨h, _⟩ | ⟨gl, cl, cur, e, _⟩
          · exact Or.inl h
          · exact Or.inr ⟨gl, cl, e⟩
        obtain ⟨x0, hx0, hok0⟩ := unhide HEX
        have HOK := hide hok0
        have HLE := hide hlo
        clear HEX hok0 hlo
        rcases hln with rfl | ⟨gl, cl, rfl⟩
        · go_wp2
          go_ret
          exact ⟨go, x0, rfl, hx0, by rw [unhide HLE]; exact unhide HOK, by rw [unhide HLE]; exact unhide HR, hgo, unhide HB2⟩
        · go_wp2
          go_ret
          exact ⟨go, x0, rfl, hx0, by rw [unhide HLE]; exact unhide HOK, by rw [unhide HLE]; exact unhide HR, hgo, unhide HB2⟩
      · have hain : a ∈ lostN ms i := by rw [hlo]; simp
        have hak := (lostN_lt hain).1
        rw [hlo] at HEX HLO2
        obtain ⟨gl, cl, hle, _, hgl⟩ := (unhide HLO2).form (by simp)
        simp only [List.length_cons, List.length_nil, Nat.zero_add] at hle
        subst hle
        have hc0 : w2.cell? ⟨gl, 0, none⟩ = some (.int .i64 (a : Int)) := by
          have := World.ownsRow.cellAt (unhide HLO2) 0 (by simp)
          simpa using this
        have hglgo := unhide HGLT gl rfl
        have HLE := hide hlo
        have C0 := hide hc0
        clear hlo hc0 HLO2 HGLT hain
        have ha0 : (0 : Int) ≤ (a : Int) := by omega
        have hai : (a : Int) < (i : Int) := by omega
        cases hnp : inI ms (i : Int) with
        | true =>
          have HNP := hide hnp
          clear hnp
          go_wp2
          go_loopw [11] (fun xv wr => ∃ (x : Nat) (D : List Nat), x ≤ 256 ∧ xv = .int .i64 (x : Int) ∧ (∀ y, y < x → okX D0 P Q (inI ms (i : Int)) i y [a] = false) ∧ D.length = i ∧ (∀ j, j ≠ a → D.getD j 0 = D0.getD j 0) ∧ wr.rowIs go 3 i (intsF D) ∧ Chg (fun b => b = go) w2 wr) (fun x _ => 256 - (intOf x).toNat)
          case atStart => exact ⟨0, D0, by omega, rfl, fun y hy => (by omega), hD0l, fun _ _ => rfl, unhide HR, Chg.refl _ _⟩
          case round =>
            obtain ⟨x, D, hx, rfl, hno, hDl, hDe, hrow, hch⟩ := hrel
            have HNO := hide hno
            rcases Nat.lt_or_ge x 256 with hx256 | hx256
            · have hxI : (x : Int) < 256 := by omega
              have hset : D.set a x = D0.set a x := nat_list_ext (by rw [List.length_set, List.length_set, hDl, hD0l]) (fun j => by
                rw [nat_set _ _ _ _ (by omega), nat_set _ _ _ _ (by omega)]
                by_cases e : j = a
                · rw [if_pos e, if_pos e]
                · rw [if_neg e, if_neg e, hDe j e])
              have c1 := hrow.cell hak
              have f1 := hrow.frozen a
              unfold intsF at c1
              have n1 := ints_set (x := x) hrow (by omega : a < D.length)
              rw [hset] at n1
              have nch := hch.setCell ⟨go, a, none⟩ (.int .i64 (x : Int)) (Or.inl rfl)
              have cl0 : wr.cell? ⟨gl, 0, none⟩ = some (.int .i64 (a : Int)) := by rw [World.cell?_of_block (w := w2) (hch.block gl (by omega) (by omega))]; exact unhide C0
              have hTl : (D0.set a x).length = i := by rw [List.length_set, hD0l]
              have hTb : ∀ j, (D0.set a x).getD j 0 < 256 := fun j => by
                rw [nat_set _ _ _ _ (by omega)]
                split
                · exact hx256
                · exact unhide HD0B j
              obtain ⟨T, hT⟩ : ∃ T, D0.set a x = T := ⟨_, rfl⟩
              rw [hT] at n1 hTl hTb
              have hokx : okX D0 P Q (inI ms (i : Int)) i x [a] = (if inI ms (i : Int) then decide (sumQ T i = Q) else decide (sumP T i = P)) := by rw [← hT]; rfl
              have htry : tryX D0 P i x [a] = T := by rw [← hT]; rfl
              have HN1 := hide n1
              have HCH := hide nch
              have HOKX := hide hokx
              have HTRY := hide htry
              have HTB := hide hTb
              have HTL := hide hTl
              have HDE : Hid (∀ j, j ≠ a → T.getD j 0 = D0.getD j 0) := fun j hj => by rw [← hT, nat_set _ _ _ _ (by omega), if_neg hj]
              clear hset n1 nch hokx htry hTb hTl hT hrow hch hno hDe
              obtain ⟨wS, hwS⟩ : ∃ wS, wr.setCell ⟨go, a, none⟩ (.int .i64 (x : Int)) = wS := ⟨_, rfl⟩
              rw [hwS] at HN1 HCH
              have hbS : Below w.heap.size w wS := (unhide HB2).trans ((unhide HCH).below w.heap.size (unhide HB2).size (fun k hk => by omega))
              have hsm := sums_any (.slice (some ⟨go, 0, none⟩) i i) T wS (by have := ints_sl (c := i) (show wS.rowIs go 3 T.length (intsF T) by rw [unhide HTL]; exact unhide HN1); rw [unhide HTL] at this; exact this) (by rw [unhide HTL]; omega) (unhide HTB)
              rw [unhide HTL] at hsm
              have HSM := hide hsm
              have HBS := hide hbS
              have HWS := hide hwS
              clear hsm hbS hwS
              go_wp2_with fail
              rw [unhide HWS]
              refine (unhide HSM).mono ?_
              rintro e w3 ⟨rfl, hb3⟩
              have hb03 := (unhide HBS).trans (hb3.mono (unhide HBS).size)
              obtain ⟨cP, cQ⟩ := unhide HPQ w3 hb03
              have hrow3 := rowIs_below (unhide HN1) hb3 (unhide HN1).lt
              have hch3 : Chg (fun b => b = go) w2 w3 := (unhide HCH).trans ⟨hb3.os, hb3.tape, hb3.output, hb3.size, fun k hk _ => hb3.block k hk⟩
              have HR3 := hide hrow3
              have HCH3 := hide hch3
              have HB03 := hide hb03
              have hi2 : (i : Int) < (i : Int) + 2 := by omega
              have hi3' : (i : Int) + 1 < (i : Int) + 2 := by omega
              have hi4 : (0 : Int) ≤ (i : Int) + 1 := by omega
              clear hrow3 hch3 hb03 hb3 HSM HBS HWS cl0 c1 f1
              by_cases hq : sumQ T i = Q
              · have hok : okX D0 P Q (inI ms (i : Int)) i x [a] = true := by rw [unhide HOKX, unhide HNP, if_pos rfl, decide_eq_true hq]
                have HOK := hide hok
                rw [hq]
                clear hok hq
                go_wp2
                go_ret
                exact ⟨go, x, rfl, hx256, by rw [unhide HLE]; exact unhide HOK, by rw [unhide HLE, unhide HTRY]; exact unhide HR3, hgo, unhide HB03⟩
              · have hok : okX D0 P Q (inI ms (i : Int)) i x [a] = false := by rw [unhide HOKX, unhide HNP, if_pos rfl, decide_eq_false hq]
                have HOK := hide hok
                have hqb : (((sumQ T i : Nat) : Int) == (Q : Int)) = false := beq_eq_false_iff_ne.2 (by omega)
                clear hok hq
                go_wp2
                go_roundw
                case rel => exact ⟨x + 1, T, by omega, by go_num, fun y hy => (by rcases Nat.lt_or_ge y x with h | h; exact unhide HNO y h; obtain rfl : y = x := (by omega); exact unhide HOK), unhide HTL, unhide HDE, unhide HR3, unhide HCH3⟩
                case measure => simp [intOf]; omega
            · obtain rfl : x = 256 := by omega
              obtain ⟨x0, hx0, hok0⟩ := unhide HEX
              rw [hno x0 hx0] at hok0
              cases hok0
        | false =>
          have HNP := hide hnp
          clear hnp
          go_wp2
          go_loopw [11] (fun xv wr => ∃ (x : Nat) (D : List Nat), x ≤ 256 ∧ xv = .int .i64 (x : Int) ∧ (∀ y, y < x → okX D0 P Q (inI ms (i : Int)) i y [a] = false) ∧ D.length = i ∧ (∀ j, j ≠ a → D.getD j 0 = D0.getD j 0) ∧ wr.rowIs go 3 i (intsF D) ∧ Chg (fun b => b = go) w2 wr) (fun x _ => 256 - (intOf x).toNat)
          case atStart => exact ⟨0, D0, by omega, rfl, fun y hy => (by omega), hD0l, fun _ _ => rfl, unhide HR, Chg.refl _ _⟩
          case round =>
            obtain ⟨x, D, hx, rfl, hno, hDl, hDe, hrow, hch⟩ := hrel
            have HNO := hide hno
            rcases Nat.lt_or_ge x 256 with hx256 | hx256
            · have hxI : (x : Int) < 256 := by omega
              have hset : D.set a x = D0.set a x := nat_list_ext (by rw [List.length_set, List.length_set, hDl, hD0l]) (fun j => by
                rw [nat_set _ _ _ _ (by omega), nat_set _ _ _ _ (by omega)]
                by_cases e : j = a
                · rw [if_pos e, if_pos e]
                · rw [if_neg e, if_neg e, hDe j e])
              have c1 := hrow.cell hak
              have f1 := hrow.frozen a
              unfold intsF at c1
              have n1 := ints_set (x := x) hrow (by omega : a < D.length)
              rw [hset] at n1
              have nch := hch.setCell ⟨go, a, none⟩ (.int .i64 (x : Int)) (Or.inl rfl)
              have cl0 : wr.cell? ⟨gl, 0, none⟩ = some (.int .i64 (a : Int)) := by rw [World.cell?_of_block (w := w2) (hch.block gl (by omega) (by omega))]; exact unhide C0
              have hTl : (D0.set a x).length = i := by rw [List.length_set, hD0l]
              have hTb : ∀ j, (D0.set a x).getD j 0 < 256 := fun j => by
                rw [nat_set _ _ _ _ (by omega)]
                split
                · exact hx256
                · exact unhide HD0B j
              obtain ⟨T, hT⟩ : ∃ T, D0.set a x = T := ⟨_, rfl⟩
              rw [hT] at n1 hTl hTb
              have hokx : okX D0 P Q (inI ms (i : Int)) i x [a] = (if inI ms (i : Int) then decide (sumQ T i = Q) else decide (sumP T i = P)) := by rw [← hT]; rfl
              have htry : tryX D0 P i x [a] = T := by rw [← hT]; rfl
              have HN1 := hide n1
              have HCH := hide nch
              have HOKX := hide hokx
              have HTRY := hide htry
              have HTB := hide hTb
              have HTL := hide hTl
              have HDE : Hid (∀ j, j ≠ a → T.getD j 0 = D0.getD j 0) := fun j hj => by rw [← hT, nat_set _ _ _ _ (by omega), if_neg hj]
              clear hset n1 nch hokx htry hTb hTl hT hrow hch hno hDe
              obtain ⟨wS, hwS⟩ : ∃ wS, wr.setCell ⟨go, a, none⟩ (.int .i64 (x : Int)) = wS := ⟨_, rfl⟩
              rw [hwS] at HN1 HCH
              have hbS : Below w.heap.size w wS := (unhide HB2).trans ((unhide HCH).below w.heap.size (unhide HB2).size (fun k hk => by omega))
              have hsm := sums_any (.slice (some ⟨go, 0, none⟩) i i) T wS (by have := ints_sl (c := i) (show wS.rowIs go 3 T.length (intsF T) by rw [unhide HTL]; exact unhide HN1); rw [unhide HTL] at this; exact this) (by rw [unhide HTL]; omega) (unhide HTB)
              rw [unhide HTL] at hsm
              have HSM := hide hsm
              have HBS := hide hbS
              have HWS := hide hwS
              clear hsm hbS hwS
              go_wp2_with fail
              rw [unhide HWS]
              refine (unhide HSM).mono ?_
              rintro e w3 ⟨rfl, hb3⟩
              have hb03 := (unhide HBS).trans (hb3.mono (unhide HBS).size)
              obtain ⟨cP, cQ⟩ := unhide HPQ w3 hb03
              have hrow3 := rowIs_below (unhide HN1) hb3 (unhide HN1).lt
              have hch3 : Chg (fun b => b = go) w2 w3 := (unhide HCH).trans ⟨hb3.os, hb3.tape, hb3.output, hb3.size, fun k hk _ => hb3.block k hk⟩
              have HR3 := hide hrow3
              have HCH3 := hide hch3
              have HB03 := hide hb03
              have hi2 : (i : Int) < (i : Int) + 2 := by omega
              have hi3' : (i : Int) + 1 < (i : Int) + 2 := by omega
              have hi4 : (0 : Int) ≤ (i : Int) + 1 := by omega
              clear hrow3 hch3 hb03 hb3 HSM HBS HWS cl0 c1 f1
              by_cases hq : sumP T i = P
              · have hok : okX D0 P Q (inI ms (i : Int)) i x [a] = true := by rw [unhide HOKX, unhide HNP, if_neg Bool.false_ne_true, decide_eq_true hq]
                have HOK := hide hok
                rw [hq]
                clear hok hq
                go_wp2
                go_ret
                exact ⟨go, x, rfl, hx256, by rw [unhide HLE]; exact unhide HOK, by rw [unhide HLE, unhide HTRY]; exact unhide HR3, hgo, unhide HB03⟩
              · have hok : okX D0 P Q (inI ms (i : Int)) i x [a] = false := by rw [unhide HOKX, unhide HNP, if_neg Bool.false_ne_true, decide_eq_false hq]
                have HOK := hide hok
                have hqb : (((sumP T i : Nat) : Int) == (P : Int)) = false := beq_eq_false_iff_ne.2 (by omega)
                clear hok hq
                go_wp2
                go_roundw
                case rel => exact ⟨x + 1, T, by omega, by go_num, fun y hy => (by rcases Nat.lt_or_ge y x with h | h; exact unhide HNO y h; obtain rfl : y = x := (by omega); exact unhide HOK), unhide HTL, unhide HDE, unhide HR3, unhide HCH3⟩
                case measure => simp [intOf]; omega
            · obtain rfl : x = 256 := by omega
              obtain ⟨x0, hx0, hok0⟩ := unhide HEX
              rw [hno x0 hx0] at hok0
              cases hok0
      · have hpw := lostN_sorted ms i
        rw [hlo] at hpw
        have hab : a < b := by simp at hpw; exact hpw
        have hain : a ∈ lostN ms i := by rw [hlo]; simp
        have hbin : b ∈ lostN ms i := by rw [hlo]; simp
        have hak := (lostN_lt hain).1
        have hbk := (lostN_lt hbin).1
        rw [hlo] at HEX HLO2
        obtain ⟨gl, cl, hle, _, hgl⟩ := (unhide HLO2).form (by simp)
        simp only [List.length_cons, List.length_nil, Nat.zero_add] at hle
        subst hle
        have hc0 : w2.cell? ⟨gl, 0, none⟩ = some (.int .i64 (a : Int)) := by
          have := World.ownsRow.cellAt (unhide HLO2) 0 (by simp)
          simpa using this
        have hc1 : w2.cell? ⟨gl, 1, none⟩ = some (.int .i64 (b : Int)) := by
          have := World.ownsRow.cellAt (unhide HLO2) 1 (by simp)
          simpa using this
        have hglgo := unhide HGLT gl rfl
        have HLE := hide hlo
        have C0 := hide hc0
        have C1 := hide hc1
        clear hlo hc0 hc1 HLO2 HGLT hain hbin hpw
        have ha0 : (0 : Int) ≤ (a : Int) := by omega
        have hai : (a : Int) < (i : Int) := by omega
        have hb0 : (0 : Int) ≤ (b : Int) := by omega
        have hbi : (b : Int) < (i : Int) := by omega
        go_wp2
        go_loopw [11] (fun xv wr => ∃ (x : Nat) (D : List Nat), x ≤ 256 ∧ xv = .int .i64 (x : Int) ∧ (∀ y, y < x → okX D0 P Q (inI ms (i : Int)) i y [a, b] = false) ∧ D.length = i ∧ (∀ j, j ≠ a → j ≠ b → D.getD j 0 = D0.getD j 0) ∧ wr.rowIs go 3 i (intsF D) ∧ Chg (fun b => b = go) w2 wr) (fun x _ => 256 - (intOf x).toNat)
        case atStart => exact ⟨0, D0, by omega, rfl, fun y hy => (by omega), hD0l, fun _ _ _ => rfl, unhide HR, Chg.refl _ _⟩
        case round =>
          obtain ⟨x, D, hx, rfl, hno, hDl, hDe, hrow, hch⟩ := hrel
          have HNO := hide hno
          rcases Nat.lt_or_ge x 256 with hx256 | hx256
          rotate_left
          · obtain rfl : x = 256 := by omega
            obtain ⟨x0, hx0, hok0⟩ := unhide HEX
            rw [hno x0 hx0] at hok0
            cases hok0
          have hxI : (x : Int) < 256 := by omega
          have hset : (D.set a x).set b 0 = (D0.set a x).set b 0 := nat_list_ext (by simp only [List.length_set]; omega) (fun j => by
            rw [nat_set (D.set a x) b j 0 (by rw [List.length_set]; omega), nat_set (D0.set a x) b j 0 (by rw [List.length_set]; omega), nat_set D a j x (by omega), nat_set D0 a j x (by omega)]
            by_cases e : j = b
            · rw [if_pos e, if_pos e]
            · rw [if_neg e, if_neg e]
              by_cases e2 : j = a
              · rw [if_pos e2, if_pos e2]
              · rw [if_neg e2, if_neg e2, hDe j e2 e])
          have c1 := hrow.cell hak
          have f1 := hrow.frozen a
          unfold intsF at c1
          have n1 := ints_set (x := x) hrow (by omega : a < D.length)
          have c2 := n1.cell hbk
          have f2 := n1.frozen b
          unfold intsF at c2
          have n2 := ints_set (x := 0) n1 (by rw [List.length_set]; omega : b < (D.set a x).length)
          rw [hset] at n2
          have nch := (hch.setCell ⟨go, a, none⟩ (.int .i64 (x : Int)) (Or.inl rfl)).setCell ⟨go, b, none⟩ (.int .i64 ((0 : Nat) : Int)) (Or.inl rfl)
          have l0 : wr.cell? ⟨gl, 0, none⟩ = some (.int .i64 (a : Int)) := by rw [World.cell?_of_block (w := w2) (hch.block gl (by omega) (by omega))]; exact unhide C0
          have l1 : (wr.setCell ⟨go, a, none⟩ (.int .i64 (x : Int))).cell? ⟨gl, 1, none⟩ = some (.int .i64 (b : Int)) := by
            rw [World.cell?_setCell_far _ _ _ _ (by simp; omega), World.cell?_of_block (w := w2) (hch.block gl (by omega) (by omega))]; exact unhide C1
          have hTl : ((D0.set a x).set b 0).length = i := by simp only [List.length_set]; exact hD0l
          have hTb : ∀ j, ((D0.set a x).set b 0).getD j 0 < 256 := fun j => by
            rw [nat_set _ _ _ _ (by rw [List.length_set]; omega), nat_set _ _ _ _ (by omega)]
            split
            · omega
            · split
              · exact hx256
              · exact unhide HD0B j
          obtain ⟨T0, hT0⟩ : ∃ T0, (D0.set a x).set b 0 = T0 := ⟨_, rfl⟩
          rw [hT0] at n2 hTl hTb
          obtain ⟨p0, hp0⟩ : ∃ p0, sumP T0 i = p0 := ⟨_, rfl⟩
          have hp256 : p0 < 256 := by rw [← hp0]; exact sumP_lt T0 hTb i
          have hpx : p0 ^^^ P < 256 := Nat.xor_lt_two_pow (n := 8) hp256 hP256
          have htry : tryX D0 P i x [a, b] = T0.set b (p0 ^^^ P) := by
            show (D0.set a x).set b (sumP ((D0.set a x).set b 0) i ^^^ P) = _
            rw [hT0, hp0, ← hT0, List.set_set]
          have hTl2 : (T0.set b (p0 ^^^ P)).length = i := by rw [List.length_set, hTl]
          have hTb2 : ∀ j, (T0.set b (p0 ^^^ P)).getD j 0 < 256 := fun j => by
            rw [nat_set _ _ _ _ (by omega)]
            split
            · exact hpx
            · exact hTb j
          have hDE2 : ∀ j, j ≠ a → j ≠ b → (T0.set b (p0 ^^^ P)).getD j 0 = D0.getD j 0 := fun j h1 h2 => by
            rw [nat_set _ _ _ _ (by omega), if_neg h2, ← hT0, nat_set _ _ _ _ (by rw [List.length_set]; omega), if_neg h2, nat_set _ _ _ _ (by omega), if_neg h1]
          have HN2 := hide n2
          have HCH := hide nch
          have HTRY := hide htry
          have HTL := hide hTl
          have HTB := hide hTb
          have HTL2 := hide hTl2
          have HTB2 := hide hTb2
          have HDE := hide hDE2
          have HP0 := hide hp0
          clear hset n1 n2 nch htry hTb hTl hT0 hrow hch hno hDe hTl2 hTb2 hDE2 hp0
          obtain ⟨wS, hwS⟩ : ∃ wS, (wr.setCell ⟨go, a, none⟩ (.int .i64 (x : Int))).setCell ⟨go, b, none⟩ (.int .i64 ((0 : Nat) : Int)) = wS := ⟨_, rfl⟩
          have hwS' : (wr.setCell ⟨go, a, none⟩ (.int .i64 (x : Int))).setCell ⟨go, b, none⟩ (.int .i64 0) = wS := hwS
          rw [hwS] at HN2 HCH
          have hbS : Below w.heap.size w wS := (unhide HB2).trans ((unhide HCH).below w.heap.size (unhide HB2).size (fun k hk => by omega))
          have hsm := sums_any (.slice (some ⟨go, 0, none⟩) i i) T0 wS (by have := ints_sl (c := i) (show wS.rowIs go 3 T0.length (intsF T0) by rw [unhide HTL]; exact unhide HN2); rw [unhide HTL] at this; exact this) (by rw [unhide HTL]; omega) (unhide HTB)
          rw [unhide HTL, unhide HP0] at hsm
          have HSM := hide hsm
          have HBS := hide hbS
          have HWS := hide hwS'
          clear hsm hbS hwS hwS'
          go_wp2_with fail
          rw [unhide HWS]
          refine (unhide HSM).mono ?_
          rintro e w3 ⟨rfl, hb3⟩
          have hb03 := (unhide HBS).trans (hb3.mono (unhide HBS).size)
          have cP := (unhide HPQ w3 hb03).1
          have hrow3 := rowIs_below (unhide HN2) hb3 (unhide HN2).lt
          have hch3 : Chg (fun b => b = go) w2 w3 := (unhide HCH).trans ⟨hb3.os, hb3.tape, hb3.output, hb3.size, fun k hk _ => hb3.block k hk⟩
          have hl13 : w3.cell? ⟨gl, 1, none⟩ = some (.int .i64 (b : Int)) := by rw [World.cell?_of_block (w := w2) (hch3.block gl (by omega) (by omega))]; exact unhide C1
          have L1 := hide hl13
          have V1 := hide cP
          have HR3 := hide hrow3
          have HCH3 := hide hch3
          have HB03 := hide hb03
          have hi2 : (i : Int) < (i : Int) + 2 := by omega
          have hi3' : (i : Int) + 1 < (i : Int) + 2 := by omega
          have hi4 : (0 : Int) ≤ (i : Int) + 1 := by omega
          clear hrow3 hch3 hb03 hb3 HSM HBS HWS l0 l1 c1 f1 c2 f2 cP hl13 HN2 HCH
          go_wp2
          refine wp_region_noPanic ?_
          refine orders_begin 11 (fun w' => w'.cell? ⟨gl, 1, none⟩ = some (.int .i64 (b : Int)) ∧ w'.cell? ⟨gv, i, none⟩ = some (.int .i64 (P : Int))) (by kernel_rfl) ?_
          refine orders_take 0 (some 69) (v := .slice (some ⟨go, 0, none⟩) i i) rfl (by kernel_rfl) (by kernel_rfl) (by kernel_rfl) (by kernel_rfl) (fun _ _ _ h => h) (Or.inl ⟨by rfl, fun _ _ => rfl⟩) ⟨unhide L1, unhide V1⟩ rfl ?_
          simp only [Act.put, List.setIfInBounds_toArray, List.set_cons_zero, List.set_cons_succ]
          refine orders_take 1 (some 70) (v := .slice (some ⟨gl, 0, none⟩) 2 cl) rfl (by kernel_rfl) (by kernel_rfl) (by kernel_rfl) (by kernel_rfl) (fun _ _ _ h => h) (Or.inl ⟨by rfl, fun _ _ => rfl⟩) ⟨unhide L1, unhide V1⟩ rfl ?_
          simp only [Act.put, List.setIfInBounds_toArray, List.set_cons_zero, List.set_cons_succ]
          refine orders_take 2 (some 71) (v := .pointer (some ⟨gl, 1, none⟩)) rfl (by kernel_rfl) (by kernel_rfl) (by kernel_rfl) (by kernel_rfl) (fun _ _ _ h => h) (Or.inl ⟨by rfl, fun _ _ => by go_simp⟩) ⟨unhide L1, unhide V1⟩ rfl ?_
          simp only [Act.put, List.setIfInBounds_toArray, List.set_cons_zero, List.set_cons_succ]
          refine orders_take 3 (some 72) (v := .int .i64 (b : Int)) rfl (by kernel_rfl) (by kernel_rfl) (by kernel_rfl) (by kernel_rfl) (fun _ _ _ h => h) (Or.inl ⟨by rfl, fun w' hw => by have h1 := hw.1; clear hw; go_simp⟩) ⟨unhide L1, unhide V1⟩ rfl ?_
          simp only [Act.put, List.setIfInBounds_toArray, List.set_cons_zero, List.set_cons_succ]
          refine orders_take 4 (some 73) (v := .int .i64 ((p0 : Nat) : Int)) rfl (by kernel_rfl) (by kernel_rfl) (by kernel_rfl) (by kernel_rfl) (fun _ _ _ h => h) (Or.inl ⟨by rfl, fun _ _ => rfl⟩) ⟨unhide L1, unhide V1⟩ rfl ?_
          simp only [Act.put, List.setIfInBounds_toArray, List.set_cons_zero, List.set_cons_succ]
          refine orders_take 5 (some 74) (v := .slice (some ⟨gv, 0, none⟩) (i + 2) cv) rfl (by kernel_rfl) (by kernel_rfl) (by kernel_rfl) (by kernel_rfl) (fun _ _ _ h => h) (Or.inl ⟨by rfl, fun _ _ => rfl⟩) ⟨unhide L1, unhide V1⟩ rfl ?_
          simp only [Act.put, List.setIfInBounds_toArray, List.set_cons_zero, List.set_cons_succ]
          refine orders_take 6 (some 75) (v := .int .i64 (i : Int)) rfl (by kernel_rfl) (by kernel_rfl) (by kernel_rfl) (by kernel_rfl) (fun _ _ _ h => h) (Or.inl ⟨by rfl, fun _ _ => rfl⟩) ⟨unhide L1, unhide V1⟩ rfl ?_
          simp only [Act.put, List.setIfInBounds_toArray, List.set_cons_zero, List.set_cons_succ]
          refine orders_take 7 (some 76) (v := .pointer (some ⟨gv, i, none⟩)) rfl (by kernel_rfl) (by kernel_rfl) (by kernel_rfl) (by kernel_rfl) (fun _ _ _ h => h) (Or.inl ⟨by rfl, fun _ _ => by go_simp⟩) ⟨unhide L1, unhide V1⟩ rfl ?_
          simp only [Act.put, List.setIfInBounds_toArray, List.set_cons_zero, List.set_cons_succ]
          refine orders_take 8 (some 77) (v := .int .i64 (P : Int)) rfl (by kernel_rfl) (by kernel_rfl) (by kernel_rfl) (by kernel_rfl) (fun _ _ _ h => h) (Or.inl ⟨by rfl, fun w' hw => by have h1 := hw.2; clear hw; go_simp⟩) ⟨unhide L1, unhide V1⟩ rfl ?_
          simp only [Act.put, List.setIfInBounds_toArray, List.set_cons_zero, List.set_cons_succ]
          have hrow4 : w3.drew.rowIs go 3 i (intsF T0) := unhide HR3
          have hch4 := (unhide HCH3).drew
          have hb04 : Below w.heap.size w w3.drew := (unhide HB03).drew
          have l1' : w3.drew.cell? ⟨gl, 1, none⟩ = some (.int .i64 (b : Int)) := unhide L1
          have v1' : w3.drew.cell? ⟨gv, i, none⟩ = some (.int .i64 (P : Int)) := unhide V1
          clear HR3 HCH3 HB03 L1 V1
          generalize w3.drew = w4 at *
          refine orders_one 9 (by kernel_rfl) rfl (by rfl) (fun K hK => ?_)
          go_simp
          refine (either_any p0 P _ hp256 hP256).mono ?_
          rintro e w5 ⟨rfl, hb5⟩
          have hrow5 := rowIs_below hrow4 hb5 hrow4.lt
          have hch5 := hch4.trans (w'' := w5) ⟨hb5.os, hb5.tape, hb5.output, hb5.size, fun k hk _ => hb5.block k hk⟩
          have hb05 := hb04.trans (hb5.mono hb04.size)
          have l15 := (hb5.cell (block_lt_of_cell l1')).trans l1'
          have v15 := (hb5.cell (block_lt_of_cell v1')).trans v1'
          refine hK.out _ _ (fun _ => ⟨l15, v15⟩) ?_
          clear hK K
          refine orders_one 10 (by kernel_rfl) rfl (by rfl) (fun K hK => ?_)
          go_simp
          refine hK.out _ _ (fun _ => ⟨l15, v15⟩) ?_
          clear hK K
          have d1 := hrow5.cell hbk
          have g1 := hrow5.frozen b
          unfold intsF at d1
          have n5 := ints_set (x := p0 ^^^ P) hrow5 (by rw [unhide HTL]; omega : b < T0.length)
          have nch5 := hch5.setCell ⟨go, b, none⟩ (.int .i64 ((p0 ^^^ P : Nat) : Int)) (Or.inl rfl)
          have nb5 := hb05.setCell (p := ⟨go, b, none⟩) hgo (.int .i64 ((p0 ^^^ P : Nat) : Int))
          refine orders_one 11 (by kernel_rfl) rfl (by rfl) (fun K hK => ?_)
          go_simp
          refine hK.out _ _ (fun h => absurd rfl h) ?_
          clear hK K
          refine orders_end (by kernel_rfl) ?_
          refine NoPanic.normal ?_
          have N5 := hide n5
          have NC5 := hide nch5
          have NB5 := hide nb5
          clear d1 g1 n5 nch5 nb5 hrow5 hch5 hb05 l15 v15 hb5 hrow4 hch4 hb04 l1' v1'
          obtain ⟨w6, hw6⟩ : ∃ w6, w5.setCell ⟨go, b, none⟩ (.int .i64 ((p0 ^^^ P : Nat) : Int)) = w6 := ⟨_, rfl⟩
          rw [hw6] at N5 NC5 NB5 ⊢
          clear hw6
          obtain ⟨T, hT⟩ : ∃ T, T0.set b (p0 ^^^ P) = T := ⟨_, rfl⟩
          rw [hT] at N5 HTL2 HTB2 HDE HTRY
          clear hT
          have hsm2 := sums_any (.slice (some ⟨go, 0, none⟩) i i) T w6 (by have := ints_sl (c := i) (show w6.rowIs go 3 T.length (intsF T) by rw [unhide HTL2]; exact unhide N5); rw [unhide HTL2] at this; exact this) (by rw [unhide HTL2]; omega) (unhide HTB2)
          rw [unhide HTL2] at hsm2
          have HSM2 := hide hsm2
          clear hsm2
          go_wp2_with fail
          refine (unhide HSM2).mono ?_
          rintro e w7 ⟨rfl, hb7⟩
          have hb07 := (unhide NB5).trans (hb7.mono (unhide NB5).size)
          have cQ := (unhide HPQ w7 hb07).2
          have HR7 := hide (rowIs_below (unhide N5) hb7 (unhide N5).lt)
          have HCH7 := hide ((unhide NC5).trans (w'' := w7) ⟨hb7.os, hb7.tape, hb7.output, hb7.size, fun k hk _ => hb7.block k hk⟩)
          have HB07 := hide hb07
          clear hb07 hb7 HSM2 N5 NC5 NB5
          by_cases hq : sumQ T i = Q
          · have hok : okX D0 P Q (inI ms (i : Int)) i x [a, b] = true := by
              show decide (sumQ (tryX D0 P i x [a, b]) i = Q) = true
              rw [unhide HTRY, decide_eq_true hq]
            have HOK := hide hok
            rw [hq]
            clear hok hq
            go_wp2
            go_ret
            exact ⟨go, x, rfl, hx256, by rw [unhide HLE]; exact unhide HOK, by rw [unhide HLE, unhide HTRY]; exact unhide HR7, hgo, unhide HB07⟩
          · have hok : okX D0 P Q (inI ms (i : Int)) i x [a, b] = false := by
              show decide (sumQ (tryX D0 P i x [a, b]) i = Q) = false
              rw [unhide HTRY, decide_eq_false hq]
            have HOK := hide hok
            have hqb : (((sumQ T i : Nat) : Int) == (Q : Int)) = false := beq_eq_false_iff_ne.2 (by omega)
            clear hok hq
            go_wp2
            go_roundw
            case rel =>
              have hnew : ∀ y, y < x + 1 → okX D0 P Q (inI ms (i : Int)) i y [a, b] = false := fun y hy => by
                rcases Nat.lt_or_ge y x with h | h
                · exact unhide HNO y h
                · obtain rfl : y = x := by omega
                  exact unhide HOK
              (repeat apply Exists.intro)
              refine ⟨?_, rfl⟩
              exact ⟨x + 1, T, by omega, by go_num, hnew, unhide HTL2, unhide HDE, unhide HR7, unhide HCH7⟩
            case measure => simp [intOf]; omega
      · rw [hlo] at hl2
        simp at hl2

end Go.Proofs.YtdcinlkkjbclmaaDoor
