/- The contract of platterref.Full. -/
import Derived.Test.YtdcinlkkjbclmaaDoorRefFill
import Derived.Test.YtdcinlkkjbclmaaDoorLaw
namespace Go.Proofs.YtdcinlkkjbclmaaDoor
open Go.RowKit

theorem buf_block {w : World} {g : Nat} {xs : List Nat} (h : w.heap[g]? = some (.cells (xs.map B).toArray 5 (0, 0))) : Buf w g xs := by
  have hc : ∀ j, j < xs.length → w.cell? ⟨g, j, none⟩ = some (B (xs.getD j 0)) := fun j hj => by
    simp [World.cell?, h, hj]
  refine ⟨fun j v hj => ?_, fun j hj => ?_⟩
  · have hj' : j < xs.length := by have := (List.getElem?_eq_some_iff.1 hj).1; simpa using this
    rw [Nat.zero_add, hc j hj', ← hj]
    simp [hj']
  · rw [Nat.zero_add, hc j hj]
    exact ⟨rfl, by simp [World.frozen?, h]⟩

/-- at one place: the data bytes as they are found with x -/
def foundL (ts : List (List Nat)) (ms : List Int) (k at' x : Nat) : List Nat := tryX ((placeL ts at' (k + 2)).take k) ((ts.getD k []).getD at' 0) k x (lostN ms k)
def foundB (ts : List (List Nat)) (ms : List Int) (k at' x i : Nat) : Nat := if i < k then (foundL ts ms k at' x).getD i 0 else if i = k then sumP (foundL ts ms k at' x) k else sumQ (foundL ts ms k at' x) k
def foundOK (ts : List (List Nat)) (ms : List Int) (k at' x : Nat) : Prop := x < 256 ∧ okX ((placeL ts at' (k + 2)).take k) ((ts.getD k []).getD at' 0) ((ts.getD (k + 1) []).getD at' 0) (inI ms (k : Int)) k x (lostN ms k) = true
/-- column i, its first places found -/
def fullTo (ts : List (List Nat)) (ms : List Int) (k : Nat) (X : Nat → Nat) (m i : Nat) : List Nat := mixL (fun j => foundB ts ms k j (X j) i) (ts.getD i []) m

theorem tryX_len (D : List Nat) (P k x : Nat) (lost : List Nat) : (tryX D P k x lost).length = D.length := by
  unfold tryX
  split <;> simp
theorem tryX_lt {D : List Nat} {P k x : Nat} {lost : List Nat} (hD : ∀ j, D.getD j 0 < 256) (hP : P < 256) (hx : x < 256) (hl : ∀ a ∈ lost, a < D.length) (j : Nat) : (tryX D P k x lost).getD j 0 < 256 := by
  have one : ∀ (E : List Nat) (a y : Nat), (∀ j, E.getD j 0 < 256) → a < E.length → y < 256 → ∀ j, (E.set a y).getD j 0 < 256 := fun E a y hE ha hy j => by
    rw [nat_set _ _ _ _ ha]
    split
    · exact hy
    · exact hE j
  unfold tryX
  split
  · exact one D _ x hD (hl _ (by simp)) hx j
  · rename_i a b
    have h1 := one D a x hD (hl _ (by simp)) hx
    have hb : b < (D.set a x).length := by rw [List.length_set]; exact hl b (by simp)
    exact one _ _ _ h1 hb (Nat.xor_lt_two_pow (n := 8) (sumP_lt _ (one _ _ 0 h1 hb (by omega)) k) hP) j
  · exact hD j
theorem found_len (ts : List (List Nat)) (ms : List Int) (k at' x : Nat) : (foundL ts ms k at' x).length = k := by
  unfold foundL
  rw [tryX_len, List.length_take, placeL_len]
  omega
theorem place_take_lt {ts : List (List Nat)} {k : Nat} (h : AreCols ts) (hl : ts.length = k + 2) (at' j : Nat) : ((placeL ts at' (k + 2)).take k).getD j 0 < 256 := by
  rcases Nat.lt_or_ge j k with hj | hj
  · have := placeL_lt h at' j
    rw [hl] at this
    simpa [List.getElem?_take, hj, List.getD_eq_getElem?_getD] using this
  · rw [List.getD_eq_getElem?_getD, List.getElem?_eq_none (by rw [List.length_take, placeL_len]; omega)]
    exact (by decide : (0 : Nat) < 256)
theorem found_lt {ts : List (List Nat)} {ms : List Int} {k at' x : Nat} (h : AreCols ts) (hl : ts.length = k + 2) (h16 : at' < 16) (hx : x < 256) (j : Nat) : (foundL ts ms k at' x).getD j 0 < 256 :=
  tryX_lt (place_take_lt h hl at') ((h.col k (by omega)).at at' h16) hx (fun a ha => by rw [List.length_take, placeL_len]; have := (lostN_lt ha).1; omega) j
def putX (X : Nat → Nat) (m x : Nat) (j : Nat) : Nat := if j = m then x else X j
theorem mixL_congr {f f' : Nat → Nat} (a : List Nat) (m : Nat) (h : ∀ i, i < m → f i = f' i) : mixL f a m = mixL f' a m := by
  unfold mixL
  apply List.map_congr_left
  intro i _
  by_cases e : i < m
  · rw [if_pos e, if_pos e, h i e]
  · rw [if_neg e, if_neg e]
theorem fullTo_succ (ts : List (List Nat)) (ms : List Int) (k : Nat) (X : Nat → Nat) (m x i : Nat) : (fullTo ts ms k X m i).set m (foundB ts ms k m x i) = fullTo ts ms k (putX X m x) (m + 1) i := by
  unfold fullTo
  rw [mixL_congr (f' := fun j => foundB ts ms k j (putX X m x j) i) _ m (fun j hj => by show foundB _ _ _ _ _ _ = foundB _ _ _ _ _ _; rw [putX, if_neg (by omega)])]
  rw [← mixL_succ (fun j => foundB ts ms k j (putX X m x j) i)]
  show _ = List.set _ m (foundB ts ms k m (putX X m x m) i)
  rw [show putX X m x m = x from if_pos rfl]
theorem place_full (ts : List (List Nat)) (ms : List Int) (k : Nat) (X : Nat → Nat) (m n : Nat) (hm : m < 16) : placeL (colsOf (fullTo ts ms k X m) n) m n = placeL ts m n := by
  unfold placeL
  apply List.map_congr_left
  intro i hi
  rw [colsOf_at _ _ _ (by simpa using hi)]
  exact mixL_at _ _ _ hm
def stepL (ts : List (List Nat)) (ms : List Int) (k : Nat) (X : Nat → Nat) (m x j i : Nat) : List Nat := if i < j then fullTo ts ms k (putX X m x) (m + 1) i else fullTo ts ms k X m i
theorem step_write (ts : List (List Nat)) (ms : List Int) (k : Nat) (X : Nat → Nat) (m x j i : Nat) : stepL ts ms k X m x (j + 1) i = if i = j then (stepL ts ms k X m x j j).set m (foundB ts ms k m x j) else stepL ts ms k X m x j i := by
  unfold stepL
  by_cases e : i = j
  · subst e
    rw [if_pos (by omega), if_pos rfl, if_neg (by omega), fullTo_succ]
  · rw [if_neg e]
    by_cases h : i < j
    · rw [if_pos (by omega), if_pos h]
    · rw [if_neg (by omega), if_neg h]

set_option maxRecDepth 100000 in
set_option maxHeartbeats 8000000 in
theorem full_any (v mv : Value) (Ls : List (List Nat)) (ms : List Int) (k : Nat) (w : World) (hlen : Ls.length = k + 2) (hk2 : 2 ≤ k) (hk6 : k ≤ 6) (hv : SlL w v Ls) (hm : SlI w mv ms) (hml : ms.length ≤ 1000000000) (hsz : Sized Ls ms) (hl2 : (lostN ms k).length ≤ 2)
    (hex : ∀ at', at' < 16 → ∃ x, foundOK (takenTo Ls ms (k + 2)) ms k at' x) :
    Calls Tryd.prog 32 #[v, mv] w fun e w' => ∃ v' G C X, e = .returned v' ∧ ListR w' w.heap.size v' (k + 2) G C (fullTo (takenTo Ls ms (k + 2)) ms k X 16) ∧ (∀ at', at' < 16 → foundOK (takenTo Ls ms (k + 2)) ms k at' (X at')) ∧ (∀ i, i < k + 2 → w.heap.size ≤ G i) ∧ Below w.heap.size w w' := by
  have hmk := make16
  obtain ⟨iL, hiL, hzL0, hzL1, hzL2⟩ := info_parts Tryd.infoL
  obtain ⟨a, cap, hve, hd⟩ := id hv
  subst hve
  rw [hlen]
  have HV := hide hv
  have HM := hide hm
  have HSZ := hide hsz
  have HEX := hide hex
  have htc := takenTo_cols Ls ms (k + 2) (fun i _ hi2 hi3 => hsz i hi2 hi3)
  have htl : (takenTo Ls ms (k + 2)).length = k + 2 := by rw [takenTo_len, hlen]
  have HTC := hide htc
  have HTL := hide htl
  clear hd hv hm hsz hex htc htl
  go_enter Tryd.func32, Tryd.ntmps32
  go_wp2
  go_loopw [5, 6] (fun ov iv wr => ∃ (i : Nat) (G C : Nat → Nat), i ≤ k + 2 ∧ iv = .int .i64 (i : Int) ∧ ListR wr w.heap.size ov i G C (fun j => (takenTo Ls ms (k + 2)).getD j []) ∧ (∀ j, j < i → w.heap.size ≤ G j) ∧ (∀ j l, j < i → l < i → j ≠ l → G j ≠ G l) ∧ Below w.heap.size w wr) (fun _ i _ => k + 2 - (intOf i).toNat)
  case atStart => exact ⟨0, fun _ => 0, fun _ => 0, Nat.zero_le _, rfl, ListR.nil _ _ _ _ _, by intro i hi; omega, by intro i j hi; omega, Below.refl _ _⟩
  case round =>
    obtain ⟨i, G, C, hi, rfl, hlist, hge, hinj, hbw⟩ := hrel
    have HLI := hide hlist
    have HGE := hide hge
    have HIN := hide hinj
    have HB := hide hbw
    have hsw := hbw.size
    clear hge hinj hlist
    rcases Nat.lt_or_ge i (k + 2) with hlt | hge
    · have hii : (i : Int) < (k : Int) + 2 := by omega
      have hi0 : (0 : Int) ≤ (i : Int) := by omega
      have hba := (Below.refl wr.heap.size wr).alloc (Nat.le_refl _) (.cells zA 5)
      have hb0 := hbw.trans (hba.mono hsw)
      have HBA := hide hba
      have HB0 := hide hb0
      clear hba hb0
      go_wp2_with fail
      refine (among_any mv ms i _ ((unhide HM).below (unhide HB0)) hml).mono ?_
      rintro e w1 ⟨rfl, hb1⟩
      have hs1 : wr.heap.size < w1.heap.size := by have := hb1.size; simp at this; omega
      have hblk : w1.heap[wr.heap.size]? = some (.cells zA 5 (0, 0)) := by
        rw [hb1.block _ (by simp)]
        exact heap_alloc_new wr _
      have hb2 : Below wr.heap.size wr w1 := (unhide HBA).trans (hb1.mono (by simp))
      have hxs := takenTo_at Ls ms (k + 2) i (by rw [hlen]; exact hlt)
      have hxc := (unhide HTC).col i (by rw [unhide HTL]; exact hlt)
      clear hb1 HBA HB0
      cases hin : inI ms (i : Int)
      · rw [if_pos ⟨hlt, hin⟩] at hxs
        have hxc' := hxc
        rw [hxs] at hxc'
        obtain ⟨a', cap', hv', hd'⟩ := (unhide HV).below ((unhide HB).trans (hb2.mono hsw))
        simp only [Value.slice.injEq] at hv'
        obtain ⟨rfl, _, rfl⟩ := hv'
        rcases hd' with h0 | ⟨b, o, rfl, hd'⟩
        · rw [h0] at hlen; simp at hlen
        obtain ⟨u, hu, hsb⟩ := hd' i (by rw [hlen]; exact hlt)
        obtain ⟨a1, cap1, rfl, hx⟩ := hsb
        rcases hx with h1 | ⟨b1, o1, rfl, hr1⟩
        · rw [h1] at hxc'; have := hxc'.len; simp at this
        rw [hxc'.len] at hu
        obtain ⟨xs, hxe⟩ : ∃ xs, Ls.getD i [] = xs := ⟨_, rfl⟩
        rw [hxe] at hxc' hr1
        obtain ⟨cur, hcur⟩ : ∃ cur : List Value, zA = cur.toArray := ⟨zA.toList, by simp⟩
        have hcl : cur.length = 16 := by
          have := congrArg Array.size hcur
          simpa [zA] using this.symm
        obtain ⟨X1, hX1⟩ : ∃ X1, xs.map B = X1 := ⟨_, rfl⟩
        have hXl : X1.length = 16 := by rw [← hX1, List.length_map, hxc'.len]
        have hXm : X1.length = Nat.min 16 16 := hXl
        have hpos : ∀ j u, X1[j]? = some u → w1.cell? ((⟨b1, o1, none⟩ : Addr).add j) = some u := fun j u hj => by
          rw [Addr.add_mid]
          exact hr1 j u (by rw [hX1]; exact hj)
        have hone : ∀ u ∈ X1, u.oneCell' = true := by rw [← hX1]; exact bytes_one xs
        rw [hcur] at hblk
        have HCB := hide hblk
        have HCL := hide hcl
        have HPO := hide hpos
        have HONE := hide hone
        have HXM := hide hXm
        have HXL := hide hXl
        have HX1 := hide hX1
        have HXE := hide (hxs.trans hxe)
        have HXC := hide hxc'
        have HB2 := hide hb2
        clear hblk hcl hpos hone hXm hXl hX1 hxe hxs hxc hxc' hb2 hcur hr1 hd' hin
        go_wp2_with (show wpList _ _ _ (Oper.mk _ (Op.call (Call.mk (Callee.builtin Builtin.copy) _ _)) _ _ _ _ :: _) _ _; refine wpList_copy_splice rfl (.tmp 28) (.tmp 32) 31 31 rfl 5 Tryd.underlying31 (by kernel_rfl) (some ⟨wr.heap.size, 0, none⟩) (some ⟨b1, o1, none⟩) 16 16 16 cap1 rfl rfl wr.heap.size 0 cur 5 (unhide HCB) X1 (unhide HXM) (fun _ => ⟨rfl, _, rfl, unhide HPO⟩) (by rw [unhide HXL, unhide HCL]; omega) (unhide HONE) wr.heap.size wr (unhide HB2) (Nat.le_refl _) ?_)
        intro w3 hg3 hb3
        have hbuf : Buf w3 wr.heap.size xs := by
          refine buf_block ((unhide hg3).trans ?_)
          unfold splice
          rw [List.take_zero, List.nil_append, Nat.zero_add, unhide HXL, List.drop_eq_nil_of_le (by rw [unhide HCL]; exact Nat.le_refl _), List.append_nil, ← unhide HX1]
        clear hg3 HCB HCL HPO HONE HXM HXL HX1 HB2 hu
        have HLI2 := hide ((unhide HLI).keep hb3 (fun g hg => ((unhide HLI).own.lt g hg).2) (fun j hj => ((unhide HLI).buf j hj).lt (by rw [((unhide HLI).col j hj).len]; omega)))
        have hba := (Below.refl w3.heap.size w3).alloc (Nat.le_refl _) (.cells #[.slice (some ⟨wr.heap.size, 0, none⟩) 16 16] 31)
        have hs3 : wr.heap.size < w3.heap.size := hbuf.lt (by rw [(unhide HXC).len]; omega)
        have HLI3 := hide ((unhide HLI2).below hba)
        have HBU := hide (hbuf.below hba hs3)
        have HWB := hide (((unhide HB).trans (hb3.mono hsw)).trans (hba.mono (by omega)))
        have HOB : Hid (u5.ownBlock ≠ some wr.heap.size) := fun e => by have := ((unhide HLI).own.lt _ e).2; omega
        have H5 := hide (cell_one_new w3 (.slice (some ⟨wr.heap.size, 0, none⟩) 16 16) 31)
        clear hba hb3 hbuf HLI2
        go_wp2_with (at_builtin; refine wpList_append_lies _ rfl (.tmp 34) (.tmp 36) 24 rfl w.heap.size 31 iL (.slice none 0 0) 1 24 Tryd.underlying24 hiL hzL0 hzL1 hzL2 rfl (by decide) u5 i (inners G C i) rfl (unhide HLI3).own ⟨w3.heap.size, 0, none⟩ 1 1 [.slice (some ⟨wr.heap.size, 0, none⟩) 16 16] rfl rfl (unhide H5) (by intro u hu; simp only [List.mem_singleton] at hu; subst hu; rfl) (by decide) (by unfold maxLen; omega) (by omega) (by simp; omega) (w3.heap.size + 1) (by simp) ?_)
        intro g2 c2 w4 hown2 hgrow2 hat2 hlt2
        have hp := (unhide HLI3).push wr.heap.size 16 (unhide HBU) (unhide HXC) (unhide HOB) g2 c2 (w3.heap.size + 1) (by simp) hown2 hgrow2 hat2
        have hp' : ListR w4 w.heap.size (.slice (some ⟨g2, 0, none⟩) (i + 1) c2) (i + 1) (put G i wr.heap.size) (put C i 16) (fun j => (takenTo Ls ms (k + 2)).getD j []) := by
          refine ⟨hp.own, fun j hj => ?_, fun j hj => (unhide HTC).col j (by rw [unhide HTL]; omega), hp.ne⟩
          have := hp.buf j hj
          rcases Nat.lt_or_ge j i with h | h
          · rw [putL_lt _ _ _ _ h] at this; exact this
          · obtain rfl : j = i := by omega
            rw [putL_at, ← unhide HXE] at this; exact this
        have HP := hide hp'
        have HB4 : Hid (Below w.heap.size w w4) := (unhide HWB).grown hgrow2 (by simp; omega) (fun k hk => ((unhide HLI3).own.lt k hk).1)
        clear hp hp' hown2 hgrow2 hat2 H5 HLI3 HBU HWB HOB hbw
        go_wp2
        go_roundw
        case rel =>
          refine ⟨i + 1, put G i wr.heap.size, put C i 16, by omega, by go_num, unhide HP, fun j hj => ?_, fun j l hj hl hjl => ?_, unhide HB4⟩
          · rcases Nat.lt_or_ge j i with h | h
            · rw [put_lt _ _ _ _ h]; exact unhide HGE j h
            · obtain rfl : j = i := by omega
              rw [put_at]; omega
          · have hgl : ∀ q, q < i → G q < wr.heap.size := fun q hq => ((unhide HLI).buf q hq).lt (by rw [((unhide HLI).col q hq).len]; omega)
            rcases Nat.lt_or_ge j i with h | h <;> rcases Nat.lt_or_ge l i with h' | h'
            · rw [put_lt _ _ _ _ h, put_lt _ _ _ _ h']; exact unhide HIN j l h h' hjl
            · obtain rfl : l = i := by omega
              rw [put_at, put_lt _ _ _ _ h]; have := hgl j h; omega
            · obtain rfl : j = i := by omega
              rw [put_at, put_lt _ _ _ _ h']; have := hgl l h'; omega
            · omega
        case measure => simp [intOf]; omega
      · rw [if_neg (by intro h; rw [hin] at h; exact absurd h.2 (by decide))] at hxs
        have hbuf : Buf w1 wr.heap.size zero16 := by
          refine buf_block (hblk.trans ?_)
          rfl
        rw [hxs] at hxc
        have HXE := hide hxs
        have HXC := hide hxc
        have hb3 := hb2
        clear hblk hxs hxc hb2 hin
        have HLI2 := hide ((unhide HLI).keep hb3 (fun g hg => ((unhide HLI).own.lt g hg).2) (fun j hj => ((unhide HLI).buf j hj).lt (by rw [((unhide HLI).col j hj).len]; omega)))
        have hba := (Below.refl w1.heap.size w1).alloc (Nat.le_refl _) (.cells #[.slice (some ⟨wr.heap.size, 0, none⟩) 16 16] 31)
        have hs3 : wr.heap.size < w1.heap.size := hbuf.lt (by rw [(unhide HXC).len]; omega)
        have HLI3 := hide ((unhide HLI2).below hba)
        have HBU := hide (hbuf.below hba hs3)
        have HWB := hide (((unhide HB).trans (hb3.mono hsw)).trans (hba.mono (by omega)))
        have HOB : Hid (u5.ownBlock ≠ some wr.heap.size) := fun e => by have := ((unhide HLI).own.lt _ e).2; omega
        have H5 := hide (cell_one_new w1 (.slice (some ⟨wr.heap.size, 0, none⟩) 16 16) 31)
        clear hba hb3 hbuf HLI2
        go_wp2_with (at_builtin; refine wpList_append_lies _ rfl (.tmp 34) (.tmp 36) 24 rfl w.heap.size 31 iL (.slice none 0 0) 1 24 Tryd.underlying24 hiL hzL0 hzL1 hzL2 rfl (by decide) u5 i (inners G C i) rfl (unhide HLI3).own ⟨w1.heap.size, 0, none⟩ 1 1 [.slice (some ⟨wr.heap.size, 0, none⟩) 16 16] rfl rfl (unhide H5) (by intro u hu; simp only [List.mem_singleton] at hu; subst hu; rfl) (by decide) (by unfold maxLen; omega) (by omega) (by simp; omega) (w1.heap.size + 1) (by simp) ?_)
        intro g2 c2 w4 hown2 hgrow2 hat2 hlt2
        have hp := (unhide HLI3).push wr.heap.size 16 (unhide HBU) (unhide HXC) (unhide HOB) g2 c2 (w1.heap.size + 1) (by simp) hown2 hgrow2 hat2
        have hp' : ListR w4 w.heap.size (.slice (some ⟨g2, 0, none⟩) (i + 1) c2) (i + 1) (put G i wr.heap.size) (put C i 16) (fun j => (takenTo Ls ms (k + 2)).getD j []) := by
          refine ⟨hp.own, fun j hj => ?_, fun j hj => (unhide HTC).col j (by rw [unhide HTL]; omega), hp.ne⟩
          have := hp.buf j hj
          rcases Nat.lt_or_ge j i with h | h
          · rw [putL_lt _ _ _ _ h] at this; exact this
          · obtain rfl : j = i := by omega
            rw [putL_at, ← unhide HXE] at this; exact this
        have HP := hide hp'
        have HB4 : Hid (Below w.heap.size w w4) := (unhide HWB).grown hgrow2 (by simp; omega) (fun k hk => ((unhide HLI3).own.lt k hk).1)
        clear hp hp' hown2 hgrow2 hat2 H5 HLI3 HBU HWB HOB hbw
        go_wp2
        go_roundw
        case rel =>
          refine ⟨i + 1, put G i wr.heap.size, put C i 16, by omega, by go_num, unhide HP, fun j hj => ?_, fun j l hj hl hjl => ?_, unhide HB4⟩
          · rcases Nat.lt_or_ge j i with h | h
            · rw [put_lt _ _ _ _ h]; exact unhide HGE j h
            · obtain rfl : j = i := by omega
              rw [put_at]; omega
          · have hgl : ∀ q, q < i → G q < wr.heap.size := fun q hq => ((unhide HLI).buf q hq).lt (by rw [((unhide HLI).col q hq).len]; omega)
            rcases Nat.lt_or_ge j i with h | h <;> rcases Nat.lt_or_ge l i with h' | h'
            · rw [put_lt _ _ _ _ h, put_lt _ _ _ _ h']; exact unhide HIN j l h h' hjl
            · obtain rfl : l = i := by omega
              rw [put_at, put_lt _ _ _ _ h]; have := hgl j h; omega
            · obtain rfl : j = i := by omega
              rw [put_at, put_lt _ _ _ _ h']; have := hgl l h'; omega
            · omega
        case measure => simp [intOf]; omega
    · obtain rfl : i = k + 2 := by omega
      obtain ⟨g, cap2, rfl, hg1, hg2⟩ := (unhide HLI).own.form (by omega)
      clear hbw
      go_wp2
      obtain ⟨wo, hwo⟩ : ∃ wo, wo = wr := ⟨wr, rfl⟩
      subst hwo
      have hgw : w.heap.size ≤ g := hg1
      go_loopw [10] (fun av wr => ∃ (m : Nat) (X : Nat → Nat), m ≤ 16 ∧ av = .int .i64 (m : Int) ∧ ListR wr w.heap.size (.slice (some ⟨g, 0, none⟩) (k + 2) cap2) (k + 2) G C (fullTo (takenTo Ls ms (k + 2)) ms k X m) ∧ (∀ at', at' < m → foundOK (takenTo Ls ms (k + 2)) ms k at' (X at')) ∧ Below w.heap.size w wr) (fun a _ => 16 - (intOf a).toNat)
      case atStart => exact ⟨0, fun _ => 0, Nat.zero_le _, rfl, (unhide HLI).congr (fun i hi => (mixL_zero _ ((unhide HLI).col i hi).len).symm), by intro i hi; omega, unhide HB⟩
      case round =>
        obtain ⟨m, X, hm, rfl, hlist, hok, hbw⟩ := hrel
        have HL := hide hlist
        have HOK := hide hok
        have HBW := hide hbw
        have hsw2 := hbw.size
        clear HLI HB hok
        rcases Nat.lt_or_ge m 16 with hlt | hge2
        · have hm0 : (0 : Int) ≤ (m : Int) := by omega
          have hm16 : (m : Int) < 16 := by omega
          have hpl := place_own (.slice (some ⟨g, 0, none⟩) (k + 2) cap2) (colsOf (fullTo (takenTo Ls ms (k + 2)) ms k X m) (k + 2)) m wr (hlist.slL (by omega)) (colsOf_cols hlist.col) (by rw [colsOf_len]; omega) hlt
          rw [colsOf_len, place_full _ _ _ _ _ _ hlt] at hpl
          have HPL := hide hpl
          clear hpl hlist hbw
          go_wp2_with fail
          refine (unhide HPL).mono ?_
          rintro e w1 ⟨v1, rfl, hv1, hb1⟩
          have hfi := filled_any v1 mv (placeL (takenTo Ls ms (k + 2)) m (k + 2)) ms k wr.heap.size w1 ((placeL (takenTo Ls ms (k + 2)) m (k + 2)).take k) (((takenTo Ls ms (k + 2)).getD k []).getD m 0) (((takenTo Ls ms (k + 2)).getD (k + 1) []).getD m 0) rfl (placeL_at _ _ _ _ (by omega)) (placeL_at _ _ _ _ (by omega)) (placeL_len _ _ _) hk2 hk6 (by have := placeL_lt (unhide HTC) m; rw [unhide HTL] at this; exact this) hv1 ((unhide HM).below ((unhide HBW).trans (hb1.mono hsw2))) hml hl2 (unhide HEX m hlt)
          have HFI := hide hfi
          have HB1 := hide hb1
          have hs1 := hb1.size
          clear hfi hb1 hv1 HPL
          go_wp2_with fail
          refine (unhide HFI).mono ?_
          rintro e w2 ⟨go, x, rfl, hx, hokx, hrow, hgo, hb2⟩
          have hrow' : w2.rowIs go 3 k (intsF (foundL (takenTo Ls ms (k + 2)) ms k m x)) := hrow
          have hfok : foundOK (takenTo Ls ms (k + 2)) ms k m x := ⟨hx, hokx⟩
          have hDl := found_len (takenTo Ls ms (k + 2)) ms k m x
          have hDb := found_lt (ms := ms) (unhide HTC) (unhide HTL) hlt hx
          obtain ⟨D, hD⟩ : ∃ D, foundL (takenTo Ls ms (k + 2)) ms k m x = D := ⟨_, rfl⟩
          rw [hD] at hrow' hDl hDb
          have hb12 := (unhide HB1).trans (hb2.mono hs1)
          have HB12 := hide hb12
          have HR := hide hrow'
          have HFOK := hide hfok
          have HDL := hide hDl
          have HDB := hide hDb
          have HD := hide hD
          have hs2 := hb2.size
          have HL2 := hide ((unhide HL).below hb12)
          have HBW2 := hide ((unhide HBW).trans (hb12.mono hsw2))
          have HGN : Hid (∀ i, i < k + 2 → G i ≠ go) := fun i hi => by
            have := ((unhide HL).buf i hi).lt (by rw [((unhide HL).col i hi).len]; omega)
            omega
          clear hrow hrow' hokx hfok hDl hDb hD hb12 hb2 HFI HB1 HL HBW HB12
          go_wp2
          obtain ⟨wm, hwm⟩ : ∃ wm, wm = wr := ⟨wr, rfl⟩
          subst hwm
          go_loopw [13] (fun iv wq => ∃ j : Nat, j ≤ k ∧ iv = .int .i64 (j : Int) ∧ ListR wq w.heap.size (.slice (some ⟨g, 0, none⟩) (k + 2) cap2) (k + 2) G C (stepL (takenTo Ls ms (k + 2)) ms k X m x j) ∧ wq.rowIs go 3 k (intsF D) ∧ Below w.heap.size w wq) (fun a _ => k - (intOf a).toNat)
          case atStart => exact ⟨0, Nat.zero_le _, rfl, (unhide HL2).congr (fun i _ => (if_neg (by omega)).symm), unhide HR, unhide HBW2⟩
          case round =>
            obtain ⟨j, hj, rfl, hls, hrw, hbq⟩ := hrel
            have HLS := hide hls
            have HRW := hide hrw
            have HBQ := hide hbq
            clear HL2 HR HBW2
            rcases Nat.lt_or_ge j k with hjl | hjg
            · have q1 := hls.cell j (by omega)
              have q2 := (hls.buf j (by omega)).cell m (by rw [(hls.col j (by omega)).len]; exact hlt)
              have q3 := (hls.buf j (by omega)).frozen m (by rw [(hls.col j (by omega)).len]; exact hlt)
              have q4 : wr.cell? ⟨go, j, none⟩ = some (.int .i64 ((D.getD j 0 : Nat) : Int)) := hrw.cell hjl
              have hfb : foundB (takenTo Ls ms (k + 2)) ms k m x j = D.getD j 0 := by rw [← unhide HD]; exact if_pos hjl
              have hy := unhide HDB j
              have hwr := hls.write (L' := stepL (takenTo Ls ms (k + 2)) ms k X m x (j + 1)) (unhide HIN) j m (D.getD j 0) (by omega) hlt hy (fun i _ => by rw [← hfb]; exact step_write _ _ _ _ _ _ _ _)
              obtain ⟨y, hye⟩ : ∃ y, D.getD j 0 = y := ⟨_, rfl⟩
              rw [hye] at q4 hy hwr
              have hrw2 := hrw.setOther (a := ⟨G j, m, none⟩) (fun e => unhide HGN j (by omega) e.symm) (.int .u8 (y : Int))
              have hbq2 := hbq.setCell (p := ⟨G j, m, none⟩) (unhide HGE j (by omega)) (.int .u8 (y : Int))
              have hwy : IntKind.u8.wrap (y : Int) = (y : Int) := by rw [IntKind.wrap_u8']; omega
              have HWR := hide hwr
              have HRW2 := hide hrw2
              have HBQ2 := hide hbq2
              have hj0 : (0 : Int) ≤ (j : Int) := by omega
              have hjk : (j : Int) < (k : Int) := by omega
              have hjk2 : (j : Int) < (k : Int) + 2 := by omega
              clear hwr hrw2 hbq2 hye hfb hls hrw hbq
              go_wp2
              go_region
              have N1 := hide ((unhide HWR).below (Below.refl _ _).drew)
              have N2 := hide (rowIs_below (unhide HRW2) (Below.refl _ _).drew (unhide HRW2).lt)
              have N3 := hide ((unhide HBQ2).drew)
              clear HWR HRW2 HBQ2 q1 q2 q3 q4 HLS HRW HBQ
              generalize (wr.setCell ⟨G j, m, none⟩ (Value.int IntKind.u8 (y : Int))).drew = wd at *
              go_wp2
              go_roundw
              case rel => exact ⟨j + 1, by omega, by go_num, unhide N1, unhide N2, unhide N3⟩
              case measure => simp [intOf]; omega
            · obtain rfl : j = k := by omega
              have hsm := sums_any (.slice (some ⟨go, 0, none⟩) j j) D wr (by have := ints_sl (c := j) (show wr.rowIs go 3 D.length (intsF D) by rw [unhide HDL]; exact hrw); rw [unhide HDL] at this; exact this) (by rw [unhide HDL]; omega) (unhide HDB)
              rw [unhide HDL] at hsm
              have HSM := hide hsm
              clear hsm hls hrw hbq
              go_wp2_with fail
              refine (unhide HSM).mono ?_
              rintro e w3 ⟨rfl, hb3⟩
              have hl3 := (unhide HLS).below hb3
              have hbq3 := (unhide HBQ).trans (hb3.mono (unhide HBQ).size)
              have hp256 := sumP_lt D (unhide HDB) j
              have hq256 := sumQ_lt D j
              have hfp : foundB (takenTo Ls ms (j + 2)) ms j m x j = sumP D j := by rw [← unhide HD]; exact (if_neg (by omega)).trans (if_pos rfl)
              have hfq : foundB (takenTo Ls ms (j + 2)) ms j m x (j + 1) = sumQ D j := by rw [← unhide HD]; exact (if_neg (by omega)).trans (if_neg (by omega))
              obtain ⟨y, hye⟩ : ∃ y, sumP D j = y := ⟨_, rfl⟩
              obtain ⟨z, hze⟩ : ∃ z, sumQ D j = z := ⟨_, rfl⟩
              rw [hye] at hp256 hfp ⊢
              rw [hze] at hq256 hfq ⊢
              have q1 := hl3.cell j (by omega)
              have q2 := (hl3.buf j (by omega)).cell m (by rw [(hl3.col j (by omega)).len]; exact hlt)
              have q3 := (hl3.buf j (by omega)).frozen m (by rw [(hl3.col j (by omega)).len]; exact hlt)
              have hwr := hl3.write (L' := stepL (takenTo Ls ms (j + 2)) ms j X m x (j + 1)) (unhide HIN) j m y (by omega) hlt hp256 (fun i _ => by rw [← hfp]; exact step_write _ _ _ _ _ _ _ _)
              have r1 := hwr.cell (j + 1) (by omega)
              have r2 := (hwr.buf (j + 1) (by omega)).cell m (by rw [(hwr.col (j + 1) (by omega)).len]; exact hlt)
              have r3 := (hwr.buf (j + 1) (by omega)).frozen m (by rw [(hwr.col (j + 1) (by omega)).len]; exact hlt)
              have hwr2 := hwr.write (L' := stepL (takenTo Ls ms (j + 2)) ms j X m x (j + 2)) (unhide HIN) (j + 1) m z (by omega) hlt hq256 (fun i _ => by rw [← hfq]; exact step_write _ _ _ _ _ _ _ _)
              have hbq5 := (hbq3.setCell (p := ⟨G j, m, none⟩) (unhide HGE j (by omega)) (.int .u8 (y : Int))).setCell (p := ⟨G (j + 1), m, none⟩) (unhide HGE (j + 1) (by omega)) (.int .u8 (z : Int))
              have N1 := hide (hwr2.congr (L' := fullTo (takenTo Ls ms (j + 2)) ms j (putX X m x) (m + 1)) (fun i hi => if_pos hi))
              have N2 := hide hbq5
              have N3 : Hid (∀ at', at' < m + 1 → foundOK (takenTo Ls ms (j + 2)) ms j at' (putX X m x at')) := fun at' hat => by
                by_cases e : at' = m
                · subst e; rw [putX, if_pos rfl]; exact unhide HFOK
                · rw [putX, if_neg e]; exact unhide HOK at' (by omega)
              have hwy : IntKind.u8.wrap (y : Int) = (y : Int) := by rw [IntKind.wrap_u8']; omega
              have hwz : IntKind.u8.wrap (z : Int) = (z : Int) := by rw [IntKind.wrap_u8']; omega
              have hj0 : (0 : Int) ≤ (j : Int) := by omega
              have hj1 : (0 : Int) ≤ (j : Int) + 1 := by omega
              have hjk2 : (j : Int) < (j : Int) + 2 := by omega
              have hjk3 : (j : Int) + 1 < (j : Int) + 2 := by omega
              clear hwr hwr2 hbq5 hbq3 hye hze hfp hfq hl3 HLS HRW HBQ HSM hb3
              go_wp2
              go_roundw
              case rel =>
                (repeat apply Exists.intro)
                refine ⟨?_, rfl⟩
                exact ⟨m + 1, putX X m x, by omega, by go_num, unhide N1, unhide N3, unhide N2⟩
              case measure => simp [intOf]; omega
        · obtain rfl : m = 16 := by omega
          clear hlist hbw
          go_wp2
          go_ret
          exact ⟨_, G, C, X, rfl, unhide HL, unhide HOK, unhide HGE, unhide HBW⟩

theorem inI_mem {ms : List Int} {x : Int} (h : inI ms x = true) : x ∈ ms := by
  unfold inI at h
  exact List.contains_iff_mem.1 h
theorem lostN_two {ms : List Int} (h : ms.length ≤ 2) (k : Nat) : (lostN ms k).length ≤ 2 := by
  rcases hl : lostN ms k with _ | ⟨x, _ | ⟨y, _ | ⟨z, r⟩⟩⟩
  · simp
  · simp
  · simp
  · have hs := lostN_sorted ms k
    have hm : ∀ i ∈ lostN ms k, (i : Int) ∈ ms := fun i hi => inI_mem (lostN_lt hi).2
    rw [hl] at hs hm
    have mx := hm x (by simp)
    have my := hm y (by simp)
    have mz := hm z (by simp)
    simp only [List.pairwise_cons, List.mem_cons] at hs
    have h1 := hs.1 y (Or.inl rfl)
    have h2 := hs.2.1 z (Or.inl rfl)
    rcases ms with _ | ⟨a, _ | ⟨b, _ | ⟨c, q⟩⟩⟩
    · simp at mx
    · simp at mx my; omega
    · simp at mx my mz; omega
    · simp at h

end Go.Proofs.YtdcinlkkjbclmaaDoor
