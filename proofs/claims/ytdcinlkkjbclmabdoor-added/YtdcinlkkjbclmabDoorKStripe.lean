/- The contract of platterkeep's stripe: data columns out of raw numbers, with their parity. -/
import Derived.Test.YtdcinlkkjbclmabDoorList
namespace Go.Proofs.YtdcinlkkjbclmabDoor
open Go.RowKit

/-- behind the append of two slices more -/
theorem ListR.push2 {w w1 : World} {base : Nat} {v : Value} {k : Nat} {G C : Nat → Nat} {L : Nat → List Nat} (h : ListR w base v k G C L) (g c g' c' : Nat) {xs ys : List Nat} (hb : Buf w g xs) (hx : IsCol xs) (hb' : Buf w g' ys) (hy : IsCol ys)
    (hne : v.ownBlock ≠ some g) (hne' : v.ownBlock ≠ some g') (G' cap H : Nat) (hH : w.heap.size ≤ H) (hown : w1.ownsRow base 25 1 (.slice (some ⟨G', 0, none⟩) (k + 2) cap) (k + 2) (inners G C k ++ [.slice (some ⟨g, 0, none⟩) 16 c, .slice (some ⟨g', 0, none⟩) 16 c'])) (hgrow : w.grownBy w1 v.ownBlock)
    (hat : v.ownBlock = some G' ∨ G' = H) : ListR w1 base (.slice (some ⟨G', 0, none⟩) (k + 2) cap) (k + 2) (put (put G k g) (k + 1) g') (put (put C k c) (k + 1) c') (putL (putL L k xs) (k + 1) ys) := by
  have hxl : 0 < xs.length := by rw [hx.len]; omega
  have hyl : 0 < ys.length := by rw [hy.len]; omega
  have hob : (Value.slice (some ⟨G', 0, none⟩) (k + 2) cap).ownBlock = some G' := rfl
  have h16 : ∀ i, i < k → 0 < (L i).length := fun i hi => by rw [(h.col i hi).len]; omega
  have hGne : ∀ gg, gg < w.heap.size → v.ownBlock ≠ some gg → some G' ≠ some gg := fun gg hlt hn => by
    rcases hat with h2 | h2
    · rw [← h2]; exact hn
    · simp only [ne_eq, Option.some.injEq]; omega
  have cases3 : ∀ (P : Nat → Prop), (∀ i, i < k → P i) → P k → P (k + 1) → ∀ i, i < k + 2 → P i := fun P a b c i hi => by
    rcases Nat.lt_or_ge i k with h1 | h1
    · exact a i h1
    · rcases (show i = k ∨ i = k + 1 from by omega) with rfl | rfl
      · exact b
      · exact c
  have e1 : ∀ i, i < k → put (put G k g) (k + 1) g' i = G i := fun i hi => by rw [put_lt _ _ _ _ (by omega), put_lt _ _ _ _ hi]
  have e2 : put (put G k g) (k + 1) g' k = g := by rw [put_lt _ _ _ _ (by omega), put_at]
  have e3 : put (put G k g) (k + 1) g' (k + 1) = g' := put_at _ _ _
  have d1 : ∀ i, i < k → put (put C k c) (k + 1) c' i = C i := fun i hi => by rw [put_lt _ _ _ _ (by omega), put_lt _ _ _ _ hi]
  have d2 : put (put C k c) (k + 1) c' k = c := by rw [put_lt _ _ _ _ (by omega), put_at]
  have l1 : ∀ i, i < k → putL (putL L k xs) (k + 1) ys i = L i := fun i hi => by rw [putL_lt _ _ _ _ (by omega), putL_lt _ _ _ _ hi]
  have l2 : putL (putL L k xs) (k + 1) ys k = xs := by rw [putL_lt _ _ _ _ (by omega), putL_at]
  have l3 : putL (putL L k xs) (k + 1) ys (k + 1) = ys := putL_at _ _ _
  refine ⟨?_, ?_, ?_, ?_⟩
  · have : inners (put (put G k g) (k + 1) g') (put (put C k c) (k + 1) c') (k + 2) = inners G C k ++ [.slice (some ⟨g, 0, none⟩) 16 c, .slice (some ⟨g', 0, none⟩) 16 c'] := by
      rw [inners_succ, inners_succ, inner, inner, e2, e3, d2, put_at, inners_congr (G' := G) (C' := C) (fun i hi => ⟨e1 i hi, d1 i hi⟩)]
      simp
    rw [this]; exact hown
  · apply cases3
    · intro i hi; rw [e1 i hi, l1 i hi]; exact buf_grown (h.buf i hi) (h16 i hi) hgrow (h.ne i hi)
    · rw [e2, l2]; exact buf_grown hb hxl hgrow hne
    · rw [e3, l3]; exact buf_grown hb' hyl hgrow hne'
  · apply cases3
    · intro i hi; rw [l1 i hi]; exact h.col i hi
    · rw [l2]; exact hx
    · rw [l3]; exact hy
  · rw [hob]
    apply cases3
    · intro i hi; rw [e1 i hi]; exact hGne _ ((h.buf i hi).lt (h16 i hi)) (h.ne i hi)
    · rw [e2]; exact hGne _ (hb.lt hxl) hne
    · rw [e3]; exact hGne _ (hb'.lt hyl) hne'

def rawR (ms : List Int) (i : Nat) : Int := if ms.length = 0 then (i : Int) * 77 else wrap64 (ms.getD (i % ms.length) 0 + ((i / ms.length : Nat) : Int))
def nOf (disks : Int) : Nat := (2 + pickAt disks 5).toNat
theorem nOf_bd (disks : Int) : 2 ≤ nOf disks ∧ nOf disks ≤ 6 := by
  have := pickAt_bd disks 5 (by omega)
  unfold nOf
  omega
/-- the data columns -/
def datL (disks : Int) (ms : List Int) : List (List Nat) := (List.range (nOf disks)).map fun i => rawCol (rawR ms i)
/-- all columns of the stripe -/
def strL (disks : Int) (ms : List Int) (i : Nat) : List Nat := if i < nOf disks then rawCol (rawR ms i) else if i = nOf disks then parP (datL disks ms) (nOf disks) else parQ (datL disks ms) (nOf disks)
theorem datL_len (disks : Int) (ms : List Int) : (datL disks ms).length = nOf disks := by simp [datL]
theorem datL_cols (disks : Int) (ms : List Int) : AreCols (datL disks ms) := cols_range (fun _ _ => rawCol_col _)

theorem bounds_wrap64 (n : Int) : -9223372036854775808 ≤ wrap64 n ∧ wrap64 n ≤ 9223372036854775807 := by
  unfold wrap64
  omega

set_option maxRecDepth 100000 in
set_option maxHeartbeats 1000000 in
theorem stripe_any (disks : Int) (v : Value) (ms : List Int) (w : World) (hv : SlI w v ms) (hl : ms.length ≤ 9223372036854775807) (hd1 : -9223372036854775808 ≤ disks) (hd2 : disks ≤ 9223372036854775807) (ht : Tabs w) :
    Calls Tryd.prog 5 #[.int .i64 disks, v] w fun e w' => ∃ v' G C, e = .returned v' ∧ ListR w' w.heap.size v' (nOf disks + 2) G C (strL disks ms) ∧ Below w.heap.size w w' := by
  obtain ⟨iL, hiL, hzL0, hzL1, hzL2⟩ := info_parts Tryd.infoL
  obtain ⟨p1, p2⟩ := pickAt_bd disks 5 (by omega)
  obtain ⟨a, cap, rfl, hr⟩ := hv
  have HR := hide hr
  have HT := hide ht
  have hs2 := ht.size
  have hN : ((nOf disks : Nat) : Int) = 2 + pickAt disks 5 := by unfold nOf; omega
  obtain ⟨hN1, hN2⟩ := nOf_bd disks
  clear hr ht
  go_enter Tryd.func5, Tryd.ntmps5
  go_wp2_with fail
  refine (pick_any _ _ _ (by omega) hd1 hd2 (by omega)).mono ?_
  rintro e w1 ⟨rfl, rfl⟩
  go_wp2
  rw [← hN]
  have HN := hide hN
  clear hN p1 p2
  generalize hNN : nOf disks = N at *
  have HNN := hide hNN
  clear hNN
  go_loopw [6, 7] (fun ov i wr => ∃ (k : Nat) (G C : Nat → Nat), k ≤ N ∧ i = .int .i64 k ∧ ListR wr w1.heap.size ov k G C (fun i => rawCol (rawR ms i)) ∧ Below w1.heap.size w1 wr) (fun _ i _ => N - (intOf i).toNat)
  case atStart => exact ⟨0, fun _ => 0, fun _ => 0, Nat.zero_le _, rfl, ListR.nil _ _ _ _ _, Below.refl _ _⟩
  case round =>
    obtain ⟨k, G, C, hk, rfl, hlist, hbel⟩ := hrel
    have HLI := hide hlist
    have HBW := hide hbel
    clear hlist
    by_cases hlt : k < N
    · have hrb : -9223372036854775808 ≤ rawR ms k ∧ rawR ms k ≤ 9223372036854775807 := by
        unfold rawR
        split
        · omega
        · exact bounds_wrap64 _
      obtain ⟨hrb1, hrb2⟩ := hrb
      by_cases h0 : ms.length = 0
      · have hle : ¬ (0 : Int) < (ms.length : Int) := by omega
        have hre : rawR ms k = (k : Int) * 77 := by
          unfold rawR
          rw [if_pos h0]
        have HRE := hide hre
        have hr1 : -9223372036854775808 ≤ (k : Int) * 77 := by omega
        have hr2 : (k : Int) * 77 ≤ 9223372036854775807 := by omega
        have HLQ := hide (unhide HLI)
        have HBQ := hide (unhide HBW)
        clear hre hrb1 hrb2 hbel HLI HBW h0
        go_wp2_with fail
        have hli0 := unhide HLQ
        have hbq := unhide HBQ
        refine (column_any ((k : Int) * 77) wr hr1 hr2).mono ?_
        rintro e w2 ⟨rfl, hbuf2, hb2⟩
        have hsz2 := hb2.size
        have hltw : wr.heap.size < w2.heap.size := hbuf2.lt (by rw [(rawCol_col ((k : Int) * 77)).len]; omega)
        have hb2a := hb2.alloc hsz2 (.cells #[.slice (some ⟨wr.heap.size, 0, none⟩) 16 16] 25)
        have hli := hli0.below hb2a
        have hbu := hbuf2.below ((Below.refl _ _).alloc (Nat.le_refl _) (.cells #[.slice (some ⟨wr.heap.size, 0, none⟩) 16 16] 25)) hltw
        have hob : u6.ownBlock ≠ some wr.heap.size := fun e => by have := (hli0.own.lt _ e).2; omega
        have hwb := hbq.trans (hb2a.mono hbq.size)
        have hsq := hbq.size
        have HLI2 := hide hli
        have HBU := hide hbu
        have HWB := hide hwb
        have HOB := hide hob
        have H5 := hide (cell_one_new w2 (.slice (some ⟨wr.heap.size, 0, none⟩) 16 16) 25)
        clear hli0 hbq hbuf2 hb2 hb2a hli hbu hob hwb
        go_wp2_with (at_builtin; refine wpList_append_lies _ rfl (.tmp 40) (.tmp 42) 23 rfl w1.heap.size 25 iL (.slice none 0 0) 1 24 Tryd.underlying23 hiL hzL0 hzL1 hzL2 rfl (by decide) u6 k (inners G C k) rfl (unhide HLI2).own ⟨w2.heap.size, 0, none⟩ 1 1 [.slice (some ⟨wr.heap.size, 0, none⟩) 16 16] rfl rfl (unhide H5) (by intro u hu; simp only [List.mem_singleton] at hu; subst hu; rfl) (by decide) (by unfold maxLen; omega) (by omega) (by simp; omega) (w2.heap.size + 1) (by simp) ?_)
        intro g2 c2 w3 hown2 hgrow2 hat2 hlt2
        have hp := (unhide HLI2).push wr.heap.size 16 (unhide HBU) (rawCol_col ((k : Int) * 77)) (unhide HOB) g2 c2 (w2.heap.size + 1) (by simp) hown2 hgrow2 hat2
        have hp' : ListR w3 w1.heap.size (.slice (some ⟨g2, 0, none⟩) (k + 1) c2) (k + 1) (put G k wr.heap.size) (put C k 16) (fun i => rawCol (rawR ms i)) := by
          refine ⟨hp.own, fun i hi => ?_, fun i hi => rawCol_col _, hp.ne⟩
          have := hp.buf i hi
          rcases Nat.lt_or_ge i k with h | h
          · rw [putL_lt _ _ _ _ h] at this; exact this
          · obtain rfl : i = k := by omega
            rw [putL_at, ← unhide HRE] at this; exact this
        have HP := hide hp'
        have HB3 : Hid (Below w1.heap.size w1 w3) := (unhide HWB).grown hgrow2 (by simp; omega) (fun k hk => ((unhide HLI2).own.lt k hk).1)
        clear hp hp' hown2 hgrow2 hat2 H5 HLI2 HBU HWB HOB
        go_wp2
        go_roundw
        case rel => exact ⟨k + 1, put G k wr.heap.size, put C k 16, by omega, by go_num, unhide HP, unhide HB3⟩
        case measure => simp [intOf]; omega
      · rcases unhide HR with hnil | ⟨b, o, rfl, hrange⟩
        · rw [hnil] at h0; simp at h0
        have hrange' := range_keep hrange hbel
        have hml : k % ms.length < ms.length := Nat.mod_lt _ (by omega)
        have hcell := hrange' (k % ms.length) _ (int_at ms (k % ms.length) hml)
        have hgt : (0 : Int) < (ms.length : Int) := by omega
        have hge0 : (0 : Int) ≤ (k : Int) % (ms.length : Int) := Int.emod_nonneg _ (by omega)
        have hlt0 : (k : Int) % (ms.length : Int) < (ms.length : Int) := Int.emod_lt_of_pos _ hgt
        have hq0 : (0 : Int) ≤ (k : Int) / (ms.length : Int) := Int.ediv_nonneg (by omega) (by omega)
        have hq1 : (k : Int) / (ms.length : Int) ≤ (k : Int) := Int.ediv_le_self _ (by omega)
        have htn : ((k : Int) % (ms.length : Int)).toNat = k % ms.length := by rw [← Int.natCast_emod]; exact Int.toNat_natCast _
        clear hrange hrange' hbel
        go_wp2
        go_quiet (fail)
        go_wp2_with fail
        have hre : rawR ms k = wrap64 (ms[k % ms.length] + (k : Int) / (ms.length : Int)) := by
          unfold rawR
          rw [if_neg h0]
          simp [hml]
        have hr0 := bounds_wrap64 (ms[k % ms.length] + (k : Int) / (ms.length : Int))
        generalize wrap64 (ms[k % ms.length] + (k : Int) / (ms.length : Int)) = r at *
        have HRE := hide hre
        obtain ⟨hr1, hr2⟩ := hr0
        clear hre hrb1 hrb2 hcell htn hge0 hlt0 hq0 hq1
        have HLQ := hide ((unhide HLI).below (below_drewN (Below.refl _ _) nq))
        have HBQ := hide (below_drewN (unhide HBW) nq)
        generalize wr.drewN nq = wq at *
        have hli0 := unhide HLQ
        have hbq := unhide HBQ
        refine (column_any r wq hr1 hr2).mono ?_
        rintro e w2 ⟨rfl, hbuf2, hb2⟩
        have hsz2 := hb2.size
        have hltw : wq.heap.size < w2.heap.size := hbuf2.lt (by rw [(rawCol_col r).len]; omega)
        have hb2a := hb2.alloc hsz2 (.cells #[.slice (some ⟨wq.heap.size, 0, none⟩) 16 16] 25)
        have hli := hli0.below hb2a
        have hbu := hbuf2.below ((Below.refl _ _).alloc (Nat.le_refl _) (.cells #[.slice (some ⟨wq.heap.size, 0, none⟩) 16 16] 25)) hltw
        have hob : u6.ownBlock ≠ some wq.heap.size := fun e => by have := (hli0.own.lt _ e).2; omega
        have hwb := hbq.trans (hb2a.mono hbq.size)
        have hsq := hbq.size
        have HLI2 := hide hli
        have HBU := hide hbu
        have HWB := hide hwb
        have HOB := hide hob
        have H5 := hide (cell_one_new w2 (.slice (some ⟨wq.heap.size, 0, none⟩) 16 16) 25)
        clear hli0 hbq hbuf2 hb2 hb2a hli hbu hob hwb
        go_wp2_with (at_builtin; refine wpList_append_lies _ rfl (.tmp 40) (.tmp 42) 23 rfl w1.heap.size 25 iL (.slice none 0 0) 1 24 Tryd.underlying23 hiL hzL0 hzL1 hzL2 rfl (by decide) u6 k (inners G C k) rfl (unhide HLI2).own ⟨w2.heap.size, 0, none⟩ 1 1 [.slice (some ⟨wq.heap.size, 0, none⟩) 16 16] rfl rfl (unhide H5) (by intro u hu; simp only [List.mem_singleton] at hu; subst hu; rfl) (by decide) (by unfold maxLen; omega) (by omega) (by simp; omega) (w2.heap.size + 1) (by simp) ?_)
        intro g2 c2 w3 hown2 hgrow2 hat2 hlt2
        have hp := (unhide HLI2).push wq.heap.size 16 (unhide HBU) (rawCol_col r) (unhide HOB) g2 c2 (w2.heap.size + 1) (by simp) hown2 hgrow2 hat2
        have hp' : ListR w3 w1.heap.size (.slice (some ⟨g2, 0, none⟩) (k + 1) c2) (k + 1) (put G k wq.heap.size) (put C k 16) (fun i => rawCol (rawR ms i)) := by
          refine ⟨hp.own, fun i hi => ?_, fun i hi => rawCol_col _, hp.ne⟩
          have := hp.buf i hi
          rcases Nat.lt_or_ge i k with h | h
          · rw [putL_lt _ _ _ _ h] at this; exact this
          · obtain rfl : i = k := by omega
            rw [putL_at, ← unhide HRE] at this; exact this
        have HP := hide hp'
        have HB3 : Hid (Below w1.heap.size w1 w3) := (unhide HWB).grown hgrow2 (by simp; omega) (fun k hk => ((unhide HLI2).own.lt k hk).1)
        clear hp hp' hown2 hgrow2 hat2 H5 HLI2 HBU HWB HOB
        go_wp2
        go_roundw
        case rel => exact ⟨k + 1, put G k wq.heap.size, put C k 16, by omega, by go_num, unhide HP, unhide HB3⟩
        case measure => simp [intOf]; omega
    · obtain rfl : k = N := by omega
      have hdl : (datL disks ms).length = k := by rw [datL_len]; exact unhide HNN
      have hde : (List.range k).map (fun i => rawCol (rawR ms i)) = datL disks ms := by unfold datL; rw [unhide HNN]
      have hsl := (unhide HLI).slL (by omega)
      rw [hde] at hsl
      have ht2 := (unhide HT).below hs2 hbel
      have HPA := hide (par_any u6 (datL disks ms) wr hsl (by omega) (by omega) (datL_cols disks ms) ht2)
      have hp := parP_col (datL_cols disks ms) k (by omega)
      have hq := parQ_col (datL_cols disks ms) k (by omega)
      rw [hdl] at HPA
      have HDL := hide hdl
      clear hsl hde ht2 hdl hbel
      go_wp2_with fail
      refine (unhide HPA).mono ?_
      rintro e w2 ⟨g1, c1, g2, c2, rfl, hg1, hg2, ho1, ho2, hb2⟩
      have hsz2 := hb2.size
      have hb1f : Buf w2 g1 (parP (datL disks ms) k) := buf_own (base := wr.heap.size) (cap := c1) (by rw [hp.len]; exact ho1)
      have hb2f : Buf w2 g2 (parQ (datL disks ms) k) := buf_own (base := wr.heap.size) (cap := c2) (by rw [hq.len]; exact ho2)
      have hlt1 := hb1f.lt (by rw [hp.len]; omega)
      have hlt2 := hb2f.lt (by rw [hq.len]; omega)
      have hba := (Below.refl w2.heap.size w2).alloc (Nat.le_refl _) (.cells #[.slice (some ⟨g1, 0, none⟩) 16 c1, .slice (some ⟨g2, 0, none⟩) 16 c2] 25)
      have hli := ((unhide HLI).below hb2).below hba
      have hbu1 := hb1f.below hba hlt1
      have hbu2 := hb2f.below hba hlt2
      have hob1 : u6.ownBlock ≠ some g1 := fun e => by have := ((unhide HLI).own.lt _ e).2; omega
      have hob2 : u6.ownBlock ≠ some g2 := fun e => by have := ((unhide HLI).own.lt _ e).2; omega
      have hwb := ((unhide HBW).trans (hb2.mono (unhide HBW).size)).trans (hba.mono (by have := (unhide HBW).size; omega))
      have hsq := (unhide HBW).size
      have HLI2 := hide hli
      have HB1 := hide hbu1
      have HB2 := hide hbu2
      have HWB := hide hwb
      have HO1 := hide hob1
      have HO2 := hide hob2
      have HPC := hide hp
      have HQC := hide hq
      have H5 := hide (cell_two_new w2 (.slice (some ⟨g1, 0, none⟩) 16 c1) (.slice (some ⟨g2, 0, none⟩) 16 c2) 25)
      clear hli hbu1 hbu2 hwb hob1 hob2 hba hb1f hb2f ho1 ho2 hb2 hp hq HPA HR HT
      go_wp2_with (at_builtin; refine wpList_append_lies _ rfl (.tmp 62) (.tmp 65) 23 rfl w1.heap.size 25 iL (.slice none 0 0) 1 24 Tryd.underlying23 hiL hzL0 hzL1 hzL2 rfl (by decide) u6 k (inners G C k) rfl (unhide HLI2).own ⟨w2.heap.size, 0, none⟩ 2 2 [.slice (some ⟨g1, 0, none⟩) 16 c1, .slice (some ⟨g2, 0, none⟩) 16 c2] rfl rfl (unhide H5) (by intro u hu; simp only [List.mem_cons, List.not_mem_nil, or_false] at hu; rcases hu with rfl | rfl <;> rfl) (by decide) (by unfold maxLen; omega) (by omega) (by simp; omega) (w2.heap.size + 1) (by simp) ?_)
      intro g3 c3 w3 hown3 hgrow3 hat3 hlt3
      have hpp := (unhide HLI2).push2 g1 c1 g2 c2 (unhide HB1) (unhide HPC) (unhide HB2) (unhide HQC) (unhide HO1) (unhide HO2) g3 c3 (w2.heap.size + 1) (by simp) hown3 hgrow3 hat3
      have HF : Hid (ListR w3 w1.heap.size (.slice (some ⟨g3, 0, none⟩) (k + 2) c3) (nOf disks + 2) (put (put G k g1) (k + 1) g2) (put (put C k c1) (k + 1) c2) (strL disks ms)) := by
        rw [unhide HNN]
        have he : ∀ i, i < k + 2 → putL (putL (fun i => rawCol (rawR ms i)) k (parP (datL disks ms) k)) (k + 1) (parQ (datL disks ms) k) i = strL disks ms i := fun i hi => by
          unfold strL
          rw [unhide HNN]
          rcases Nat.lt_or_ge i k with h | h
          · rw [putL_lt _ _ _ _ (by omega), putL_lt _ _ _ _ h, if_pos h]
          · rcases (show i = k ∨ i = k + 1 from by omega) with rfl | rfl
            · rw [putL_lt _ _ _ _ (by omega), putL_at, if_neg (by omega), if_pos rfl]
            · rw [putL_at, if_neg (by omega), if_neg (by omega)]
        exact ⟨hpp.own, fun i hi => by rw [← he i hi]; exact hpp.buf i hi, fun i hi => by rw [← he i hi]; exact hpp.col i hi, hpp.ne⟩
      have HB3 : Hid (Below w1.heap.size w1 w3) := (unhide HWB).grown hgrow3 (by simp; omega) (fun k hk => ((unhide HLI2).own.lt k hk).1)
      clear hpp hown3 hgrow3 hat3 H5 HLI2 HB1 HB2 HWB HO1 HO2 HPC HQC
      go_wp2
      go_ret
      exact ⟨_, _, _, rfl, unhide HF, unhide HB3⟩

end Go.Proofs.YtdcinlkkjbclmabDoor
