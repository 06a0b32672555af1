/- The contract of platter.Solve. -/
import Derived.Test.YtdcinlkkjbclmaaDoorSolve
import Derived.Test.YtdcinlkkjbclmaaDoorDistinct
import Derived.Test.YtdcinlkkjbclmaaDoorList
namespace Go.Proofs.YtdcinlkkjbclmaaDoor
open Go.RowKit

theorem few_all {n : Nat} : ∀ (l : List Int), l.Nodup → (∀ x ∈ l, 0 ≤ x ∧ x < (n : Int)) → l.length ≤ n := by
  induction n with
  | zero =>
    intro l _ h
    cases l with
    | nil => exact Nat.le_refl _
    | cons x r => have := h x (by simp); omega
  | succ n ih =>
    intro l hn h
    by_cases hm : (n : Int) ∈ l
    · have h1 := ih (l.erase (n : Int)) (hn.erase _) (fun x hx => by
        have hne : x ≠ (n : Int) := fun e => by subst e; exact (hn.not_mem_erase hx)
        have := h x (List.mem_of_mem_erase hx)
        omega)
      rw [List.length_erase_of_mem hm] at h1
      omega
    · have := ih l hn (fun x hx => by
        have hne : x ≠ (n : Int) := fun e => hm (e ▸ hx)
        have := h x hx
        omega)
      omega
theorem dist_nodup {ms : List Int} {n : Int} : ∀ k, k ≤ ms.length → DistTo ms n k → (ms.take k).Nodup := by
  intro k
  induction k with
  | zero => intro _ _; simp
  | succ k ih =>
    intro hk h
    have h1 := ih (by omega) (fun i hi => h i (by omega))
    rw [take_next ms k (by omega), List.nodup_append]
    refine ⟨h1, by simp, fun a ha b hb e => ?_⟩
    simp only [List.mem_singleton] at hb
    subst hb
    subst e
    have h2 := (h k (by omega)).2.2
    unfold inI at h2
    rw [← Bool.not_eq_true, List.contains_iff_mem] at h2
    exact h2 ha
theorem dist_few {ms : List Int} {n : Nat} (h : DistTo ms n ms.length) : ms.length ≤ n := by
  have h1 := dist_nodup ms.length (Nat.le_refl _) h
  rw [List.take_length] at h1
  refine few_all ms h1 (fun x hx => ?_)
  obtain ⟨i, hi, rfl⟩ := List.getElem_of_mem hx
  have := h i hi
  rw [List.getD_eq_getElem?_getD, List.getElem?_eq_getElem hi] at this
  exact ⟨this.1, this.2.1⟩

theorem results_tmp2 {fn : Func} {t u : Tmp} (h : fn.results = #[.tmp t, .tmp u]) (tmps : Array Value) (P : Program) (w : World) :
    (results fn tmps).run P w = .ok (.tuple #[tmps.getD t undef, tmps.getD u undef]) w := by
  simp [results, h]

/-- a Solve that is right by its numbers and lengths -/
def SolOK (Ls : List (List Nat)) (ms : List Int) : Prop := 4 ≤ Ls.length ∧ Ls.length ≤ 8 ∧ DistTo ms Ls.length ms.length ∧ Sized Ls ms

theorem ownsRow_grow {w w' : World} {base : Nat} {e : TypeId} {size : Nat} {v : Value} {n : Nat} {xs : List Value} {row : Option Nat} (h : w.ownsRow base e size v n xs) (hg : w.grownBy w' row) (hne : ∀ g, v.ownBlock = some g → row ≠ some g) : w'.ownsRow base e size v n xs := by
  have hlt := h.lt
  obtain ⟨h1, h2⟩ := h
  refine ⟨h1, ?_⟩
  rcases h2 with h2 | ⟨g, cap, cur, rfl, hb, hh, r⟩
  · exact Or.inl h2
  · exact Or.inr ⟨g, cap, cur, rfl, hb, (hg.block g (hlt g rfl).2 (fun e => hne g rfl e.symm)).trans hh, r⟩

set_option maxHeartbeats 2000000 in
theorem sol_own (v m : Value) (Ls : List (List Nat)) (ms : List Int) (w : World) (hv : SlL w v Ls) (hm : SlI w m ms) (hll : Ls.length ≤ 9223372036854775807) (hml : ms.length ≤ 9223372036854775807)
    (hby : ∀ i, i < Ls.length → ∀ x ∈ Ls.getD i [], x < 256) (hbd : ∀ i, i < Ls.length → (Ls.getD i []).length ≤ 140737488355328) (ht : Tabs w) :
    Calls Tryd.prog 13 #[v, m] w fun e w' => Below w.heap.size w w' ∧
      ((¬ SolOK Ls ms ∧ e = .returned (.tuple #[.slice none 0 0, .int .i64 1])) ∨
       (SolOK Ls ms ∧ 2 < ms.length ∧ e = .returned (.tuple #[.slice none 0 0, .int .i64 5])) ∨
       (SolOK Ls ms ∧ ms.length ≤ 2 ∧ ∃ v' G C, e = .returned (.tuple #[v', .int .i64 0]) ∧ ListR w' w.heap.size v' Ls.length G C (fun i => (solveL (takenTo Ls ms Ls.length) ms (Ls.length - 2)).getD i []) ∧ (∀ i, i < Ls.length → w.heap.size ≤ G i) ∧ (∀ i j, i < Ls.length → j < Ls.length → i ≠ j → G i ≠ G j) ∧ ∀ i, i < Ls.length → w'.ownsRow w.heap.size 5 1 (inner G C i) 16 (((solveL (takenTo Ls ms Ls.length) ms (Ls.length - 2)).getD i []).map B))) := by
  have hs2 := ht.size
  obtain ⟨iL, hiL, hzL0, hzL1, hzL2⟩ := info_parts Tryd.infoL
  obtain ⟨a, cap, hve, hd⟩ := id hv
  subst hve
  obtain ⟨ma, mc, hme, hmd⟩ := id hm
  subst hme
  have HV := hide hv
  have HM := hide hm
  have HT := hide ht
  clear hd hv ht hm hmd
  go_enter Tryd.func13, Tryd.ntmps13
  go_wp2_with fail
  refine (between_any _ _ _ _).mono ?_
  rintro e w1 ⟨rfl, rfl⟩
  by_cases hbt : 4 ≤ Ls.length ∧ Ls.length ≤ 8
  · have hbv : btw (Ls.length : Int) 4 8 = true := by simp [btw]; omega
    obtain ⟨h4, h8⟩ := hbt
    rw [hbv]
    go_wp2_with fail
    refine (distinct_any _ ms Ls.length _ (unhide HM) hml (by omega) h8).mono ?_
    rintro e w2 ⟨r, rfl, hr, hb2⟩
    have HB2 := hide hb2
    have HR := hide hr
    clear hb2 hr
    cases r with
    | false =>
      go_wp2
      refine bodyPost_ret (results_tmp2 rfl _ _ _) rfl ?_
      refine ⟨unhide HB2, .inl ⟨fun h => ?_, rfl⟩⟩
      have := (unhide HR).2 h.2.2.1
      cases this
    | true =>
      have hdist := (unhide HR).1 rfl
      have hfew := dist_few hdist
      have HD := hide hdist
      clear hdist HR
      go_wp2_with fail
      refine (take_any _ _ Ls ms _ ((unhide HV).below (unhide HB2)) ((unhide HM).below (unhide HB2)) (by omega) (by omega) (by omega) hby hbd).mono ?_
      rintro e w3 ⟨hb3, hh⟩
      have HB3 := hide ((unhide HB2).trans (hb3.mono (unhide HB2).size))
      have HM3 := hide (((unhide HM).below (unhide HB2)).below hb3)
      have hsz3 := hb3.size
      clear hb3
      rcases hh with ⟨g, rfl, hg, hcols, hsz⟩ | ⟨rfl, hno⟩
      · have HC := hide hcols
        have HSZ := hide hsz
        clear hcols hsz
        by_cases hm2 : ms.length ≤ 2
        · have hmi : ¬ (2 : Int) < (ms.length : Int) := by omega
          have htc := takenTo_cols Ls ms Ls.length (fun i _ hi2 hi3 => (unhide HSZ) i hi2 hi3)
          have htl := takenTo_len Ls ms Ls.length
          obtain ⟨ts, hts⟩ : ∃ ts, takenTo Ls ms Ls.length = ts := ⟨_, rfl⟩
          rw [hts] at htc htl HC
          have HTS := hide hts
          clear hts
          have hsol := solve_any g Ls.length ts _ ms w3 htc (by omega) (by omega) (by omega) (by unfold maxLen; omega) (unhide HC).lies (unhide HC).lt (unhide HM3) (fun i hi => ((unhide HD) i hi).1) hm2 ((unhide HT).below hs2 (unhide HB3))
          rw [htl] at hsol
          have HS := hide hsol
          clear hsol htc
          go_wp2_with fail
          refine (unhide HS).mono ?_
          rintro e w4 ⟨gs, cgs, rfl, hgs1, hgs2, hown, hcl, hb4⟩
          obtain ⟨ss, hss⟩ : ∃ ss, solveL ts ms (Ls.length - 2) = ss := ⟨_, rfl⟩
          rw [hss] at hown hcl
          have hssl : ss.length = Ls.length := by
            rw [← hss]
            unfold solveL
            rw [List.length_append, datS_len _ _ _ _ (by omega)]
            simp
            omega
          have HSS : Hid (solveL (takenTo Ls ms Ls.length) ms (Ls.length - 2) = ss) := by rw [unhide HTS, hss]; exact rfl
          have HOW := hide hown
          have HCL := hide hcl
          have HB4 := hide ((unhide HB3).trans (hb4.mono (unhide HB3).size))
          have HSL := hide hssl
          have hs4 := hb4.size
          clear hown hcl hb4 hss hssl HS HTS HC
          go_wp2
          go_loopw [8, 37] (fun ov i wr => ∃ (k : Nat) (G C : Nat → Nat), k ≤ Ls.length ∧ i = .int .i64 k ∧ ListR wr w4.heap.size ov k G C (fun i => ss.getD i []) ∧ (∀ i, i < k → w4.heap.size ≤ G i) ∧ (∀ i j, i < k → j < k → i ≠ j → G i ≠ G j) ∧ (∀ i, i < k → wr.ownsRow w4.heap.size 5 1 (inner G C i) 16 ((ss.getD i []).map B)) ∧ Below w4.heap.size w4 wr) (fun _ i _ => Ls.length - (intOf i).toNat)
          case atStart => exact ⟨0, fun _ => 0, fun _ => 0, Nat.zero_le _, rfl, ListR.nil _ _ _ _ _, by intro i hi; omega, by intro i j hi; omega, by intro i hi; omega, Below.refl _ _⟩
          case round =>
            obtain ⟨k, G, C, hk, rfl, hlist, hge, hinj, hows, hbel⟩ := hrel
            have HOS := hide hows
            have HLI := hide hlist
            have HGE := hide hge
            have HIN := hide hinj
            clear hge hinj hlist hows
            by_cases hlt : k < Ls.length
            · have hlt' : k < ss.length := by rw [unhide HSL]; exact hlt
              have hxc := (unhide HCL).col k hlt'
              have hld := hide ((((unhide HOW).below hbel hgs2).cols (unhide HCL) (by have := hbel.size; omega)).lies k hlt')
              have hi1 : (0 : Int) ≤ (k : Int) := by omega
              have hi2 : (k : Int) < (Ls.length : Int) := by omega
              obtain ⟨xs, hxs⟩ : ∃ xs, ss.getD k [] = xs := ⟨_, rfl⟩
              rw [hxs] at hxc hld
              have HXS := hide hxs
              have HBW := hide hbel
              clear hxs hbel
              have hsz : (Tryd.prog.info? 51).map (·.size) = some (xs.map B).length := by rw [List.length_map, hxc.len]; exact Tryd.colSize
              have hsc : (Tryd.prog.info? 51).map (·.size) = some (colA xs).size := by rw [colA_size hxc]; exact Tryd.colSize
              have st := hide (store_new wr hxc)
              have hsw := (unhide HBW).size
              go_wp2_with (first | (show wpList _ _ _ (Oper.mk _ (Op.load _ (Operand.tmp 39)) _ _ _ _ :: _) _ _; refine wpList_load_mid rfl 51 _ rfl gs (k * 16) rfl _ _ (unhide hld) Tryd.underlying51 rfl hsz ?_) | (show wpList _ _ _ (Oper.mk none (Op.store _ _ _) _ _ _ _ :: _) _ _; refine wpList_store_mid rfl 51 _ _ rfl wr.heap.size 0 (colA xs) rfl rfl (unhide st).1 hsc (colA_one _) ?_) | (show wpList _ _ _ (Oper.mk _ (Op.load _ (Operand.tmp 10)) _ _ _ _ :: _) _ _; refine wpList_load_row rfl 51 _ rfl wr.heap.size rfl 51 _ _ _ (unhide st).2.1 Tryd.underlying51 rfl hsc ?_))
              refine (give_any xs _ hxc).mono ?_
              rintro e w5 ⟨g1, c1, rfl, hg1, hg1', ho1, hb5⟩
              obtain ⟨_, _, st3, _⟩ := unhide st
              have hwz : ((wr.alloc (.cells zA 51)).setCells wr.heap.size 0 (colA xs).toList).heap.size = wr.heap.size + 1 := by rw [setCells_size]; simp
              rw [hwz] at hb5 hg1 ho1
              have hbw5 : Below wr.heap.size wr w5 := st3.trans (hb5.mono (by omega))
              have hbuf5 : Buf w5 g1 xs := buf_own (by rw [hxc.len]; exact ho1)
              have hb5a := hbw5.alloc hbw5.size (.cells #[.slice (some ⟨g1, 0, none⟩) 16 c1] 31)
              have hli := (unhide HLI).below hb5a
              have hbu := hbuf5.below ((Below.refl _ _).alloc (Nat.le_refl _) (.cells #[.slice (some ⟨g1, 0, none⟩) 16 c1] 31)) hg1'
              have hob : u8.ownBlock ≠ some g1 := fun e => by have := ((unhide HLI).own.lt _ e).2; omega
              have hwb := (unhide HBW).trans (hb5a.mono (unhide HBW).size)
              have hsz5 := hbw5.size
              have HLI2 := hide hli
              have HBU := hide hbu
              have HWB := hide hwb
              have HOB := hide hob
              have H5 := hide (cell_one_new w5 (.slice (some ⟨g1, 0, none⟩) 16 c1) 31)
              have HON := hide (ownsRow_keep (ownsRow_base_le (base' := w4.heap.size) ho1 (by omega)) ((Below.refl _ _).alloc (Nat.le_refl _) (.cells #[.slice (some ⟨g1, 0, none⟩) 16 c1] 31)))
              have HOO : Hid (∀ i, i < k → (w5.alloc (.cells #[.slice (some ⟨g1, 0, none⟩) 16 c1] 31)).ownsRow w4.heap.size 5 1 (inner G C i) 16 ((ss.getD i []).map B)) := fun i hi => ownsRow_keep (unhide HOS i hi) hb5a
              clear ho1 hb5 hbw5 hbuf5 hb5a hli hbu hob hwb st st3 hwz hld
              go_wp2_with (at_builtin; refine wpList_append_lies _ rfl (.tmp 41) (.tmp 44) 24 rfl w4.heap.size 31 iL (.slice none 0 0) 1 24 Tryd.underlying24 hiL hzL0 hzL1 hzL2 rfl (by decide) u8 k (inners G C k) rfl (unhide HLI2).own ⟨w5.heap.size, 0, none⟩ 1 1 [.slice (some ⟨g1, 0, none⟩) 16 c1] rfl rfl (unhide H5) (by intro u hu; simp only [List.mem_singleton] at hu; subst hu; rfl) (by decide) (by unfold maxLen; omega) (by omega) (by simp; omega) (w5.heap.size + 1) (by simp) ?_)
              intro g2 c2 w6 hown2 hgrow2 hat2 hlt2
              have hp := (unhide HLI2).push g1 c1 (unhide HBU) hxc (unhide HOB) g2 c2 (w5.heap.size + 1) (by simp) hown2 hgrow2 hat2
              have hp' : ListR w6 w4.heap.size (.slice (some ⟨g2, 0, none⟩) (k + 1) c2) (k + 1) (put G k g1) (put C k c1) (fun i => ss.getD i []) := by
                refine ⟨hp.own, fun i hi => ?_, fun i hi => (unhide HCL).col i (by rw [unhide HSL]; omega), hp.ne⟩
                have := hp.buf i hi
                rcases Nat.lt_or_ge i k with h | h
                · rw [putL_lt _ _ _ _ h] at this; exact this
                · obtain rfl : i = k := by omega
                  rw [putL_at, ← unhide HXS] at this; exact this
              have HP := hide hp'
              have HB6 : Hid (Below w4.heap.size w4 w6) := (unhide HWB).grown hgrow2 (by simp; omega) (fun k hk => ((unhide HLI2).own.lt k hk).1)
              have HOS2 : Hid (∀ i, i < k + 1 → w6.ownsRow w4.heap.size 5 1 (inner (put G k g1) (put C k c1) i) 16 ((ss.getD i []).map B)) := fun i hi => by
                rcases Nat.lt_or_ge i k with h | h
                · have e : inner (put G k g1) (put C k c1) i = inner G C i := by unfold inner; rw [put_lt _ _ _ _ h, put_lt _ _ _ _ h]
                  rw [e]
                  exact ownsRow_grow (unhide HOO i h) hgrow2 (fun g hg => (by
                    obtain rfl : G i = g := by simpa [inner, Value.ownBlock] using hg
                    exact (unhide HLI2).ne i h))
                · obtain rfl : i = k := by omega
                  have e : inner (put G i g1) (put C i c1) i = .slice (some ⟨g1, 0, none⟩) 16 c1 := by unfold inner; rw [put_at, put_at]
                  rw [e, unhide HXS]
                  exact ownsRow_grow (unhide HON) hgrow2 (fun g hg => (by
                    obtain rfl : g1 = g := by simpa [Value.ownBlock] using hg
                    exact unhide HOB))
              clear hp hp' hown2 hgrow2 hat2 H5 HLI2 HBU HWB HOB HON HOO
              go_wp2
              go_roundw
              case rel =>
                refine ⟨k + 1, put G k g1, put C k c1, by omega, by go_num, unhide HP, fun i hi => ?_, fun i j hi hj hij => ?_, unhide HOS2, unhide HB6⟩
                · rcases Nat.lt_or_ge i k with h | h
                  · rw [put_lt _ _ _ _ h]; exact unhide HGE i h
                  · obtain rfl : i = k := by omega
                    rw [put_at]; omega
                · have hg : ∀ i, i < k → G i < wr.heap.size := fun i hi => ((unhide HLI).buf i hi).lt (by rw [((unhide HCL).col i (by rw [unhide HSL]; omega)).len]; omega)
                  rcases Nat.lt_or_ge i k with h | h
                  · rcases Nat.lt_or_ge j k with h' | h'
                    · rw [put_lt _ _ _ _ h, put_lt _ _ _ _ h']; exact unhide HIN i j h h' hij
                    · obtain rfl : j = k := by omega
                      rw [put_lt _ _ _ _ h, put_at]; have := hg i h; omega
                  · obtain rfl : i = k := by omega
                    rcases Nat.lt_or_ge j i with h' | h'
                    · rw [put_at, put_lt _ _ _ _ h']; have := hg j h'; omega
                    · omega
              case measure => simp [intOf]; omega
            · obtain rfl : k = Ls.length := by omega
              have HBZ := hide ((unhide HB4).trans (hbel.mono (unhide HB4).size))
              have hsz4 := (unhide HB4).size
              clear hbel
              go_wp2
              refine bodyPost_ret (results_tmp2 rfl _ _ _) rfl ?_
              refine ⟨unhide HBZ, .inr (.inr ⟨⟨h4, h8, unhide HD, unhide HSZ⟩, hm2, u8, G, C, rfl, ?_, fun i hi => Nat.le_trans hsz4 (unhide HGE i hi), unhide HIN, ?_⟩)⟩
              · rw [unhide HSS]
                exact ⟨ownsRow_base_le (unhide HLI).own hsz4, (unhide HLI).buf, (unhide HLI).col, (unhide HLI).ne⟩
              · rw [unhide HSS]
                exact fun i hi => ownsRow_base_le (unhide HOS i hi) hsz4
        · have hmi : (2 : Int) < (ms.length : Int) := by omega
          go_wp2
          refine bodyPost_ret (results_tmp2 rfl _ _ _) rfl ?_
          exact ⟨unhide HB3, .inr (.inl ⟨⟨h4, h8, unhide HD, unhide HSZ⟩, by omega, rfl⟩)⟩
      · have HNO := hide hno
        clear hno
        go_wp2
        refine bodyPost_ret (results_tmp2 rfl _ _ _) rfl ?_
        exact ⟨unhide HB3, .inl ⟨fun h => unhide HNO h.2.2.2, rfl⟩⟩
  · have hbv : btw (Ls.length : Int) 4 8 = false := by simp [btw]; omega
    rw [hbv]
    have HBT := hide hbt
    clear hbt
    go_wp2
    refine bodyPost_ret (results_tmp2 rfl _ _ _) rfl ?_
    exact ⟨Below.refl _ _, .inl ⟨fun h => unhide HBT ⟨h.1, h.2.1⟩, rfl⟩⟩

theorem sol_any (v m : Value) (Ls : List (List Nat)) (ms : List Int) (w : World) (hv : SlL w v Ls) (hm : SlI w m ms) (hll : Ls.length ≤ 9223372036854775807) (hml : ms.length ≤ 9223372036854775807)
    (hby : ∀ i, i < Ls.length → ∀ x ∈ Ls.getD i [], x < 256) (hbd : ∀ i, i < Ls.length → (Ls.getD i []).length ≤ 140737488355328) (ht : Tabs w) :
    Calls Tryd.prog 13 #[v, m] w fun e w' => Below w.heap.size w w' ∧
      ((¬ SolOK Ls ms ∧ e = .returned (.tuple #[.slice none 0 0, .int .i64 1])) ∨
       (SolOK Ls ms ∧ 2 < ms.length ∧ e = .returned (.tuple #[.slice none 0 0, .int .i64 5])) ∨
       (SolOK Ls ms ∧ ms.length ≤ 2 ∧ ∃ v' G C, e = .returned (.tuple #[v', .int .i64 0]) ∧ ListR w' w.heap.size v' Ls.length G C (fun i => (solveL (takenTo Ls ms Ls.length) ms (Ls.length - 2)).getD i []) ∧ (∀ i, i < Ls.length → w.heap.size ≤ G i) ∧ (∀ i j, i < Ls.length → j < Ls.length → i ≠ j → G i ≠ G j))) := by
  refine (sol_own v m Ls ms w hv hm hll hml hby hbd ht).mono ?_
  rintro e w' ⟨hb, h | h | ⟨hs, h2, v', G, C, he, hl, hG, hj, _⟩⟩
  · exact ⟨hb, .inl h⟩
  · exact ⟨hb, .inr (.inl h)⟩
  · exact ⟨hb, .inr (.inr ⟨hs, h2, v', G, C, he, hl, hG, hj⟩)⟩

end Go.Proofs.YtdcinlkkjbclmaaDoor
