/- The walk of Erased. -/
import Derived.Test.YtdcinlkkjbclmaaDoorEMath
import Derived.Test.YtdcinlkkjbclmaaDoorSol
import Derived.Test.YtdcinlkkjbclmaaDoorSame
namespace Go.Proofs.YtdcinlkkjbclmaaDoor
open Go.RowKit

/-- a row of slices in block g, each as it is read -/
def ListS (W : World) (g n : Nat) (V : Nat → Value) (L : Nat → List Nat) : Prop := ∀ i, i < n → W.cell? ⟨g, i, none⟩ = some (V i) ∧ W.frozen? ⟨g, i, none⟩ = false ∧ SlB W (V i) (L i) ∧ (V i).ownBlock ≠ some g

theorem ListR.listS {w : World} {base g cap : Nat} {k : Nat} {G C : Nat → Nat} {L : Nat → List Nat} (h : ListR w base (.slice (some ⟨g, 0, none⟩) k cap) k G C L) : ListS w g k (inner G C) L := fun i hi => by
  refine ⟨h.cell i hi, World.ownsRow.frozenAt h.own i, ?_, fun e => h.ne i hi e.symm⟩
  have := (h.buf i hi).slb (cap := C i)
  rw [(h.col i hi).len] at this
  exact this
theorem slb_set {W : World} {v : Value} {xs : List Nat} (h : SlB W v xs) (a : Addr) (u : Value) (hne : v.ownBlock ≠ some a.block) : SlB (W.setCell a u) v xs := by
  obtain ⟨b, cap, rfl, hd⟩ := h
  refine ⟨b, cap, rfl, ?_⟩
  rcases hd with hd | ⟨g, o, rfl, hr⟩
  · exact Or.inl hd
  · refine Or.inr ⟨g, o, rfl, fun j x hx => ?_⟩
    have hb : g ≠ a.block := fun e => hne (by rw [← e]; rfl)
    rw [World.cell?_setCell_far _ _ _ _ (fun e => hb e.symm)]
    exact hr j x hx
theorem ListS.set {W : World} {g n : Nat} {V : Nat → Value} {L : Nat → List Nat} (h : ListS W g n V L) (x : Nat) (hx : x < n) {u : Value} {ys : List Nat} (hu : SlB W u ys) (hne : u.ownBlock ≠ some g) :
    ListS (W.setCell ⟨g, x, none⟩ u) g n (fun i => if i = x then u else V i) (fun i => if i = x then ys else L i) := fun i hi => by
  obtain ⟨h1, h2, h3, h4⟩ := h i hi
  by_cases e : i = x
  · subst e
    simp only [if_true]
    exact ⟨World.cell?_setCell_same _ _ _ h1, by simpa using h2, slb_set hu _ _ hne, hne⟩
  · simp only [if_neg e]
    exact ⟨by rw [World.cell?_setCell_other _ _ _ _ (by simp only [ne_eq, Addr.mk.injEq]; omega)]; exact h1, by simpa using h2, slb_set h3 _ _ h4, h4⟩
theorem ListS.below {W W' : World} {g n : Nat} {V : Nat → Value} {L : Nat → List Nat} (h : ListS W g n V L) (hb : Below W.heap.size W W') : ListS W' g n V L := fun i hi => by
  obtain ⟨h1, h2, h3, h4⟩ := h i hi
  have hlt := block_lt_of_cell h1
  exact ⟨(hb.cell hlt).trans h1, (hb.frozen hlt).trans h2, h3.below hb, h4⟩
theorem ListS.slL {W : World} {g n cap : Nat} {V : Nat → Value} {L : Nat → List Nat} (h : ListS W g n V L) : SlL W (.slice (some ⟨g, 0, none⟩) n cap) (colsOf L n) := by
  refine ⟨some ⟨g, 0, none⟩, cap, by rw [colsOf_len], Or.inr ⟨g, 0, rfl, fun i hi => ?_⟩⟩
  rw [colsOf_len] at hi
  obtain ⟨h1, _, h3, _⟩ := h i hi
  exact ⟨V i, by rw [Nat.zero_add]; exact h1, by rw [colsOf_at _ _ _ hi]; exact h3⟩

theorem taken_of {A L : Nat → List Nat} {N : Nat} {ms : List Int} (h : ∀ i, i < N + 2 → inI ms (i : Int) = false → L i = A i) : Taken A N ms (takenTo (colsOf L (N + 2)) ms (N + 2)) := by
  refine ⟨by rw [takenTo_len, colsOf_len], fun i hi => ?_⟩
  rw [takenTo_at _ _ _ _ (by rw [colsOf_len]; exact hi), colsOf_at _ _ _ hi]
  cases hin : inI ms (i : Int) with
  | true => simp
  | false => rw [if_pos ⟨hi, rfl⟩, if_neg Bool.false_ne_true, h i hi hin]

theorem solOK_of {A L : Nat → List Nat} {N : Nat} {ms : List Int} (hN1 : 2 ≤ N) (hN2 : N ≤ 6) (hA : ∀ i, IsCol (A i)) (h : ∀ i, i < N + 2 → inI ms (i : Int) = false → L i = A i) (hd : DistTo ms ((N + 2 : Nat) : Int) ms.length) : SolOK (colsOf L (N + 2)) ms := by
  refine ⟨by rw [colsOf_len]; omega, by rw [colsOf_len]; omega, by rw [colsOf_len]; exact hd, fun i hi hin => ?_⟩
  rw [colsOf_len] at hi
  rw [colsOf_at _ _ _ hi, h i hi hin]
  exact hA i

/-- Solve of columns that are right where they are not missing -/
theorem sol_found {A : Nat → List Nat} {N : Nat} {ms : List Int} (hA : Code A N) (hN1 : 2 ≤ N) (hN2 : N ≤ 6) (hml : ms.length ≤ 2) (hd : DistTo ms ((N + 2 : Nat) : Int) ms.length)
    (hs : ∀ cs, Taken A N ms cs → solveL cs ms N = colsOf A (N + 2)) (L : Nat → List Nat) (hL : ∀ i, i < N + 2 → inI ms (i : Int) = false → L i = A i) (hby : ∀ i, i < N + 2 → ∀ x ∈ L i, x < 256) (hbd : ∀ i, i < N + 2 → (L i).length ≤ 16)
    (g cap : Nat) (V : Nat → Value) (m : Value) (w : World) (hv : ListS w g (N + 2) V L) (hm : SlI w m ms) (ht : Tabs w) :
    Calls Tryd.prog 13 #[.slice (some ⟨g, 0, none⟩) (N + 2) cap, m] w fun e w' => Below w.heap.size w w' ∧ ∃ v' : Value, e = .returned (.tuple #[v', .int .i64 0]) ∧ SlL w' v' (colsOf A (N + 2)) := by
  refine (sol_any _ m (colsOf L (N + 2)) ms w hv.slL hm (by rw [colsOf_len]; omega) (by omega) (fun i hi => by rw [colsOf_len] at hi; rw [colsOf_at _ _ _ hi]; exact hby i hi) (fun i hi => by rw [colsOf_len] at hi; rw [colsOf_at _ _ _ hi]; have := hbd i hi; omega) ht).mono ?_
  rintro e w' ⟨hb, hh⟩
  have hok := solOK_of hN1 hN2 hA.col hL hd
  rcases hh with ⟨h, _⟩ | ⟨_, h, _⟩ | ⟨_, _, v', G, C, rfl, hli, _, _⟩
  · exact absurd hok h
  · omega
  · refine ⟨hb, v', rfl, ?_⟩
    rw [colsOf_len, show N + 2 - 2 = N from by omega, hs _ (taken_of hL)] at hli
    have := (hli.congr (L' := A) (fun i hi => colsOf_at A (N + 2) i hi)).slL (by omega)
    exact this

theorem ints_one (w : World) (x : Int) : SlI (w.alloc (.cells #[.int .i64 x] 3)) (.slice (some ⟨w.heap.size, 0, none⟩) 1 1) [x] := by
  refine ⟨_, 1, rfl, Or.inr ⟨w.heap.size, 0, rfl, fun j u hj => ?_⟩⟩
  rw [Nat.zero_add, World.cell?_alloc_at _ _ _ _ rfl]
  cases j with
  | zero => simpa using hj
  | succ j => simp at hj
theorem ints_two (w : World) (x y : Int) : SlI (w.alloc (.cells #[.int .i64 x, .int .i64 y] 3)) (.slice (some ⟨w.heap.size, 0, none⟩) 2 2) [x, y] := by
  refine ⟨_, 2, rfl, Or.inr ⟨w.heap.size, 0, rfl, fun j u hj => ?_⟩⟩
  rw [Nat.zero_add, World.cell?_alloc_at _ _ _ _ rfl]
  rcases j with _ | _ | j
  · simpa using hj
  · simpa using hj
  · simp at hj
theorem bytes_123 (w : World) : SlB (w.alloc (.cells #[.int .u8 1, .int .u8 2, .int .u8 3] 5)) (.slice (some ⟨w.heap.size, 0, none⟩) 3 3) [1, 2, 3] := by
  refine ⟨_, 3, rfl, Or.inr ⟨w.heap.size, 0, rfl, fun j u hj => ?_⟩⟩
  rw [Nat.zero_add, World.cell?_alloc_at _ _ _ _ rfl]
  rcases j with _ | _ | _ | j
  · simpa [B] using hj
  · simpa [B] using hj
  · simpa [B] using hj
  · simp at hj
theorem slB_nil (w : World) : SlB w (.slice none 0 0) [] := ⟨none, 0, rfl, Or.inl rfl⟩
theorem dist_one (x N : Nat) (hx : x < N) : DistTo [(x : Int)] (N : Int) 1 := fun i hi => by
  obtain rfl : i = 0 := by omega
  exact ⟨by simp, by simp; omega, rfl⟩
theorem dist_two (x y N : Nat) (hx : x < N) (hy : y < N) (hne : y ≠ x) : DistTo [(x : Int), (y : Int)] (N : Int) 2 := fun i hi => by
  rcases (show i = 0 ∨ i = 1 by omega) with rfl | rfl
  · exact ⟨by simp, by simp; omega, rfl⟩
  · refine ⟨by simp, by simp; omega, ?_⟩
    simp [inI]
    omega

theorem cell_after {W : World} {g x y : Nat} {u v1 v2 : Value} (hx : W.cell? ⟨g, x, none⟩ = some v1) (hy : W.cell? ⟨g, y, none⟩ = some v2) : (W.setCell ⟨g, x, none⟩ u).cell? ⟨g, y, none⟩ = some (if y = x then u else v2) := by
  by_cases e : y = x
  · subst e; rw [if_pos rfl]; exact World.cell?_setCell_same _ _ _ hx
  · rw [if_neg e, World.cell?_setCell_other _ _ _ _ (by simp only [ne_eq, Addr.mk.injEq]; omega)]; exact hy

set_option maxRecDepth 100000 in
set_option maxHeartbeats 2000000 in
theorem erased_any (disks a b : Int) (v1 : Value) (ms1 : List Int) (w : World) (hv1 : SlI w v1 ms1) (hl1 : ms1.length ≤ 9223372036854775807)
    (hd1 : -9223372036854775808 ≤ disks) (hd2 : disks ≤ 9223372036854775807) (ha1 : -9223372036854775808 ≤ a) (ha2 : a ≤ 9223372036854775807) (hb1 : -9223372036854775808 ≤ b) (hb2 : b ≤ 9223372036854775807) (ht : Tabs w) :
    Calls Tryd.prog 6 #[.int .i64 disks, v1, .int .i64 a, .int .i64 b] w fun e w' => e = .returned (.bool true) ∧ Below w.heap.size w w' := by
  obtain ⟨hN1, hN2⟩ := nOf_bd disks
  have hs2 := ht.size
  have HT := hide ht
  have HV1 := hide hv1
  clear ht hv1
  go_enter Tryd.func6, Tryd.ntmps6
  go_wp2_with fail
  refine (stripe_any disks v1 ms1 _ (unhide HV1) hl1 hd1 hd2 (unhide HT)).mono ?_
  rintro e wa ⟨va, Ga, Ca, rfl, hla, hba⟩
  obtain ⟨ga, ca, hvae, hga, hga2⟩ := hla.own.form (by omega)
  subst hvae
  have hcode := strL_code disks ms1
  generalize hA : strL disks ms1 = A at *
  generalize hN : nOf disks = N at *
  have hn1 := fun (w' : World) => Lib.run_eql_slice_nil (P := Tryd.prog) w' 24 31 (some ⟨ga, 0, none⟩) (N + 2) ca 0 0 Tryd.underlying24
  have hsa := hba.size
  have hta := (unhide HT).below hs2 hba
  have HLA := hide hla
  have HBA := hide hba
  have HCO := hide hcode
  have HTA := hide hta
  clear hla hba hcode hta HT HV1 hA hN
  obtain ⟨px1, px2⟩ := pickAt_bd a ((N : Int) + 2) (by omega)
  obtain ⟨x, hx⟩ := Int.eq_ofNat_of_zero_le px1
  have hxN : x < N + 2 := by omega
  obtain ⟨py1, py2⟩ := pickAt_bd b ((N : Int) + 2) (by omega)
  obtain ⟨y, hy⟩ := Int.eq_ofNat_of_zero_le py1
  have hyN : y < N + 2 := by omega
  go_wp2_with fail
  refine (pick_any _ _ _ (by omega) ha1 ha2 (by omega)).mono ?_
  rintro e w1 ⟨rfl, rfl⟩
  rw [hx]
  go_wp2_with fail
  refine (pick_any _ _ _ (by omega) hb1 hb2 (by omega)).mono ?_
  rintro e w3 ⟨rfl, rfl⟩
  rw [hy]
  have hcp := copied_any (.slice (some ⟨ga, 0, none⟩) (N + 2) ca) (colsOf A (N + 2)) w3 ((unhide HLA).slL (by omega)) (colsOf_cols (fun i _ => (unhide HCO).col i)) (by rw [colsOf_len]; omega) (by rw [colsOf_len]; omega)
  rw [colsOf_len] at hcp
  have HCP := hide hcp
  clear hcp hx px1 px2 hy py1 py2
  have hxI : (x : Int) < (N : Int) + 2 := by omega
  have hx0 : (0 : Int) ≤ (x : Int) := by omega
  have hyI : (y : Int) < (N : Int) + 2 := by omega
  have hy0 : (0 : Int) ≤ (y : Int) := by omega
  go_wp2_with fail
  refine (unhide HCP).mono ?_
  rintro e wc ⟨vs, Gs, Cs, rfl, hls, hge, hinj, hbc⟩
  obtain ⟨gs, cs, hvse, hgs, hgs2⟩ := hls.own.form (by omega)
  subst hvse
  have hls' := (hls.congr (L' := A) (fun i hi => colsOf_at A (N + 2) i hi)).listS
  have q1 := (hls' x hxN).1
  have q2 := (hls' x hxN).2.1
  have hst := hls'.set x hxN (slB_nil wc) (by simp [Value.ownBlock])
  have hsc := hbc.size
  have HST := hide hst
  have HBC := hide hbc
  clear hst hbc hls hge hinj hls' HCP hn1
  go_wp2_with fail
  have hml : SlI ((wc.setCell ⟨gs, x, none⟩ (.slice none 0 0)).alloc (.cells #[.int .i64 (x : Int)] 3)) (.slice (some ⟨wc.heap.size, 0, none⟩) 1 1) [(x : Int)] := by
    have := ints_one (wc.setCell ⟨gs, x, none⟩ (.slice none 0 0)) (x : Int)
    simpa using this
  have hld := (unhide HST).below ((Below.refl _ _).alloc (Nat.le_refl _) (.cells #[.int .i64 (x : Int)] 3))
  have hbd : Below w3.heap.size w3 ((wc.setCell ⟨gs, x, none⟩ (.slice none 0 0)).alloc (.cells #[.int .i64 (x : Int)] 3)) := ((unhide HBC).setCell (p := ⟨gs, x, none⟩) hgs _).alloc (by simpa using hsc) _
  clear HST HBC q1 q2
  generalize (wc.setCell ⟨gs, x, none⟩ (.slice none 0 0)).alloc (.cells #[.int .i64 (x : Int)] 3) = wd at *
  have hsd := hbd.size
  have HBD := hide hbd
  refine (sol_found (unhide HCO) hN1 hN2 (by simp) (dist_one x (N + 2) hxN) (fun cs h => erased_one (unhide HCO) hN2 x h) (fun i => if i = x then [] else A i) (fun i hi hin => if_neg fun e => by rw [(inI_one x i).2 e] at hin; cases hin) (fun i hi z hz => by
      by_cases e : i = x
      · rw [if_pos e] at hz; cases hz
      · rw [if_neg e] at hz; exact ((unhide HCO).col i).byte z hz) (fun i hi => by
      by_cases e : i = x
      · rw [if_pos e]; simp
      · rw [if_neg e, ((unhide HCO).col i).len]; omega) gs cs _ _ _ hld hml ((unhide HTA).below (by omega) hbd)).mono ?_
  rintro e we ⟨hbe, vf, rfl, hsf⟩
  clear hml hld hbd
  have hbe3 : Below w3.heap.size w3 we := (unhide HBD).trans (hbe.mono hsd)
  have HBE := hide hbe3
  have hse := hbe3.size
  have hsm := same_any vf (.slice (some ⟨ga, 0, none⟩) (N + 2) ca) (colsOf A (N + 2)) we hsf (((unhide HLA).below hbe3).slL (by omega)) (colsOf_cols (fun i _ => (unhide HCO).col i)) (by rw [colsOf_len]; omega) (by rw [colsOf_len]; omega)
  have HSM := hide hsm
  clear hsm hsf hbe hbe3 HBD
  go_wp2_with fail
  refine (unhide HSM).mono ?_
  rintro e wf ⟨rfl, hbf⟩
  have hbf3 : Below w3.heap.size w3 wf := (unhide HBE).trans (hbf.mono hse)
  have HBF := hide hbf3
  have hsf := hbf3.size
  have hcp := copied_any (.slice (some ⟨ga, 0, none⟩) (N + 2) ca) (colsOf A (N + 2)) wf (((unhide HLA).below hbf3).slL (by omega)) (colsOf_cols (fun i _ => (unhide HCO).col i)) (by rw [colsOf_len]; omega) (by rw [colsOf_len]; omega)
  rw [colsOf_len] at hcp
  have HCP := hide hcp
  clear hcp hbf hbf3 HSM HBE
  go_wp2_with fail
  refine (unhide HCP).mono ?_
  rintro e wg ⟨vt, Gt, Ct, rfl, hlt, hge, hinj, hbg⟩
  obtain ⟨gt, ct, hvte, hgt, hgt2⟩ := hlt.own.form (by omega)
  subst hvte
  have hlw := (hlt.congr (L' := A) (fun i hi => colsOf_at A (N + 2) i hi)).listS
  have q1 := (hlw x hxN).1
  have q2 := (hlw x hxN).2.1
  have r1 := cell_after (u := .slice (some ⟨wg.heap.size, 0, none⟩) 3 3) q1 (hlw y hyN).1
  have r2 : (wg.setCell ⟨gt, x, none⟩ (.slice (some ⟨wg.heap.size, 0, none⟩) 3 3)).frozen? ⟨gt, y, none⟩ = false := by simpa using (hlw y hyN).2.1
  have hlt' := hlw.below ((Below.refl _ _).alloc (Nat.le_refl _) (.cells #[.int .u8 1, .int .u8 2, .int .u8 3] 5))
  have hst := hlt'.set x hxN (bytes_123 wg) (by simp [Value.ownBlock]; omega)
  have hst2 := hst.set y hyN (slB_nil _) (by simp [Value.ownBlock])
  have hsg := hbg.size
  have hbg1 := ((hbg.alloc hbg.size (.cells #[.int .u8 1, .int .u8 2, .int .u8 3] 5)).setCell (p := ⟨gt, x, none⟩) hgt (.slice (some ⟨wg.heap.size, 0, none⟩) 3 3)).setCell (p := ⟨gt, y, none⟩) hgt (.slice none 0 0)
  rw [World.setCell_alloc_past _ _ _ _ hgt2, World.setCell_alloc_past _ _ _ _ (by simpa using hgt2)] at hst2 hbg1
  have HST := hide hst2
  have HBG := hide hbg1
  clear hst hst2 hbg hbg1 hlt hge hinj hlt' HCP hlw
  by_cases hxy : x = y
  · have e1 : ((x : Int) == (y : Int)) = true := by rw [hxy]; simp
    have HXY := hide hxy
    clear hxy
    have hst3 := (unhide HST).below ((Below.refl _ _).alloc (Nat.le_refl _) (.cells #[.int .i64 (x : Int), .int .i64 (y : Int)] 3))
    have hbg2 := (unhide HBG).alloc (unhide HBG).size (.cells #[.int .i64 (x : Int), .int .i64 (y : Int)] 3)
    have hbg3 := hbg2.alloc hbg2.size (.cells #[] 3)
    have hbg4 := (unhide HBF).trans (hbg3.mono hsf)
    have HBH := hide hbg4
    clear hst3 hbg2 hbg3 hbg4 HST HBG
    go_wp2_with fail
    generalize (((((wg.setCell ⟨gt, x, none⟩ (.slice (some ⟨wg.heap.size, 0, none⟩) 3 3)).setCell ⟨gt, y, none⟩ (.slice none 0 0)).alloc (.cells #[.int .u8 1, .int .u8 2, .int .u8 3] 5)).alloc (.cells #[.int .i64 (x : Int), .int .i64 (y : Int)] 3)).alloc (.cells #[] 3)) = wh at *
    clear q1 q2 r1 r2 e1
    have hsh := (unhide HBH).size
    have hcp := copied_any (.slice (some ⟨ga, 0, none⟩) (N + 2) ca) (colsOf A (N + 2)) wh (((unhide HLA).below (unhide HBH)).slL (by omega)) (colsOf_cols (fun i _ => (unhide HCO).col i)) (by rw [colsOf_len]; omega) (by rw [colsOf_len]; omega)
    rw [colsOf_len] at hcp
    refine hcp.mono ?_
    rintro e wi ⟨vu, Gu, Cu, rfl, hlu, _, _, hbi⟩
    obtain ⟨gu, cu, hvue, hgu, hgu2⟩ := hlu.own.form (by omega)
    subst hvue
    have hlw := (hlu.congr (L' := A) (fun i hi => colsOf_at A (N + 2) i hi)).listS
    have hbi3 := (unhide HBH).trans (hbi.mono hsh)
    have hsol := sol_found (ms := []) (unhide HCO) hN1 hN2 (by simp) (fun i hi => absurd hi (by simp)) (fun cs h => erased_none (unhide HCO) h) A (fun i hi hin => rfl) (fun i hi z hz => ((unhide HCO).col i).byte z hz) (fun i hi => by rw [((unhide HCO).col i).len]; omega) gu cu _ (.slice (some ⟨wg.heap.size + 1 + 1, 0, none⟩) 0 0) wi hlw ⟨_, 0, rfl, Or.inl rfl⟩ ((unhide HTA).below (by omega) hbi3)
    have HSO := hide hsol
    have HBI := hide hbi3
    have hsi := hbi3.size
    clear hcp hlu hbi hlw hbi3 hsol HBH
    go_wp2_with fail
    refine (unhide HSO).mono ?_
    rintro e wj ⟨hbj, vg, rfl, hsg'⟩
    have hbj3 := (unhide HBI).trans (hbj.mono hsi)
    have hsj := hbj3.size
    have HBJ := hide hbj3
    have hsm := same_any vg (.slice (some ⟨ga, 0, none⟩) (N + 2) ca) (colsOf A (N + 2)) wj hsg' (((unhide HLA).below hbj3).slL (by omega)) (colsOf_cols (fun i _ => (unhide HCO).col i)) (by rw [colsOf_len]; omega) (by rw [colsOf_len]; omega)
    have HSM := hide hsm
    clear hsm hsg' hbj hbj3 HSO HBI
    go_wp2_with fail
    refine (unhide HSM).mono ?_
    rintro e wk ⟨rfl, hbk⟩
    have HBK := hide ((unhide HBA).trans (((unhide HBJ).trans (hbk.mono hsj)).mono hsa))
    clear hbk HSM HBJ
    go_wp2
    go_ret
    exact ⟨rfl, unhide HBK⟩
  · have e1 : ((x : Int) == (y : Int)) = false := beq_eq_false_iff_ne.2 (by omega)
    have hyx : y ≠ x := fun e => hxy e.symm
    have HXY := hide hxy
    clear hxy
    have hmt := ints_two (((wg.setCell ⟨gt, x, none⟩ (.slice (some ⟨wg.heap.size, 0, none⟩) 3 3)).setCell ⟨gt, y, none⟩ (.slice none 0 0)).alloc (.cells #[.int .u8 1, .int .u8 2, .int .u8 3] 5)) (x : Int) (y : Int)
    rw [show (((wg.setCell ⟨gt, x, none⟩ (.slice (some ⟨wg.heap.size, 0, none⟩) 3 3)).setCell ⟨gt, y, none⟩ (.slice none 0 0)).alloc (.cells #[.int .u8 1, .int .u8 2, .int .u8 3] 5)).heap.size = wg.heap.size + 1 from by simp] at hmt
    have hst3 := (unhide HST).below ((Below.refl _ _).alloc (Nat.le_refl _) (.cells #[.int .i64 (x : Int), .int .i64 (y : Int)] 3))
    have hbg2 := (unhide HBG).alloc (unhide HBG).size (.cells #[.int .i64 (x : Int), .int .i64 (y : Int)] 3)
    have hbg4 := (unhide HBF).trans (hbg2.mono hsf)
    have HBH := hide hbg4
    have HS3 := hide hst3
    have HMT := hide hmt
    clear hst3 hbg2 hbg4 HST HBG hmt
    go_wp2_with fail
    generalize ((((wg.setCell ⟨gt, x, none⟩ (.slice (some ⟨wg.heap.size, 0, none⟩) 3 3)).setCell ⟨gt, y, none⟩ (.slice none 0 0)).alloc (.cells #[.int .u8 1, .int .u8 2, .int .u8 3] 5)).alloc (.cells #[.int .i64 (x : Int), .int .i64 (y : Int)] 3)) = wh at *
    clear q1 q2 r1 r2 e1
    have hsh := (unhide HBH).size
    have hin2 : ∀ i : Nat, inI [(x : Int), (y : Int)] (i : Int) = false → i ≠ x ∧ i ≠ y := fun i hin => ⟨fun e => (by rw [(inI_two x y i).2 (Or.inl e)] at hin; cases hin), fun e => (by rw [(inI_two x y i).2 (Or.inr e)] at hin; cases hin)⟩
    refine (sol_found (unhide HCO) hN1 hN2 (by simp) (dist_two x y (N + 2) hxN hyN hyx) (fun cs h => erased_two (unhide HCO) hN2 x y hxN hyN hyx h) (fun i => if i = y then [] else if i = x then [1, 2, 3] else A i) (fun i hi hin => by
        obtain ⟨n1, n2⟩ := hin2 i hin
        show (if i = y then _ else if i = x then _ else _) = _
        rw [if_neg n2, if_neg n1]) (fun i hi z hz => by
        by_cases e : i = y
        · rw [if_pos e] at hz; cases hz
        · rw [if_neg e] at hz
          by_cases e2 : i = x
          · rw [if_pos e2] at hz
            simp at hz
            omega
          · rw [if_neg e2] at hz; exact ((unhide HCO).col i).byte z hz) (fun i hi => by
        by_cases e : i = y
        · rw [if_pos e]; simp
        · rw [if_neg e]
          by_cases e2 : i = x
          · rw [if_pos e2]; simp
          · rw [if_neg e2, ((unhide HCO).col i).len]; omega) gt ct _ _ _ (unhide HS3) (unhide HMT) ((unhide HTA).below (by omega) (unhide HBH))).mono ?_
    rintro e wj ⟨hbj, vg, rfl, hsg'⟩
    have hbj3 := (unhide HBH).trans (hbj.mono hsh)
    have hsj := hbj3.size
    have HBJ := hide hbj3
    have hsm := same_any vg (.slice (some ⟨ga, 0, none⟩) (N + 2) ca) (colsOf A (N + 2)) wj hsg' (((unhide HLA).below hbj3).slL (by omega)) (colsOf_cols (fun i _ => (unhide HCO).col i)) (by rw [colsOf_len]; omega) (by rw [colsOf_len]; omega)
    have HSM := hide hsm
    clear hsm hsg' hbj hbj3 HBH HS3 HMT hin2
    go_wp2_with fail
    refine (unhide HSM).mono ?_
    rintro e wk ⟨rfl, hbk⟩
    have HBK := hide ((unhide HBA).trans (((unhide HBJ).trans (hbk.mono hsj)).mono hsa))
    clear hbk HSM HBJ
    go_wp2
    go_ret
    exact ⟨rfl, unhide HBK⟩

end Go.Proofs.YtdcinlkkjbclmaaDoor
