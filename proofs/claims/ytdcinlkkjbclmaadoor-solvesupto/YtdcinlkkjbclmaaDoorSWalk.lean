/- The walk of Solves. -/
import Derived.Test.YtdcinlkkjbclmaaDoorLScript
import Derived.Test.YtdcinlkkjbclmaaDoorRefSol
import Derived.Test.YtdcinlkkjbclmaaDoorLSame
import Derived.Test.YtdcinlkkjbclmaaDoorPWalk
import Derived.Deep.RegionWith
import Derived.Deep.DeepCutAuto
namespace Go.Proofs.YtdcinlkkjbclmaaDoor
open Go.RowKit

theorem ListR.chg {X : Nat → Prop} {w w' : World} {base : Nat} {v : Value} {k : Nat} {G C : Nat → Nat} {L : Nat → List Nat} (h : ListR w base v k G C L) (hc : Chg X w w') (hv : ∀ g, v.ownBlock = some g → ¬ X g) (hG : ∀ i, i < k → ¬ X (G i)) : ListR w' base v k G C L :=
  ⟨ownsRow_chg h.own hc hv, fun i hi => buf_chg (h.buf i hi) hc (hG i hi) ((h.buf i hi).lt (by rw [(h.col i hi).len]; omega)), h.col, h.ne⟩
/-- the book behind a store into a block that is none of its own -/
theorem Book.other {w : World} {N lo ob n : Nat} {bs ks : Value} {U : Nat → Value} {Ln : Nat → Nat} (h : Book w N lo ob n bs ks U Ln) (a : Addr) (v : Value) (hf : Free ob n bs ks U a.block) : Book (w.setCell a v) N lo ob n bs ks U Ln :=
  ⟨h.obj.setOther (fun e => hf.1 e.symm) v, ownsRow_other h.bsR a v hf.2.1, ownsRow_other h.ksR a v hf.2.2.1, fun i hi => slb_set' (h.ent i hi) a v (hf.2.2.2 i hi), h.lo_ob, h.lt_ob, h.lt_bs, h.lt_ks, h.lt_U, h.lens⟩
theorem there_set {w : World} {g o n : Nat} (h : w.there g o n) (k : Nat) (v : Value) : (w.setCell ⟨g, k, none⟩ v).there g o n := by
  intro j hj
  obtain ⟨h1, h2⟩ := h j hj
  refine ⟨?_, by simpa using h2⟩
  by_cases e : o + j = k
  · subst e
    obtain ⟨x, hx⟩ := Option.isSome_iff_exists.1 h1
    rw [World.cell?_setCell_same _ _ _ hx]
    rfl
  · rw [World.cell?_setCell_other _ _ _ _ (by simp only [ne_eq, Addr.mk.injEq]; omega)]
    exact h1
/-- the numbers, and the mark behind them -/
def markV (ms : List Int) (j : Nat) : Value := if j < ms.length then .int .i64 (ms.getD j 0) else .int .i64 (-9)

def preV (ms : List Int) (j : Nat) : Value := if j < ms.length then .int .i64 (ms.getD j 0) else .int .i64 0
theorem pre_row {w : World} {g : Nat} {ms : List Int} {cur : List Value} (hcur : ∀ j, j < ms.length + 1 → cur[j]? = some (.int .i64 0)) (hlen : cur.length = ms.length + 1) (h : w.heap[g]? = some (.cells (splice cur 0 (ms.map (Value.int .i64))).toArray 3 (0, 0))) : w.rowIs g 3 (ms.length + 1) (preV ms) := by
  refine ⟨_, h, by simp [length_splice _ _ _ (show 0 + (ms.map (Value.int .i64)).length ≤ cur.length by rw [List.length_map, hlen]; omega), hlen], fun j hj => ?_⟩
  unfold splice preV
  rw [List.getElem?_toArray, List.take_zero, List.nil_append]
  by_cases hjm : j < ms.length
  · rw [if_pos hjm, List.getElem?_append_left (by rw [List.length_map]; exact hjm)]
    simp [hjm]
  · rw [if_neg hjm, List.getElem?_append_right (by rw [List.length_map]; omega), List.getElem?_drop]
    rw [show 0 + (ms.map (Value.int .i64)).length + (j - (ms.map (Value.int .i64)).length) = j by rw [List.length_map]; omega]
    exact hcur j hj
theorem mark_row {w : World} {g : Nat} {ms : List Int} (h : w.rowIs g 3 (ms.length + 1) (preV ms)) : (w.setCell ⟨g, ms.length, none⟩ (.int .i64 (-9))).rowIs g 3 (ms.length + 1) (markV ms) :=
  (h.set ms.length _).congr (fun i hi => by
    unfold preV markV
    by_cases e : i = ms.length
    · rw [if_pos e, if_neg (by omega)]
    · rw [if_neg e, if_pos (by omega), if_pos (by omega)])
theorem mark_sl {w : World} {g c : Nat} {ms : List Int} (h : w.rowIs g 3 (ms.length + 1) (markV ms)) : SlI w (.slice (some ⟨g, 0, none⟩) ms.length c) ms := by
  refine ⟨_, c, rfl, Or.inr ⟨g, 0, rfl, fun j u hj => ?_⟩⟩
  have hj' : j < ms.length := by have := (List.getElem?_eq_some_iff.1 hj).1; simpa using this
  rw [Nat.zero_add, h.cell (by omega), markV, if_pos hj', ← hj]
  simp [hj']

set_option maxRecDepth 100000 in
set_option maxHeartbeats 8000000 in
theorem solves_any (v : Value) (cs : List ColI) (w : World) (hv : SlC w v cs) (hl : cs.length ≤ 1048576) (hok : ∀ c ∈ cs, ColOK c) (ht : Tabs w) :
    Calls Tryd.prog 4 #[v] w fun e w' => e = .returned (.bool true) ∧ Below w.heap.size w w' := by
  have hs2 := ht.size
  obtain ⟨i3, hi3, hz30, hz31, hz32⟩ := info_parts Tryd.info3'
  obtain ⟨a, cap, hve, _⟩ := id hv
  subst hve
  have HV := hide hv
  have HOK := hide hok
  have HT := hide ht
  clear hv hok ht
  go_enter Tryd.func4, Tryd.ntmps4
  go_wp2
  have HBN := hide (book_new w (fun _ => .slice none 0 0) (fun _ => 0))
  go_loopw [4] (fun iv wr => ∃ (i n : Nat) (bs ks : Value) (U : Nat → Value) (Ln : Nat → Nat), i ≤ cs.length ∧ n ≤ 8 * i ∧ iv = .int .i64 (i : Int) ∧ Book wr wr.heap.size w.heap.size w.heap.size n bs ks U Ln ∧ Below w.heap.size w wr) (fun i _ => cs.length - (intOf i).toNat)
  case atStart => exact ⟨0, 0, _, _, _, _, Nat.zero_le _, Nat.zero_le _, rfl, unhide HBN, (Below.refl _ _).alloc (Nat.le_refl _) _⟩
  case round =>
    clear HBN
    obtain ⟨i, n, bs, ks, U, Ln, hi, hn, rfl, hbk, hbw⟩ := hrel
    have HBK := hide hbk
    have HB := hide hbw
    clear hbk
    rcases Nat.lt_or_ge i cs.length with hlt | hge
    · obtain ⟨c, hci⟩ : ∃ c, cs[i]? = some c := ⟨cs[i], List.getElem?_eq_getElem hlt⟩
      have hco := unhide HOK c (List.mem_of_getElem? hci)
      obtain ⟨a', cap', hve, hd⟩ := (unhide HV).below hbw
      simp only [Value.slice.injEq] at hve
      obtain ⟨rfl, _, rfl⟩ := hve
      rcases hd with hd | ⟨b, o, rfl, hd⟩
      · rw [hd] at hlt; simp at hlt
      obtain ⟨u, mm, hu, hum, hsl, ⟨hsm, hmc⟩, _⟩ := hd i c hci
      have hi1 : (0 : Int) ≤ (i : Int) := by omega
      have hi2 : (i : Int) < (cs.length : Int) := by omega
      have HSL := hide hsl
      have HSM := hide hsm
      have HMC := hide hmc
      have HCO := hide hco
      have HTR := hide ((unhide HT).below hs2 hbw)
      have hswr := hbw.size
      have HU : Hid (∀ w', Below wr.heap.size wr w' → w'.cell? ⟨b, o + i * 2, none⟩ = some u ∧ w'.cell? ⟨b, o + i * 2 + 1, none⟩ = some mm) := fun w' h' => ⟨(h'.cell (block_lt_of_cell hu)).trans hu, (h'.cell (block_lt_of_cell hum)).trans hum⟩
      clear hd hci hbw
      go_wp2_with fail
      refine (lend_any u c _ hco hsl).mono ?_
      rintro e w1 ⟨h, Gf, rfl, hle, hGf, hb1⟩
      have HLE := hide hle
      have HGF := hide hGf
      have HB1 := hide hb1
      have hs1 := hb1.size
      have HT1 := hide ((unhide HTR).below (by omega) hb1)
      obtain ⟨hu1, hum1⟩ := unhide HU w1 hb1
      obtain ⟨ma, mc, hme, hmd⟩ := id hsm
      subst hme
      have hcm : c.ms.length ≤ mc := unhide HMC _ _ _ rfl
      have hml := (unhide HCO).mlen
      clear hle hGf hb1 hco hsl hu hum hsm hmc hmd
      have hmk : ∀ w' : World, (Instr.makeSlice 25 (.int .i64 ((c.ms.length : Int) + 1)) (.int .i64 ((c.ms.length : Int) + 1))).run Tryd.prog w' = .ok (.slice (some ⟨w'.heap.size, 0, none⟩) (c.ms.length + 1) (c.ms.length + 1)) (w'.alloc (.cells (madeCells #[.int .i64 0] (c.ms.length + 1)) 3)) := fun w' =>
        run_make_row (P := Tryd.prog) 25 3 i3 (.int .i64 0) Tryd.underlying25 hi3 hz30 hz31 rfl .i64 .i64 (c.ms.length + 1) (by rw [hz32]; omega) (by omega) w'
      obtain ⟨cur, hcur⟩ : ∃ cur, (madeCells #[.int .i64 0] (c.ms.length + 1)).toList = cur := ⟨_, rfl⟩
      have hcl : cur.length = c.ms.length + 1 := by rw [← hcur]; simp [size_madeCells]
      have hcb : (w1.alloc (.cells (madeCells #[.int .i64 0] (c.ms.length + 1)) 3)).heap[w1.heap.size]? = some (.cells cur.toArray 3 (0, 0)) := by
        rw [← hcur]
        exact heap_alloc_new w1 _
      have hba := (Below.refl w1.heap.size w1).alloc (Nat.le_refl _) (.cells (madeCells #[.int .i64 0] (c.ms.length + 1)) 3)
      obtain ⟨hu2, hum2⟩ := unhide HU _ ((unhide HB1).trans (hba.mono hs1))
      obtain ⟨X1, hX1⟩ : ∃ X1, c.ms.map (Value.int .i64) = X1 := ⟨_, rfl⟩
      have hXl : X1.length = c.ms.length := by rw [← hX1, List.length_map]
      have hXm : X1.length = Nat.min c.ms.length (c.ms.length + 1) := by rw [hXl]; exact (Nat.min_eq_left (by omega)).symm
      have hpos : X1 ≠ [] → ∃ ad, ma = some ad ∧ ∀ j v, X1[j]? = some v → (w1.alloc (.cells (madeCells #[.int .i64 0] (c.ms.length + 1)) 3)).cell? (ad.add j) = some v := fun hp => by
        obtain ⟨a2, c2, h2, hd2⟩ := (unhide HSM).below ((unhide HB1).trans (hba.mono hs1))
        simp only [Value.slice.injEq] at h2
        obtain ⟨rfl, _, rfl⟩ := h2
        rcases hd2 with h0 | ⟨b2, o2, rfl, hr2⟩
        · exact absurd (by rw [← hX1, h0]; rfl) hp
        · exact ⟨_, rfl, fun j v hj => by rw [Addr.add_mid]; exact hr2 j v (by rw [hX1]; exact hj)⟩
      have hone : ∀ u ∈ X1, u.oneCell' = true := by
        rw [← hX1]
        intro u hu
        simp only [List.mem_map] at hu
        obtain ⟨y, _, rfl⟩ := hu
        rfl
      have hca : ∀ j, j < c.ms.length + 1 → cur[j]? = some (.int .i64 0) := fun j hj => by rw [← hcur]; simp [madeCells, hj, Nat.mod_one]
      have HCA := hide hca
      clear hca
      have HCB := hide hcb
      have HCL := hide hcl
      have HPO := hide hpos
      have HONE := hide hone
      have HXM := hide hXm
      have HXL := hide hXl
      have HX1 := hide hX1
      have HBA := hide hba
      clear hcb hcl hpos hone hXm hXl hX1 hba hcur
      go_wp2_with (show wpList _ _ _ (Oper.mk _ (Op.call (Call.mk (Callee.builtin Builtin.copy) _ _)) _ _ _ _ :: _) _ _; refine wpList_copy_splice rfl (.tmp 39) (.tmp 44) 25 25 rfl 3 Tryd.underlying25 (by kernel_rfl) (some ⟨w1.heap.size, 0, none⟩) ma (c.ms.length + 1) (c.ms.length + 1) c.ms.length mc rfl rfl w1.heap.size 0 cur 3 (unhide HCB) X1 (unhide HXM) (fun hp => ⟨rfl, unhide HPO (fun e => by rw [e] at hp; simp at hp)⟩) (by rw [unhide HXL, unhide HCL]; omega) (unhide HONE) w1.heap.size w1 (unhide HBA) (Nat.le_refl _) ?_)
      intro w2 hg2 hb2
      have hrow : w2.rowIs w1.heap.size 3 (c.ms.length + 1) (preV c.ms) := by
        have hh := unhide hg2
        rw [← unhide HX1] at hh
        exact pre_row (unhide HCA) (unhide HCL) hh
      have hbr2 := (unhide HB1).trans (hb2.mono hs1)
      obtain ⟨hu3, hum3⟩ := unhide HU w2 hbr2
      have k1 := hrow.cell (i := c.ms.length) (by omega)
      have k2 := hrow.frozen c.ms.length
      rw [preV, if_neg (by omega)] at k1
      have hmr := mark_row hrow
      have HMR := hide hmr
      have HB3 := hide (hb2.setCell (p := ⟨w1.heap.size, c.ms.length, none⟩) (Nat.le_refl _) (.int .i64 (-9)))
      have hml0 : (0 : Int) ≤ (c.ms.length : Int) := by omega
      have hml1 : (c.ms.length : Int) < (c.ms.length : Int) + 1 := by omega
      obtain ⟨hu4, hum4⟩ := unhide HU _ ((unhide HB1).trans ((unhide HB3).mono hs1))
      clear hg2 hrow hbr2 hb2 hmr HCB HCA HCL HPO HONE HXM HXL HX1 HBA hmk hu1 hum1 hu2 hum2
      have hcp1 : c.ms.length ≤ c.ms.length + 1 := by omega
      go_wp2_with fail
      generalize w2.setCell ⟨w1.heap.size, c.ms.length, none⟩ (Value.int IntKind.i64 (-9)) = w3 at *
      have hbr3 := (unhide HB1).trans ((unhide HB3).mono hs1)
      have HBR3 := hide hbr3
      have hs3 := (unhide HB3).size
      have HLE3 := hide ((unhide HLE).below (unhide HB3))
      have hsol := sol_own h (.slice (some ⟨w1.heap.size, 0, none⟩) c.ms.length (c.ms.length + 1)) c.Ls c.ms w3 ((unhide HLE3).slL (unhide HSL)) (mark_sl (unhide HMR)) (by have := (unhide HCO).len; omega) (by omega) (unhide HCO).byte (fun j hj => by have := (unhide HCO).lens j hj; omega) ((unhide HT1).below (by omega) (unhide HB3))
      have HSO := hide hsol
      clear hsol hbr3 k1 k2 hu3 hum3
      refine (unhide HSO).mono ?_
      rintro e w4 ⟨hb4, hres⟩
      have hs4 := hb4.size
      have hbr4 := (unhide HBR3).trans (hb4.mono (unhide HBR3).size)
      obtain ⟨hu5, hum5⟩ := unhide HU w4 hbr4
      have HBR4 := hide hbr4
      have HB4 := hide hb4
      have HRE := hide hres
      have href : ∀ w', Below wr.heap.size wr w' → _ := fun w' h' => ref_sol_any u (.slice ma c.ms.length mc) c.Ls c.ms w' ((unhide HSL).below h').slL ((unhide HSM).below h') (by have := (unhide HCO).len; omega) (by omega) (unhide HMC) (unhide HCO).byte
      have HRF := hide href
      have HBD4 := hide hbr4.drew
      clear href hbr4 hb4 HSO hu4 hum4
      have hnot : ∀ k, w1.heap.size ≤ k → ¬ (c.zn = false ∧ ∃ i, i < c.Ls.length ∧ c.z i = false ∧ k = Gf i) := fun k hk ⟨hz, hX⟩ => by have := (unhide HGF k hX hz).2; omega
      have hnot' : ∀ k, k < wr.heap.size → ¬ (c.zn = false ∧ ∃ i, i < c.Ls.length ∧ c.z i = false ∧ k = Gf i) := fun k hk ⟨hz, hX⟩ => by have := (unhide HGF k hX hz).1; omega
      have HNX := hide hnot
      have HNX' := hide hnot'
      clear hnot hnot'
      have huni : ∃ (N : Nat) (L : Nat → List Nat) (ec : Int) (v' : Value) (G C : Nat → Nat), N ≤ 8 ∧ (N = 0 → v' = .slice none 0 0) ∧ e = .returned (.tuple #[v', .int .i64 ec]) ∧ ListR w4 w3.heap.size v' N G C L ∧ (∀ i, i < N → w3.heap.size ≤ G i) ∧ (∀ i j, i < N → j < N → i ≠ j → G i ≠ G j) ∧ (∀ i, i < N → w4.ownsRow w3.heap.size 5 1 (inner G C i) 16 ((L i).map B)) ∧
          ∀ w', Below wr.heap.size wr w' → Calls Tryd.prog 14 #[u, .slice ma c.ms.length mc] w' fun e w'' => ∃ v2 G2 C2, e = .returned (.tuple #[v2, .int .i64 ec]) ∧ (N = 0 → v2 = .slice none 0 0) ∧ ListR w'' w'.heap.size v2 N G2 C2 L ∧ (∀ i, i < N → w'.heap.size ≤ G2 i) ∧ Below w'.heap.size w' w'' := by
        rcases hres with ⟨hno, rfl⟩ | ⟨hyes, hm2, rfl⟩ | ⟨hyes, hm2, v', G, C, rfl, hlr, hGe, hGi, hGo⟩
        · refine ⟨0, fun _ => [], 1, .slice none 0 0, fun _ => 0, fun _ => 0, by omega, fun _ => rfl, rfl, ListR.nil _ _ _ _ _, by intro i hi; omega, by intro i j hi; omega, by intro i hi; omega, fun w' h' => (unhide HRF w' h').mono ?_⟩
          rintro e w'' ⟨hb, ⟨_, he⟩ | ⟨hn, _⟩ | ⟨hn, _⟩⟩
          · exact ⟨_, fun _ => 0, fun _ => 0, he, fun _ => rfl, ListR.nil _ _ _ _ _, by intro i hi; omega, hb⟩
          · exact absurd hn hno
          · exact absurd hn hno
        · refine ⟨0, fun _ => [], 5, .slice none 0 0, fun _ => 0, fun _ => 0, by omega, fun _ => rfl, rfl, ListR.nil _ _ _ _ _, by intro i hi; omega, by intro i j hi; omega, by intro i hi; omega, fun w' h' => (unhide HRF w' h').mono ?_⟩
          rintro e w'' ⟨hb, ⟨hn, _⟩ | ⟨_, _, he⟩ | ⟨_, hn, _⟩⟩
          · exact absurd hyes hn
          · exact ⟨_, fun _ => 0, fun _ => 0, he, fun _ => rfl, ListR.nil _ _ _ _ _, by intro i hi; omega, hb⟩
          · omega
        · refine ⟨c.Ls.length, _, 0, v', G, C, hyes.2.1, fun h0 => absurd hyes.1 (by omega), rfl, hlr, hGe, hGi, hGo, fun w' h' => (unhide HRF w' h').mono ?_⟩
          rintro e w'' ⟨hb, ⟨hn, _⟩ | ⟨_, hn, _⟩ | ⟨_, _, v2, G2, C2, he, hl2, hG2⟩⟩
          · exact absurd hyes hn
          · omega
          · exact ⟨v2, G2, C2, he, fun h0 => absurd hyes.1 (by omega), hl2, hG2, hb⟩
      obtain ⟨N, L, ec, v', G, C, hN8, hz1, rfl, hlr, hGe, hGi, hGo, hrf3⟩ := huni
      have HR3 := hide hrf3
      have HZ1 := hide hz1
      have HLR := hide hlr
      have HGE := hide hGe
      have HGI := hide hGi
      have HGO := hide hGo
      clear hrf3 hlr hGe hGi hGo HRF hres HRE hz1
      go_wp2_with fail
      go_cut [9, 10] (fun s9 s10 wx => ∃ (G2 C2 : Nat → Nat), s10 = .int .i64 ec ∧ (N = 0 → s9 = .slice none 0 0) ∧ ListR wx w4.heap.size s9 N G2 C2 L ∧ (∀ i, i < N → w4.heap.size ≤ G2 i) ∧ Below w4.heap.size w4 wx)
      case first =>
        go_region_with (go_at_call 14; refine (unhide HR3 _ (unhide HBD4)).mono ?_; rintro e w5 ⟨v2, G2, C2, rfl, hz2, hl2, hG2, hb5⟩; have HZ2 := hide hz2; have HL2 := hide hl2; have HG2 := hide hG2; have HB45 := hide ((Below.refl w4.heap.size w4).drew.trans hb5); clear hl2 hG2 hb5 hz2)
        all_goals
          go_wp2_with fail
          go_meet
          case rel => exact ⟨G2, C2, rfl, unhide HZ2, unhide HL2, unhide HG2, unhide HB45⟩
      case rest =>
        obtain ⟨G2, C2, rfl, hz2, hl2, hG2, hb45⟩ := hcut
        have HZ2 := hide hz2
        clear hz2
        have hbr5 := (unhide HBR4).trans (hb45.mono (unhide HBR4).size)
        obtain ⟨hu6, hum6⟩ := unhide HU wc hbr5
        have hs5 := hb45.size
        have HBR5 := hide hbr5
        have HL2 := hide hl2
        have HG2 := hide hG2
        have HLE5 := hide (((unhide HLE3).below (unhide HB4)).below hb45)
        have HLR5 := hide ((unhide HLR).below hb45)
        have HGO5 : Hid (∀ i, i < N → wc.ownsRow w3.heap.size 5 1 (inner G C i) 16 ((L i).map B)) := fun i hi => ownsRow_keep (unhide HGO i hi) hb45
        have HMR5 := hide (rowIs_below (rowIs_below (unhide HMR) (unhide HB4) (unhide HMR).lt) hb45 (rowIs_below (unhide HMR) (unhide HB4) (unhide HMR).lt).lt)
        clear hb45 hbr5 hl2 hG2 HR3 HLR HGO hu5 hum5
        go_wp2_with fail
        refine (back_any h u c Gf wr wc wr.heap.size (unhide HCO) (unhide HLE5) (unhide HSL) (Nat.le_refl _) (unhide HBR5)).mono ?_
        rintro e w6 ⟨rfl, hch⟩
        have hbr6 : Below wr.heap.size wr w6 := (unhide HBR5).trans (hch.below wr.heap.size (unhide HBR5).size (unhide HNX'))
        obtain ⟨hu7, hum7⟩ := unhide HU w6 hbr6
        have hs6 := hch.size
        have hl6 := (unhide HLR5).chg hch (fun g hg => unhide HNX g (by have := ((unhide HLR5).own.lt g hg).1; omega)) (fun i hi => unhide HNX (G i) (by have := unhide HGE i hi; omega))
        have hl7 := (unhide HL2).chg hch (fun g hg => unhide HNX g (by have := ((unhide HL2).own.lt g hg).1; omega)) (fun i hi => unhide HNX (G2 i) (by have := unhide HG2 i hi; omega))
        have hmr6 := rowIs_chg (unhide HMR5) hch (unhide HNX _ (Nat.le_refl _))
        have HGO6 : Hid (∀ i, i < N → w6.ownsRow w3.heap.size 5 1 (inner G C i) 16 ((L i).map B)) := fun i hi => ownsRow_chg (unhide HGO5 i hi) hch (fun g hg => (by
          obtain rfl : G i = g := by simpa [inner, Value.ownBlock] using hg
          exact unhide HNX (G i) (by have := unhide HGE i hi; omega)))
        have hsame : Calls Tryd.prog 15 #[v', u9] w6 fun e w' => e = .returned (.bool true) ∧ Below w6.heap.size w6 w' := by
          rcases Nat.eq_zero_or_pos N with h0 | h0
          · rw [unhide HZ1 h0, unhide HZ2 h0]
            exact law_same_nil w6
          · exact law_same_any v' u9 _ w6 (hl6.slL h0) (hl7.slL h0) (cols_range hl6.col) (by simp; omega) (by simp; omega)
        have HSA := hide hsame
        have HL6 := hide hl6
        have HM6 := hide hmr6
        have HBR6 := hide hbr6
        clear hsame hl6 hl7 hmr6 hbr6 hch hu6 hum6 HL2 HLR5 HGO5 HMR5 HLE5 HBR5
        go_wp2_with fail
        refine (unhide HSA).mono ?_
        rintro e w7 ⟨rfl, hb7⟩
        have hbr7 := (unhide HBR6).trans (hb7.mono (unhide HBR6).size)
        obtain ⟨hu8, hum8⟩ := unhide HU w7 hbr7
        have hmr7 := rowIs_below (unhide HM6) hb7 (unhide HM6).lt
        have k1 := hmr7.cell (i := c.ms.length) (by omega)
        rw [markV, if_neg (by omega)] at k1
        have HL7 := hide ((unhide HL6).below hb7)
        have HM7 := hide hmr7
        have HBR7 := hide hbr7
        have HGO7 : Hid (∀ i, i < N → w7.ownsRow w3.heap.size 5 1 (inner G C i) 16 ((L i).map B)) := fun i hi => ownsRow_keep (unhide HGO6 i hi) hb7
        have hs7 := hb7.size
        clear hb7 hbr7 hmr7 HL6 HM6 HGO6 HBR6 HSA hu7 hum7
        go_wp2_with fail
        obtain ⟨wo, hwo⟩ : ∃ wo, wo = wr := ⟨wr, rfl⟩
        subst hwo
        clear hu8 hum8 k1
        go_loopw [13] (fun kv wq => ∃ k : Nat, k ≤ c.ms.length ∧ kv = .int .i64 (k : Int) ∧ Below w7.heap.size w7 wq) (fun k _ => c.ms.length - (intOf k).toNat)
        case atStart => exact ⟨0, Nat.zero_le _, rfl, Below.refl _ _⟩
        case round =>
          obtain ⟨k, hk, rfl, hbq⟩ := hrel
          have hbrq := (unhide HBR7).trans (hbq.mono (unhide HBR7).size)
          obtain ⟨hu9, hum9⟩ := unhide HU wr hbrq
          have HBQ := hide hbq
          rcases Nat.lt_or_ge k c.ms.length with hkl | hkg
          · have hmr := rowIs_below (unhide HM7) hbq (unhide HM7).lt
            have k1 := hmr.cell (i := k) (by omega)
            rw [markV, if_pos hkl] at k1
            obtain ⟨a2, c2, h2, hd2⟩ := (unhide HSM).below hbrq
            simp only [Value.slice.injEq] at h2
            obtain ⟨rfl, _, rfl⟩ := h2
            rcases hd2 with h0 | ⟨b2, o2, rfl, hr2⟩
            · rw [h0] at hkl; simp at hkl
            have k2 := hr2 k _ (int_at c.ms k hkl)
            have hk0 : (0 : Int) ≤ (k : Int) := by omega
            have hk1 : (k : Int) < (c.ms.length : Int) := by omega
            have hk2 : (k : Int) < (c.ms.length : Int) + 1 := by omega
            clear hbq hbrq hmr hr2
            have HBRQ := hide (unhide HBQ)
            go_wp2
            go_quiet (fail)
            have HBQ2 := hide ((unhide HBQ).trans ((below_drewN (Below.refl wr.heap.size wr) nq).mono (unhide HBQ).size))
            generalize wr.drewN nq = wf at *
            clear k1 k2 hu9 hum9 HBRQ
            go_wp2
            go_roundw
            case rel => exact ⟨k + 1, by omega, by go_num, unhide HBQ2⟩
            case measure => simp [intOf]; omega
          · obtain rfl : k = c.ms.length := by omega
            have HBRQ := hide hbrq
            have HLQ := hide ((unhide HL7).below hbq)
            have HGOQ : Hid (∀ i, i < N → wr.ownsRow w3.heap.size 5 1 (inner G C i) 16 ((L i).map B)) := fun i hi => ownsRow_keep (unhide HGO7 i hi) hbq
            have HBKQ := hide ((unhide HBK).below hbrq)
            clear hbq hbrq HL7 HGO7 HM7
            obtain ⟨av, cv, hve⟩ : ∃ av cv, v' = .slice av N cv := by
              rcases (unhide HLQ).own.2 with ⟨h, h0⟩ | ⟨g, cap, cur, h, _⟩
              · exact ⟨none, 0, by rw [h, h0]⟩
              · exact ⟨_, _, h⟩
            subst hve
            go_wp2
            obtain ⟨wp, hwp⟩ : ∃ wp, wp = wr := ⟨wr, rfl⟩
            subst hwp
            go_loopw [14] (fun kv wq => ∃ (k : Nat) (bs' ks' : Value) (U' : Nat → Value) (Ln' : Nat → Nat), k ≤ N ∧ kv = .int .i64 (k : Int) ∧ Book wq wq.heap.size w.heap.size w.heap.size (n + k) bs' ks' U' Ln' ∧ Below w.heap.size w wq ∧ (∀ j, k ≤ j → j < N → wq.ownsRow w.heap.size 5 1 (inner G C j) 16 ((L j).map B) ∧ Free w.heap.size (n + k) bs' ks' U' (G j)) ∧ wq.ownsRow w3.heap.size 31 1 (.slice av N cv) N (inners G C N) ∧ (∀ g, (Value.slice av N cv).ownBlock = some g → Free w.heap.size (n + k) bs' ks' U' g)) (fun k _ => N - (intOf k).toNat)
            case atStart =>
              exact ⟨0, bs, ks, U, Ln, Nat.zero_le _, rfl, (unhide HBKQ).mono (unhide HBRQ).size, (unhide HB).trans ((unhide HBRQ).mono hswr), fun j _ hj => ⟨ownsRow_base_le (unhide HGOQ j hj) (by omega), (unhide HBKQ).free (G j) (by have := unhide HGE j hj; omega)⟩, (unhide HLQ).own, fun g hg => (unhide HBKQ).free g (by have := ((unhide HLQ).own.lt g hg).1; omega)⟩
            case round =>
              obtain ⟨k, bs', ks', U', Ln', hk, rfl, hbk, hbq, hall, hlo, hlf⟩ := hrel
              have HBKK := hide hbk
              have HBQQ := hide hbq
              have HALL := hide hall
              have HLO := hide hlo
              have HLF := hide hlf
              clear hbk hall hlf HBKQ
              rcases Nat.lt_or_ge k N with hkl | hkg
              · obtain ⟨g, cv', hge, _, _⟩ := hlo.form (by omega)
                simp only [Value.slice.injEq] at hge
                obtain ⟨rfl, _, rfl⟩ := hge
                have k1 : wr.cell? ⟨g, k, none⟩ = some (.slice (some ⟨G k, 0, none⟩) 16 (C k)) := by rw [hlo.cellAt k (by omega), inners_at _ _ _ _ hkl]; rfl
                have hk0 : (0 : Int) ≤ (k : Int) := by omega
                have hk1 : (k : Int) < (N : Int) := by omega
                have hLk := ((unhide HLQ).col k hkl).len
                have hgn := (unhide HLQ).ne
                have HGN := hide hgn
                have hown := (unhide HALL k (Nat.le_refl _) hkl).1
                have hfk := (unhide HALL k (Nat.le_refl _) hkl).2
                have hoa := own_any wr.heap.size w.heap.size w.heap.size (n + k) bs' ks' U' Ln' (.slice (some ⟨G k, 0, none⟩) 16 (C k)) (L k) wr (unhide HBKK) (Nat.le_refl _) (by rw [hLk]; exact hown) (by rw [hLk]; omega) (fun g' hg' => (by
                  obtain rfl : G k = g' := by simpa [Value.ownBlock] using hg'
                  exact hfk)) (by omega)
                have HOA := hide hoa
                clear hlo hbq hoa hown hfk hLk hgn
                go_wp2_with fail
                refine (unhide HOA).mono ?_
                rintro e w8 ⟨bs2, ks2, U2, Ln2, rfl, hbk2, hb2, hfr2⟩
                have hgg : g ≠ G k := fun e => unhide HGN k hkl (by rw [e]; rfl)
                have HALL2 : Hid (∀ j, k + 1 ≤ j → j < N → w8.ownsRow w.heap.size 5 1 (inner G C j) 16 ((L j).map B) ∧ Free w.heap.size (n + (k + 1)) bs2 ks2 U2 (G j)) := fun j hj1 hj2 => by
                  obtain ⟨o1, o2⟩ := unhide HALL j (by omega) hj2
                  obtain ⟨f1, f2⟩ := hfr2 (G j) (o1.lt (G j) rfl).2 o2 (fun e => by
                    have e' : G k = G j := by simpa [Value.ownBlock] using e
                    exact unhide HGI k j hkl hj2 (by omega) e')
                  exact ⟨ownsRow_block o1 (fun g' hg' => (by
                    obtain rfl : G j = g' := by simpa [inner, Value.ownBlock] using hg'
                    exact f2)), f1⟩
                obtain ⟨f1, f2⟩ := hfr2 g ((unhide HLO).lt g rfl).2 (unhide HLF g rfl) (fun e => by
                  have e' : G k = g := by simpa [Value.ownBlock] using e
                  exact hgg e'.symm)
                have HLO2 := hide (ownsRow_block (unhide HLO) (fun g' hg' => (by
                  obtain rfl : g = g' := by simpa [Value.ownBlock] using hg'
                  exact f2)))
                have HLF2 : Hid (∀ g', (Value.slice (some ⟨g, 0, none⟩) N cv).ownBlock = some g' → Free w.heap.size (n + (k + 1)) bs2 ks2 U2 g') := fun g' hg' => by
                  obtain rfl : g = g' := by simpa [Value.ownBlock] using hg'
                  exact f1
                have HBK2 : Hid (Book w8 w8.heap.size w.heap.size w.heap.size (n + (k + 1)) bs2 ks2 U2 Ln2) := hbk2
                have HB8 := hide ((unhide HBQQ).trans hb2)
                clear hbk2 hb2 hfr2 f1 f2 k1 HOA
                go_wp2
                go_roundw
                case rel => exact ⟨k + 1, bs2, ks2, U2, Ln2, by omega, by go_num, unhide HBK2, unhide HB8, unhide HALL2, unhide HLO2, unhide HLF2⟩
                case measure => simp [intOf]; omega
              · have hNk : N = k := by omega
                subst hNk
                have hth : N = 0 ∨ ∃ g, av = some ⟨g, 0, none⟩ ∧ wr.there g 0 N ∧ w.heap.size ≤ g ∧ Free w.heap.size (n + N) bs' ks' U' g := by
                  rcases Nat.eq_zero_or_pos N with h0 | h0
                  · exact Or.inl h0
                  · obtain ⟨g, cv', hge, _, _⟩ := hlo.form (by omega)
                    simp only [Value.slice.injEq] at hge
                    obtain ⟨rfl, _, rfl⟩ := hge
                    refine Or.inr ⟨g, rfl, fun j hj => ?_, by have := (hlo.lt g rfl).1; omega, unhide HLF g rfl⟩
                    rw [Nat.zero_add, hlo.cellAt j (by omega), hlo.frozenAt j, inners_at _ _ _ _ hj]
                    exact ⟨rfl, rfl⟩
                have HTH := hide hth
                clear hlo hbq hth HALL HLO HLF
                go_wp2
                obtain ⟨wz, hwz⟩ : ∃ wz, wz = wr := ⟨wr, rfl⟩
                subst hwz
                go_loopw [15] (fun kv wq => ∃ (k : Nat), k ≤ N ∧ kv = .int .i64 (k : Int) ∧ Book wq wq.heap.size w.heap.size w.heap.size (n + N) bs' ks' U' Ln' ∧ Below w.heap.size w wq ∧ (N = 0 ∨ ∃ g, av = some ⟨g, 0, none⟩ ∧ wq.there g 0 N ∧ w.heap.size ≤ g ∧ Free w.heap.size (n + N) bs' ks' U' g)) (fun k _ => N - (intOf k).toNat)
                case atStart => exact ⟨0, Nat.zero_le _, rfl, unhide HBKK, unhide HBQQ, unhide HTH⟩
                case round =>
                  obtain ⟨k, hk, rfl, hbk, hbq, hth⟩ := hrel
                  have HBKZ := hide hbk
                  have HBQZ := hide hbq
                  clear hbk HBKK HBQQ HTH
                  rcases Nat.lt_or_ge k N with hkl | hkg
                  · rcases hth with h0 | ⟨g, rfl, hth, hgw, hfr⟩
                    · omega
                    have hk0 : (0 : Int) ≤ (k : Int) := by omega
                    have hk1 : (k : Int) < (N : Int) := by omega
                    obtain ⟨t1, t2⟩ := hth k hkl
                    rw [Nat.zero_add] at t1 t2
                    obtain ⟨x, t3⟩ := Option.isSome_iff_exists.1 t1
                    have HBK9 : Hid (Book (wr.setCell ⟨g, k, none⟩ (.slice none 0 0)) (wr.setCell ⟨g, k, none⟩ (.slice none 0 0)).heap.size w.heap.size w.heap.size (n + N) bs' ks' U' Ln') := by
                      have := (unhide HBKZ).other ⟨g, k, none⟩ (.slice none 0 0) hfr
                      rw [World.size_setCell]
                      exact this
                    have HBQ9 := hide (hbq.setCell (p := ⟨g, k, none⟩) hgw (.slice none 0 0))
                    have HTH9 : Hid ((wr.setCell ⟨g, k, none⟩ (.slice none 0 0)).there g 0 N) := there_set hth k _
                    have HFR := hide hfr
                    clear hth hbq hfr t1
                    go_wp2
                    go_roundw
                    case rel => exact ⟨k + 1, by omega, by go_num, unhide HBK9, unhide HBQ9, Or.inr ⟨g, rfl, unhide HTH9, hgw, unhide HFR⟩⟩
                    case measure => simp [intOf]; omega
                  · obtain rfl : k = N := by omega
                    clear hth hbq
                    go_wp2_with fail
                    refine (kept_any wr.heap.size w.heap.size w.heap.size (n + k) bs' ks' U' Ln' wr (unhide HBKZ) (Nat.le_refl _) (by omega)).mono ?_
                    rintro e wk ⟨rfl, hbk⟩
                    have HBKW : Hid (Book wk wk.heap.size w.heap.size w.heap.size (n + k) bs' ks' U' Ln') := ((unhide HBKZ).below hbk).mono hbk.size
                    have HBW := hide ((unhide HBQZ).trans (hbk.mono (unhide HBQZ).size))
                    clear hbk
                    go_wp2
                    go_roundw
                    case rel => exact ⟨i + 1, n + k, bs', ks', U', Ln', by omega, by omega, by go_num, unhide HBKW, unhide HBW⟩
                    case measure => simp [intOf]; omega
    · obtain rfl : i = cs.length := by omega
      clear hbw
      go_wp2
      go_ret
      exact ⟨rfl, unhide HB⟩

end Go.Proofs.YtdcinlkkjbclmaaDoor
