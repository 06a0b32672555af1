/- A rig is made, with a new volume. -/
import Derived.Test.YtdcinlkkjbclmabGreatRFresh
namespace Go.Proofs.YtdcinlkkjbclmabGreat
open Go.RowKit

theorem Tryz.infoLL : (Tryz.prog.info? 25).map (fun i => (i.zero, i.size, i.bytes)) = some (some (.slice none 0 0), 1, 24) := by kernel_rfl
theorem Tryz.infoT : (Tryz.prog.info? 4).map (fun i => (i.zero, i.size, i.bytes)) = some (some (.bool false), 1, 1) := by kernel_rfl
theorem Dsk.keep {X : Nat → Prop} {w w' : World} {O : List Nat} {n : Nat} {v : Value} (h : Dsk w O n v) (hc : Chg X w w') (hX : ∀ b cs t, Blk w b cs t → (t = 5 ∨ t = 35) → ¬ X b) : Dsk w' O n v := by
  obtain ⟨b, c, bs, rfl, h1, h2, h4, h3⟩ := h
  exact ⟨b, c, bs, rfl, h1, h2.chg hc (hX b _ _ h2 (Or.inr rfl)), h4, fun i u hi hu => (h3 i u hi hu).keep hc (fun b cs hb => hX b cs _ hb (Or.inl rfl))⟩
theorem dsk_of {w : World} {base B n : Nat} {v : Value} {xs : List Value} (h : w.ownsRow base 35 1 v n xs) (hn : 0 < n) (hB : B ≤ base) (hs : ∀ u ∈ xs, Sec w (Pl [] base) u) : Dsk w (Pl [] B) n v := by
  rcases h.2 with ⟨_, q⟩ | ⟨g, cap, cur, e, hg, hh, _, _, hcs, htk⟩
  · omega
  · refine ⟨g, cap, cur, e, not_pl (by omega), hh, ?_, fun i u hi hu => ?_⟩
    · have h1 := h.1
      have := congrArg List.length htk
      rw [List.length_take] at this
      simp at this h1
      omega
    · refine (hs u ?_).mono (fun b hb hb' => hb (mem_pl.2 (Or.inr ?_)))
      · rw [← htk]
        have : (cur.toList.take (n * 1))[i]? = some u := by rw [List.getElem?_take, if_pos (by omega), Array.getElem?_toList]; exact hu
        exact List.mem_of_getElem? this
      · rcases mem_pl.1 hb' with q | q
        · simp at q
        · omega
theorem dsks_of {w : World} {base B D n : Nat} {v : Value} {xs : List Value} (h : w.ownsRow base 25 1 v D xs) (hn : 0 < D) (hB : B ≤ base) (hs : ∀ u ∈ xs, Dsk w (Pl [] B) n u) : Dsks w (Pl [] B) D n v := by
  rcases h.2 with ⟨_, q⟩ | ⟨g, cap, cur, e, hg, hh, _, _, hcs, htk⟩
  · omega
  · refine ⟨g, cap, cur, e, not_pl (by omega), hh, ?_, fun i u hi hu => ?_⟩
    · have h1 := h.1
      have := congrArg List.length htk
      rw [List.length_take] at this
      simp at this h1
      omega
    · refine hs u ?_
      rw [← htk]
      have : (cur.toList.take (D * 1))[i]? = some u := by rw [List.getElem?_take, if_pos (by omega), Array.getElem?_toList]; exact hu
      exact List.mem_of_getElem? this
theorem gone_of {w : World} {base B D : Nat} {v : Value} (h : w.ownsRow base 4 1 v D (List.replicate D (.bool false))) (hn : 0 < D) (hB : B ≤ base) : Gone w (Pl [] B) D (fun _ => false) v := by
  rcases h.2 with ⟨_, q⟩ | ⟨g, cap, cur, e, hg, hh, _, _, hcs, htk⟩
  · omega
  · refine ⟨g, cap, cur, e, not_pl (by omega), hh, fun i hi => ?_⟩
    have e1 : (cur.toList.take (D * 1))[i]? = (List.replicate D (Value.bool false))[i]? := by rw [htk]
    rw [List.getElem?_take, if_pos (by omega), Array.getElem?_toList, List.getElem?_replicate, if_pos hi] at e1
    exact e1
theorem opened_below {w w1 w2 : World} {d s : Nat} {fr : Bool} {vb tb hb : Nat} {A : VA} {O : List Nat} {nx : Value} {o : Obj} (h : Opened w.drew w1 d s fr vb tb hb A O nx) (e : w2 = w1.alloc o) : Below w.heap.size w w2 := by
  subst e
  exact ((Below.refl w.heap.size w).drew.trans h.new).alloc h.new.size _
/-- a rig in the making: k disks -/
structure Making (W0 w : World) (D S : Nat) (k : Nat) (ss gs : Value) (xs : List Value) : Prop where
  blk : Blk w W0.heap.size #[.int .i64 (D : Int), .int .i64 (S : Int), .pointer none, ss, gs, .int .i64 0] 32
  row : w.ownsRow (W0.heap.size + 1) 25 1 ss k xs
  dsk : ∀ u ∈ xs, Dsk w (Pl [] W0.heap.size) (17 + 2 * S) u
  gon : w.ownsRow (W0.heap.size + 1) 4 1 gs k (List.replicate k (.bool false))
  bel : Below W0.heap.size W0 w

theorem waits_of {W wr w1 w2 : World} {D S vb tb hb pb : Nat} {ss gs : Value} {xs : List Value} {A : VA} {O : List Nat} {nx : Value} (hm : Making W wr D S D ss gs xs) (hop : Opened wr.drew w1 D S true vb tb hb A O nx) (hw2 : w2 = w1.alloc (.cells #[.pointer (some ⟨vb, 0, none⟩)] 61)) (hpb : pb = w1.heap.size) (hD4 : 4 ≤ D) (hD8 : D ≤ 8) (hS1 : 1 ≤ S) (hS6 : S ≤ 6) :
    Waits W W.heap.size D S pb vb tb hb 0 0 (nxLabels tb) 2 (w2.setCell ⟨W.heap.size, 2, none⟩ (.pointer (some ⟨pb, 0, none⟩))) := by
  have hsz := hm.blk.lt
  have hs1 : wr.heap.size ≤ w1.heap.size := hop.new.size
  have hlt := hop.vol.lt
  have hwr2 : Below wr.heap.size wr w2 := opened_below hop hw2
  have hb12 : Below w1.heap.size w1 w2 := by rw [hw2]; exact (Below.refl _ _).alloc (Nat.le_refl _) _
  have hpk : Blk w2 pb #[.pointer (some ⟨vb, 0, none⟩)] 61 := by rw [hw2, hpb]; exact Blk.new w1 _ _
  have hO : ∀ b ∈ O, wr.heap.size ≤ b := hop.own
  have ht0 : wr.heap.size ≤ tb := hop.tnew
  have hh0 : wr.heap.size ≤ hb := hop.hnew
  have hcs : Chg (fun b => b = W.heap.size) w2 (w2.setCell ⟨W.heap.size, 2, none⟩ (.pointer (some ⟨pb, 0, none⟩))) := Chg.setCell (X := fun b => b = W.heap.size) (Chg.refl _ w2) ⟨W.heap.size, 2, none⟩ _ (Or.inl rfl)
  have hc3 : Chg (fun b => b = W.heap.size) wr (w2.setCell ⟨W.heap.size, 2, none⟩ (.pointer (some ⟨pb, 0, none⟩))) := (Chg.of_new hwr2).trans hcs (fun k hk => Or.inl hk)
  have hX : ∀ b cs t, Blk wr b cs t → diskT t → b ∉ Pl [] W.heap.size → ¬ (b = W.heap.size) := fun b cs t hb' ht' _ e => by
    subst e
    have := (Blk.same hb' hm.blk).2
    subst this
    revert ht'; unfold diskT; decide
  have hOO : ∀ b, b < wr.heap.size → b ∉ Pl [] W.heap.size → b ∉ Pl O W.heap.size := fun b hb' hn hp => by
    rcases mem_pl.1 hp with q | q
    · have := hO b q; omega
    · exact hn (mem_pl.2 (Or.inr q))
  rcases hop.first with ⟨_, hnx, L, hL1, hL2, hA⟩ | ⟨e, _⟩
  · subst hA
    have hLl : L.length = D := by have := congrArg List.length hL1; simpa using this
    refine ⟨O, 0, L.map (fun p => (⟨0, 2, (p.1 : Int), 0, p.2⟩ : Cmd)), Nat.le_refl _, by rw [List.length_map]; exact hLl, ⟨fun b hb' => by have := hO b hb'; omega, by omega, by omega, ?_⟩, ⟨⟨hD4, hD8⟩, ⟨hS1, hS6⟩, ⟨ss, gs, 0, Nat.le_refl _, ?_, (dsks_of hm.row (by omega) (Nat.le_succ _) hm.dsk).chg hc3 hX hOO, (gone_of hm.gon (by omega) (Nat.le_succ _)).chg hc3 hX hOO⟩, ?_, ?_, ?_⟩, ?_, ?_, hop.tno, hop.hno, fun x hx => ?_⟩
    · exact Below.on (hm.bel.trans (hwr2.mono (Nat.le_of_lt hsz))) (by have := hwr2.size; omega) hcs (fun b hb' => by omega)
    · have h1 := (hm.blk.below hwr2 hsz).set 2 (.pointer (some ⟨pb, 0, none⟩))
      exact h1
    · intro h
      rcases mem_pl.1 h with q | q
      · have := hO _ q; omega
      · omega
    · intro h
      rcases mem_pl.1 h with q | q
      · have := hlt _ q; omega
      · omega
    · exact hpk.chg hcs (by omega)
    · exact (hop.vol.new hb12).chg hcs (fun b hb' e => by have := hO b hb'; omega)
    · rw [hnx] at *
      exact (hop.top.chg (X := fun _ => False) (Chg.of_new hb12) id id).chg hcs (by omega) (by omega)
    · obtain ⟨p, hp, rfl⟩ := List.mem_map.1 hx
      refine ⟨rfl, fun _ => hL2 p hp, ⟨p.1, ?_, rfl⟩, rfl⟩
      have : p.1 ∈ L.map (·.1) := List.mem_map_of_mem hp
      rw [hL1, List.mem_range] at this
      exact this
  · cases e

set_option maxRecDepth 100000 in
set_option maxHeartbeats 8000000 in
theorem begun_rig (d s : Int) (w : World) (hd1 : -9223372036854775808 ≤ d) (hd2 : d ≤ 9223372036854775807) (hs1 : -9223372036854775808 ≤ s) (hs2 : s ≤ 9223372036854775807) (D S : Nat) (hD : (D : Int) = 4 + pickAt d 5) (hS : (S : Int) = 1 + pickAt s 6) :
    Calls Tryz.prog 6 #[.int .i64 d, .int .i64 s] w fun e w' => ∃ pb vb tb, e = .returned (.pointer (some ⟨w.heap.size, 0, none⟩)) ∧ Stands w w.heap.size D S pb vb tb 16 w' := by
  obtain ⟨p1, p2⟩ := pickAt_bd d 5 (by omega)
  obtain ⟨p3, p4⟩ := pickAt_bd s 6 (by omega)
  have hD4 : 4 ≤ D := by omega
  have hD8 : D ≤ 8 := by omega
  have hS1 : 1 ≤ S := by omega
  have hS6 : S ≤ 6 := by omega
  have HD := hide hD
  have HS := hide hS
  obtain ⟨iL, hiL, hzL0, hzL1, hzL2⟩ := info_parts Tryz.infoLL
  obtain ⟨iT, hiT, hzT0, hzT1, hzT2⟩ := info_parts Tryz.infoT
  have HM0 : Hid (Making w (w.alloc (.cells #[.int .i64 (D : Int), .int .i64 (S : Int), .pointer none, .slice none 0 0, .slice none 0 0, .int .i64 0] 32)) D S 0 (.slice none 0 0) (.slice none 0 0) []) := ⟨Blk.new w _ _, World.ownsRow_nil _ _ _ _, by simp, World.ownsRow_nil _ _ _ _, (Below.refl _ _).alloc (Nat.le_refl _) _⟩
  clear hD hS
  go_enter Tryz.func6, Tryz.ntmps6
  go_wp2_with fail
  refine (pick_any d 5 _ (by omega) hd1 hd2 (by omega)).mono ?_
  rintro e wx ⟨rfl, hwx⟩
  obtain rfl := hwx
  go_wp2_with fail
  refine (pick_any s 6 _ (by omega) hs1 hs2 (by omega)).mono ?_
  rintro e wx ⟨rfl, hwx⟩
  obtain rfl := hwx
  obtain ⟨W, hW⟩ : ∃ W, W = wx := ⟨_, rfl⟩
  subst hW
  have i1 : 4 + pickAt d 5 ≤ 8 := by omega
  have i2 : 1 + pickAt s 6 ≤ 6 := by omega
  go_wp2
  rw [← unhide HD, ← unhide HS]
  go_loopw [6] (fun iv wr => ∃ (k : Nat) (ss gs : Value) (xs : List Value), k ≤ D ∧ iv = .int .i64 (k : Int) ∧ Making W wr D S k ss gs xs) (fun i _ => D - (intOf i).toNat)
  case atStart => exact ⟨0, _, _, [], Nat.zero_le _, rfl, unhide HM0⟩
  case round =>
    clear HM0
    obtain ⟨k, ss, gs, xs, hk, rfl, hm⟩ := hrel
    have g0 : wr.cell? ⟨W.heap.size, 0, none⟩ = some (.int .i64 (D : Int)) := hm.blk.cell 0
    have hsz := hm.blk.lt
    have HMK := hide hm
    clear hm
    rcases Nat.lt_or_ge k D with hlt | hge
    · have hk1 : (k : Int) < (D : Int) := by omega
      go_wp2_with fail
      have hS0 : (fun w' : World => w'.cell? ⟨W.heap.size, 3, none⟩ = some ss ∧ w'.cell? ⟨W.heap.size, 1, none⟩ = some (.int .i64 (S : Int))) wr.drew := ⟨(unhide HMK).blk.cell 3, (unhide HMK).blk.cell 1⟩
      clear g0
      refine wp_region_noPanic ?_
      refine orders_begin 14 (fun w' => w'.cell? ⟨W.heap.size, 3, none⟩ = some ss ∧ w'.cell? ⟨W.heap.size, 1, none⟩ = some (.int .i64 (S : Int))) (by kernel_rfl) ?_
      refine orders_take 0 (some 26) (v := .pointer (some ⟨W.heap.size, 0, none⟩)) rfl (by kernel_rfl) (by kernel_rfl) (by kernel_rfl) (by kernel_rfl) (fun _ _ _ h => h) (Or.inl ⟨by rfl, fun _ _ => rfl⟩) hS0 rfl ?_
      simp only [Act.put, List.setIfInBounds_toArray, List.set_cons_zero, List.set_cons_succ]
      refine orders_take 1 (some 27) (v := .pointer (some ⟨W.heap.size, 0, none⟩)) rfl (by kernel_rfl) (by kernel_rfl) (by kernel_rfl) (by kernel_rfl) (fun _ _ _ h => h) (Or.inl ⟨by rfl, fun _ _ => rfl⟩) hS0 rfl ?_
      simp only [Act.put, List.setIfInBounds_toArray, List.set_cons_zero, List.set_cons_succ]
      refine orders_take 2 (some 28) (v := .pointer (some ⟨W.heap.size, 0, none⟩)) rfl (by kernel_rfl) (by kernel_rfl) (by kernel_rfl) (by kernel_rfl) (fun _ _ _ h => h) (Or.inl ⟨by rfl, fun _ _ => by go_simp⟩) hS0 rfl ?_
      simp only [Act.put, List.setIfInBounds_toArray, List.set_cons_zero, List.set_cons_succ]
      refine orders_take 3 (some 29) (v := .pointer (some ⟨W.heap.size, 3, none⟩)) rfl (by kernel_rfl) (by kernel_rfl) (by kernel_rfl) (by kernel_rfl) (fun _ _ _ h => h) (Or.inl ⟨by rfl, fun _ _ => by go_simp⟩) hS0 rfl ?_
      simp only [Act.put, List.setIfInBounds_toArray, List.set_cons_zero, List.set_cons_succ]
      refine orders_take 4 (some 30) (v := ss) rfl (by kernel_rfl) (by kernel_rfl) (by kernel_rfl) (by kernel_rfl) (fun _ _ _ h => h) (Or.inl ⟨by rfl, fun w' hw => by have hcc := hw.1; go_simp⟩) hS0 rfl ?_
      simp only [Act.put, List.setIfInBounds_toArray, List.set_cons_zero, List.set_cons_succ]
      refine orders_take 5 (some 31) (v := .pointer (some ⟨W.heap.size, 0, none⟩)) rfl (by kernel_rfl) (by kernel_rfl) (by kernel_rfl) (by kernel_rfl) (fun _ _ _ h => h) (Or.inl ⟨by rfl, fun _ _ => rfl⟩) hS0 rfl ?_
      simp only [Act.put, List.setIfInBounds_toArray, List.set_cons_zero, List.set_cons_succ]
      refine orders_take 6 (some 32) (v := .pointer (some ⟨W.heap.size, 0, none⟩)) rfl (by kernel_rfl) (by kernel_rfl) (by kernel_rfl) (by kernel_rfl) (fun _ _ _ h => h) (Or.inl ⟨by rfl, fun _ _ => by go_simp⟩) hS0 rfl ?_
      simp only [Act.put, List.setIfInBounds_toArray, List.set_cons_zero, List.set_cons_succ]
      refine orders_take 7 (some 33) (v := .pointer (some ⟨W.heap.size, 1, none⟩)) rfl (by kernel_rfl) (by kernel_rfl) (by kernel_rfl) (by kernel_rfl) (fun _ _ _ h => h) (Or.inl ⟨by rfl, fun _ _ => by go_simp⟩) hS0 rfl ?_
      simp only [Act.put, List.setIfInBounds_toArray, List.set_cons_zero, List.set_cons_succ]
      refine orders_take 8 (some 34) (v := .int .i64 (S : Int)) rfl (by kernel_rfl) (by kernel_rfl) (by kernel_rfl) (by kernel_rfl) (fun _ _ _ h => h) (Or.inl ⟨by rfl, fun w' hw => by have hcc := hw.2; go_simp⟩) hS0 rfl ?_
      simp only [Act.put, List.setIfInBounds_toArray, List.set_cons_zero, List.set_cons_succ]
      refine orders_one 9 (by kernel_rfl) rfl (by rfl) (fun K hK => ?_)
      go_simp
      refine (blank_any S _ hS6).mono ?_
      rintro e w1 ⟨v, ys, rfl, hrw, hsec, hb1⟩
      have hb1' : Below wr.heap.size wr w1 := (Below.refl wr.heap.size wr).drew.trans hb1
      have hsz1 := hb1'.size
      have hS1 : (fun w' : World => w'.cell? ⟨W.heap.size, 3, none⟩ = some ss ∧ w'.cell? ⟨W.heap.size, 1, none⟩ = some (.int .i64 (S : Int))) w1 := ⟨(hb1'.cell (p := ⟨W.heap.size, 3, none⟩) hsz).trans hS0.1, (hb1'.cell (p := ⟨W.heap.size, 1, none⟩) hsz).trans hS0.2⟩
      refine hK.out _ _ (fun _ => hS1) ?_
      clear hK K
      have hdv : Dsk w1 (Pl [] W.heap.size) (17 + 2 * S) v := dsk_of hrw (by omega) (by show W.heap.size ≤ wr.heap.size; omega) hsec
      have hba : Below w1.heap.size w1 (w1.alloc (.cells #[v] 25)) := (Below.refl _ _).alloc (Nat.le_refl _) _
      have hb2 : Below wr.heap.size wr (w1.alloc (.cells #[v] 25)) := hb1'.alloc hsz1 _
      obtain ⟨va, vn, vc, hve⟩ : ∃ a n c, v = Value.slice a n c := by obtain ⟨b, c, _, e, _⟩ := hdv; exact ⟨_, _, _, e⟩
      have hS2 : (fun w' : World => w'.cell? ⟨W.heap.size, 3, none⟩ = some ss ∧ w'.cell? ⟨W.heap.size, 1, none⟩ = some (.int .i64 (S : Int))) (w1.alloc (.cells #[v] 25)) := ⟨(hb2.cell (p := ⟨W.heap.size, 3, none⟩) hsz).trans hS0.1, (hb2.cell (p := ⟨W.heap.size, 1, none⟩) hsz).trans hS0.2⟩
      have HRW := hide (ownsRow_keep (unhide HMK).row hb2)
      have HDS : Hid (∀ u ∈ xs ++ [v], Dsk (w1.alloc (.cells #[v] 25)) (Pl [] W.heap.size) (17 + 2 * S) u) := fun u hu => by
        rcases List.mem_append.1 hu with q | q
        · exact ((unhide HMK).dsk u q).keep (X := fun _ => False) (Chg.of_new hb2) (fun _ _ _ _ _ => id)
        · rw [List.mem_singleton] at q
          rw [q]
          exact hdv.keep (X := fun _ => False) (Chg.of_new hba) (fun _ _ _ _ _ => id)
      have HN1 := hide (cell_one_new w1 v 25)
      have HB2 := hide hb2
      have hv1c : ∀ u ∈ [v], u.oneCell' = true := by intro u hu; rw [List.mem_singleton] at hu; rw [hu, hve]; rfl
      have HV1C := hide hv1c
      have hs2' : (w1.alloc (.cells #[v] 25)).heap.size = w1.heap.size + 1 := by simp
      have HS2' := hide hs2'
      clear hS0 hS1 hrw hsec hb1 hb1' hdv hba hb2 hv1c hs2'
      subst hve
      refine orders_one 10 (by kernel_rfl) rfl (by rfl) (fun K hK => ?_)
      go_simp
      refine hK.out _ _ (fun _ => hS2) ?_
      clear hK K
      refine orders_one 11 (by kernel_rfl) rfl (by rfl) (fun K hK => ?_)
      simp only [List.getElem_toArray, List.getElem_cons_succ, List.getElem_cons_zero]
      refine wp_append_lies _ (.tmp 30) (.tmp 36) 29 rfl (W.heap.size + 1) 25 iL (.slice none 0 0) 1 24 Tryz.underlying29 hiL hzL0 hzL1 hzL2 rfl (by decide) ss k xs rfl (unhide HRW) ⟨w1.heap.size, 0, none⟩ 1 1 [.slice va vn vc] rfl rfl (unhide HN1) (unhide HV1C) (by decide) (by unfold maxLen; omega) (by omega) (by rw [unhide HS2']; omega) (w1.heap.size + 1) (unhide HS2') ?_
      intro g2 c2 w4 hown hgrow hat hlt4
      have hgw : Chg (fun b => b ∈ dBlk ss) (w1.alloc (.cells #[.slice va vn vc] 25)) w4 := (Chg.refl _ _).grown hgrow (fun g hg => Or.inl (own_dBlk _ g hg))
      have hrb := row_blk (unhide HRW)
      have hk2 := (unhide HMK).blk.below (unhide HB2) hsz
      have hk4 := hk2.chg hgw (fun hx => by have := (hrb _ hx).1; omega)
      have hgo4 : w4.ownsRow (W.heap.size + 1) 4 1 gs k (List.replicate k (.bool false)) := ownsRow_at (ownsRow_keep (unhide HMK).gon (unhide HB2)) (fun g hg => by
        obtain ⟨_, cs, hkk⟩ := row_blk (ownsRow_keep (unhide HMK).gon (unhide HB2)) g hg
        refine hgw.block g hkk.lt (fun hx => ?_)
        obtain ⟨_, cs', hkk'⟩ := hrb g hx
        have := (Blk.same hkk hkk').2
        revert this; decide)
      have hds4 : ∀ u ∈ xs ++ [.slice va vn vc], Dsk w4 (Pl [] W.heap.size) (17 + 2 * S) u := fun u hu => (unhide HDS u hu).keep hgw (fun b cs t hb' ht' hx => by
        obtain ⟨_, cs', hk'⟩ := hrb b hx
        have := (Blk.same hb' hk').2
        subst this
        revert ht'; decide)
      have hbe4 : Below W.heap.size W w4 := Below.on ((unhide HMK).bel.trans ((unhide HB2).mono (Nat.le_of_lt hsz))) (by rw [unhide HS2']; omega) hgw (fun b hb' => by have := (hrb b hb').1; omega)
      have hS4 : (fun w' : World => w'.cell? ⟨W.heap.size, 3, none⟩ = some ss ∧ w'.cell? ⟨W.heap.size, 1, none⟩ = some (.int .i64 (S : Int))) w4 := ⟨(hk4.cell 3), (hk4.cell 1)⟩
      refine hK.out _ _ (fun _ => hS4) ?_
      clear hK K hS2
      simp only [Act.put, List.setIfInBounds_toArray, List.set_cons_zero, List.set_cons_succ]
      have st1 : w4.cell? ⟨W.heap.size, 3, none⟩ = some ss := hS4.1
      have st2 := hk4.free 3
      refine orders_one 12 (by kernel_rfl) rfl (by rfl) (fun K hK => ?_)
      go_simp
      refine hK.out _ _ (fun _ => hS4) ?_
      clear hK K
      refine orders_one 13 (by kernel_rfl) rfl (by rfl) (fun K hK => ?_)
      go_simp
      refine hK.out _ _ (fun _ => hS4) ?_
      clear hK K
      refine orders_one 14 (by kernel_rfl) rfl (by rfl) (fun K hK => ?_)
      go_simp
      refine hK.out _ _ (fun h => absurd rfl h) ?_
      clear hK K
      refine orders_end (by kernel_rfl) ?_
      refine NoPanic.normal ?_
      have hcs : Chg (fun b => b = W.heap.size) w4 (w4.setCell ⟨W.heap.size, 3, none⟩ (.slice (some ⟨g2, 0, none⟩) (k + 1) c2)) := Chg.setCell (X := fun b => b = W.heap.size) (Chg.refl _ w4) ⟨W.heap.size, 3, none⟩ _ (Or.inl rfl)
      have hk5 := hk4.set 3 (.slice (some ⟨g2, 0, none⟩) (k + 1) c2)
      have hne5 : ∀ b cs' t, Blk w4 b cs' t → t ≠ 32 → b ≠ W.heap.size := fun b cs' t hb' ht' e => by
        subst e
        exact ht' (Blk.same hb' hk4).2
      have hrow5 := ownsRow_at hown (fun g hg => by
        obtain ⟨_, cs', hkk⟩ := row_blk hown g hg
        exact hcs.block g hkk.lt (hne5 g _ _ hkk (by decide)))
      have hgon5 := ownsRow_at hgo4 (fun g hg => by
        obtain ⟨_, cs', hkk⟩ := row_blk hgo4 g hg
        exact hcs.block g hkk.lt (hne5 g _ _ hkk (by decide)))
      have hds5 : ∀ u ∈ xs ++ [.slice va vn vc], Dsk (w4.setCell ⟨W.heap.size, 3, none⟩ (.slice (some ⟨g2, 0, none⟩) (k + 1) c2)) (Pl [] W.heap.size) (17 + 2 * S) u := fun u hu => (hds4 u hu).keep hcs (fun b cs t hb' ht' => hne5 b cs t hb' (by rcases ht' with rfl | rfl <;> decide))
      have hbe5 : Below W.heap.size W (w4.setCell ⟨W.heap.size, 3, none⟩ (.slice (some ⟨g2, 0, none⟩) (k + 1) c2)) := Below.on hbe4 hbe4.size hcs (fun b hb' => by omega)
      have HK5 := hide hk5
      have HRW5 := hide hrow5
      have HGO5 := hide hgon5
      have HDS5 := hide hds5
      have HBE5 := hide hbe5
      have hs5 := hk5.lt
      have hs5' : (w4.setCell ⟨W.heap.size, 3, none⟩ (.slice (some ⟨g2, 0, none⟩) (k + 1) c2)).heap.size = w4.heap.size := by simp
      clear hown hgrow hat hlt4 hgw hrb hk2 hk4 hgo4 hds4 hbe4 hS4 st1 st2 hcs hk5 hne5 hrow5 hgon5 hds5 hbe5 hs5' HRW HDS HN1 HB2 HV1C HS2' HMK
      generalize w4.setCell ⟨W.heap.size, 3, none⟩ (.slice (some ⟨g2, 0, none⟩) (k + 1) c2) = w5 at *
      have g4 : w5.cell? ⟨W.heap.size, 4, none⟩ = some gs := (unhide HK5).cell 4
      have gf4 := (unhide HK5).free 4
      have hba6 : Below w5.heap.size w5 (w5.alloc (.cells #[.bool false] 4)) := (Below.refl _ _).alloc (Nat.le_refl _) _
      have HGO6 := hide (ownsRow_keep (unhide HGO5) hba6)
      have HN6 := hide (cell_one_new w5 (.bool false) 4)
      have HBA6 := hide hba6
      clear hba6
      go_wp2_with (at_builtin; refine wpList_append_lies _ rfl (.tmp 44) (.tmp 45) 30 rfl (W.heap.size + 1) 4 iT (.bool false) 1 1 Tryz.underlying30 hiT hzT0 hzT1 hzT2 rfl (by decide) gs k (List.replicate k (.bool false)) rfl (unhide HGO6) ⟨w5.heap.size, 0, none⟩ 1 1 [.bool false] rfl rfl (unhide HN6) (by intro u hu; rw [List.mem_singleton] at hu; subst hu; rfl) (by decide) (by unfold maxLen; omega) (by omega) (by rw [World.size_alloc]; omega) (w5.heap.size + 1) (by simp) ?_)
      intro g7 c7 w7 hown hgrow hat hlt7
      have hgw : Chg (fun b => b ∈ dBlk gs) (w5.alloc (.cells #[.bool false] 4)) w7 := (Chg.refl _ _).grown hgrow (fun g hg => Or.inl (own_dBlk _ g hg))
      have hrb := row_blk (unhide HGO6)
      have hk6 := (unhide HK5).below (unhide HBA6) hs5
      have hk7 := hk6.chg hgw (fun hx => by have := (hrb _ hx).1; omega)
      have hrw6 := ownsRow_keep (unhide HRW5) (unhide HBA6)
      have hrow7 := ownsRow_at hrw6 (fun g hg => by
        obtain ⟨_, cs, hkk⟩ := row_blk hrw6 g hg
        refine hgw.block g hkk.lt (fun hx => ?_)
        obtain ⟨_, cs', hkk'⟩ := hrb g hx
        have := (Blk.same hkk hkk').2
        revert this; decide)
      have hds7 : ∀ u ∈ xs ++ [.slice va vn vc], Dsk w7 (Pl [] W.heap.size) (17 + 2 * S) u := fun u hu => ((unhide HDS5 u hu).keep (X := fun _ => False) (Chg.of_new (unhide HBA6)) (fun _ _ _ _ _ => id)).keep hgw (fun b cs t hb' ht' hx => by
        obtain ⟨_, cs', hk'⟩ := hrb b hx
        have := (Blk.same hb' hk').2
        subst this
        revert ht'; decide)
      have hbe7 : Below W.heap.size W w7 := Below.on ((unhide HBE5).trans ((unhide HBA6).mono (unhide HBE5).size)) (by rw [World.size_alloc]; omega) hgw (fun b hb' => by have := (hrb b hb').1; omega)
      have hcs : Chg (fun b => b = W.heap.size) w7 (w7.setCell ⟨W.heap.size, 4, none⟩ (.slice (some ⟨g7, 0, none⟩) (k + 1) c7)) := Chg.setCell (X := fun b => b = W.heap.size) (Chg.refl _ w7) ⟨W.heap.size, 4, none⟩ _ (Or.inl rfl)
      have hk8 := hk7.set 4 (.slice (some ⟨g7, 0, none⟩) (k + 1) c7)
      have hne8 : ∀ b cs' t, Blk w7 b cs' t → t ≠ 32 → b ≠ W.heap.size := fun b cs' t hb' ht' e => by
        subst e
        exact ht' (Blk.same hb' hk7).2
      have hrow8 := ownsRow_at hrow7 (fun g hg => by
        obtain ⟨_, cs', hkk⟩ := row_blk hrow7 g hg
        exact hcs.block g hkk.lt (hne8 g _ _ hkk (by decide)))
      have hgon8 := ownsRow_at hown (fun g hg => by
        obtain ⟨_, cs', hkk⟩ := row_blk hown g hg
        exact hcs.block g hkk.lt (hne8 g _ _ hkk (by decide)))
      have hmk8 : Making W (w7.setCell ⟨W.heap.size, 4, none⟩ (.slice (some ⟨g7, 0, none⟩) (k + 1) c7)) D S (k + 1) (.slice (some ⟨g2, 0, none⟩) (k + 1) c2) (.slice (some ⟨g7, 0, none⟩) (k + 1) c7) (xs ++ [.slice va vn vc]) := by
        refine ⟨hk8, hrow8, fun u hu => (hds7 u hu).keep hcs (fun b cs t hb' ht' => hne8 b cs t hb' (by rcases ht' with rfl | rfl <;> decide)), ?_, Below.on hbe7 hbe7.size hcs (fun b hb' => by omega)⟩
        rw [List.replicate_succ']
        exact hgon8
      have HMK8 := hide hmk8
      have h4c : w7.cell? ⟨W.heap.size, 4, none⟩ = some gs := hk7.cell 4
      have h4f := hk7.free 4
      clear hown hgrow hat hlt7 hgw hrb hk6 hk7 hrw6 hrow7 hds7 hbe7 hcs hk8 hne8 hrow8 hgon8 hmk8 g4 gf4 HK5 HRW5 HGO5 HDS5 HBE5 HGO6 HN6 HBA6
      go_wp2
      go_roundw
      case rel => exact ⟨k + 1, _, _, _, by omega, by go_num, unhide HMK8⟩
      case measure => simp [intOf]; omega
    · have hkD : D = k := by omega
      subst hkD
      go_wp2_with fail
      have t0 : wr.drew.cell? ⟨W.heap.size, 0, none⟩ = some (.int .i64 (D : Int)) := (unhide HMK).blk.cell 0
      have t1 : wr.drew.cell? ⟨W.heap.size, 1, none⟩ = some (.int .i64 (S : Int)) := (unhide HMK).blk.cell 1
      clear g0
      have HOP := hide (platOpen_any D S true wr.drew hD4 hD8 hS1 hS6)
      go_region_held3 (fun w' => w'.cell? ⟨W.heap.size, 0, none⟩ = some (.int .i64 (D : Int)) ∧ w'.cell? ⟨W.heap.size, 1, none⟩ = some (.int .i64 (S : Int))) (first | exact ⟨t0, t1⟩ | exact ⟨q0, q1⟩)
        (first | (go_at_call 16; refine (unhide HOP).mono ?_; rintro e w2 ⟨pb, vb, tb, hb, A, O, nx, w1, rfl, hop, hw2, hpb⟩; have hb2 : Below wr.heap.size wr w2 := opened_below hop hw2; have q0 := (hb2.cell (p := ⟨W.heap.size, 0, none⟩) hsz).trans t0; have q1 := (hb2.cell (p := ⟨W.heap.size, 1, none⟩) hsz).trans t1; have HOPN := hide hop; have HW2 := hide hw2; have HPB := hide hpb; have HBB := hide hb2; clear hop hw2 hpb hb2))
      clear t0 t1 q0 q1 HOP
      have hop := unhide HOPN
      have hw2 := unhide HW2
      have hk2 := (unhide HMK).blk.below (unhide HBB) hsz
      have g2c : w2.cell? ⟨W.heap.size, 2, none⟩ = some (.pointer none) := hk2.cell 2
      have g2f := hk2.free 2
      have hwait := waits_of (unhide HMK) hop hw2 (unhide HPB) hD4 hD8 hS1 hS6
      have HWA := hide (rest_fresh W W.heap.size D S pb vb tb hb 0 _ (by omega) hD8 (by omega) hwait)
      clear hop hw2 hk2 hwait HOPN HW2 HPB HBB HMK
      go_wp2_with (first | (go_at_call 15; refine (unhide HWA).mono ?_; rintro e w5 ⟨rfl, hst⟩; have HST := hide hst; clear hst HWA g2c g2f; obtain ⟨O5, M5, hM5, hbo5, hbe5, hr5, hv5⟩ := unhide HST; have HSV := hide (wrapState pb vb _ O5 w5 (hr5.vol.cell 0) hv5); clear hM5 hbo5 hbe5 hr5 hv5) | (go_at_call 17; refine (unhide HSV).mono ?_; rintro e w6 ⟨rfl, hw6⟩; obtain rfl := hw6))
      go_ret
      exact ⟨pb, vb, tb, rfl, unhide HST⟩

end Go.Proofs.YtdcinlkkjbclmabGreat
