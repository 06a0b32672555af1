/- A world with a new volume. -/
import Derived.Test.YtdcinlkkjbclmaaGreatLOpenW
namespace Go.Proofs.YtdcinlkkjbclmaaGreat
open Go.RowKit

theorem infoPd : (Tryz.prog.info? 63).map (fun i => (i.zero, i.size, i.bytes)) = some (some (.pointer none), 1, 8) := by kernel_rfl
theorem infoBo : (Tryz.prog.info? 4).map (fun i => (i.zero, i.size, i.bytes)) = some (some (.bool false), 1, 1) := by kernel_rfl
theorem infoBl : (Tryz.prog.info? 67).map (fun i => (i.zero, i.size, i.bytes)) = some (some (.agg #[.slice none 0 0, .slice none 0 0]), 2, 48) := by kernel_rfl
/-- one disk more -/
theorem Mk.disk {W w w1 w2 : World} {wb D S i g : Nat} {pv ds bl st kn : Value} {db : Nat → Nat} {F : Nat → Nat → Prop} {Fn : Nat → Prop} {c n0 : Nat} (h : Mk W w wb D S i pv ds bl st kn db F) (c1 : Chg (fun _ => False) w w1) (hd : DiskB w1 (17 + 2 * S) 0 Fn n0) (hFn : ∀ b, Fn b → w.heap.size ≤ b) (c2 : Chg (fun x => ds.ownBlock = some x) w1 w2) (hg : ds.ownBlock = some g ∨ w.heap.size ≤ g) (ho : w2.ownsRow 0 63 1 (.slice (some ⟨g, 0, none⟩) (i + 1) c) (i + 1) ((List.range i).map (fun (k : Nat) => Value.pointer (some ⟨db k, 0, none⟩)) ++ [.pointer (some ⟨n0, 0, none⟩)])) :
    (∀ k, k < i + 1 → DiskB w2 (17 + 2 * S) 0 ((updF F i Fn) k) ((fun k => if k = i then n0 else db k) k)) ∧ (∀ j k g, j < i + 1 → k < i + 1 → j ≠ k → (updF F i Fn) j g → ¬ (updF F i Fn) k g) ∧ w2.ownsRow 0 63 1 (.slice (some ⟨g, 0, none⟩) (i + 1) c) (i + 1) ((List.range (i + 1)).map (fun (k : Nat) => Value.pointer (some ⟨(fun k => if k = i then n0 else db k) k, 0, none⟩))) ∧ W.heap.size ≤ g ∧ (∀ b, Fn b → W.heap.size ≤ b) ∧ w2.ownsRow 0 4 1 st i (List.replicate i (.bool false)) ∧ w2.ownsRow 0 4 1 kn i (List.replicate i (.bool false)) ∧ Blk w2 wb (mkL D S pv ds bl st kn).toArray 56 ∧ Below W.heap.size W w2 := by
  have hsz := h.bel.size
  have nD : ∀ b cs t, Blk w1 b cs t → t ≠ 63 → ¬ ds.ownBlock = some b := fun b cs t hb ht hv => by
    obtain ⟨cs', hb'⟩ := own_blk (own_chg h.rds c1 (fun _ _ => id)) b hv
    exact ht (Blk.same hb hb').2
  have nDd : ∀ (n N : Nat) (G : Nat → Prop) (b : Nat), DiskB w1 n N G b → ∀ g, G g → ¬ ds.ownBlock = some g := fun n N G b hd' g hg' => by
    obtain ⟨cs, t, hb, ht⟩ := hd'.typ g hg'
    exact nD g cs t hb (fun e => by subst e; revert ht; unfold dskT; decide)
  have B1 := h.blk.chg c1 id
  have S1 := own_chg h.rst c1 (fun _ _ => id)
  have K1 := own_chg h.rkn c1 (fun _ _ => id)
  refine ⟨fun k hk => ?_, fun j k b hj hk hne hf hf' => ?_, ?_, ?_, fun b hb => by have := hFn b hb; omega, own_chg S1 c2 (fun b hb => ?_), own_chg K1 c2 (fun b hb => ?_), B1.chg c2 (nD _ _ _ B1 (by decide)), ?_⟩
  · unfold updF
    by_cases e : k = i
    · simp only [if_pos e]
      exact hd.chg c2 (nDd _ _ _ _ hd)
    · simp only [if_neg e]
      have h1 := (h.dk k (by omega)).chg c1 (fun _ _ => id)
      exact h1.chg c2 (nDd _ _ _ _ h1)
  · unfold updF at hf hf'
    split at hf
    · rw [if_neg (by omega)] at hf'
      have := hFn b hf
      have := (h.dk k (by omega)).lt b hf'
      omega
    · split at hf'
      · have := hFn b hf'
        have := (h.dk j (by omega)).lt b hf
        omega
      · exact h.sep j k b (by omega) (by omega) hne hf hf'
  · rw [List.range_succ, List.map_append]
    have e : (List.range i).map (fun (k : Nat) => Value.pointer (some ⟨(fun k => if k = i then n0 else db k) k, 0, none⟩)) = (List.range i).map (fun (k : Nat) => Value.pointer (some ⟨db k, 0, none⟩)) := by
      apply List.map_congr_left
      intro k hk
      have := List.mem_range.1 hk
      simp only [if_neg (show ¬ k = i by omega)]
    rw [e]
    simpa using ho
  · rcases hg with q | q
    · exact h.all g (Or.inr (Or.inl q))
    · omega
  · obtain ⟨cs, hb'⟩ := own_blk S1 b hb; exact nD b cs _ hb' (by decide)
  · obtain ⟨cs, hb'⟩ := own_blk K1 b hb; exact nD b cs _ hb' (by decide)
  · have c02 : Chg (fun x => ds.ownBlock = some x) w w2 := (c1.mono (fun _ _ h => h.elim)).trans c2 (fun x hx => Or.inl hx)
    exact h.bel.trans (c02.below W.heap.size hsz (fun k hk hx => by have := h.all k (Or.inr (Or.inl hx)); omega))

set_option maxRecDepth 100000 in
set_option maxHeartbeats 16000000 in
theorem lawBegun_any (D S : Nat) (w : World) (hD4 : 4 ≤ D) (hD : D ≤ 8) (hS1 : 1 ≤ S) (hS : S ≤ 6) :
    Calls Tryz.prog 12 #[.int .i64 (D : Int), .int .i64 (S : Int), .agg #[.bool false, .bool false, .bool false, .bool false]] w fun e w' => ∃ wb vb tb hb db, e = .returned (.pointer (some ⟨wb, 0, none⟩)) ∧ Ph w wb D S vb tb hb db (2 * D) w' := by
  obtain ⟨wb, hwb⟩ : ∃ wb, wb = w.heap.size + 1 := ⟨_, rfl⟩
  have H0 : Hid (Mk w ((w.alloc (.cells #[.bool false, .bool false, .bool false, .bool false] 25)).alloc (.cells (mkL D S (.pointer none) (.slice none 0 0) (.slice none 0 0) (.slice none 0 0) (.slice none 0 0)).toArray 56)) wb D S 0 (.pointer none) (.slice none 0 0) (.slice none 0 0) (.slice none 0 0) (.slice none 0 0) (fun _ => 0) (fun _ _ => False)) := by
    refine ⟨?_, World.ownsRow_nil _ _ _ _, fun k hk => by omega, fun j k g hj => by omega, World.ownsRow_nil _ _ _ _, World.ownsRow_nil _ _ _ _, (fun g hg => by cases hg), fun b hb => ?_, ((Below.refl _ _).alloc (Nat.le_refl _) _).alloc (by simp) _⟩
    · have h1 := Blk.new (w.alloc (.cells #[.bool false, .bool false, .bool false, .bool false] 25)) (mkL D S (.pointer none) (.slice none 0 0) (.slice none 0 0) (.slice none 0 0) (.slice none 0 0)).toArray 56
      rw [World.size_alloc] at h1
      rw [hwb]
      exact h1
    · rcases hb with e | e | ⟨k, hk, _⟩ | e | e
      · omega
      · cases e
      · omega
      · cases e
      · cases e
  have iS : (S : Int) ≤ 6 := by omega
  have iS0 : (0 : Int) ≤ (S : Int) := by omega
  have iD : (D : Int) ≤ 8 := by omega
  have iD4 : (4 : Int) ≤ (D : Int) := by omega
  have hw1 : IntKind.i64.wrap (2 * (S : Int)) = 2 * (S : Int) := Go.IntWalk.i64_in _ (by omega)
  have hw2 : IntKind.i64.wrap (17 + 2 * (S : Int)) = 17 + 2 * (S : Int) := Go.IntWalk.i64_in _ (by omega)
  have HBL : Hid (∀ w' : World, Calls Tryz.prog 22 #[.int .i64 (17 + 2 * (S : Int))] w' fun e w'' => e = .returned (.pointer (some ⟨w'.heap.size, 0, none⟩)) ∧ ∃ F, DiskB w'' (17 + 2 * S) 0 F w'.heap.size ∧ (∀ g, F g → w'.heap.size ≤ g) ∧ Below w'.heap.size w' w'') := fun w' => by
    have h1 := blank_any (17 + 2 * S) w' (by omega) (by omega)
    rw [show ((17 + 2 * S : Nat) : Int) = 17 + 2 * (S : Int) by omega] at h1
    exact h1
  have HWB := hide hwb
  clear hwb
  go_enter Tryz.func12, Tryz.ntmps12
  go_wp2
  rw [← unhide HWB]
  go_loopw [8] (fun iv wr => ∃ (i : Nat) (ds st kn : Value) (db : Nat → Nat) (F : Nat → Nat → Prop), i ≤ D ∧ iv = .int .i64 (i : Int) ∧ Mk w wr wb D S i (.pointer none) ds (.slice none 0 0) st kn db F) (fun i _ => D - (intOf i).toNat)
  case atStart => exact ⟨0, _, _, _, _, _, Nat.zero_le _, rfl, unhide H0⟩
  case round =>
    clear H0
    obtain ⟨i, ds, st, kn, db, F, hi, rfl, hm⟩ := hrel
    have HM := hide hm
    rcases Nat.lt_or_ge i D with hlt | hge
    · have ii0 : (0 : Int) ≤ (i : Int) := by omega
      have ii1 : (i : Int) < (D : Int) := by omega
      have hS : (fun w' : World => w'.cell? ⟨wb, 7, none⟩ = some ds) wr.drew := hm.blk.cell 7
      have hwl := hm.blk.lt
      clear hm
      go_wp2_with fail
      refine wp_region_noPanic ?_
      refine orders_begin 13 (fun w' => w'.cell? ⟨wb, 7, none⟩ = some ds) (by kernel_rfl) ?_
      refine orders_take 0 (some 21) (v := .pointer (some ⟨wb, 0, none⟩)) rfl (by kernel_rfl) (by kernel_rfl) (by kernel_rfl) (by kernel_rfl) (fun _ _ _ h => h) (Or.inl ⟨by rfl, fun _ _ => rfl⟩) hS rfl ?_
      simp only [Act.put, List.setIfInBounds_toArray, List.set_cons_zero, List.set_cons_succ]
      refine orders_take 1 (some 22) (v := .pointer (some ⟨wb, 0, none⟩)) rfl (by kernel_rfl) (by kernel_rfl) (by kernel_rfl) (by kernel_rfl) (fun _ _ _ h => h) (Or.inl ⟨by rfl, fun _ _ => rfl⟩) hS rfl ?_
      simp only [Act.put, List.setIfInBounds_toArray, List.set_cons_zero, List.set_cons_succ]
      refine orders_take 2 (some 23) (v := .pointer (some ⟨wb, 0, none⟩)) rfl (by kernel_rfl) (by kernel_rfl) (by kernel_rfl) (by kernel_rfl) (fun _ _ _ h => h) (Or.inl ⟨by rfl, fun _ _ => by go_simp⟩) hS rfl ?_
      simp only [Act.put, List.setIfInBounds_toArray, List.set_cons_zero, List.set_cons_succ]
      refine orders_take 3 (some 24) (v := .pointer (some ⟨wb, 7, none⟩)) rfl (by kernel_rfl) (by kernel_rfl) (by kernel_rfl) (by kernel_rfl) (fun _ _ _ h => h) (Or.inl ⟨by rfl, fun _ _ => by go_simp⟩) hS rfl ?_
      simp only [Act.put, List.setIfInBounds_toArray, List.set_cons_zero, List.set_cons_succ]
      refine orders_take 4 (some 25) (v := ds) rfl (by kernel_rfl) (by kernel_rfl) (by kernel_rfl) (by kernel_rfl) (fun _ _ _ h => h) (Or.inl ⟨by rfl, fun w' hw => by have hcc := hw; clear hw; go_simp⟩) hS rfl ?_
      simp only [Act.put, List.setIfInBounds_toArray, List.set_cons_zero, List.set_cons_succ]
      refine orders_take 5 (some 26) (v := .int .i64 (S : Int)) rfl (by kernel_rfl) (by kernel_rfl) (by kernel_rfl) (by kernel_rfl) (fun _ _ _ h => h) (Or.inl ⟨by rfl, fun _ _ => rfl⟩) hS rfl ?_
      simp only [Act.put, List.setIfInBounds_toArray, List.set_cons_zero, List.set_cons_succ]
      refine orders_take 6 (some 27) (v := .int .i64 (2 * (S : Int))) rfl (by kernel_rfl) (by kernel_rfl) (by kernel_rfl) (by kernel_rfl) (fun _ _ _ h => h) (Or.inl ⟨by rfl, fun _ _ => by go_simp⟩) hS rfl ?_
      simp only [Act.put, List.setIfInBounds_toArray, List.set_cons_zero, List.set_cons_succ]
      refine orders_take 7 (some 28) (v := .int .i64 (17 + 2 * (S : Int))) rfl (by kernel_rfl) (by kernel_rfl) (by kernel_rfl) (by kernel_rfl) (fun _ _ _ h => h) (Or.inl ⟨by rfl, fun _ _ => by go_simp⟩) hS rfl ?_
      simp only [Act.put, List.setIfInBounds_toArray, List.set_cons_zero, List.set_cons_succ]
      refine orders_one 8 (by kernel_rfl) rfl (by rfl) (fun K hK => ?_)
      go_simp
      refine (unhide HBL _).mono ?_
      rintro e w1 ⟨rfl, Fn, hdn, hFn, hb1⟩
      have C1 : Chg (fun _ => False) wr w1 := Chg.of_new ((Below.refl wr.heap.size wr).drew.trans hb1)
      have B1 := (unhide HM).blk.chg C1 id
      have hwl1 := B1.lt
      refine hK.out _ _ (fun _ => B1.cell 7) ?_
      clear hK K
      refine orders_one 9 (by kernel_rfl) rfl (by rfl) (fun K hK => ?_)
      go_simp
      refine hK.out _ _ (fun _ => by show World.cell? _ _ = _; rw [World.cell?_alloc_past _ _ _ hwl1]; exact B1.cell 7) ?_
      clear hK K
      have hal := (Below.refl w1.heap.size w1).alloc (Nat.le_refl _) (.cells #[.pointer (some ⟨wr.drew.heap.size, 0, none⟩)] 63)
      refine orders_one 10 (by kernel_rfl) rfl (by rfl) (fun K hK => ?_)
      refine wp_append_grew (.tmp 25) (.tmp 30) 44 rfl 63 (.pointer none) 1 8 Tryz.underlying44 infoPd rfl (by decide) ds i ((List.range i).map (fun (k : Nat) => Value.pointer (some ⟨db k, 0, none⟩))) rfl (own_chg (own_chg (unhide HM).rds C1 (fun _ _ => id)) (Chg.of_new (X := fun _ => False) hal) (fun _ _ => id)) ⟨w1.heap.size, 0, none⟩ 1 1 [.pointer (some ⟨wr.drew.heap.size, 0, none⟩)] rfl rfl (news_blk (Blk.new w1 #[.pointer (some ⟨wr.drew.heap.size, 0, none⟩)] 63)) (by intro u hu; rw [List.mem_singleton.1 hu]; rfl) (by decide) (by omega) (by decide) ?_
      intro g2 c2 w2 hg2
      have C2 : Chg (fun x => ds.ownBlock = some x) w1 w2 := ((Chg.refl _ _).alloc _).trans hg2.chg (fun k h => Or.inl h)
      have hs1 := C1.size
      obtain ⟨m1, m2, m3, m4, m5, m6, m7, m8, m9⟩ := (unhide HM).disk C1 hdn hFn C2 (by
        rcases hg2.at' with q | q
        · exact Or.inl q
        · rw [World.size_alloc] at q
          exact Or.inr (by omega)) hg2.own
      refine hK.out _ _ (fun _ => m8.cell 7) ?_
      clear hK K
      have q7 : w2.cell? ⟨wb, 7, none⟩ = some ds := m8.cell 7
      have f7 := m8.free 7
      have hS2 : (fun w' : World => w'.cell? ⟨wb, 7, none⟩ = some ds) w2 := q7
      obtain ⟨db2, hdb2⟩ : ∃ db2 : Nat → Nat, db2 = fun k => if k = i then wr.drew.heap.size else db k := ⟨_, rfl⟩
      obtain ⟨F2, hF2⟩ : ∃ F2, F2 = updF F i Fn := ⟨_, rfl⟩
      have hnw : ∀ b, (∃ k, k < i + 1 ∧ F2 k b) → w.heap.size ≤ b := fun b ⟨k, hk, hf⟩ => by
        rw [hF2] at hf
        unfold updF at hf
        split at hf
        · exact m5 b hf
        · exact (unhide HM).all b (Or.inr (Or.inr (Or.inl ⟨k, by omega, hf⟩)))
      rw [← hF2] at m1 m2
      have m1' : ∀ k, k < i + 1 → DiskB w2 (17 + 2 * S) 0 (F2 k) (db2 k) := by rw [hdb2]; exact m1
      have m3' : w2.ownsRow 0 63 1 (.slice (some ⟨g2, 0, none⟩) (i + 1) c2) (i + 1) ((List.range (i + 1)).map (fun (k : Nat) => Value.pointer (some ⟨db2 k, 0, none⟩))) := by rw [hdb2]; exact m3
      have M1 := hide m1'
      have M2 := hide m2
      have M3 := hide m3'
      have M4 := hide m4
      have M5 := hide hnw
      have M6 := hide m6
      have M7 := hide m7
      have M8 := hide m8
      have M9 := hide m9
      clear m1 m2 m3 m4 m5 m6 m7 m8 m9 m1' m3' hnw hdb2 hF2 hg2 C2 C1 B1 hal hdn hFn hb1 hS
      refine orders_one 11 (by kernel_rfl) rfl (by rfl) (fun K hK => ?_)
      go_simp
      refine hK.out _ _ (fun _ => hS2) ?_
      clear hK K
      refine orders_one 12 (by kernel_rfl) rfl (by rfl) (fun K hK => ?_)
      go_simp
      refine hK.out _ _ (fun _ => hS2) ?_
      clear hK K
      refine orders_one 13 (by kernel_rfl) rfl (by rfl) (fun K hK => ?_)
      go_simp
      refine hK.out _ _ (fun h => absurd rfl h) ?_
      clear hK K hS2 q7 f7
      refine orders_end (by kernel_rfl) ?_
      refine NoPanic.normal ?_
      have CS3 : Chg (fun x => x = wb) w2 (w2.setCell ⟨wb, 7, none⟩ (.slice (some ⟨g2, 0, none⟩) (i + 1) c2)) := Chg.setCell (X := fun x => x = wb) (Chg.refl _ w2) _ _ (Or.inl rfl)
      have B3 : Blk (w2.setCell ⟨wb, 7, none⟩ (.slice (some ⟨g2, 0, none⟩) (i + 1) c2)) wb (mkL D S (.pointer none) (.slice (some ⟨g2, 0, none⟩) (i + 1) c2) (.slice none 0 0) st kn).toArray 56 := (unhide M8).set 7 _
      have nW2 : ∀ g cs t, Blk w2 g cs t → t ≠ 56 → ¬ g = wb := fun g cs t hb ht e => by
        subst e
        exact ht (Blk.same hb (unhide M8)).2
      have nW2r : ∀ (t : TypeId) (v : Value) (m : Nat) (xs : List Value), w2.ownsRow 0 t 1 v m xs → t ≠ 56 → ∀ g, v.ownBlock = some g → ¬ g = wb := fun t v m xs ho ht g hg => by
        obtain ⟨c, hc⟩ := own_blk ho g hg
        exact nW2 g c t hc ht
      have HB3 := hide B3
      have HST3 := hide (own_chg (unhide M6) CS3 (nW2r _ _ _ _ (unhide M6) (by decide)))
      have HKN3 := hide (own_chg (unhide M7) CS3 (nW2r _ _ _ _ (unhide M7) (by decide)))
      have HDS3 := hide (own_chg (unhide M3) CS3 (nW2r _ _ _ _ (unhide M3) (by decide)))
      have HDK3 : Hid (∀ k, k < i + 1 → DiskB (w2.setCell ⟨wb, 7, none⟩ (.slice (some ⟨g2, 0, none⟩) (i + 1) c2)) (17 + 2 * S) 0 (F2 k) (db2 k)) := fun k hk => (unhide M1 k hk).chg CS3 (fun g hg => by
        obtain ⟨c, t, hc, ht⟩ := (unhide M1 k hk).typ g hg
        exact nW2 g c t hc (fun e => by subst e; revert ht; unfold dskT; decide))
      have HBL3 : Hid (Below w.heap.size w (w2.setCell ⟨wb, 7, none⟩ (.slice (some ⟨g2, 0, none⟩) (i + 1) c2))) := (unhide M9).setCell (p := ⟨wb, 7, none⟩) (by have := unhide HWB; show w.heap.size ≤ wb; omega) _
      generalize w2.setCell ⟨wb, 7, none⟩ (.slice (some ⟨g2, 0, none⟩) (i + 1) c2) = w3 at *
      have c15 : w3.cell? ⟨wb, 15, none⟩ = some st := (unhide HB3).cell 15
      have f15 := (unhide HB3).free 15
      have hal := (Below.refl w3.heap.size w3).alloc (Nat.le_refl _) (.cells #[.bool false] 4)
      have OS := hide (own_chg (unhide HST3) (Chg.of_new (X := fun _ => False) hal) (fun _ _ => id))
      have NS := hide (news_blk (Blk.new w3 #[.bool false] 4))
      clear CS3 B3 nW2 nW2r hal M1 M3 M6 M7 M8 M9
      go_wp2_with (at_builtin; refine wpList_append_grew rfl (.tmp 38) (.tmp 39) 48 rfl 4 (.bool false) 1 1 Tryz.underlying48 infoBo rfl (by decide) st i (List.replicate i (.bool false)) rfl (unhide OS) ⟨w3.heap.size, 0, none⟩ 1 1 [.bool false] rfl rfl (unhide NS) (by intro u hu; rw [List.mem_singleton.1 hu]; rfl) (by decide) (by omega) (by decide) ?_)
      intro g5 c5 w5 hg5
      have C5 : Chg (fun x => st.ownBlock = some x) w3 w5 := ((Chg.refl _ _).alloc _).trans hg5.chg (fun k h => Or.inl h)
      have nS : ∀ g cs t, Blk w3 g cs t → t ≠ 4 → ¬ st.ownBlock = some g := fun g cs t hb ht hv => by
        obtain ⟨cs', hb'⟩ := own_blk (unhide HST3) g hv
        exact ht (Blk.same hb hb').2
      have B5 := (unhide HB3).chg C5 (nS _ _ _ (unhide HB3) (by decide))
      have e15 : w5.cell? ⟨wb, 15, none⟩ = some st := B5.cell 15
      have e15f := B5.free 15
      have hsw3 := (unhide HBL3).size
      have hgn5 : st.ownBlock = some g5 ∨ w3.heap.size ≤ g5 := by
        rcases hg5.at' with q | q
        · exact Or.inl q
        · rw [World.size_alloc] at q; exact Or.inr (by omega)
      have hst3 : ∀ g, st.ownBlock = some g → w.heap.size ≤ g := fun g hg => (unhide HM).all g (Or.inr (Or.inr (Or.inr (Or.inl hg))))
      have hkn3 : ∀ g, kn.ownBlock = some g → w.heap.size ≤ g ∧ g < w3.heap.size := fun g hg => by
        obtain ⟨c, hc⟩ := own_blk (unhide HKN3) g hg
        exact ⟨(unhide HM).all g (Or.inr (Or.inr (Or.inr (Or.inr hg)))), hc.lt⟩
      have B6 : Blk (w5.setCell ⟨wb, 15, none⟩ (.slice (some ⟨g5, 0, none⟩) (i + 1) c5)) wb (mkL D S (.pointer none) (.slice (some ⟨g2, 0, none⟩) (i + 1) c2) (.slice none 0 0) (.slice (some ⟨g5, 0, none⟩) (i + 1) c5) kn).toArray 56 := B5.set 15 _
      have CS6 : Chg (fun x => x = wb) w5 (w5.setCell ⟨wb, 15, none⟩ (.slice (some ⟨g5, 0, none⟩) (i + 1) c5)) := Chg.setCell (X := fun x => x = wb) (Chg.refl _ w5) _ _ (Or.inl rfl)
      have C36 : Chg (fun x => x = wb ∨ st.ownBlock = some x) w3 (w5.setCell ⟨wb, 15, none⟩ (.slice (some ⟨g5, 0, none⟩) (i + 1) c5)) := (C5.mono (fun _ _ h => Or.inr h)).trans CS6 (fun x h => Or.inl (Or.inl h))
      have hwl3 : ∀ g cs t, Blk w3 g cs t → t ≠ 56 → ¬ g = wb := fun g cs t hb ht e => by
        subst e
        exact ht (Blk.same hb (unhide HB3)).2
      have n36 : ∀ g cs t, Blk w3 g cs t → t ≠ 56 → t ≠ 4 → ¬ (g = wb ∨ st.ownBlock = some g) := fun g cs t hb h1 h2 hx => by
        rcases hx with hx | hx
        · exact hwl3 g cs t hb h1 hx
        · exact nS g cs t hb h2 hx
      have HDS6 := hide (own_chg (unhide HDS3) C36 (fun g hg => by obtain ⟨c, hc⟩ := own_blk (unhide HDS3) g hg; exact n36 g c _ hc (by decide) (by decide)))
      have HKN6 := hide (own_chg (unhide HKN3) C36 (fun g hg hx => by
        rcases hx with hx | hx
        · obtain ⟨c, hc⟩ := own_blk (unhide HKN3) g hg; exact hwl3 g c _ hc (by decide) hx
        · exact (unhide HM).ne g hx hg))
      have HDK6 : Hid (∀ k, k < i + 1 → DiskB (w5.setCell ⟨wb, 15, none⟩ (.slice (some ⟨g5, 0, none⟩) (i + 1) c5)) (17 + 2 * S) 0 (F2 k) (db2 k)) := fun k hk => (unhide HDK3 k hk).chg C36 (fun g hg => by
        obtain ⟨c, t, hc, ht⟩ := (unhide HDK3 k hk).typ g hg
        exact n36 g c t hc (fun e => by subst e; revert ht; unfold dskT; decide) (fun e => by subst e; revert ht; unfold dskT; decide))
      have hg5w : g5 ≠ wb := by
        obtain ⟨c, hc⟩ := own_blk hg5.own g5 rfl
        exact ne_of_type hc B5 (by decide)
      have HST6 := hide (own_chg hg5.own CS6 (fun g hg e => hg5w (by rw [← ob_eq hg]; exact e)))
      have HBL6 : Hid (Below w.heap.size w (w5.setCell ⟨wb, 15, none⟩ (.slice (some ⟨g5, 0, none⟩) (i + 1) c5))) := (unhide HBL3).trans (C36.below w.heap.size hsw3 (fun k hk hx => by
        rcases hx with hx | hx
        · have := unhide HWB; omega
        · have := hst3 k hx; omega))
      have HG5 : Hid (w.heap.size ≤ g5 ∧ ∀ g, kn.ownBlock = some g → g ≠ g5) := ⟨by
        rcases hgn5 with q | q
        · exact hst3 g5 q
        · omega, fun g hg e => by
        rcases hgn5 with q | q
        · exact (unhide HM).ne g5 q (e ▸ hg)
        · have := (hkn3 g hg).2; omega⟩
      have HB6 := hide B6
      have HKA := hide (fun g hg => (hkn3 g hg).1)
      have c16 : (w5.setCell ⟨wb, 15, none⟩ (.slice (some ⟨g5, 0, none⟩) (i + 1) c5)).cell? ⟨wb, 16, none⟩ = some kn := B6.cell 16
      have hsz6 : (w5.setCell ⟨wb, 15, none⟩ (.slice (some ⟨g5, 0, none⟩) (i + 1) c5)).heap.size = w5.heap.size := by simp
      have hal6 := (Below.refl (w5.setCell ⟨wb, 15, none⟩ (.slice (some ⟨g5, 0, none⟩) (i + 1) c5)).heap.size (w5.setCell ⟨wb, 15, none⟩ (.slice (some ⟨g5, 0, none⟩) (i + 1) c5))).alloc (Nat.le_refl _) (.cells #[.bool false] 4)
      have OK6 := hide (own_chg (unhide HKN6) (Chg.of_new (X := fun _ => False) hal6) (fun _ _ => id))
      have nk6 := news_blk (Blk.new (w5.setCell ⟨wb, 15, none⟩ (.slice (some ⟨g5, 0, none⟩) (i + 1) c5)) #[.bool false] 4)
      rw [hsz6] at nk6
      have NK6 := hide nk6
      clear c15 f15 OS NS hg5 C5 nS B5 B6 CS6 C36 hwl3 n36 hg5w hst3 hkn3 hgn5 hal6 nk6 HB3 HST3 HKN3 HDS3 HDK3 HBL3 hsw3
      go_wp2_with (at_builtin; refine wpList_append_grew rfl (.tmp 47) (.tmp 48) 48 rfl 4 (.bool false) 1 1 Tryz.underlying48 infoBo rfl (by decide) kn i (List.replicate i (.bool false)) rfl (unhide OK6) ⟨w5.heap.size, 0, none⟩ 1 1 [.bool false] rfl rfl (unhide NK6) (by intro u hu; rw [List.mem_singleton.1 hu]; rfl) (by decide) (by omega) (by decide) ?_)
      intro g7 c7 w7 hg7
      clear c16 e15 e15f
      generalize w5.setCell ⟨wb, 15, none⟩ (.slice (some ⟨g5, 0, none⟩) (i + 1) c5) = w6 at *
      have C7 : Chg (fun x => kn.ownBlock = some x) w6 w7 := ((Chg.refl _ _).alloc _).trans hg7.chg (fun k h => Or.inl h)
      have nK : ∀ g cs t, Blk w6 g cs t → t ≠ 4 → ¬ kn.ownBlock = some g := fun g cs t hb ht hv => by
        obtain ⟨cs', hb'⟩ := own_blk (unhide HKN6) g hv
        exact ht (Blk.same hb hb').2
      have B7 := (unhide HB6).chg C7 (nK _ _ _ (unhide HB6) (by decide))
      have e16 : w7.cell? ⟨wb, 16, none⟩ = some kn := B7.cell 16
      have f16 := B7.free 16
      have HB7 := hide B7
      have HC7 := hide C7
      have HNK := hide nK
      have HR7 := hide hg7.own
      have HG7 : Hid (kn.ownBlock = some g7 ∨ w6.heap.size ≤ g7) := by
        rcases hg7.at' with q | q
        · exact Or.inl q
        · rw [World.size_alloc] at q; exact Or.inr (by omega)
      clear hg7 C7 nK B7 OK6 NK6
      go_wp2
      go_roundw
      case rel =>
        have CS8 : Chg (fun x => x = wb) w7 (w7.setCell ⟨wb, 16, none⟩ (.slice (some ⟨g7, 0, none⟩) (i + 1) c7)) := Chg.setCell (X := fun x => x = wb) (Chg.refl _ w7) _ _ (Or.inl rfl)
        have C68 : Chg (fun x => x = wb ∨ kn.ownBlock = some x) w6 (w7.setCell ⟨wb, 16, none⟩ (.slice (some ⟨g7, 0, none⟩) (i + 1) c7)) := ((unhide HC7).mono (fun _ _ h => Or.inr h)).trans CS8 (fun x h => Or.inl (Or.inl h))
        have n68 : ∀ g cs t, Blk w6 g cs t → t ≠ 56 → t ≠ 4 → ¬ (g = wb ∨ kn.ownBlock = some g) := fun g cs t hb h1 h2 hx => by
          rcases hx with rfl | hx
          · exact h1 (Blk.same hb (unhide HB6)).2
          · exact unhide HNK g cs t hb h2 hx
        have hs6 := (unhide HBL6).size
        have hg5l : g5 < w6.heap.size := by
          obtain ⟨c, hc⟩ := own_blk (unhide HST6) g5 rfl
          exact hc.lt
        have hg7w : g7 ≠ wb := by
          obtain ⟨c, hc⟩ := own_blk (unhide HR7) g7 rfl
          exact ne_of_type hc (unhide HB7) (by decide)
        refine ⟨i + 1, .slice (some ⟨g2, 0, none⟩) (i + 1) c2, .slice (some ⟨g5, 0, none⟩) (i + 1) c5, .slice (some ⟨g7, 0, none⟩) (i + 1) c7, db2, F2, by omega, by go_num, ⟨(unhide HB7).set 16 _, own_chg (unhide HDS6) C68 (fun g hg => ?_), fun k hk => (unhide HDK6 k hk).chg C68 (fun g hg => ?_), unhide M2, ?_, ?_, fun g hg e => ?_, fun b hb => ?_, (unhide HBL6).trans (C68.below w.heap.size hs6 (fun k hk hx => ?_))⟩⟩
        · obtain ⟨c, hc⟩ := own_blk (unhide HDS6) g hg; exact n68 g c _ hc (by decide) (by decide)
        · obtain ⟨c, t, hc, ht⟩ := (unhide HDK6 k hk).typ g hg
          exact n68 g c t hc (fun e => by subst e; revert ht; unfold dskT; decide) (fun e => by subst e; revert ht; unfold dskT; decide)
        · have h1 := own_chg (unhide HST6) C68 (fun g hg hx => by
            rcases hx with hx | hx
            · obtain ⟨c, hc⟩ := own_blk (unhide HST6) g hg
              subst hx
              exact (by decide : 4 ≠ 56) (Blk.same hc (unhide HB6)).2
            · exact (unhide HG5).2 g hx (ob_eq hg))
          rw [List.replicate_succ']
          exact h1
        · have h1 := own_chg (unhide HR7) CS8 (fun g hg e => hg7w (by rw [← ob_eq hg]; exact e))
          rw [List.replicate_succ']
          exact h1
        · have e1 := ob_eq hg
          have e2 := ob_eq e
          rcases unhide HG7 with q | q
          · exact (unhide HG5).2 g7 q (by omega)
          · omega
        · rcases hb with e | e | e | e | e
          · have := unhide HWB; omega
          · rw [ob_eq e]; exact unhide M4
          · exact unhide M5 b e
          · rw [ob_eq e]; exact (unhide HG5).1
          · rw [ob_eq e]
            rcases unhide HG7 with q | q
            · exact unhide HKA g7 q
            · omega
        · rcases hx with hx | hx
          · have := unhide HWB; omega
          · have := unhide HKA k hx; omega
      case measure => simp [intOf]; omega
    · obtain rfl : i = D := by omega
      have imul : ∃ n : Nat, (n : Int) = (S : Int) * ((i : Int) - 2) ∧ n ≤ 100 := by
        obtain ⟨d2, hd2⟩ : ∃ d2 : Nat, i = d2 + 2 := ⟨i - 2, by omega⟩
        refine ⟨S * d2, ?_, ?_⟩
        · rw [hd2]; push_cast; congr 1; omega
        · exact Nat.le_trans (Nat.mul_le_mul hS (show d2 ≤ 6 by omega)) (by decide)
      obtain ⟨nb, hnb, hnb1⟩ := imul
      have hmul : (S : Int) * ((i : Int) - 2) = (nb : Int) := hnb.symm
      have inb : (nb : Int) ≤ 100 := by omega
      have hws : IntKind.i64.wrap ((i : Int) - 2) = (i : Int) - 2 := Go.IntWalk.i64_in _ (by omega)
      have hwm : IntKind.i64.wrap ((S : Int) * ((i : Int) - 2)) = (nb : Int) := by rw [hmul]; exact Go.IntWalk.i64_in _ (by omega)
      clear hm hnb
      go_wp2
      go_loopw [9] (fun jv wx => ∃ (j : Nat) (bl : Value) (xs : List Value), j ≤ nb ∧ jv = .int .i64 (j : Int) ∧ Mk w wx wb i S i (.pointer none) ds bl st kn db F ∧ wx.ownsRow 0 67 2 bl j xs ∧ ∀ g, bl.ownBlock = some g → w.heap.size ≤ g) (fun j _ => nb - (intOf j).toNat)
      case atStart => exact ⟨0, _, [], Nat.zero_le _, rfl, unhide HM, World.ownsRow_nil _ _ _ _, fun g hg => by cases hg⟩
      case round =>
        clear HM
        obtain ⟨j, bl, xs, hj, rfl, hm, hbl, hbn⟩ := hrel
        have HM := hide hm
        have HBR := hide hbl
        have HBN := hide hbn
        rcases Nat.lt_or_ge j nb with hlt | hge
        · have ij0 : (0 : Int) ≤ (j : Int) := by omega
          have ij1 : (j : Int) < (nb : Int) := by omega
          have hS : (fun w' : World => w'.cell? ⟨wb, 13, none⟩ = some bl) wr.drew := hm.blk.cell 13
          have hwl := hm.blk.lt
          clear hm hbl hbn
          go_wp2_with fail
          refine wp_region_noPanic ?_
          refine orders_begin 12 (fun w' => w'.cell? ⟨wb, 13, none⟩ = some bl) (by kernel_rfl) ?_
          refine orders_take 0 (some 60) (v := .pointer (some ⟨wb, 0, none⟩)) rfl (by kernel_rfl) (by kernel_rfl) (by kernel_rfl) (by kernel_rfl) (fun _ _ _ h => h) (Or.inl ⟨by rfl, fun _ _ => rfl⟩) hS rfl ?_
          simp only [Act.put, List.setIfInBounds_toArray, List.set_cons_zero, List.set_cons_succ]
          refine orders_take 1 (some 61) (v := .pointer (some ⟨wb, 0, none⟩)) rfl (by kernel_rfl) (by kernel_rfl) (by kernel_rfl) (by kernel_rfl) (fun _ _ _ h => h) (Or.inl ⟨by rfl, fun _ _ => rfl⟩) hS rfl ?_
          simp only [Act.put, List.setIfInBounds_toArray, List.set_cons_zero, List.set_cons_succ]
          refine orders_take 2 (some 62) (v := .pointer (some ⟨wb, 0, none⟩)) rfl (by kernel_rfl) (by kernel_rfl) (by kernel_rfl) (by kernel_rfl) (fun _ _ _ h => h) (Or.inl ⟨by rfl, fun _ _ => by go_simp⟩) hS rfl ?_
          simp only [Act.put, List.setIfInBounds_toArray, List.set_cons_zero, List.set_cons_succ]
          refine orders_take 3 (some 63) (v := .pointer (some ⟨wb, 13, none⟩)) rfl (by kernel_rfl) (by kernel_rfl) (by kernel_rfl) (by kernel_rfl) (fun _ _ _ h => h) (Or.inl ⟨by rfl, fun _ _ => by go_simp⟩) hS rfl ?_
          simp only [Act.put, List.setIfInBounds_toArray, List.set_cons_zero, List.set_cons_succ]
          refine orders_take 4 (some 64) (v := bl) rfl (by kernel_rfl) (by kernel_rfl) (by kernel_rfl) (by kernel_rfl) (fun _ _ _ h => h) (Or.inl ⟨by rfl, fun w' hw => by have hcc := hw; clear hw; go_simp⟩) hS rfl ?_
          simp only [Act.put, List.setIfInBounds_toArray, List.set_cons_zero, List.set_cons_succ]
          refine orders_one 5 (by kernel_rfl) rfl (by rfl) (fun K hK => ?_)
          go_simp
          refine (zeros16 _).mono ?_
          rintro e w1 ⟨rfl, hb1, hs1⟩
          have C1 : Chg (fun _ => False) wr w1 := Chg.of_new ((Below.refl wr.heap.size wr).drew.trans hb1)
          have B1 := (unhide HM).blk.chg C1 id
          have hwl1 := B1.lt
          have hsz1 := C1.size
          refine hK.out _ _ (fun _ => B1.cell 13) ?_
          clear hK K
          refine orders_one 6 (by kernel_rfl) rfl (by rfl) (fun K hK => ?_)
          go_simp
          refine hK.out _ _ (fun _ => by show World.cell? _ _ = _; rw [World.cell?_alloc_past _ _ _ hwl1]; exact B1.cell 13) ?_
          clear hK K
          have C1a : Chg (fun _ => False) wr (w1.alloc (.cells #[.slice (some ⟨wr.heap.size, 0, none⟩) 16 16] 36)) := C1.alloc _
          have B1a := (unhide HM).blk.chg C1a id
          have HSA : Hid ((w1.alloc (.cells #[.slice (some ⟨wr.heap.size, 0, none⟩) 16 16] 36)).heap.size = w1.heap.size + 1) := by show _ = _; simp
          generalize w1.alloc (.cells #[.slice (some ⟨wr.heap.size, 0, none⟩) 16 16] 36) = w1a at *
          have hwla := B1a.lt
          refine orders_one 7 (by kernel_rfl) rfl (by rfl) (fun K hK => ?_)
          go_simp
          refine hK.out _ _ (fun _ => B1a.cell 13) ?_
          clear hK K
          refine orders_one 8 (by kernel_rfl) rfl (by rfl) (fun K hK => ?_)
          go_simp
          refine hK.out _ _ (fun _ => by show World.cell? _ _ = _; rw [World.cell?_alloc_past _ _ _ hwla]; exact B1a.cell 13) ?_
          clear hK K
          have hal := (Below.refl w1a.heap.size w1a).alloc (Nat.le_refl _) (.cells #[.slice (some ⟨w1.heap.size, 0, none⟩) 1 1, .slice none 0 0] 67)
          refine orders_one 9 (by kernel_rfl) rfl (by rfl) (fun K hK => ?_)
          refine wp_append_grew (.tmp 64) (.tmp 68) 47 rfl 67 (.agg #[.slice none 0 0, .slice none 0 0]) 2 48 Tryz.underlying47 infoBl rfl (by decide) bl j xs rfl (own_chg (own_chg (unhide HBR) C1a (fun _ _ => id)) (Chg.of_new (X := fun _ => False) hal) (fun _ _ => id)) ⟨w1a.heap.size, 0, none⟩ 1 1 [.slice (some ⟨w1.heap.size, 0, none⟩) 1 1, .slice none 0 0] rfl rfl (news_blk (Blk.new w1a #[.slice (some ⟨w1.heap.size, 0, none⟩) 1 1, .slice none 0 0] 67)) (by intro u hu; simp only [List.mem_cons, List.not_mem_nil, or_false] at hu; rcases hu with rfl | rfl <;> rfl) (by decide) (by omega) (by decide) ?_
          intro g2 c2 w2 hg2
          have C2 : Chg (fun x => bl.ownBlock = some x) wr w2 := ((C1a.mono (fun _ _ h => h.elim)).alloc _).trans hg2.chg (fun k h => Or.inl h)
          have m2 := (unhide HM).chg C2 (fun b hb hx => by
            obtain ⟨cs, t, hk, ht⟩ := (unhide HM).typ b hb
            obtain ⟨cs', hk'⟩ := own_blk (unhide HBR) b hx
            have := (Blk.same hk hk').2
            subst this
            revert ht; unfold dskT; decide) (fun b hb => unhide HBN b hb)
          refine hK.out _ _ (fun _ => m2.blk.cell 13) ?_
          clear hK K
          have q13 : w2.cell? ⟨wb, 13, none⟩ = some bl := m2.blk.cell 13
          have f13 := m2.blk.free 13
          have hS2 : (fun w' : World => w'.cell? ⟨wb, 13, none⟩ = some bl) w2 := q13
          have hw0 := (unhide HM).bel.size
          have HGN : Hid (w.heap.size ≤ g2) := by
            rcases hg2.at' with q | q
            · exact unhide HBN g2 q
            · rw [World.size_alloc] at q
              have := C1a.size
              show _ ≤ _
              omega
          have M2 := hide m2
          have HO2 := hide hg2.own
          clear m2 hg2 C2 C1 C1a B1 B1a hal hb1 hS
          refine orders_one 10 (by kernel_rfl) rfl (by rfl) (fun K hK => ?_)
          go_simp
          refine hK.out _ _ (fun _ => hS2) ?_
          clear hK K
          refine orders_one 11 (by kernel_rfl) rfl (by rfl) (fun K hK => ?_)
          go_simp
          refine hK.out _ _ (fun _ => hS2) ?_
          clear hK K
          refine orders_one 12 (by kernel_rfl) rfl (by rfl) (fun K hK => ?_)
          go_simp
          refine hK.out _ _ (fun h => absurd rfl h) ?_
          clear hK K hS2 q13 f13
          refine orders_end (by kernel_rfl) ?_
          refine NoPanic.normal ?_
          go_wp2
          go_roundw
          case rel =>
            have CS : Chg (fun x => x = wb) w2 (w2.setCell ⟨wb, 13, none⟩ (.slice (some ⟨g2, 0, none⟩) (j + 1) c2)) := Chg.setCell (X := fun x => x = wb) (Chg.refl _ w2) _ _ (Or.inl rfl)
            refine ⟨j + 1, .slice (some ⟨g2, 0, none⟩) (j + 1) c2, _, by omega, by go_num, (unhide M2).put CS ((unhide M2).blk.set 13 _), own_chg (unhide HO2) CS (fun g hg e => ?_), fun g hg => by rw [ob_eq hg]; exact unhide HGN⟩
            subst e
            obtain ⟨c, hc⟩ := own_blk (unhide HO2) _ hg
            exact (by decide : 67 ≠ 56) (Blk.same hc (unhide M2).blk).2
          case measure => simp [intOf]; omega
        · obtain rfl : j = nb := by omega
          have HOP := hide (open_any w wb i S ds bl st kn db F wr hm hD4 hD hS1 hS)
          clear hm hbl hbn
          go_wp2_with fail
          refine (unhide HOP).mono ?_
          rintro e w9 ⟨rfl, vb, tb, hb, hph⟩
          have HPH := hide hph
          clear hph HOP
          go_wp2
          go_ret
          exact ⟨wb, vb, tb, hb, db, rfl, unhide HPH⟩

end Go.Proofs.YtdcinlkkjbclmaaGreat
