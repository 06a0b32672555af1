/- A command that is out is done by its disk. -/
import Derived.Test.YtdcinlkkjbclmaaGreatMLTellLTold
import Derived.Test.YtdcinlkkjbclmaaGreatMLRightLGiven
namespace Go.Proofs.YtdcinlkkjbclmaaGreat
open Go.RowKit

theorem flatT_at : ∀ (L : List Tl) (i : Nat) (c : Tl), L[i]? = some c → ∀ j, j < 6 → (L.flatMap Tl.cells)[i * 6 + j]? = c.cells[j]?
  | [], i, c, h, _, _ => by simp at h
  | x :: r, 0, c, h, j, hj => by
    simp only [List.getElem?_cons_zero, Option.some.injEq] at h
    subst h
    rw [List.flatMap_cons, List.getElem?_append_left (by show 0 * 6 + j < 6; omega), Nat.zero_mul, Nat.zero_add]
  | x :: r, i + 1, c, h, j, hj => by
    simp only [List.getElem?_cons_succ] at h
    rw [List.flatMap_cons, List.getElem?_append_right (by show 6 ≤ (i + 1) * 6 + j; omega), show (i + 1) * 6 + j - x.cells.length = i * 6 + j by show (i + 1) * 6 + j - 6 = _; omega]
    exact flatT_at r i c h j hj
theorem flatT_len (L : List Tl) : (L.flatMap Tl.cells).length = L.length * 6 := by
  induction L with
  | nil => rfl
  | cons x r ih =>
    rw [List.flatMap_cons, List.length_append, ih, List.length_cons]
    show 6 + r.length * 6 = _
    omega
theorem flatT_take (L : List Tl) (k : Nat) (j : Nat) (hj : j < k * 6) : ((L.take k).flatMap Tl.cells)[j]? = if j < L.length * 6 then (L.flatMap Tl.cells)[j]? else none := by
  have e : L.flatMap Tl.cells = (L.take k).flatMap Tl.cells ++ (L.drop k).flatMap Tl.cells := by rw [← List.flatMap_append, List.take_append_drop]
  split
  · rename_i h
    rw [e, List.getElem?_append_left (by rw [flatT_len, List.length_take]; rcases Nat.le_total k L.length with q | q <;> simp [q] <;> omega)]
  · rename_i h
    rw [List.getElem?_eq_none (by rw [flatT_len, List.length_take]; rcases Nat.le_total k L.length with q | q <;> simp [q] <;> omega)]
theorem flatT_drop (L : List Tl) (k j : Nat) (hk : k ≤ L.length) : ((L.drop k).flatMap Tl.cells)[j]? = (L.flatMap Tl.cells)[k * 6 + j]? := by
  have e : L.flatMap Tl.cells = (L.take k).flatMap Tl.cells ++ (L.drop k).flatMap Tl.cells := by rw [← List.flatMap_append, List.take_append_drop]
  have hl : ((L.take k).flatMap Tl.cells).length = k * 6 := by rw [flatT_len, List.length_take, Nat.min_eq_left hk]
  rw [e, List.getElem?_append_right (by omega), hl, Nat.add_sub_cancel_left]
theorem tl_one {w : World} {L : List Tl} (h : ∀ t ∈ L, DataIn w t.c) : ∀ u ∈ L.flatMap Tl.cells, u.oneCell' = true := fun u hu => by
  obtain ⟨t, ht, hu⟩ := List.mem_flatMap.1 hu
  obtain ⟨av, cv, ys, e, _⟩ := data_news (h t ht)
  have hu' : u ∈ [Value.int .i64 t.c.id, .int .i64 t.c.kind, .int .i64 t.c.disk, .int .i64 t.c.sector, t.c.data, .int .i64 t.tm] := hu
  simp only [List.mem_cons, List.not_mem_nil, or_false] at hu'
  rcases hu' with rfl | rfl | rfl | rfl | rfl | rfl
  · rfl
  · rfl
  · rfl
  · rfl
  · rw [e]; rfl
  · rfl
theorem slice_from (ob tl oc k : Nat) (W : World) (h1 : k < tl) (h2 : tl ≤ oc) : (Instr.slice 45 (.slice (some ⟨ob, 0, none⟩) tl oc) (some (.int .i64 ((k : Int) + 1))) none none).run Tryz.prog W = .ok (.slice (if oc = k + 1 then some (⟨ob, 0, none⟩ : Addr) else some ⟨ob, (k + 1) * 6, none⟩) (tl - (k + 1)) (oc - (k + 1))) W := by
  have i1 : (0 : Int) ≤ (k : Int) + 1 := by omega
  have i2 : (k : Int) + 1 ≤ (tl : Int) := by omega
  have i3 : (tl : Int) ≤ (oc : Int) := by omega
  go_simp
/-- what carry has done ahead of the volume's part -/
structure CarryTo (w wm : World) (wb : Nat) (X : LX) (T : List Tl) (k b : Nat) (Fd : Nat → Prop) (N : Nat) (o : Value) (G : Nat → Prop) : Prop where
  blk : Blk wm wb (lwL { X with out := o, time := X.time + 1, done := X.done + 1 }).toArray 56
  row : wm.ownsRow 0 93 6 o (T.eraseIdx k).length ((T.eraseIdx k).flatMap Tl.cells)
  new : ∀ g, o.ownBlock = some g → w.heap.size ≤ g
  dsk : DiskB wm (17 + 2 * X.S) (N + 1) G b
  dnew : ∀ g, G g → Fd g ∨ w.heap.size ≤ g
  chg : Chg (fun x => x = wb ∨ Fd x) w wm

theorem CarryTo.same {w wm wn : World} {wb : Nat} {X : LX} {T : List Tl} {k b : Nat} {Fd : Nat → Prop} {N : Nat} {o : Value} {G : Nat → Prop} (h : CarryTo w wm wb X T k b Fd N o G) (hc : Chg (fun _ => False) wm wn) : CarryTo w wn wb X T k b Fd N o G :=
  ⟨h.blk.chg hc id, own_chg h.row hc (fun _ _ => id), h.new, h.dsk.chg hc (fun _ _ => id), h.dnew, h.chg.trans hc (fun _ h => h.elim)⟩

set_option maxRecDepth 100000 in
set_option maxHeartbeats 16000000 in
theorem carry_walk (wb pb : Nat) (X : LX) (T : List Tl) (k d : Nat) (t : Tl) (db : Nat → Nat) (Fd : Nat → Prop) (N : Nat) (Y : Nat → Prop) (Q1 : World → Value → (Nat → Prop) → World → Prop) (R : World → Prop) (w : World) (hpb : X.pb = pb) (hb : Blk w wb (lwL X).toArray 56) (hD4 : 4 ≤ X.D) (hD : X.D ≤ 8) (hS : X.S ≤ 6) (htime : X.time ≤ 1000) (hdone : X.done ≤ 700) (hT : T.length ≤ 60) (hN : N ≤ 900)
    (hout : w.ownsRow 0 93 6 X.out T.length (T.flatMap Tl.cells)) (hdat : ∀ t ∈ T, DataIn w t.c) (hds : w.ownsRow 0 63 1 X.ds X.D ((List.range X.D).map (fun (i : Nat) => Value.pointer (some ⟨db i, 0, none⟩)))) (hdk : DiskB w (17 + 2 * X.S) N Fd (db d)) (hst : w.ownsRow 0 4 1 X.stale X.D (List.replicate X.D (.bool false)))
    (hk : T[k]? = some t) (hd : d < X.D) (htd : t.c.disk = (d : Int)) (hse : t.c.sector = 0) (hkd : t.c.kind = 2 ∨ t.c.kind = 3) (hY : ∀ x, Y x → x < w.heap.size ∧ x ≠ wb)
    (hD1 : ∀ wm o G, CarryTo w wm wb X T k (db d) Fd N o G → Calls Tryz.prog 18 #[.pointer (some ⟨pb, 0, none⟩), .int .i64 t.c.id, .bool true, .slice none 0 0] wm fun e w2 => e = .returned (.int .i64 0) ∧ Chg Y wm w2 ∧ Q1 wm o G w2)
    (hD2 : ∀ wm o G w2 w3, CarryTo w wm wb X T k (db d) Fd N o G → Chg Y wm w2 → Q1 wm o G w2 → Chg (fun _ => False) w2 w3 → Calls Tryz.prog 18 #[.pointer (some ⟨pb, 0, none⟩), .int .i64 t.c.id, .bool true, .slice none 0 0] w3 fun e w4 => e = .returned (.int .i64 1) ∧ Chg (fun _ => False) w3 w4)
    (hR : ∀ wm o G w2 w5, CarryTo w wm wb X T k (db d) Fd N o G → Chg Y wm w2 → Q1 wm o G w2 → Chg (fun _ => False) w2 w5 → R w5) :
    Calls Tryz.prog 27 #[.pointer (some ⟨wb, 0, none⟩), .int .i64 (k : Int)] w fun e w' => e = .returned (.bool true) ∧ R w' := by
  have hkl : k < T.length := (List.getElem?_eq_some_iff.1 hk).1
  obtain ⟨ob, oc, ocs, hoe, hobk, hoc, hocz, hol, hox⟩ := row_some hout (by omega)
  obtain ⟨sb, sc, scs, hse2, hsbk, _, _, _, hsx⟩ := row_some hds (by omega)
  obtain ⟨av, dl, cv, xs, hcd, hrow, hdl⟩ := data_form (hdat t (List.mem_of_getElem? hk))
  have zz : ∀ j, j < 6 → w.cell? ⟨ob, k * 6 + j, none⟩ = t.cells[j]? := fun j hj => by
    rw [hobk.cell, hox _ (by omega)]
    exact flatT_at T k t hk j hj
  obtain ⟨cid, hid⟩ : ∃ cid, cid = t.c.id := ⟨_, rfl⟩
  obtain ⟨kd, hkde⟩ : ∃ kd, kd = t.c.kind := ⟨_, rfl⟩
  obtain ⟨tm, htm⟩ : ∃ tm, tm = t.tm := ⟨_, rfl⟩
  rw [← hkde] at hkd
  have z0 : w.cell? ⟨ob, k * 6, none⟩ = some (.int .i64 cid) := (zz 0 (by omega)).trans (by rw [hid]; rfl)
  have z1 : w.cell? ⟨ob, k * 6 + 1, none⟩ = some (.int .i64 kd) := (zz 1 (by omega)).trans (by rw [hkde]; rfl)
  have z2 : w.cell? ⟨ob, k * 6 + 2, none⟩ = some (.int .i64 (d : Int)) := (zz 2 (by omega)).trans (by rw [← htd]; rfl)
  have z3 : w.cell? ⟨ob, k * 6 + 3, none⟩ = some (.int .i64 0) := (zz 3 (by omega)).trans (by rw [← hse]; rfl)
  have z4 : w.cell? ⟨ob, k * 6 + 4, none⟩ = some (.slice av dl cv) := (zz 4 (by omega)).trans (by rw [← hcd]; rfl)
  have z5 : w.cell? ⟨ob, k * 6 + 5, none⟩ = some (.int .i64 tm) := (zz 5 (by omega)).trans (by rw [htm]; rfl)
  have c8 : w.cell? ⟨wb, 8, none⟩ = some (.slice (some ⟨ob, 0, none⟩) T.length oc) := (hb.cell 8).trans (by show some X.out = _; rw [hoe])
  have hbl := hb.lt
  have hobl := hobk.lt
  have how : ob ≠ wb := ne_of_type hobk hb (by decide)
  have hb0 := (Below.refl w.heap.size w).alloc (Nat.le_refl _) (.cells #[.int .i64 cid, .int .i64 kd, .int .i64 (d : Int), .int .i64 0, .slice av dl cv, .int .i64 tm] 93)
  have hk0 := Blk.new w #[.int .i64 cid, .int .i64 kd, .int .i64 (d : Int), .int .i64 0, .slice av dl cv, .int .i64 tm] 93
  have hl1 : ((T.take k).flatMap Tl.cells).length = k * 6 := by rw [flatT_len, List.length_take, Nat.min_eq_left (by omega)]
  have HN1 : Hid (∀ j u, ((T.take k).flatMap Tl.cells)[j]? = some u → ∃ ad, some (⟨ob, 0, none⟩ : Addr) = some ad ∧ (w.alloc (.cells #[.int .i64 cid, .int .i64 kd, .int .i64 (d : Int), .int .i64 0, .slice av dl cv, .int .i64 tm] 93)).cell? (ad.add j) = some u) := fun j u hj => by
    have hjl : j < k * 6 := by have := (List.getElem?_eq_some_iff.1 hj).1; omega
    refine ⟨_, rfl, ?_⟩
    rw [flatT_take T k j hjl, if_pos (by omega)] at hj
    rw [Addr.add_mid, Nat.zero_add, World.cell?_alloc_past _ _ _ hobl, hobk.cell, hox j (by omega)]
    exact hj
  have HO1 : Hid (∀ u ∈ (T.take k).flatMap Tl.cells, u.oneCell' = true) := tl_one (w := w) (fun t ht => hdat t (List.take_subset _ _ ht))
  have HO2 : Hid (∀ u ∈ (T.drop (k + 1)).flatMap Tl.cells, u.oneCell' = true) := tl_one (w := w) (fun t ht => hdat t (List.drop_subset _ _ ht))
  have HB := hide hb
  have HB0 := hide hb0
  have HK0 := hide hk0
  have HOB := hide hobk
  have HOX := hide hox
  have HDS := hide hds
  have HDK := hide hdk
  have HST := hide hst
  have HDT := hide (hdat t (List.mem_of_getElem? hk))
  have HD1 := hide hD1
  have HD2 := hide hD2
  have HR := hide hR
  have HY := hide hY
  have HSB := hide hsbk
  have HSX := hide hsx
  have HE : Hid (cid = t.c.id ∧ kd = t.c.kind ∧ t.c.data = .slice av dl cv ∧ X.ds = .slice (some ⟨sb, 0, none⟩) X.D sc ∧ X.pb = pb) := ⟨hid, hkde, hcd, hse2, hpb⟩
  rw [← hid] at HD1 HD2
  have ik0 : (0 : Int) ≤ (k : Int) := by omega
  have ik1 : (k : Int) < (T.length : Int) := by omega
  have iT : (T.length : Int) ≤ 60 := by omega
  have ioc : (T.length : Int) ≤ (oc : Int) := by omega
  have HL2 : Hid (((T.drop (k + 1)).flatMap Tl.cells).length = (T.length - (k + 1)) * 6) := by rw [hide (flatT_len _), List.length_drop]; exact rfl
  clear hb hout hdat hds hdk hst hD1 hD2 hR hY hoe hobk hocz hol hox hsbk hsx hcd hrow zz hid hkde htm hb0 hk0 hk htd hse hse2 hpb
  generalize hTL : T.length = tl at *
  go_enter Tryz.func27, Tryz.ntmps27
  go_wp2_with (at_builtin; refine wpList_append_all rfl (.tmp 24) (.tmp 30) 45 rfl 93 (.agg #[.int .i64 0, .int .i64 0, .int .i64 0, .int .i64 0, .slice none 0 0, .int .i64 0]) 6 64 Tryz.underlying45 infoTl rfl (by decide) (.slice none 0 0) 0 [] rfl (World.ownsRow_nil _ _ _ _) (some ⟨ob, 0, none⟩) k oc ((T.take k).flatMap Tl.cells) rfl hl1 (unhide HN1) (unhide HO1) (by omega) (by decide) ?_)
  intro a1 c1 w2 hap
  try simp only [Nat.zero_add, List.nil_append] at hap
  try simp only [Nat.zero_add]
  have C2 : Chg (fun _ => False) (w.alloc (.cells #[.int .i64 cid, .int .i64 kd, .int .i64 (d : Int), .int .i64 0, .slice av dl cv, .int .i64 tm] 93)) w2 := hap.chg.mono (fun k _ hk => by cases hk)
  have C02 : Chg (fun _ => False) w w2 := (Chg.of_new (unhide HB0)).trans C2 (fun _ h => h.elim)
  have hk2 := (unhide HK0).chg C2 id
  have hb2 := (unhide HB).chg C02 id
  have ho2 := (unhide HOB).chg C02 id
  have hnew2 : ∀ g, (Value.slice a1 k c1).ownBlock = some g → w.heap.size + 1 ≤ g := fun g hg => by
    rcases hap.new g hg with q | q
    · cases q
    · rw [World.size_alloc] at q; omega
  have hown2 := hap.own
  rw [Nat.zero_add] at hown2
  have HNW2 := hide hnew2
  have HAP := hide hown2
  have HC02 := hide C02
  have HK2 := hide hk2
  have HB2 := hide hb2
  have HO2b := hide ho2
  have d8 : w2.cell? ⟨wb, 8, none⟩ = some (.slice (some ⟨ob, 0, none⟩) tl oc) := (hb2.cell 8).trans ((unhide HB).cell 8 ▸ c8)
  clear z0 z1 z2 z3 z4 z5 c8 hap hown2 C2 C02 hk2 hb2 ho2 hnew2 HN1 HO1 hl1
  have hsl : ∀ W : World, (Instr.slice 45 (.slice (some ⟨ob, 0, none⟩) tl oc) (some (.int .i64 ((k : Int) + 1))) none none).run Tryz.prog W = .ok (.slice (if oc = k + 1 then some (⟨ob, 0, none⟩ : Addr) else some ⟨ob, (k + 1) * 6, none⟩) (tl - (k + 1)) (oc - (k + 1))) W := fun W => slice_from ob tl oc k W (by omega) (by omega)
  have HN2 : Hid (∀ j u, ((T.drop (k + 1)).flatMap Tl.cells)[j]? = some u → ∃ ad, (if oc = k + 1 then some (⟨ob, 0, none⟩ : Addr) else some ⟨ob, (k + 1) * 6, none⟩) = some ad ∧ w2.cell? (ad.add j) = some u) := fun j u hj => by
    have hjl : j < (tl - (k + 1)) * 6 := by have := (List.getElem?_eq_some_iff.1 hj).1; have := unhide HL2; omega
    refine ⟨⟨ob, (k + 1) * 6, none⟩, if_neg (by omega), ?_⟩
    rw [flatT_drop T (k + 1) j (by omega)] at hj
    rw [Addr.add_mid, (unhide HO2b).cell, unhide HOX _ (by omega)]
    exact hj
  obtain ⟨sa, hsa⟩ : ∃ sa, sa = (if oc = k + 1 then some (⟨ob, 0, none⟩ : Addr) else some ⟨ob, (k + 1) * 6, none⟩) := ⟨_, rfl⟩
  rw [← hsa] at hsl HN2
  clear hsa
  go_wp2_with (at_builtin; refine wpList_append_all rfl (.tmp 32) (.tmp 39) 45 rfl 93 (.agg #[.int .i64 0, .int .i64 0, .int .i64 0, .int .i64 0, .slice none 0 0, .int .i64 0]) 6 64 Tryz.underlying45 infoTl rfl (by decide) (.slice a1 k c1) k ((T.take k).flatMap Tl.cells) rfl (unhide HAP) sa (tl - (k + 1)) (oc - (k + 1)) ((T.drop (k + 1)).flatMap Tl.cells) rfl (unhide HL2) (unhide HN2) (unhide HO2) (by omega) (by decide) ?_)
  intro a3 c3 w3 hap3
  have hlen3 : k + (tl - (k + 1)) = (T.eraseIdx k).length := by rw [List.length_eraseIdx, if_pos (by omega)]; omega
  have hT3 : (T.take k).flatMap Tl.cells ++ (T.drop (k + 1)).flatMap Tl.cells = (T.eraseIdx k).flatMap Tl.cells := by rw [← List.flatMap_append, List.eraseIdx_eq_take_drop_succ]
  have hrow3 := hap3.own
  rw [hT3] at hrow3
  have hnew3 : ∀ g, (Value.slice a3 (k + (tl - (k + 1))) c3).ownBlock = some g → w.heap.size ≤ g := fun g hg => by
    rcases hap3.new g hg with q | q
    · have := unhide HNW2 g q; omega
    · have := (unhide HC02).size; omega
  have C3 : Chg (fun _ => False) w w3 := (unhide HC02).trans hap3.chg (fun x hx => Or.inr (by have := unhide HNW2 x hx; omega))
  have hk3 : Blk w3 w.heap.size #[.int .i64 cid, .int .i64 kd, .int .i64 (d : Int), .int .i64 0, .slice av dl cv, .int .i64 tm] 93 := by
    refine (unhide HK2).chg hap3.chg (fun hx => ?_)
    have := unhide HNW2 _ hx
    omega
  have hb3 := (unhide HB).chg C3 id
  have HK3 := hide hk3
  have HR3 := hide hrow3
  have HN3 := hide hnew3
  have HC3 := hide C3
  have HLN := hide hlen3
  have e8 : w3.cell? ⟨wb, 8, none⟩ = some (.slice (some ⟨ob, 0, none⟩) tl oc) := by
    rw [← d8, (unhide HB2).cell, hb3.cell]
  have e10 : w3.cell? ⟨wb, 10, none⟩ = some (.int .i64 (X.time : Int)) := hb3.cell 10
  have e22 : w3.cell? ⟨wb, 22, none⟩ = some (.int .i64 (X.done : Int)) := hb3.cell 22
  have q8 := hb3.free 8
  have q10 := hb3.free 10
  have q22 := hb3.free 22
  have it : (X.time : Int) ≤ 1000 := by omega
  have idn : (X.done : Int) ≤ 700 := by omega
  obtain ⟨o, ho⟩ : ∃ o, o = Value.slice a3 (k + (tl - (k + 1))) c3 := ⟨_, rfl⟩
  have HB4 : Hid (Blk (((w3.setCell ⟨wb, 8, none⟩ o).setCell ⟨wb, 10, none⟩ (.int .i64 ((X.time : Int) + 1))).setCell ⟨wb, 22, none⟩ (.int .i64 ((X.done : Int) + 1))) wb (lwL { X with out := o, time := X.time + 1, done := X.done + 1 }).toArray 56) := ((hb3.set 8 o).set 10 (.int .i64 ((X.time : Int) + 1))).set 22 (.int .i64 ((X.done : Int) + 1))
  have HC34 : Hid (Chg (fun x => x = wb) w3 (((w3.setCell ⟨wb, 8, none⟩ o).setCell ⟨wb, 10, none⟩ (.int .i64 ((X.time : Int) + 1))).setCell ⟨wb, 22, none⟩ (.int .i64 ((X.done : Int) + 1)))) := (((Chg.refl (fun x => x = wb) w3).setCell ⟨wb, 8, none⟩ o (Or.inl rfl)).setCell ⟨wb, 10, none⟩ _ (Or.inl rfl)).setCell ⟨wb, 22, none⟩ _ (Or.inl rfl)
  rw [ho] at HB4 HC34
  rw [ho] at ho
  clear ho
  clear hsl
  clear hap3 hrow3 hnew3 C3 hk3 hb3 hlen3 hT3 HAP HN2 HO2 HL2 d8 HB2 HO2b HOX HK2
  go_wp2_with fail
  generalize ((w3.setCell ⟨wb, 8, none⟩ (.slice a3 (k + (tl - (k + 1))) c3)).setCell ⟨wb, 10, none⟩ (.int .i64 ((X.time : Int) + 1))).setCell ⟨wb, 22, none⟩ (.int .i64 ((X.done : Int) + 1)) = w4 at *
  generalize ho : Value.slice a3 (k + (tl - (k + 1))) c3 = o at *
  have hb4 := unhide HB4
  have g22 : w4.cell? ⟨wb, 22, none⟩ = some (.int .i64 ((X.done : Int) + 1)) := hb4.cell 22
  have C4 : Chg (fun x => x = wb) w w4 := ((unhide HC3).mono (fun _ _ h => h.elim)).trans (unhide HC34) (fun x h => Or.inl h)
  have nW : ∀ g cs t', Blk w g cs t' → t' ≠ 56 → ¬ g = wb := fun g cs t' hb' ht' e => by
    subst e
    exact ht' (Blk.same hb' (unhide HB)).2
  have nWR : ∀ (t' : TypeId) (m : Nat) (v : Value) (l : Nat) (xs : List Value), w.ownsRow 0 t' m v l xs → t' ≠ 56 → ∀ g, v.ownBlock = some g → ¬ g = wb := fun t' m v l xs ho' ht' g hg => by
    obtain ⟨c, hc⟩ := own_blk ho' g hg
    exact nW g c t' hc ht'
  have st4 := own_chg (unhide HST) C4 (nWR _ _ _ _ _ (unhide HST) (by decide))
  have HBN : Hid (∀ n, Calls Tryz.prog 50 #[.pointer (some ⟨wb, 0, none⟩)] (w4.drewN n) fun e w' => e = .returned (.int .i64 800) ∧ w' = w4.drewN n) := fun n => bound_any wb { X with out := o, time := X.time + 1, done := X.done + 1 } (w4.drewN n) (hb4.chg (X := fun _ => False) ((Chg.refl _ _).drewN n) (fun h => h)) (own_chg st4 (X := fun _ => False) ((Chg.refl _ _).drewN n) (fun _ _ h => h)) hD4 hD
  have hlate : decide ((800 : Int) < (X.done : Int) + 1) = false := by simp; omega
  have hlate2 : ¬ (800 : Int) < (X.done : Int) + 1 := by omega
  clear e8 e10 e22 q8 q10 q22
  have HTV : Hid (Blk w4 w.heap.size #[.int .i64 cid, .int .i64 kd, .int .i64 (d : Int), .int .i64 0, .slice av dl cv, .int .i64 tm] 93) := (unhide HK3).chg (unhide HC34) (by omega)
  have HSB4 := hide ((unhide HSB).chg C4 (nW _ _ _ (unhide HSB) (by decide)))
  have hdk4 := (unhide HDK).chg C4 (fun g hg e => by
    subst e
    obtain ⟨c, t', hc, ht'⟩ := (unhide HDK).typ g hg
    have := (Blk.same hc (unhide HB)).2
    subst this
    revert ht'; unfold dskT; decide)
  have HDK4 := hide hdk4
  have HDT4 := hide (data_chg (unhide HDT) C4 (fun b hb' e => by
    obtain ⟨xs', ho', _⟩ := (show DataIn w t.c from unhide HDT)
    obtain ⟨cs', hc'⟩ := own_blk ho' b ((data_ob (unhide HDT) b).2 hb')
    exact nW b cs' _ hc' (by decide) e))
  have HR4 := hide (own_chg (unhide HR3) (unhide HC34) (fun g hg e => by have := unhide HN3 g hg; omega))
  have HC4 := hide C4
  clear hb4 C4 nW nWR st4 hdk4 HC34 HK3 HR3 HC3 HDS HST HSB HDT
  go_quiet ((go_at_call 50; exact Calls.quiet_of_same (unhide HBN _)))
  have HX5 : Hid (Chg (fun _ => False) w4 (w4.drewN nq)) := (Chg.refl _ _).drewN nq
  generalize w4.drewN nq = w5 at *
  clear HBN g22
  have g7 : w5.cell? ⟨wb, 7, none⟩ = some (.slice (some ⟨sb, 0, none⟩) X.D sc) := (((unhide HB4).chg (unhide HX5) (fun h => h)).cell 7).trans (by show some X.ds = _; rw [(unhide HE).2.2.2.1])
  have t2 : w5.cell? ⟨w.heap.size, 2, none⟩ = some (.int .i64 (d : Int)) := ((unhide HTV).chg (unhide HX5) (fun h => h)).cell 2
  have s5 : w5.cell? ⟨sb, d, none⟩ = some (.pointer (some ⟨db d, 0, none⟩)) := by
    rw [((unhide HSB4).chg (unhide HX5) (fun h => h)).cell d, unhide HSX d (by omega)]
    simp [hd]
  have id0 : (0 : Int) ≤ (d : Int) := by omega
  have id1 : (d : Int) < (X.D : Int) := by omega
  go_wp2_with fail
  go_quiet (fail)
  have HX6 : Hid (Chg (fun _ => False) w4 (w5.drewN nq)) := (unhide HX5).drewN nq
  generalize w5.drewN nq = w6 at *
  clear g7 t2 s5 HX5
  have hs4 := (unhide HC4).size
  have hs6 := (unhide HX6).size
  have t1 : w6.cell? ⟨w.heap.size, 1, none⟩ = some (.int .i64 kd) := ((unhide HTV).chg (unhide HX6) (fun h => h)).cell 1
  have f0 : w6.cell? ⟨db d, 0, none⟩ = some (.bool false) := by
    obtain ⟨sv, mv, vv, ss, V, hat, _, _⟩ := (unhide HDK4).chg (unhide HX6) (fun _ _ h => h)
    exact hat.blk.cell 0
  have nF : ∀ g cs t', Blk w4 g cs t' → ¬ dskT t' → ¬ Fd g := fun g cs t' hb' ht' hf => by
    obtain ⟨c, t2, hc, ht2⟩ := (unhide HDK4).typ g hf
    exact ht' ((Blk.same hb' hc).2 ▸ ht2)
  have HNF := hide nF
  have MK : ∀ w7 G, DiskB w7 (17 + 2 * X.S) (N + 1) G (db d) → Chg Fd w6 w7 → (∀ b, G b → Fd b ∨ w6.heap.size ≤ b) → CarryTo w w7 wb X T k (db d) Fd N o G ∧ Blk w7 w.heap.size #[.int .i64 cid, .int .i64 kd, .int .i64 (d : Int), .int .i64 0, .slice av dl cv, .int .i64 tm] 93 := fun w7 G hG cG nG => by
    have C47 : Chg Fd w4 w7 := ((unhide HX6).mono (fun _ _ h => h.elim)).trans cG (fun x h => Or.inl h)
    refine ⟨⟨(unhide HB4).chg C47 (nF _ _ _ (unhide HB4) (by unfold dskT; decide)), ?_, unhide HN3, hG, fun g hg => ?_, ((unhide HC4).mono (fun _ _ h => Or.inl h)).trans C47 (fun x h => Or.inl (Or.inr h))⟩, (unhide HTV).chg C47 (nF _ _ _ (unhide HTV) (by unfold dskT; decide))⟩
    · rw [← unhide HLN]
      refine own_chg (unhide HR4) C47 (fun g hg => ?_)
      obtain ⟨c, hc⟩ := own_blk (unhide HR4) g hg
      exact nF g c _ hc (by unfold dskT; decide)
    · rcases nG g hg with q | q
      · exact Or.inl q
      · exact Or.inr (by omega)
  have HMK := hide MK
  have hn : 0 < 17 + 2 * X.S := by omega
  have hn2 : 17 + 2 * X.S ≤ 100 := by omega
  clear nF MK
  rcases hkd with hkd | hkd
  · have HPUT : Hid (Calls Tryz.prog 52 #[.pointer (some ⟨db d, 0, none⟩), .int .i64 0, .slice av dl cv, .int .i64 ((X.time : Int) + 1)] w6.drew fun e w' => e = .returned (.tuple #[]) ∧ ∃ G, DiskB w' (17 + 2 * X.S) (N + 1) G (db d) ∧ Chg Fd w6.drew w' ∧ ∀ b, G b → Fd b ∨ w6.drew.heap.size ≤ b) := by
      have h1 := put_any (db d) (17 + 2 * X.S) N Fd t.c ((X.time : Int) + 1) w6.drew (((unhide HDK4).chg (unhide HX6) (fun _ _ h => h)).chg (X := fun _ => False) (Chg.refl _ _).drew (fun _ _ h => h)) hn (by omega) (data_chg (data_chg (unhide HDT4) (unhide HX6) (fun _ _ h => h)) (X := fun _ => False) (Chg.refl _ _).drew (fun _ _ h => h))
      rw [(unhide HE).2.2.1] at h1
      exact h1
    have t3 : w6.cell? ⟨w.heap.size, 3, none⟩ = some (.int .i64 0) := ((unhide HTV).chg (unhide HX6) (fun h => h)).cell 3
    have t4 : w6.cell? ⟨w.heap.size, 4, none⟩ = some (.slice av dl cv) := ((unhide HTV).chg (unhide HX6) (fun h => h)).cell 4
    have g10 : w6.cell? ⟨wb, 10, none⟩ = some (.int .i64 ((X.time : Int) + 1)) := ((unhide HB4).chg (unhide HX6) (fun h => h)).cell 10
    go_wp2_with fail
    refine region_tail 11 (by kernel_rfl) (by kernel_rfl) ?_
    rintro wd hwd
    obtain rfl := hwd
    simp only [List.take_succ_cons, List.take_zero, List.drop_succ_cons, List.drop_zero]
    have y3 : w6.drew.cell? ⟨w.heap.size, 3, none⟩ = some (.int .i64 0) := t3
    have y4 : w6.drew.cell? ⟨w.heap.size, 4, none⟩ = some (.slice av dl cv) := t4
    have y10 : w6.drew.cell? ⟨wb, 10, none⟩ = some (.int .i64 ((X.time : Int) + 1)) := g10
    repeat (refine wpStill_step (fun K hK => ?_); go_simp; (try go_ints); refine hK _ ?_; clear hK K)
    refine wpStill_nil ?_
    go_wp2_with fail
    refine (unhide HPUT).mono ?_
    rintro e w7 ⟨rfl, G, hG, cG, nG⟩
    obtain ⟨ct, tv⟩ := unhide HMK w7 G hG ⟨cG.os, cG.tape, cG.output, cG.size, cG.block⟩ nG
    have HCT := hide ct
    have HTV7 := hide tv
    have hs7 := ct.chg.size
    clear y3 y4 y10 t3 t4 g10 hG cG nG ct tv t1 f0 HPUT HMK HNF HDK4 HDT4 HR4 HC4 HX6 HB4 HTV HSB4 HSX
    have hl8 : (w7.alloc (.cells #[.slice none 0 0] 36)).cell? ⟨w7.heap.size, 0, none⟩ = some (.slice none 0 0) := (Blk.new w7 #[.slice none 0 0] 36).cell 0
    have HGN := hide (given_nil w7.heap.size _ hl8)
    have C78 : Chg (fun _ => False) w7 (w7.alloc (.cells #[.slice none 0 0] 36)) := (Chg.refl _ _).alloc _
    have HC78 := hide C78
    have HS8 : Hid ((w7.alloc (.cells #[.slice none 0 0] 36)).heap.size = w7.heap.size + 1) := by show _ = _; simp
    clear C78 hl8
    go_wp2_with fail
    refine (unhide HGN).mono ?_
    rintro e w9 ⟨G9, rfl, hgv, hbel⟩
    rw [unhide HS8] at hgv hbel
    have C79 : Chg (fun _ => False) w7 w9 := (unhide HC78).trans (Chg.of_new (X := fun _ => False) (by rw [unhide HS8]; exact hbel)) (fun _ h => h.elim)
    have ct9 := (unhide HCT).same C79
    have tv9 := (unhide HTV7).chg C79 (fun h => h)
    have HGV := hide hgv
    have HCT9 := hide (ct9.same (Chg.refl _ w9).drew)
    have HTV9 := hide tv9
    have g6 : w9.cell? ⟨wb, 6, none⟩ = some (.pointer (some ⟨pb, 0, none⟩)) := (ct9.blk.cell 6).trans (by show some (Value.pointer (some ⟨X.pb, 0, none⟩)) = _; rw [(unhide HE).2.2.2.2])
    have t0 : w9.cell? ⟨w.heap.size, 0, none⟩ = some (.int .i64 cid) := tv9.cell 0
    have t1 : w9.cell? ⟨w.heap.size, 1, none⟩ = some (.int .i64 kd) := tv9.cell 1
    have q0 : w9.cell? ⟨G9, 0, none⟩ = some (.slice none 0 0) := by
      obtain ⟨_, cs, h1, _, h3, _⟩ := hgv
      exact (h1.cell 0).trans h3
    have hs9 := C79.size
    clear hgv hbel C79 ct9 tv9 HGN HCT HTV7 HC78
    go_wp2_with fail
    refine region_tail 10 (by kernel_rfl) (by kernel_rfl) ?_
    rintro wd hwd
    obtain rfl := hwd
    simp only [List.take_succ_cons, List.take_zero, List.drop_succ_cons, List.drop_zero]
    have y6 : w9.drew.cell? ⟨wb, 6, none⟩ = some (.pointer (some ⟨pb, 0, none⟩)) := g6
    have y0 : w9.drew.cell? ⟨w.heap.size, 0, none⟩ = some (.int .i64 cid) := t0
    have yq : w9.drew.cell? ⟨G9, 0, none⟩ = some (.slice none 0 0) := q0
    repeat (refine wpStill_step (fun K hK => ?_); go_simp; (try go_ints); refine hK _ ?_; clear hK K)
    refine wpStill_nil ?_
    go_wp2_with fail
    refine (unhide HD1 w9.drew o G (unhide HCT9)).mono ?_
    rintro e wa ⟨rfl, cY, q1⟩
    have hsa : w9.heap.size ≤ wa.heap.size := cY.size
    have nY : ∀ x, w.heap.size ≤ x → ¬ Y x := fun x hx hy => by have := (unhide HY x hy).1; omega
    have a6 : wa.cell? ⟨wb, 6, none⟩ = some (.pointer (some ⟨pb, 0, none⟩)) := (((unhide HCT9).blk.chg cY (fun h => (unhide HY wb h).2 rfl)).cell 6).trans (by show some (Value.pointer (some ⟨X.pb, 0, none⟩)) = _; rw [(unhide HE).2.2.2.2])
    have a0 : wa.cell? ⟨w.heap.size, 0, none⟩ = some (.int .i64 cid) := ((unhide HTV9).drew.chg cY (nY _ (Nat.le_refl _))).cell 0
    have HGVa := hide (((unhide HGV).chg (X := fun _ => False) (Chg.refl _ _).drew (fun _ _ _ h => h)).chg cY (fun b hb' _ => nY b (by omega)))
    have HCY := hide cY
    have HQ1 := hide q1
    clear cY q1 nY y6 y0 yq g6 t0 t1 q0 HGV HTV9
    go_wp2_with fail
    refine region_tail 8 (by kernel_rfl) (by kernel_rfl) ?_
    rintro wd hwd
    obtain rfl := hwd
    simp only [List.take_succ_cons, List.take_zero, List.drop_succ_cons, List.drop_zero]
    have y6 : wa.drew.cell? ⟨wb, 6, none⟩ = some (.pointer (some ⟨pb, 0, none⟩)) := a6
    have y0 : wa.drew.cell? ⟨w.heap.size, 0, none⟩ = some (.int .i64 cid) := a0
    repeat (refine wpStill_step (fun K hK => ?_); go_simp; (try go_ints); refine hK _ ?_; clear hK K)
    refine wpStill_nil ?_
    go_wp2_with fail
    refine (unhide HD2 w9.drew o G wa wa.drew (unhide HCT9) (unhide HCY) (unhide HQ1) (Chg.refl _ _).drew).mono ?_
    rintro e wc ⟨rfl, cF⟩
    have cac : Chg (fun _ => False) wa wc := ⟨cF.os, cF.tape, cF.output, cF.size, cF.block⟩
    have hl9 : (wc.alloc (.cells #[.slice none 0 0] 36)).cell? ⟨wc.heap.size, 0, none⟩ = some (.slice none 0 0) := (Blk.new wc #[.slice none 0 0] 36).cell 0
    have HCL := hide (clean_nil G9 wc.heap.size (w7.heap.size + 1) _ (((unhide HGVa).chg cac (fun _ _ _ h => h)).chg (X := fun _ => False) ((Chg.refl _ wc).alloc (.cells #[.slice none 0 0] 36)) (fun _ _ _ h => h)) hl9)
    have HCAC := hide cac
    clear cF cac hl9 y6 y0 a6 a0 HGVa
    go_wp2_with fail
    refine (unhide HCL).mono ?_
    rintro e wf ⟨rfl, cf⟩
    have HCF : Hid (Chg (fun _ => False) wa wf) := ((unhide HCAC).alloc _).trans cf (fun _ h => h.elim)
    clear cf HCL
    go_wp2
    go_ret
    exact ⟨rfl, unhide HR w9.drew o G wa wf (unhide HCT9) (unhide HCY) (unhide HQ1) (unhide HCF)⟩
  · have HSEC := hide (secure_any (db d) (17 + 2 * X.S) N Fd tm w6 ((unhide HDK4).chg (unhide HX6) (fun _ _ h => h)) hn hn2 (by omega))
    have t5 : w6.cell? ⟨w.heap.size, 5, none⟩ = some (.int .i64 tm) := ((unhide HTV).chg (unhide HX6) (fun h => h)).cell 5
    go_wp2_with fail
    refine (unhide HSEC).mono ?_
    rintro e w7 ⟨rfl, G, hG, cG, nG⟩
    obtain ⟨ct, tv⟩ := unhide HMK w7 G (hG.mono (by omega)) cG nG
    have HCT := hide ct
    have HTV7 := hide tv
    have hs7 := ct.chg.size
    clear t5 hG cG nG ct tv t1 f0 HSEC HMK HNF HDK4 HDT4 HR4 HC4 HX6 HB4 HTV HSB4 HSX
    have hl8 : (w7.alloc (.cells #[.slice none 0 0] 36)).cell? ⟨w7.heap.size, 0, none⟩ = some (.slice none 0 0) := (Blk.new w7 #[.slice none 0 0] 36).cell 0
    have HGN := hide (given_nil w7.heap.size _ hl8)
    have C78 : Chg (fun _ => False) w7 (w7.alloc (.cells #[.slice none 0 0] 36)) := (Chg.refl _ _).alloc _
    have HC78 := hide C78
    have HS8 : Hid ((w7.alloc (.cells #[.slice none 0 0] 36)).heap.size = w7.heap.size + 1) := by show _ = _; simp
    clear C78 hl8
    go_wp2_with fail
    refine (unhide HGN).mono ?_
    rintro e w9 ⟨G9, rfl, hgv, hbel⟩
    rw [unhide HS8] at hgv hbel
    have C79 : Chg (fun _ => False) w7 w9 := (unhide HC78).trans (Chg.of_new (X := fun _ => False) (by rw [unhide HS8]; exact hbel)) (fun _ h => h.elim)
    have ct9 := (unhide HCT).same C79
    have tv9 := (unhide HTV7).chg C79 (fun h => h)
    have HGV := hide hgv
    have HCT9 := hide (ct9.same (Chg.refl _ w9).drew)
    have HTV9 := hide tv9
    have g6 : w9.cell? ⟨wb, 6, none⟩ = some (.pointer (some ⟨pb, 0, none⟩)) := (ct9.blk.cell 6).trans (by show some (Value.pointer (some ⟨X.pb, 0, none⟩)) = _; rw [(unhide HE).2.2.2.2])
    have t0 : w9.cell? ⟨w.heap.size, 0, none⟩ = some (.int .i64 cid) := tv9.cell 0
    have t1 : w9.cell? ⟨w.heap.size, 1, none⟩ = some (.int .i64 kd) := tv9.cell 1
    have q0 : w9.cell? ⟨G9, 0, none⟩ = some (.slice none 0 0) := by
      obtain ⟨_, cs, h1, _, h3, _⟩ := hgv
      exact (h1.cell 0).trans h3
    have hs9 := C79.size
    clear hgv hbel C79 ct9 tv9 HGN HCT HTV7 HC78
    go_wp2_with fail
    refine region_tail 10 (by kernel_rfl) (by kernel_rfl) ?_
    rintro wd hwd
    obtain rfl := hwd
    simp only [List.take_succ_cons, List.take_zero, List.drop_succ_cons, List.drop_zero]
    have y6 : w9.drew.cell? ⟨wb, 6, none⟩ = some (.pointer (some ⟨pb, 0, none⟩)) := g6
    have y0 : w9.drew.cell? ⟨w.heap.size, 0, none⟩ = some (.int .i64 cid) := t0
    have yq : w9.drew.cell? ⟨G9, 0, none⟩ = some (.slice none 0 0) := q0
    repeat (refine wpStill_step (fun K hK => ?_); go_simp; (try go_ints); refine hK _ ?_; clear hK K)
    refine wpStill_nil ?_
    go_wp2_with fail
    refine (unhide HD1 w9.drew o G (unhide HCT9)).mono ?_
    rintro e wa ⟨rfl, cY, q1⟩
    have hsa : w9.heap.size ≤ wa.heap.size := cY.size
    have nY : ∀ x, w.heap.size ≤ x → ¬ Y x := fun x hx hy => by have := (unhide HY x hy).1; omega
    have a6 : wa.cell? ⟨wb, 6, none⟩ = some (.pointer (some ⟨pb, 0, none⟩)) := (((unhide HCT9).blk.chg cY (fun h => (unhide HY wb h).2 rfl)).cell 6).trans (by show some (Value.pointer (some ⟨X.pb, 0, none⟩)) = _; rw [(unhide HE).2.2.2.2])
    have a0 : wa.cell? ⟨w.heap.size, 0, none⟩ = some (.int .i64 cid) := ((unhide HTV9).drew.chg cY (nY _ (Nat.le_refl _))).cell 0
    have HGVa := hide (((unhide HGV).chg (X := fun _ => False) (Chg.refl _ _).drew (fun _ _ _ h => h)).chg cY (fun b hb' _ => nY b (by omega)))
    have HCY := hide cY
    have HQ1 := hide q1
    clear cY q1 nY y6 y0 yq g6 t0 t1 q0 HGV HTV9
    go_wp2_with fail
    refine region_tail 8 (by kernel_rfl) (by kernel_rfl) ?_
    rintro wd hwd
    obtain rfl := hwd
    simp only [List.take_succ_cons, List.take_zero, List.drop_succ_cons, List.drop_zero]
    have y6 : wa.drew.cell? ⟨wb, 6, none⟩ = some (.pointer (some ⟨pb, 0, none⟩)) := a6
    have y0 : wa.drew.cell? ⟨w.heap.size, 0, none⟩ = some (.int .i64 cid) := a0
    repeat (refine wpStill_step (fun K hK => ?_); go_simp; (try go_ints); refine hK _ ?_; clear hK K)
    refine wpStill_nil ?_
    go_wp2_with fail
    refine (unhide HD2 w9.drew o G wa wa.drew (unhide HCT9) (unhide HCY) (unhide HQ1) (Chg.refl _ _).drew).mono ?_
    rintro e wc ⟨rfl, cF⟩
    have cac : Chg (fun _ => False) wa wc := ⟨cF.os, cF.tape, cF.output, cF.size, cF.block⟩
    have hl9 : (wc.alloc (.cells #[.slice none 0 0] 36)).cell? ⟨wc.heap.size, 0, none⟩ = some (.slice none 0 0) := (Blk.new wc #[.slice none 0 0] 36).cell 0
    have HCL := hide (clean_nil G9 wc.heap.size (w7.heap.size + 1) _ (((unhide HGVa).chg cac (fun _ _ _ h => h)).chg (X := fun _ => False) ((Chg.refl _ wc).alloc (.cells #[.slice none 0 0] 36)) (fun _ _ _ h => h)) hl9)
    have HCAC := hide cac
    clear cF cac hl9 y6 y0 a6 a0 HGVa
    go_wp2_with fail
    refine (unhide HCL).mono ?_
    rintro e wf ⟨rfl, cf⟩
    have HCF : Hid (Chg (fun _ => False) wa wf) := ((unhide HCAC).alloc _).trans cf (fun _ h => h.elim)
    clear cf HCL
    go_wp2
    go_ret
    exact ⟨rfl, unhide HR w9.drew o G wa wf (unhide HCT9) (unhide HCY) (unhide HQ1) (unhide HCF)⟩

end Go.Proofs.YtdcinlkkjbclmaaGreat
