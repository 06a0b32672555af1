/- A command is done by the disks. -/
import Derived.Test.YtdcinlkkjbclmabGreatRKp
import Derived.IntWalk
namespace Go.Proofs.YtdcinlkkjbclmabGreat
open Go.RowKit

/-- what the disks do changes nothing but the rig and its rows -/
def Mid (O : List Nat) (w w1 : World) : Prop := Chg (fun b => b ∉ O ∧ ∃ cs t, Blk w b cs t ∧ (t = 32 ∨ t = 35)) w w1
/-- the rig's own block and lists of commands stay as they are -/
def Kept (O : List Nat) (w w' : World) : Prop := ∀ b cs t, b ∉ O → Blk w b cs t → (t = 32 ∨ t = 64) → Blk w' b cs t
theorem Kept.chg {X : Nat → Prop} {O : List Nat} {w w' : World} (hc : Chg X w w') (hx : ∀ b cs t, b ∉ O → Blk w b cs t → (t = 32 ∨ t = 64) → ¬ X b) : Kept O w w' := fun b cs t ho hb ht => hb.chg hc (hx b cs t ho hb ht)
/-- what a disk hands back -/
def Back (w : World) (O : List Nat) (gone : Bool) (kd : Int) (dv : Value) : Prop := (gone = false ∧ kd = 1 ∧ Sec w O dv) ∨ ((gone = true ∨ kd ≠ 1) ∧ dv = .slice none 0 0)

theorem Tryz.infoB : (Tryz.prog.info? 5).map (fun i => (i.zero, i.size, i.bytes)) = some (some (.int .u8 0), 1, 1) := by kernel_rfl
/-- one command more was done -/
theorem Rig.counted {w w1 : World} {gb D S pb vb : Nat} {O : List Nat} {L : Nat → Bool} {N dnn : Nat} {ss gs : Value} (hr : Rig w gb D S pb vb O L N) (hgb : Blk w gb #[.int .i64 (D : Int), .int .i64 (S : Int), .pointer (some ⟨pb, 0, none⟩), ss, gs, .int .i64 (dnn : Int)] 32) (hdk : Dsks w O D (17 + 2 * S) ss) (hgo : Gone w O D L gs) (hdn : dnn ≤ N) (hm : Chg (fun _ => False) w w1) :
    Rig (w1.setCell ⟨gb, 5, none⟩ (.int .i64 ((dnn : Int) + 1))) gb D S pb vb O L (N + 1) := by
  have hch : Chg (fun b => b = gb) w (w1.setCell ⟨gb, 5, none⟩ (.int .i64 ((dnn : Int) + 1))) := Chg.setCell (X := fun b => b = gb) (hm.mono (fun _ _ h => h.elim)) ⟨gb, 5, none⟩ _ (Or.inl rfl)
  have hnt : ∀ b cs t, Blk w b cs t → diskT t → b ∉ O → ¬ (b = gb) := fun b cs t hb ht _ e => by
    subst e
    have := (Blk.same hb hgb).2
    subst this
    revert ht; unfold diskT; decide
  refine ⟨hr.dsk, hr.str, ⟨ss, gs, dnn + 1, by omega, ?_, hdk.chg hch hnt (fun _ _ h => h), hgo.chg hch hnt (fun _ _ h => h)⟩, hr.gno, hr.pno, hr.vol.chg hch (fun e => ?_)⟩
  · have h1 := (hgb.chg hm id).set 5 (.int .i64 ((dnn : Int) + 1))
    have e : (#[Value.int .i64 (D : Int), .int .i64 (S : Int), .pointer (some ⟨pb, 0, none⟩), ss, gs, .int .i64 (dnn : Int)] : Array Value).setIfInBounds 5 (.int .i64 ((dnn : Int) + 1)) = #[.int .i64 (D : Int), .int .i64 (S : Int), .pointer (some ⟨pb, 0, none⟩), ss, gs, .int .i64 ((dnn + 1 : Nat) : Int)] := by simp
    rw [e] at h1
    exact h1
  · subst e
    have := (Blk.same hr.vol hgb).2
    revert this; decide

/-- a sector is written -/
theorem Rig.put {w : World} {gb D S pb vb : Nat} {O : List Nat} {L : Nat → Bool} {N : Nat} {ib i : Nat} {cs : Array Value} {u : Value} (hr : Rig w gb D S pb vb O L N) (hb : Blk w ib cs 35) (hu : Sec w O u) : Rig (w.setCell ⟨ib, i, none⟩ u) gb D S pb vb O L N := by
  obtain ⟨ss, gs, dnn, h1, h2, h3, h4⟩ := hr.own
  have hne : ∀ b cs' t, Blk w b cs' t → t ≠ 35 → b ≠ ib := fun b cs' t hb' ht e => by
    subst e
    exact ht (Blk.same hb' hb).2
  refine ⟨hr.dsk, hr.str, ⟨ss, gs, dnn, h1, h2.other _ _ (hne _ _ _ h2 (by decide)), h3.put hb hu, ?_⟩, hr.gno, hr.pno, hr.vol.other _ _ (hne _ _ _ hr.vol (by decide))⟩
  obtain ⟨b, c, bs, rfl, q1, q2, q3⟩ := h4
  exact ⟨b, c, bs, rfl, q1, q2.other _ _ (hne _ _ _ q2 (by decide)), q3⟩

set_option maxRecDepth 100000 in
set_option maxHeartbeats 8000000 in
theorem carry_any (gb D S pb vb : Nat) (O : List Nat) (L : Nat → Bool) (N : Nat) (n kd : Int) (d se : Nat) (da : Option Addr) (dn dc : Nat) (R : World → Prop) (w : World) (hr : Rig w gb D S pb vb O L N) (hN : N ≤ 100000) (hlt : ∀ b ∈ O, b < w.heap.size) (hd : d < D) (hse : se < 17 + 2 * S) (hwd : L d = false → kd = 2 → ∃ g cc cs, (da = some ⟨g, 0, none⟩ ∧ dn = 8 ∧ dc = cc) ∧ Blk w g cs 5 ∧ Bytes cs 8)
    (hdone : ∀ w1 dv, Mid O w w1 → Rig w1 gb D S pb vb O L (N + 1) → Back w1 O (L d) kd dv → Calls Tryz.prog 38 #[.pointer (some ⟨pb, 0, none⟩), .int .i64 n, .bool (!L d), dv] w1 fun e w' => e = .returned (.int .i64 0) ∧ R w' ∧ Kept O w1 w') :
    Calls Tryz.prog 25 #[.pointer (some ⟨gb, 0, none⟩), .agg #[.int .i64 n, .int .i64 kd, .int .i64 (d : Int), .int .i64 (se : Int), .slice da dn dc]] w fun e w' => e = .returned (.bool true) ∧ R w' := by
  obtain ⟨ss, gs, dnn, hdn, hgb, hdk, hgo⟩ := hr.own
  have HDK := hide hdk
  have HGO := hide hgo
  have HGB := hide hgb
  obtain ⟨ob, oc, ocs, rfl, hob1, hob2, hob3⟩ := hgo
  have hgl := hgb.lt
  have hb0 := (Below.refl w.heap.size w).alloc (Nat.le_refl _) (.cells #[.int .i64 n, .int .i64 kd, .int .i64 (d : Int), .int .i64 (se : Int), .slice da dn dc] 64)
  have hk0 := Blk.new w #[.int .i64 n, .int .i64 kd, .int .i64 (d : Int), .int .i64 (se : Int), .slice da dn dc] 64
  have hg0 := hgb.below hb0 hgl
  have ho0 := hob2.below hb0 hob2.lt
  have hs0 : (w.alloc (.cells #[.int .i64 n, .int .i64 kd, .int .i64 (d : Int), .int .i64 (se : Int), .slice da dn dc] 64)).heap.size = w.heap.size + 1 := by simp
  have HR := hide hr
  have HD := hide hdone
  have HB0 := hide hb0
  have HK0 := hide hk0
  have HG0 := hide hg0
  have HO0 := hide ho0
  have HS0 := hide hs0
  have HOB := hide (hob3 d hd)
  have HLT := hide hlt
  have hwo : w.heap.size ∉ O := fun ho => by have := hlt _ ho; omega
  have e1 : decide ((d : Int) < 0) = false := by simp
  have e2 : decide ((D : Int) ≤ (d : Int)) = false := by simp; omega
  have e3 : decide ((se : Int) < 0) = false := by simp
  have e4 : decide (17 + 2 * (S : Int) ≤ (se : Int)) = false := by simp; omega
  have e5 : decide (D ≤ d) = false := by simp; omega
  have iS : (S : Int) ≤ 6 := by have := hr.str.2; omega
  have iS0 : (0 : Int) ≤ (S : Int) := by omega
  have hw1 : IntKind.i64.wrap (2 * (S : Int)) = 2 * (S : Int) := Go.IntWalk.i64_in _ (by omega)
  have hw2 : IntKind.i64.wrap (17 + 2 * (S : Int)) = 17 + 2 * (S : Int) := Go.IntWalk.i64_in _ (by omega)
  have id0 : (0 : Int) ≤ (d : Int) := by omega
  have id1 : (d : Int) < (D : Int) := by omega
  have inn : (dnn : Int) ≤ 100000 := by omega
  have inn0 : (0 : Int) ≤ (dnn : Int) := by omega
  have hgw : gb ≠ w.heap.size := by omega
  clear hr hdone hgb hdk hob2 hob3 hb0 hk0 hg0 ho0 hs0 hlt
  go_enter Tryz.func25, Tryz.ntmps25
  go_wp2_with fail
  generalize w.alloc (.cells #[.int .i64 n, .int .i64 kd, .int .i64 (d : Int), .int .i64 (se : Int), .slice da dn dc] 64) = w0 at *
  have hs0 := unhide HS0
  have l2 : w0.cell? ⟨w.heap.size, 2, none⟩ = some (.int .i64 (d : Int)) := (unhide HK0).cell 2
  have l3 : w0.cell? ⟨w.heap.size, 3, none⟩ = some (.int .i64 (se : Int)) := (unhide HK0).cell 3
  have g0 : w0.cell? ⟨gb, 0, none⟩ = some (.int .i64 (D : Int)) := (unhide HG0).cell 0
  have g1 : w0.cell? ⟨gb, 1, none⟩ = some (.int .i64 (S : Int)) := (unhide HG0).cell 1
  have g5 : w0.cell? ⟨gb, 5, none⟩ = some (.int .i64 (dnn : Int)) := (unhide HG0).cell 5
  have gf := (unhide HG0).free 5
  go_quiet (fail)
  have HX1 : Hid (Chg (fun _ => False) w0 (w0.drewN nq)) := (Chg.refl _ _).drewN nq
  generalize w0.drewN nq = w1 at *
  have hk1 := (unhide HK0).chg (unhide HX1) id
  have hg1 := (unhide HG0).chg (unhide HX1) id
  have ho1 := (unhide HO0).chg (unhide HX1) id
  have hs1 : w.heap.size < w1.heap.size := hk1.lt
  have c5 : w1.cell? ⟨gb, 5, none⟩ = some (.int .i64 (dnn : Int)) := hg1.cell 5
  have cf := hg1.free 5
  have hm1 : Chg (fun _ => False) w w1 := ((Chg.of_new (unhide HB0)).trans (unhide HX1) (fun _ h => h.elim))
  have hgt : ob ≠ gb := fun e => by
    subst e
    have := (Blk.same ho1 hg1).2
    revert this; decide
  have hk2 := hk1.other ⟨gb, 5, none⟩ (.int .i64 ((dnn : Int) + 1)) (by show w.heap.size ≠ gb; omega)
  have ho2 := ho1.other ⟨gb, 5, none⟩ (.int .i64 ((dnn : Int) + 1)) hgt
  have hg2 := hg1.set 5 (.int .i64 ((dnn : Int) + 1))
  have hm2 : Mid O w (w1.setCell ⟨gb, 5, none⟩ (.int .i64 ((dnn : Int) + 1))) := by
    refine (hm1.mono (fun _ _ h => h.elim)).setCell _ _ (Or.inl ⟨(unhide HR).gno, ?_⟩)
    obtain ⟨_, _, _, _, q, _⟩ := (unhide HR).own
    exact ⟨_, _, q, Or.inl rfl⟩
  have hcg2 : Chg (fun b => b = gb) w (w1.setCell ⟨gb, 5, none⟩ (.int .i64 ((dnn : Int) + 1))) := Chg.setCell (X := fun b => b = gb) (hm1.mono (fun _ _ h => h.elim)) ⟨gb, 5, none⟩ _ (Or.inl rfl)
  have HCG2 := hide hcg2
  clear hcg2
  have hr2 := (unhide HR).counted (unhide HGB) (unhide HDK) (unhide HGO) hdn hm1
  have HM2 := hide hm2
  have HR2 := hide hr2
  have HK2 := hide hk2
  have HO2 := hide ho2
  have HG2 := hide hg2
  clear hk1 hg1 ho1 hk2 ho2 hg2 hm1 hm2 hr2 l2 l3 g0 g1 g5 gf HK0 HG0 HO0 HB0 HX1
  go_wp2_with fail
  generalize w1.setCell ⟨gb, 5, none⟩ (.int .i64 ((dnn : Int) + 1)) = w2 at *
  have k2 : w2.cell? ⟨w.heap.size, 2, none⟩ = some (.int .i64 (d : Int)) := (unhide HK2).cell 2
  have m4 : w2.cell? ⟨gb, 4, none⟩ = some (.slice (some ⟨ob, 0, none⟩) D oc) := (unhide HG2).cell 4
  have o2 : w2.cell? ⟨ob, d, none⟩ = some (.bool (L d)) := ((unhide HO2).cell d).trans (unhide HOB)
  go_quiet (fail)
  have HX3 : Hid (Chg (fun _ => False) w2 (w2.drewN nq)) := (Chg.refl _ _).drewN nq
  generalize w2.drewN nq = w3 at *
  have HK3 := hide ((unhide HK2).chg (unhide HX3) id)
  have HG3 := hide ((unhide HG2).chg (unhide HX3) id)
  have HM3 : Hid (Mid O w w3) := (unhide HM2).trans (unhide HX3) (fun _ h => h.elim)
  have HCG3 : Hid (Chg (fun b => b = gb) w w3) := (unhide HCG2).trans (unhide HX3) (fun _ h => h.elim)
  clear HCG2
  have HR3 := hide ((unhide HR2).chg (unhide HX3) (fun _ _ _ _ _ _ => id) (fun _ _ h => h))
  clear k2 m4 o2 HK2 HG2 HO2 HM2 HR2 HX3
  have p2 : w3.cell? ⟨gb, 2, none⟩ = some (.pointer (some ⟨pb, 0, none⟩)) := (unhide HG3).cell 2
  have n0 : w3.cell? ⟨w.heap.size, 0, none⟩ = some (.int .i64 n) := (unhide HK3).cell 0
  have hgo3 := (unhide HR).gno
  cases hL : L d
  · have k1c : w3.cell? ⟨w.heap.size, 1, none⟩ = some (.int .i64 kd) := (unhide HK3).cell 1
    by_cases hk1 : kd = 1
    · subst hk1
      obtain ⟨ss', gs', dn', _, r2, r3, _⟩ := (unhide HR3).own
      obtain ⟨xb, xc, xcs, hss, x1, x2, x3, x4⟩ := r3
      have hxd : d < xcs.size := by omega
      obtain ⟨ib, ic, ics, hu, i1, i2, i3, i4⟩ := x4 d xcs[d] hd (Array.getElem?_eq_getElem hxd)
      have hiz : se < ics.size := by omega
      obtain ⟨bb, bc, bs, hv, b1, b2, b3⟩ := i4 se ics[se] hse (Array.getElem?_eq_getElem hiz)
      have m3 : w3.cell? ⟨gb, 3, none⟩ = some (.slice (some ⟨xb, 0, none⟩) D xc) := (r2.cell 3).trans (by rw [hss]; rfl)
      have xd : w3.cell? ⟨xb, d, none⟩ = some (.slice (some ⟨ib, 0, none⟩) (17 + 2 * S) ic) := (x2.cell d).trans (by rw [Array.getElem?_eq_getElem hxd, hu])
      have id' : w3.cell? ⟨ib, se, none⟩ = some (.slice (some ⟨bb, 0, none⟩) 8 bc) := (i2.cell se).trans (by rw [Array.getElem?_eq_getElem hiz, hv])
      have l2' : w3.cell? ⟨w.heap.size, 2, none⟩ = some (.int .i64 (d : Int)) := (unhide HK3).cell 2
      have l3' : w3.cell? ⟨w.heap.size, 3, none⟩ = some (.int .i64 (se : Int)) := (unhide HK3).cell 3
      have hb8 : 8 ≤ bs.size := by obtain ⟨x, _, hx⟩ := b3 7 (by omega); have := (Array.getElem?_eq_some_iff.1 hx).1; omega
      obtain ⟨news, hnews⟩ : ∃ l : List Value, l = bs.toList.take 8 := ⟨_, rfl⟩
      have hnl : news.length = 8 := by rw [hnews, List.length_take]; simp; omega
      have hnat : ∀ j, j < 8 → news[j]? = bs[j]? := fun j hj => by rw [hnews, List.getElem?_take, if_pos hj, Array.getElem?_toList]
      have hno1 : ∀ u ∈ news, u.oneCell' = true := fun u hu => by
        obtain ⟨j, hj, e⟩ := List.getElem_of_mem hu
        obtain ⟨x, _, hx⟩ := b3 j (by omega)
        have := hnat j (by omega)
        rw [List.getElem?_eq_getElem hj, e, hx] at this
        cases this; rfl
      have B2 := hide b2
      have B3 := hide b3
      have HNAT := hide hnat
      have HNO1 := hide hno1
      have HNL := hide hnl
      have ise0 : (0 : Int) ≤ (se : Int) := by omega
      have ise1 : (se : Int) < 17 + 2 * (S : Int) := by omega
      clear r2 hss x2 x3 x4 hu i2 i3 i4 hv b2 b3 hnews hnat hno1 hnl
      go_wp2_with fail
      refine region_tail 13 (by kernel_rfl) (by kernel_rfl) ?_
      rintro w4 hw4
      have HK4 : Hid (Blk w4 w.heap.size #[.int .i64 n, .int .i64 1, .int .i64 (d : Int), .int .i64 (se : Int), .slice da dn dc] 64) := by rw [hw4]; exact (unhide HK3).drew
      have HG4 := (show Hid (Blk w4 gb _ 32) by rw [hw4]; exact (unhide HG3).drew)
      have HM4 : Hid (Mid O w w4) := by rw [hw4]; exact (unhide HM3).drew
      have HR4 : Hid (Rig w4 gb D S pb vb O L (N + 1)) := by rw [hw4]; exact (unhide HR3).chg (X := fun _ => False) (Chg.refl _ _).drew (fun _ _ _ _ _ _ => id) (fun _ _ h => h)
      have B4 : Hid (Blk w4 bb bs 5) := by rw [hw4]; exact (unhide B2).drew
      have y1 : w4.cell? ⟨gb, 3, none⟩ = some (.slice (some ⟨xb, 0, none⟩) D xc) := by rw [hw4]; exact m3
      have y2 : w4.cell? ⟨xb, d, none⟩ = some (.slice (some ⟨ib, 0, none⟩) (17 + 2 * S) ic) := by rw [hw4]; exact xd
      have y3 : w4.cell? ⟨ib, se, none⟩ = some (.slice (some ⟨bb, 0, none⟩) 8 bc) := by rw [hw4]; exact id'
      have y4 : w4.cell? ⟨w.heap.size, 2, none⟩ = some (.int .i64 (d : Int)) := by rw [hw4]; exact l2'
      have y5 : w4.cell? ⟨w.heap.size, 3, none⟩ = some (.int .i64 (se : Int)) := by rw [hw4]; exact l3'
      clear hw4 HK3 HG3 HM3 HR3 B2 m3 xd id' l2' l3' p2 n0 k1c
      have HSR : Hid (∀ j u, news[j]? = some u → w4.cell? ((⟨bb, 0, none⟩ : Addr).add j) = some u) := fun j u hj => by
        have hj8 : j < 8 := by have := (List.getElem?_eq_some_iff.1 hj).1; have := unhide HNL; omega
        rw [Addr.add_mid, Nat.zero_add, (unhide B4).cell, ← unhide HNAT j hj8]
        exact hj
      obtain ⟨i5, hi5, hz50, hz51, hz52⟩ := info_parts Tryz.infoB
      simp only [List.take_succ_cons, List.take_zero, List.drop_succ_cons, List.drop_zero]
      repeat (refine wpStill_step (fun K hK => ?_); go_simp; (try go_ints); refine hK _ ?_; clear hK K)
      refine wpStill_nil ?_
      clear y1 y2 y3 y4 y5
      refine wpList_append_lies _ rfl (.tmp 61) (.tmp 73) 35 rfl w4.heap.size 5 i5 (.int .u8 0) 1 1 Tryz.underlying35 hi5 hz50 hz51 hz52 rfl (by decide) (.slice none 0 0) 0 [] rfl (World.ownsRow_nil _ _ _ _) ⟨bb, 0, none⟩ 8 bc news rfl (unhide HNL) (unhide HSR) (unhide HNO1) (by decide) (by decide) (by decide) (Nat.le_refl _) w4.heap.size rfl ?_
      intro g5 c5' w5 hown hgrow hat hlt5
      obtain rfl : g5 = w4.heap.size := by rcases hat with h | h; cases h; exact h
      have hb5 : Below w4.heap.size w4 w5 := (Below.refl _ _).grown hgrow (Nat.le_refl _) (fun k hk => by cases hk)
      have hs4 : w.heap.size < w4.heap.size := (unhide HK4).lt
      have hg5o : w4.heap.size ∉ O := fun ho => by have := unhide HLT _ ho; omega
      have hsec : Sec w5 O (.slice (some ⟨w4.heap.size, 0, none⟩) 8 c5') := by
        have hown' := hown
        rcases hown.2 with ⟨e, _⟩ | ⟨g', cap, cur, e, _, hh, _, _, _, htk⟩
        · cases e
        · cases e
          refine ⟨_, _, cur, rfl, hg5o, hh, fun j hj => ?_⟩
          obtain ⟨x, hx, hxc⟩ := unhide B3 j hj
          refine ⟨x, hx, ?_⟩
          have h1 : (cur.toList.take (8 * 1))[j]? = news[j]? := by rw [htk]; simp
          rw [List.getElem?_take, if_pos (by omega), Array.getElem?_toList] at h1
          rw [h1, unhide HNAT j hj]
          exact hxc
      have HSEC := hide hsec
      have HK5 := hide ((unhide HK4).below hb5 (unhide HK4).lt)
      have HG5 := hide ((unhide HG4).below hb5 (unhide HG4).lt)
      have HM5 : Hid (Mid O w w5) := chg_new (unhide HM4) hb5
      have HR5 := hide ((unhide HR4).chg (X := fun _ => False) (Chg.of_new hb5) (fun _ _ _ _ _ _ => id) (fun _ _ h => h))
      have p2 : w5.cell? ⟨gb, 2, none⟩ = some (.pointer (some ⟨pb, 0, none⟩)) := (unhide HG5).cell 2
      have n0 : w5.cell? ⟨w.heap.size, 0, none⟩ = some (.int .i64 n) := (unhide HK5).cell 0
      have k1d : w5.cell? ⟨w.heap.size, 1, none⟩ = some (.int .i64 1) := (unhide HK5).cell 1
      clear hown hgrow hat hlt5 hb5 hsec HK4 HG4 HM4 HR4 B4 B3 HNAT HNO1 HNL HSR
      go_wp2_with fail
      clear k1d
      have t0 : w5.drew.cell? ⟨gb, 2, none⟩ = some (.pointer (some ⟨pb, 0, none⟩)) := p2
      have t1 : w5.drew.cell? ⟨w.heap.size, 0, none⟩ = some (.int .i64 n) := n0
      have HMd : Hid (Mid O w w5.drew) := (unhide HM5).drew
      have HRd := hide ((unhide HR5).chg (X := fun _ => False) (Chg.refl _ _).drew (fun _ _ _ _ _ _ => id) (fun _ _ h => h))
      have HDd := hide (unhide HD w5.drew (.slice (some ⟨w4.heap.size, 0, none⟩) 8 c5') (unhide HMd) (unhide HRd) (Or.inl ⟨hL, rfl, (unhide HSEC).keep (X := fun _ => False) (Chg.refl _ _).drew (fun _ _ _ => id)⟩))
      simp only [hL, Bool.not_false] at HDd
      clear p2 n0 HD
      go_region_held3 (fun w' => w'.cell? ⟨gb, 2, none⟩ = some (.pointer (some ⟨pb, 0, none⟩)) ∧ w'.cell? ⟨w.heap.size, 0, none⟩ = some (.int .i64 n)) (first | exact ⟨t0, t1⟩ | exact ⟨q0, q1⟩)
        (first | (go_at_call 38; refine (unhide HDd).mono ?_; rintro e w6 ⟨rfl, hR, hkp⟩; have q0 : w6.cell? ⟨gb, 2, none⟩ = some (.pointer (some ⟨pb, 0, none⟩)) := (hkp gb _ _ hgo3 (unhide HG5).drew (Or.inl rfl)).cell 2; have q1 : w6.cell? ⟨w.heap.size, 0, none⟩ = some (.int .i64 n) := (hkp w.heap.size _ _ hwo (unhide HK5).drew (Or.inr rfl)).cell 0; have HRR := hide hR; clear hR hkp))
      clear t0 t1 q0 q1
      go_wp2
      go_ret
      exact ⟨rfl, unhide HRR⟩
    · by_cases hk2 : kd = 2
      · subst hk2
        obtain ⟨gd, cc, dcs, ⟨hda, hdn8, _⟩, hdb, hdby⟩ := hwd hL rfl
        subst hda
        subst hdn8
        obtain ⟨ss', gs', dn', _, r2, r3, _⟩ := (unhide HR3).own
        obtain ⟨xb, xc, xcs, hss, x1, x2, x3, x4⟩ := r3
        have hxd : d < xcs.size := by omega
        obtain ⟨ib, ic, ics, hu, i1, i2, i3, i4⟩ := x4 d xcs[d] hd (Array.getElem?_eq_getElem hxd)
        have hiz : se < ics.size := by omega
        have m3 : w3.cell? ⟨gb, 3, none⟩ = some (.slice (some ⟨xb, 0, none⟩) D xc) := (r2.cell 3).trans (by rw [hss]; rfl)
        have xd : w3.cell? ⟨xb, d, none⟩ = some (.slice (some ⟨ib, 0, none⟩) (17 + 2 * S) ic) := (x2.cell d).trans (by rw [Array.getElem?_eq_getElem hxd, hu])
        have l2' : w3.cell? ⟨w.heap.size, 2, none⟩ = some (.int .i64 (d : Int)) := (unhide HK3).cell 2
        have l3' : w3.cell? ⟨w.heap.size, 3, none⟩ = some (.int .i64 (se : Int)) := (unhide HK3).cell 3
        have l4' : w3.cell? ⟨w.heap.size, 4, none⟩ = some (.slice (some ⟨gd, 0, none⟩) 8 dc) := (unhide HK3).cell 4
        have hdgb : gd ≠ gb := fun e => by
          obtain ⟨_, _, _, _, q, _⟩ := (unhide HR).own
          subst e
          have := (Blk.same hdb q).2
          revert this; decide
        have hdb3 := hdb.chg (unhide HCG3) hdgb
        have hb8 : 8 ≤ dcs.size := by obtain ⟨x, _, hx⟩ := hdby 7 (by omega); have := (Array.getElem?_eq_some_iff.1 hx).1; omega
        obtain ⟨news, hnews⟩ : ∃ l : List Value, l = dcs.toList.take 8 := ⟨_, rfl⟩
        have hnl : news.length = 8 := by rw [hnews, List.length_take]; simp; omega
        have hnat : ∀ j, j < 8 → news[j]? = dcs[j]? := fun j hj => by rw [hnews, List.getElem?_take, if_pos hj, Array.getElem?_toList]
        have hno1 : ∀ u ∈ news, u.oneCell' = true := fun u hu => by
          obtain ⟨j, hj, e⟩ := List.getElem_of_mem hu
          obtain ⟨x, _, hx⟩ := hdby j (by omega)
          have := hnat j (by omega)
          rw [List.getElem?_eq_getElem hj, e, hx] at this
          cases this; rfl
        have HSR : Hid (∀ j u, news[j]? = some u → w3.drew.cell? ((⟨gd, 0, none⟩ : Addr).add j) = some u) := fun j u hj => by
          have hj8 : j < 8 := by have := (List.getElem?_eq_some_iff.1 hj).1; omega
          rw [Addr.add_mid, Nat.zero_add]
          exact (hdb3.drew.cell j).trans (by rw [← hnat j hj8]; exact hj)
        have B3 := hide hdby
        have I2 := hide i2
        have HNAT := hide hnat
        have HNO1 := hide hno1
        have HNL := hide hnl
        have HIZ := hide hiz
        have I1 := hide i1
        have ise0 : (0 : Int) ≤ (se : Int) := by omega
        have ise1 : (se : Int) < 17 + 2 * (S : Int) := by omega
        have hls3 : w.heap.size < w3.heap.size := (unhide HK3).lt
        clear r2 hss x2 x3 x4 hu i2 i3 i4 hdb hdby hdb3 hnews hnat hno1 hnl hiz hb8 hwd
        have lk4 : w3.cell? ⟨w.heap.size, 4, none⟩ = some (.slice (some ⟨gd, 0, none⟩) 8 dc) := l4'
        go_wp2_with fail
        obtain ⟨i5, hi5, hz50, hz51, hz52⟩ := info_parts Tryz.infoB
        have hS0 : (fun w' : World => w'.cell? ⟨gb, 3, none⟩ = some (.slice (some ⟨xb, 0, none⟩) D xc) ∧ w'.cell? ⟨w.heap.size, 2, none⟩ = some (.int .i64 (d : Int)) ∧ w'.cell? ⟨w.heap.size, 3, none⟩ = some (.int .i64 (se : Int)) ∧ w'.cell? ⟨w.heap.size, 4, none⟩ = some (.slice (some ⟨gd, 0, none⟩) 8 dc) ∧ w'.cell? ⟨xb, d, none⟩ = some (.slice (some ⟨ib, 0, none⟩) (17 + 2 * S) ic)) w3.drew := ⟨m3, l2', l3', l4', xd⟩
        clear m3 xd l2' l3' l4' lk4 k1c p2 n0
        refine wp_region_noPanic ?_
        refine orders_begin 15 (fun w' => w'.cell? ⟨gb, 3, none⟩ = some (.slice (some ⟨xb, 0, none⟩) D xc) ∧ w'.cell? ⟨w.heap.size, 2, none⟩ = some (.int .i64 (d : Int)) ∧ w'.cell? ⟨w.heap.size, 3, none⟩ = some (.int .i64 (se : Int)) ∧ w'.cell? ⟨w.heap.size, 4, none⟩ = some (.slice (some ⟨gd, 0, none⟩) 8 dc) ∧ w'.cell? ⟨xb, d, none⟩ = some (.slice (some ⟨ib, 0, none⟩) (17 + 2 * S) ic)) (by kernel_rfl) ?_
        refine orders_take 0 (some 82) (v := .pointer (some ⟨gb, 0, none⟩)) rfl (by kernel_rfl) (by kernel_rfl) (by kernel_rfl) (by kernel_rfl) (fun _ _ _ h => h) (Or.inl ⟨by rfl, fun _ _ => rfl⟩) hS0 rfl ?_
        simp only [Act.put, List.setIfInBounds_toArray, List.set_cons_zero, List.set_cons_succ]
        refine orders_take 1 (some 83) (v := .pointer (some ⟨gb, 0, none⟩)) rfl (by kernel_rfl) (by kernel_rfl) (by kernel_rfl) (by kernel_rfl) (fun _ _ _ h => h) (Or.inl ⟨by rfl, fun _ _ => by go_simp⟩) hS0 rfl ?_
        simp only [Act.put, List.setIfInBounds_toArray, List.set_cons_zero, List.set_cons_succ]
        refine orders_take 2 (some 84) (v := .pointer (some ⟨gb, 3, none⟩)) rfl (by kernel_rfl) (by kernel_rfl) (by kernel_rfl) (by kernel_rfl) (fun _ _ _ h => h) (Or.inl ⟨by rfl, fun _ _ => by go_simp⟩) hS0 rfl ?_
        simp only [Act.put, List.setIfInBounds_toArray, List.set_cons_zero, List.set_cons_succ]
        refine orders_take 3 (some 85) (v := .slice (some ⟨xb, 0, none⟩) D xc) rfl (by kernel_rfl) (by kernel_rfl) (by kernel_rfl) (by kernel_rfl) (fun _ _ _ h => h) (Or.inl ⟨by rfl, fun w' hw => by have hcc := hw.1; go_simp⟩) hS0 rfl ?_
        simp only [Act.put, List.setIfInBounds_toArray, List.set_cons_zero, List.set_cons_succ]
        refine orders_take 4 (some 86) (v := .pointer (some ⟨w.heap.size, 2, none⟩)) rfl (by kernel_rfl) (by kernel_rfl) (by kernel_rfl) (by kernel_rfl) (fun _ _ _ h => h) (Or.inl ⟨by rfl, fun _ _ => by go_simp⟩) hS0 rfl ?_
        simp only [Act.put, List.setIfInBounds_toArray, List.set_cons_zero, List.set_cons_succ]
        refine orders_take 5 (some 87) (v := .int .i64 (d : Int)) rfl (by kernel_rfl) (by kernel_rfl) (by kernel_rfl) (by kernel_rfl) (fun _ _ _ h => h) (Or.inl ⟨by rfl, fun w' hw => by have hcc := hw.2.1; go_simp⟩) hS0 rfl ?_
        simp only [Act.put, List.setIfInBounds_toArray, List.set_cons_zero, List.set_cons_succ]
        refine orders_take 6 (some 88) (v := .pointer (some ⟨xb, d, none⟩)) rfl (by kernel_rfl) (by kernel_rfl) (by kernel_rfl) (by kernel_rfl) (fun _ _ _ h => h) (Or.inl ⟨by rfl, fun _ _ => by go_simp; (try go_ints)⟩) hS0 rfl ?_
        simp only [Act.put, List.setIfInBounds_toArray, List.set_cons_zero, List.set_cons_succ]
        refine orders_take 7 (some 89) (v := .slice (some ⟨ib, 0, none⟩) (17 + 2 * S) ic) rfl (by kernel_rfl) (by kernel_rfl) (by kernel_rfl) (by kernel_rfl) (fun _ _ _ h => h) (Or.inl ⟨by rfl, fun w' hw => by have hcc := hw.2.2.2.2; go_simp⟩) hS0 rfl ?_
        simp only [Act.put, List.setIfInBounds_toArray, List.set_cons_zero, List.set_cons_succ]
        refine orders_take 8 (some 90) (v := .pointer (some ⟨w.heap.size, 3, none⟩)) rfl (by kernel_rfl) (by kernel_rfl) (by kernel_rfl) (by kernel_rfl) (fun _ _ _ h => h) (Or.inl ⟨by rfl, fun _ _ => by go_simp⟩) hS0 rfl ?_
        simp only [Act.put, List.setIfInBounds_toArray, List.set_cons_zero, List.set_cons_succ]
        refine orders_take 9 (some 91) (v := .int .i64 (se : Int)) rfl (by kernel_rfl) (by kernel_rfl) (by kernel_rfl) (by kernel_rfl) (fun _ _ _ h => h) (Or.inl ⟨by rfl, fun w' hw => by have hcc := hw.2.2.1; go_simp⟩) hS0 rfl ?_
        simp only [Act.put, List.setIfInBounds_toArray, List.set_cons_zero, List.set_cons_succ]
        refine orders_take 10 (some 92) (v := .slice none 0 0) rfl (by kernel_rfl) (by kernel_rfl) (by kernel_rfl) (by kernel_rfl) (fun _ _ _ h => h) (Or.inl ⟨by rfl, fun _ _ => rfl⟩) hS0 rfl ?_
        simp only [Act.put, List.setIfInBounds_toArray, List.set_cons_zero, List.set_cons_succ]
        refine orders_take 11 (some 93) (v := .pointer (some ⟨w.heap.size, 4, none⟩)) rfl (by kernel_rfl) (by kernel_rfl) (by kernel_rfl) (by kernel_rfl) (fun _ _ _ h => h) (Or.inl ⟨by rfl, fun _ _ => by go_simp⟩) hS0 rfl ?_
        simp only [Act.put, List.setIfInBounds_toArray, List.set_cons_zero, List.set_cons_succ]
        refine orders_take 12 (some 94) (v := .slice (some ⟨gd, 0, none⟩) 8 dc) rfl (by kernel_rfl) (by kernel_rfl) (by kernel_rfl) (by kernel_rfl) (fun _ _ _ h => h) (Or.inl ⟨by rfl, fun w' hw => by have hcc := hw.2.2.2.1; go_simp⟩) hS0 rfl ?_
        simp only [Act.put, List.setIfInBounds_toArray, List.set_cons_zero, List.set_cons_succ]
        refine orders_one 13 (by kernel_rfl) rfl (by rfl) (fun K hK => ?_)
        simp only [List.getElem_toArray, List.getElem_cons_succ, List.getElem_cons_zero]
        refine wp_append_lies _ (.tmp 92) (.tmp 94) 35 rfl w3.heap.size 5 i5 (.int .u8 0) 1 1 Tryz.underlying35 hi5 hz50 hz51 hz52 rfl (by decide) (.slice none 0 0) 0 [] rfl (World.ownsRow_nil _ _ _ _) ⟨gd, 0, none⟩ 8 dc news rfl (unhide HNL) (unhide HSR) (unhide HNO1) (by decide) (by decide) (by decide) (Nat.le_refl _) w3.heap.size rfl ?_
        intro g5 c5' w5 hown hgrow hat hlt5
        obtain rfl : g5 = w3.heap.size := by rcases hat with h | h; cases h; exact h
        have hb5 : Below w3.heap.size w3 w5 := (Below.refl w3.heap.size w3).drew.grown hgrow (Nat.le_refl _) (fun k hk => by cases hk)
        have hg5o : w3.heap.size ∉ O := fun ho => by have := unhide HLT _ ho; omega
        have hsec : Sec w5 O (.slice (some ⟨w3.heap.size, 0, none⟩) 8 c5') := by
          rcases hown.2 with ⟨e, _⟩ | ⟨g', cap, cur, e, _, hh, _, _, _, htk⟩
          · cases e
          · cases e
            refine ⟨_, _, cur, rfl, hg5o, hh, fun j hj => ?_⟩
            obtain ⟨x, hx, hxc⟩ := unhide B3 j hj
            refine ⟨x, hx, ?_⟩
            have h1 : (cur.toList.take (8 * 1))[j]? = news[j]? := by rw [htk]; simp
            rw [List.getElem?_take, if_pos (by omega), Array.getElem?_toList] at h1
            rw [h1, unhide HNAT j hj]
            exact hxc
        have hi5b := (unhide I2).below hb5 (unhide I2).lt
        have hS5 : (fun w' : World => w'.cell? ⟨gb, 3, none⟩ = some (.slice (some ⟨xb, 0, none⟩) D xc) ∧ w'.cell? ⟨w.heap.size, 2, none⟩ = some (.int .i64 (d : Int)) ∧ w'.cell? ⟨w.heap.size, 3, none⟩ = some (.int .i64 (se : Int)) ∧ w'.cell? ⟨w.heap.size, 4, none⟩ = some (.slice (some ⟨gd, 0, none⟩) 8 dc) ∧ w'.cell? ⟨xb, d, none⟩ = some (.slice (some ⟨ib, 0, none⟩) (17 + 2 * S) ic)) w5 := ⟨(hb5.cell (p := ⟨gb, 3, none⟩) (by show gb < w3.heap.size; omega)).trans hS0.1, (hb5.cell (p := ⟨w.heap.size, 2, none⟩) hls3).trans hS0.2.1, (hb5.cell (p := ⟨w.heap.size, 3, none⟩) hls3).trans hS0.2.2.1, (hb5.cell (p := ⟨w.heap.size, 4, none⟩) hls3).trans hS0.2.2.2.1, (hb5.cell (p := ⟨xb, d, none⟩) (block_lt_of_cell hS0.2.2.2.2)).trans hS0.2.2.2.2⟩
        refine hK.out _ _ (fun _ => hS5) ?_
        clear hK K
        simp only [Act.put, List.setIfInBounds_toArray, List.set_cons_zero, List.set_cons_succ]
        have st1 : w5.cell? ⟨ib, se, none⟩ = some ics[se] := (hi5b.cell se).trans (Array.getElem?_eq_getElem (unhide HIZ))
        have st2 := hi5b.free se
        refine orders_one 14 (by kernel_rfl) rfl (by rfl) (fun K hK => ?_)
        go_simp
        (try go_ints)
        refine hK.out _ _ (fun _ => hS5) ?_
        clear hK K
        refine orders_one 15 (by kernel_rfl) rfl (by rfl) (fun K hK => ?_)
        go_simp
        refine hK.out _ _ (fun h => absurd rfl h) ?_
        clear hK K
        refine orders_end (by kernel_rfl) ?_
        refine NoPanic.normal ?_
        have HR5' := (unhide HR3).chg (X := fun _ => False) (Chg.of_new hb5) (fun _ _ _ _ _ _ => id) (fun _ _ h => h)
        have HR6 := hide (HR5'.put (i := se) hi5b hsec)
        have hne : ∀ b cs' t, Blk w5 b cs' t → t ≠ 35 → b ≠ ib := fun b cs' t hb' ht e => by
          subst e
          exact ht (Blk.same hb' hi5b).2
        have hk5 := (unhide HK3).below hb5 (unhide HK3).lt
        have hg5 := (unhide HG3).below hb5 (unhide HG3).lt
        have HK6 := hide (hk5.other ⟨ib, se, none⟩ (.slice (some ⟨w3.heap.size, 0, none⟩) 8 c5') (hne _ _ _ hk5 (by decide)))
        have HG6 := hide (hg5.other ⟨ib, se, none⟩ (.slice (some ⟨w3.heap.size, 0, none⟩) 8 c5') (hne _ _ _ hg5 (by decide)))
        have HM6 : Hid (Mid O w (w5.setCell ⟨ib, se, none⟩ (.slice (some ⟨w3.heap.size, 0, none⟩) 8 c5'))) := by
          refine (chg_new (unhide HM3) hb5).setCell _ _ ?_
          rcases Nat.lt_or_ge ib w.heap.size with q | q
          · refine Or.inl ⟨unhide I1, ics, _, ?_, Or.inr rfl⟩
            have hibg : ib ≠ gb := fun e => by
              have h3 := unhide HG3
              rw [← e] at h3
              have := (Blk.same (unhide I2) h3).2
              revert this; decide
            exact ((unhide HCG3).block ib q hibg).symm.trans (unhide I2)
          · exact Or.inr q
        clear hS0 hS5 st1 st2 hown hgrow hat hlt5 hb5 hsec hi5b hk5 hg5 HR5' hne I1 I2 B3 HNAT HNO1 HNL HSR HIZ HK3 HG3 HM3 HR3
        generalize w5.setCell ⟨ib, se, none⟩ (.slice (some ⟨w3.heap.size, 0, none⟩) 8 c5') = w6 at *
        have p2 : w6.cell? ⟨gb, 2, none⟩ = some (.pointer (some ⟨pb, 0, none⟩)) := (unhide HG6).cell 2
        have n0 : w6.cell? ⟨w.heap.size, 0, none⟩ = some (.int .i64 n) := (unhide HK6).cell 0
        go_wp2_with fail
        have t0 : w6.drew.cell? ⟨gb, 2, none⟩ = some (.pointer (some ⟨pb, 0, none⟩)) := p2
        have t1 : w6.drew.cell? ⟨w.heap.size, 0, none⟩ = some (.int .i64 n) := n0
        have HMd : Hid (Mid O w w6.drew) := (unhide HM6).drew
        have HRd := hide ((unhide HR6).chg (X := fun _ => False) (Chg.refl _ _).drew (fun _ _ _ _ _ _ => id) (fun _ _ h => h))
        have HDd := hide (unhide HD w6.drew (.slice none 0 0) (unhide HMd) (unhide HRd) (Or.inr ⟨Or.inr (by decide), rfl⟩))
        simp only [hL, Bool.not_false] at HDd
        clear p2 n0 HD
        go_region_held3 (fun w' => w'.cell? ⟨gb, 2, none⟩ = some (.pointer (some ⟨pb, 0, none⟩)) ∧ w'.cell? ⟨w.heap.size, 0, none⟩ = some (.int .i64 n)) (first | exact ⟨t0, t1⟩ | exact ⟨q0, q1⟩)
          (first | (go_at_call 38; refine (unhide HDd).mono ?_; rintro e w7 ⟨rfl, hR, hkp⟩; have q0 : w7.cell? ⟨gb, 2, none⟩ = some (.pointer (some ⟨pb, 0, none⟩)) := (hkp gb _ _ hgo3 (unhide HG6).drew (Or.inl rfl)).cell 2; have q1 : w7.cell? ⟨w.heap.size, 0, none⟩ = some (.int .i64 n) := (hkp w.heap.size _ _ hwo (unhide HK6).drew (Or.inr rfl)).cell 0; have HRR := hide hR; clear hR hkp))
        clear t0 t1 q0 q1
        go_wp2
        go_ret
        exact ⟨rfl, unhide HRR⟩
      · have hb1 : (kd == 1) = false := by simpa using hk1
        have hb2 : (kd == 2) = false := by simpa using hk2
        go_wp2_with fail
        clear k1c
        have t0 : w3.drew.cell? ⟨gb, 2, none⟩ = some (.pointer (some ⟨pb, 0, none⟩)) := p2
        have t1 : w3.drew.cell? ⟨w.heap.size, 0, none⟩ = some (.int .i64 n) := n0
        have HMd : Hid (Mid O w w3.drew) := (unhide HM3).drew
        have HRd := hide ((unhide HR3).chg (X := fun _ => False) (Chg.refl _ _).drew (fun _ _ _ _ _ _ => id) (fun _ _ h => h))
        have HDd := hide (unhide HD w3.drew (.slice none 0 0) (unhide HMd) (unhide HRd) (Or.inr ⟨Or.inr hk1, rfl⟩))
        simp only [hL, Bool.not_false] at HDd
        clear p2 n0 HD
        go_region_held3 (fun w' => w'.cell? ⟨gb, 2, none⟩ = some (.pointer (some ⟨pb, 0, none⟩)) ∧ w'.cell? ⟨w.heap.size, 0, none⟩ = some (.int .i64 n)) (first | exact ⟨t0, t1⟩ | exact ⟨q0, q1⟩)
          (first | (go_at_call 38; refine (unhide HDd).mono ?_; rintro e w4 ⟨rfl, hR, hkp⟩; have q0 : w4.cell? ⟨gb, 2, none⟩ = some (.pointer (some ⟨pb, 0, none⟩)) := (hkp gb _ _ hgo3 (unhide HG3).drew (Or.inl rfl)).cell 2; have q1 : w4.cell? ⟨w.heap.size, 0, none⟩ = some (.int .i64 n) := (hkp w.heap.size _ _ hwo (unhide HK3).drew (Or.inr rfl)).cell 0; have HRR := hide hR; clear hR hkp))
        clear t0 t1 q0 q1
        go_wp2
        go_ret
        exact ⟨rfl, unhide HRR⟩
  · go_wp2_with fail
    have t0 : w3.drew.cell? ⟨gb, 2, none⟩ = some (.pointer (some ⟨pb, 0, none⟩)) := p2
    have t1 : w3.drew.cell? ⟨w.heap.size, 0, none⟩ = some (.int .i64 n) := n0
    have HMd : Hid (Mid O w w3.drew) := (unhide HM3).drew
    have HRd := hide ((unhide HR3).chg (X := fun _ => False) (Chg.refl _ _).drew (fun _ _ _ _ _ _ => id) (fun _ _ h => h))
    have HDd := hide (unhide HD w3.drew (.slice none 0 0) (unhide HMd) (unhide HRd) (Or.inr ⟨Or.inl hL, rfl⟩))
    simp only [hL, Bool.not_true] at HDd
    clear p2 n0 HD
    go_region_held3 (fun w' => w'.cell? ⟨gb, 2, none⟩ = some (.pointer (some ⟨pb, 0, none⟩)) ∧ w'.cell? ⟨w.heap.size, 0, none⟩ = some (.int .i64 n)) (first | exact ⟨t0, t1⟩ | exact ⟨q0, q1⟩)
      (first | (go_at_call 38; refine (unhide HDd).mono ?_; rintro e w4 ⟨rfl, hR, hkp⟩; have q0 : w4.cell? ⟨gb, 2, none⟩ = some (.pointer (some ⟨pb, 0, none⟩)) := (hkp gb _ _ hgo3 (unhide HG3).drew (Or.inl rfl)).cell 2; have q1 : w4.cell? ⟨w.heap.size, 0, none⟩ = some (.int .i64 n) := (hkp w.heap.size _ _ hwo (unhide HK3).drew (Or.inr rfl)).cell 0; have HRR := hide hR; clear hR hkp))
    clear t0 t1 q0 q1
    go_wp2
    go_ret
    exact ⟨rfl, unhide HRR⟩

end Go.Proofs.YtdcinlkkjbclmabGreat
