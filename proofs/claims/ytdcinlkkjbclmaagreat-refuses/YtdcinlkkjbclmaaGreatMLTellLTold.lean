/- Commands are told. -/
import Derived.Test.YtdcinlkkjbclmaaGreatMLRightLGiven
namespace Go.Proofs.YtdcinlkkjbclmaaGreat
open Go.RowKit

/-- the law with its volume -/
structure LSt (w : World) (wb : Nat) (X : LX) (us : List Value) (kk : List Int) (cus : List Value) (ckk : List Int) (T : List Tl) (db : Nat → Nat) (F : Nat → Nat → Prop) (vb : Nat) (A : VA) (O : List Nat) : Prop where
  lw : Lw w wb X us kk cus ckk
  rs : Rest w X T db F X.done vb
  vol : Vol w vb A O
  lr : ∀ b, LMem wb X us cus b → ¬ RMem X T F b
  lo : ∀ b, LMem wb X us cus b → b ∉ O
  ro : ∀ b, RMem X T F b → b ∉ O
def AMem (wb : Nat) (X : LX) (us cus : List Value) (T : List Tl) (F : Nat → Nat → Prop) (O : List Nat) (b : Nat) : Prop := LMem wb X us cus b ∨ RMem X T F b ∨ b ∈ O
/-- commands as the opening of new disks gives them -/
def Shp (D : Nat) (c : Cmd) : Prop := (∃ d : Nat, d < D ∧ c.disk = (d : Int)) ∧ c.sector = 0 ∧ ((c.kind = 2 ∧ Eight c.data) ∨ (c.kind = 3 ∧ c.data = .slice none 0 0))
theorem numb_at (k : Nat) (l : List Cmd) (i : Nat) (c : Cmd) (h : (numb k l)[i]? = some c) : ∃ d, l[i]? = some d ∧ c = { d with id := ((k + i : Nat) : Int) + 1 } := by
  induction l generalizing k i with
  | nil => simp [numb] at h
  | cons x r ih =>
    cases i with
    | zero =>
      simp only [numb, List.getElem?_cons_zero, Option.some.injEq] at h
      exact ⟨x, rfl, by rw [← h]; simp⟩
    | succ i =>
      simp only [numb, List.getElem?_cons_succ] at h
      obtain ⟨d, h1, h2⟩ := ih (k + 1) i h
      exact ⟨d, h1, by rw [h2]; simp only [show k + 1 + i = k + (i + 1) by omega]⟩
theorem numb_dats (k : Nat) (l : List Cmd) : dats (numb k l) = dats l := by
  induction l generalizing k with
  | nil => rfl
  | cons x r ih =>
    show dBlk x.data ++ dats (numb (k + 1) r) = dBlk x.data ++ dats r
    rw [ih]
/-- in the midst of telling: i commands are out -/
structure TellTo (w1 wr : World) (wb : Nat) (X : LX) (T : List Tl) (L : List Cmd) (i : Nat) (oa : Option Addr) (on oc : Nat) (Ti : List Tl) : Prop where
  blk : Blk wr wb (lwL { X with last := X.last + i, out := .slice oa on oc }).toArray 56
  row : wr.ownsRow 0 93 6 (.slice oa on oc) on ((T ++ Ti).flatMap Tl.cells)
  num : on = T.length + i
  len : Ti.length = i
  ent : ∀ (j : Nat) (t : Tl) (c : Cmd), Ti[j]? = some t → L[j]? = some c → noData t.c = noData c ∧ DataIn wr t.c ∧ (∀ b ∈ dBlk t.c.data, w1.heap.size ≤ b)
  chg : Chg (fun x => x = wb ∨ X.out.ownBlock = some x) w1 wr
  new : ∀ g, (Value.slice oa on oc).ownBlock = some g → X.out.ownBlock = some g ∨ w1.heap.size ≤ g
theorem flatC_at : ∀ (L : List Cmd) (i : Nat) (c : Cmd), L[i]? = some c → ∀ j, j < 5 → (L.flatMap Cmd.cells)[i * 5 + j]? = c.cells[j]?
  | [], i, c, h, _, _ => by simp at h
  | x :: r, 0, c, h, j, hj => by
    simp only [List.getElem?_cons_zero, Option.some.injEq] at h
    subst h
    rw [List.flatMap_cons, List.getElem?_append_left (by show 0 * 5 + j < 5; omega), Nat.zero_mul, Nat.zero_add]
  | x :: r, i + 1, c, h, j, hj => by
    simp only [List.getElem?_cons_succ] at h
    rw [List.flatMap_cons, List.getElem?_append_right (by show 5 ≤ (i + 1) * 5 + j; omega), show (i + 1) * 5 + j - x.cells.length = i * 5 + j by show (i + 1) * 5 + j - 5 = _; omega]
    exact flatC_at r i c h j hj
theorem infoTl : (Tryz.prog.info? 93).map (fun i => (i.zero, i.size, i.bytes)) = some (some (.agg #[.int .i64 0, .int .i64 0, .int .i64 0, .int .i64 0, .slice none 0 0, .int .i64 0]), 6, 64) := by kernel_rfl

set_option maxRecDepth 100000 in
set_option maxHeartbeats 8000000 in
theorem tell_walk (wb pb : Nat) (X : LX) (T : List Tl) (L : List Cmd) (R : World → Prop) (w : World) (hpb : X.pb = pb) (hb : Blk w wb (lwL X).toArray 56) (hD : X.D ≤ 8) (hS : X.S ≤ 6) (hL8 : L.length ≤ 8) (hlast : X.last ≤ 100) (htime : X.time ≤ 1000) (hT : T.length ≤ 50)
    (hcm : Calls Tryz.prog 47 #[.pointer (some ⟨pb, 0, none⟩)] w fun e w1 => ∃ v, e = .returned v ∧ ∃ (la : Option Addr) (cap : Nat), v = .slice la L.length cap ∧ w1.ownsRow 0 91 5 (.slice la L.length cap) L.length (L.flatMap Cmd.cells) ∧ (∀ c ∈ L, DataIn w1 c) ∧ Blk w1 wb (lwL X).toArray 56 ∧ w1.ownsRow 0 4 1 X.knows X.D (List.replicate X.D (.bool false)) ∧ w1.ownsRow 0 93 6 X.out T.length (T.flatMap Tl.cells) ∧
      (∀ wr oa on oc Ti, TellTo w1 wr wb X T L L.length oa on oc Ti → Calls Tryz.prog 49 #[.pointer (some ⟨wb, 0, none⟩), .slice la L.length cap] wr fun e w' => e = .returned (.tuple #[]) ∧ ∃ X', Blk w' wb (lwL X').toArray 56 ∧ X'.time = X.time ∧ X'.out = .slice oa on oc ∧ on ≤ 64 ∧ R (w'.setCell ⟨wb, 10, none⟩ (.int .i64 ((X.time : Int) + 1)))))
    (hid : ∀ i c, L[i]? = some c → c.id = ((X.last + i : Nat) : Int) + 1) (hsh : ∀ c ∈ L, Shp X.D c) :
    Calls Tryz.prog 26 #[.pointer (some ⟨wb, 0, none⟩)] w fun e w' => e = .returned (.bool true) ∧ R w' := by
  have c6 : w.cell? ⟨wb, 6, none⟩ = some (.pointer (some ⟨pb, 0, none⟩)) := (hb.cell 6).trans (by rw [← hpb]; rfl)
  have HC := hide hcm
  have HID := hide hid
  have HSH := hide hsh
  clear hcm hid hsh hb hpb
  go_enter Tryz.func26, Tryz.ntmps26
  go_wp2_with fail
  refine (unhide HC).mono ?_
  rintro e w1 ⟨v, rfl, la, cap, rfl, hrow, hdat, hblk, hkn, hout, hcom⟩
  have HROW := hide hrow
  have HDAT := hide hdat
  have HKN := hide hkn
  have HCOM := hide hcom
  obtain ⟨oa0, oc0, ho0⟩ : ∃ oa oc, X.out = .slice oa T.length oc := by
    rcases own_get hout with ⟨e, e2, _⟩ | ⟨g, cp, c, e, _⟩
    · exact ⟨none, 0, by rw [e, e2]⟩
    · exact ⟨_, _, e⟩
  have H0 : Hid (TellTo w1 w1 wb X T L 0 oa0 T.length oc0 []) := ⟨by rw [← ho0]; exact hblk, by rw [← ho0, List.append_nil]; exact hout, rfl, rfl, fun j t c h _ => by simp at h, Chg.refl _ _, fun g hg => Or.inl (by rw [ho0]; exact hg)⟩
  have HNT : Hid (∀ g cs t, Blk w1 g cs t → t ≠ 56 → t ≠ 93 → ¬ (g = wb ∨ X.out.ownBlock = some g)) := fun g cs t hb h1 h2 hx => by
    rcases hx with rfl | hx
    · exact h1 (Blk.same hb hblk).2
    · obtain ⟨cs', hb'⟩ := own_blk hout g hx
      exact h2 (Blk.same hb hb').2
  clear HC c6 hrow hdat hblk hkn hout hcom ho0
  obtain ⟨len, hlen⟩ : ∃ len, len = L.length := ⟨_, rfl⟩
  have HLEN := hide hlen
  rw [← hlen] at HROW HCOM ⊢
  clear hlen
  go_wp2
  go_loopw [4] (fun iv wr => ∃ (i : Nat) (oa : Option Addr) (on oc : Nat) (Ti : List Tl), i ≤ len ∧ iv = .int .i64 (i : Int) ∧ TellTo w1 wr wb X T L i oa on oc Ti) (fun i _ => len - (intOf i).toNat)
  case atStart => exact ⟨0, _, _, _, _, Nat.zero_le _, rfl, unhide H0⟩
  case round =>
    clear H0
    obtain ⟨i, oa, on, oc, Ti, hi, rfl, hto⟩ := hrel
    rcases Nat.lt_or_ge i len with hlt | hge
    · obtain ⟨c, hc⟩ : ∃ c, L[i]? = some c := ⟨_, List.getElem?_eq_getElem (by have := unhide HLEN; omega)⟩
      have hmem := List.mem_of_getElem? hc
      obtain ⟨⟨d, hd, hdk⟩, hse, hkd⟩ := unhide HSH c hmem
      have hcid := unhide HID i c hc
      obtain ⟨li, hli⟩ : ∃ li, li = X.last + i := ⟨_, rfl⟩
      have hll : li ≤ 200 := by have := unhide HLEN; omega
      rw [← hli] at hcid
      have hbl := hto.blk
      rw [← hli] at hbl
      have rowr := own_chg (unhide HROW) hto.chg (fun g hg => by
        obtain ⟨cs, hb⟩ := own_blk (unhide HROW) g hg
        exact unhide HNT g cs _ hb (by decide) (by decide))
      have datr := data_chg (unhide HDAT c hmem) hto.chg (fun b hb => by
        obtain ⟨xs, ho, _⟩ := id (unhide HDAT c hmem)
        obtain ⟨cs, hb'⟩ := own_blk ho b ((data_ob (unhide HDAT c hmem) b).2 hb)
        exact unhide HNT b cs _ hb' (by decide) (by decide))
      have knr := own_chg (unhide HKN) hto.chg (fun g hg => by
        obtain ⟨cs, hb⟩ := own_blk (unhide HKN) g hg
        exact unhide HNT g cs _ hb (by decide) (by decide))
      obtain ⟨av, cv, ys, hcd, hyl, hyb, _⟩ := data_news datr
      obtain ⟨dl, hdl⟩ : ∃ dl, dl = ys.length := ⟨_, rfl⟩
      rw [← hdl] at hcd
      have hkd' : (c.kind = 2 ∧ dl = 8) ∨ (c.kind = 3 ∧ dl = 0) := by
        rcases hkd with ⟨h1, g, cc, h2⟩ | ⟨h1, h2⟩
        · rw [hcd] at h2
          simp only [Value.slice.injEq] at h2
          exact Or.inl ⟨h1, h2.2.1⟩
        · rw [hcd] at h2
          simp only [Value.slice.injEq] at h2
          exact Or.inr ⟨h1, h2.2.1⟩
      obtain ⟨lb, cap', hge', _, _⟩ := rowr.form (by omega)
      simp only [Value.slice.injEq] at hge'
      obtain ⟨rfl, _, rfl⟩ := hge'
      have hbl5 := own_blk rowr lb rfl
      obtain ⟨lcs, hlb⟩ := hbl5
      have zz : ∀ j, j < 5 → wr.cell? ⟨lb, i * 5 + j, none⟩ = c.cells[j]? := fun j hj => by
        have := rowr.cellAt (i * 5 + j) (by omega)
        rw [flatC_at L i c hc j hj] at this
        exact this
      obtain ⟨kd, hkde⟩ : ∃ kd, kd = c.kind := ⟨_, rfl⟩
      rw [← hkde] at hkd'
      have z0 : wr.cell? ⟨lb, i * 5, none⟩ = some (.int .i64 ((li : Int) + 1)) := (zz 0 (by omega)).trans (by show some (Value.int .i64 c.id) = _; rw [hcid])
      have z1 : wr.cell? ⟨lb, i * 5 + 1, none⟩ = some (.int .i64 kd) := (zz 1 (by omega)).trans (by show some (Value.int .i64 c.kind) = _; rw [hkde])
      have z2 : wr.cell? ⟨lb, i * 5 + 2, none⟩ = some (.int .i64 (d : Int)) := (zz 2 (by omega)).trans (by show some (Value.int .i64 c.disk) = _; rw [hdk])
      have z3 : wr.cell? ⟨lb, i * 5 + 3, none⟩ = some (.int .i64 0) := (zz 3 (by omega)).trans (by show some (Value.int .i64 c.sector) = _; rw [hse])
      have z4 : wr.cell? ⟨lb, i * 5 + 4, none⟩ = some (.slice av dl cv) := (zz 4 (by omega)).trans (by show some c.data = _; rw [hcd])
      have HRI := hide (right_any wb { X with last := li, out := .slice oa on oc } d kd av dl cv wr hbl knr hD hS (by show li ≤ 1000; omega) hd hkd')
      have HTO := hide hto
      have HBL := hide hbl
      have HDR := hide datr
      have HLB := hide hlb
      have HLI := hide hli
      have HCC := hide hc
      have HCE : Hid (c.id = (li : Int) + 1 ∧ c.kind = kd ∧ c.disk = (d : Int) ∧ c.sector = 0 ∧ c.data = .slice av dl cv) := ⟨hcid, hkde.symm, hdk, hse, hcd⟩
      have HKD := hide hkd
      have ii0 : (0 : Int) ≤ (i : Int) := by omega
      have ii1 : (i : Int) < (len : Int) := by omega
      have ii2 : (i : Int) ≤ 100 := by have := unhide HLEN; omega
      have hd8 : dl ≤ 8 := by omega
      have hon : on ≤ 60 := by have := hto.num; have := unhide HLEN; omega
      clear hto hbl rowr datr knr hlb zz hli hcid hdk hse hcd hkd hkd' hkde hyl hyb hdl hmem hc
      go_wp2_with fail
      refine (unhide HRI).mono ?_
      rintro e wa ⟨rfl, hca⟩
      have hba := (unhide HBL).chg hca id
      have hcas := hca.size
      have hlba := (unhide HLB).chg hca id
      have hza : ∀ j u, wr.cell? ⟨lb, i * 5 + j, none⟩ = some u → wa.cell? ⟨lb, i * 5 + j, none⟩ = some u := fun j u hu => (World.cell?_of_block (a := ⟨lb, i * 5 + j, none⟩) (hca.block lb (block_lt_of_cell hu) id)).trans hu
      have y0 := hza 0 _ z0
      have y1 := hza 1 _ z1
      have y2 := hza 2 _ z2
      have y3 := hza 3 _ z3
      have y4 := hza 4 _ z4
      rw [Nat.add_zero] at y0
      have c9 : wa.cell? ⟨wb, 9, none⟩ = some (.int .i64 (li : Int)) := hba.cell 9
      have f9 := hba.free 9
      have hlw : lb ≠ wb := ne_of_type hlba hba (by decide)
      have hbs := hba.set 9 (.int .i64 ((li : Int) + 1))
      have hsz : (wa.setCell ⟨wb, 9, none⟩ (.int .i64 ((li : Int) + 1))).heap.size = wa.heap.size := by simp
      have CA : Chg (fun x => x = wb) wr (wa.setCell ⟨wb, 9, none⟩ (.int .i64 ((li : Int) + 1))) := (hca.mono (fun _ _ h => h.elim)).setCell _ _ (Or.inl rfl)
      have CB : Chg (fun x => x = wb) wr ((wa.setCell ⟨wb, 9, none⟩ (.int .i64 ((li : Int) + 1))).alloc (.cells #[.int .i64 ((li : Int) + 1), .int .i64 kd, .int .i64 (d : Int), .int .i64 0, .slice av dl cv] 91)) := CA.alloc _
      have hk3 := Blk.new (wa.setCell ⟨wb, 9, none⟩ (.int .i64 ((li : Int) + 1))) #[.int .i64 ((li : Int) + 1), .int .i64 kd, .int .i64 (d : Int), .int .i64 0, .slice av dl cv] 91
      rw [hsz] at hk3
      have d3 := data_chg (unhide HDR) CB (fun b hb e => by
        subst e
        obtain ⟨xs, ho, _⟩ := id (unhide HDR)
        obtain ⟨cs, hb'⟩ := own_blk ho b ((data_ob (unhide HDR) b).2 hb)
        exact (by decide : 5 ≠ 56) (Blk.same hb' (unhide HBL)).2)
      obtain ⟨av', cv', ys, hcd, hyl, hyb, hnews⟩ := data_news d3
      rw [(unhide HCE).2.2.2.2] at hcd
      simp only [Value.slice.injEq] at hcd
      obtain ⟨rfl, hdl, rfl⟩ := hcd
      have hl1 : (ys.map (fun (x : Nat) => Value.int .u8 (x : Int))).length = dl * 1 := by simp [hdl]
      have HNW := hide hnews
      have HYB : Hid (∀ y ∈ ys, y < 256) := hyb
      have HYL := hide hdl
      have HYL2 := hide hyl
      have HBS := hide (hbs.alloc (.cells #[.int .i64 ((li : Int) + 1), .int .i64 kd, .int .i64 (d : Int), .int .i64 0, .slice av dl cv] 91))
      have HK3 := hide hk3
      have HCB := hide CB
      have HON := hide (bytes_one ys)
      generalize hxs : ys.map (fun (x : Nat) => Value.int .u8 (x : Int)) = xs at *
      have HXS := hide hxs
      have hwal : wb < wa.heap.size := hba.lt
      have hlal : lb < wa.heap.size := hlba.lt
      clear z0 z1 z2 z3 z4 hza hba hlba hbs CA CB hk3 d3 hnews hyb hdl hyl HRI hca hxs
      go_wp2_with (at_builtin; refine wpList_append_all rfl (.tmp 39) (.tmp 44) 36 rfl 5 (.int .u8 0) 1 1 Tryz.underlying36 infoU rfl (by decide) (.slice none 0 0) 0 [] rfl (World.ownsRow_nil _ _ _ _) av dl cv xs rfl hl1 (unhide HNW) (unhide HON) (by omega) (by decide) ?_)
      intro a1 c1 w4 hap
      try simp only [Nat.zero_add, List.nil_append] at hap
      try simp only [Nat.zero_add]
      have C4 : Chg (fun _ => False) ((wa.setCell ⟨wb, 9, none⟩ (.int .i64 ((li : Int) + 1))).alloc (.cells #[.int .i64 ((li : Int) + 1), .int .i64 kd, .int .i64 (d : Int), .int .i64 0, .slice av dl cv] 91)) w4 := hap.chg.mono (fun k _ hk => by cases hk)
      have hk4 := (unhide HK3).chg C4 id
      have hb4 := (unhide HBS).chg C4 id
      have hcw : wa.heap.size ≠ wb := by omega
      have k4 : w4.cell? ⟨wa.heap.size, 4, none⟩ = some (.slice av dl cv) := hk4.cell 4
      have kf := hk4.free 4
      have HK4 := hide hk4
      have HK5 := hide (hk4.set 4 (.slice a1 dl c1))
      have HB5 := hide (hb4.other ⟨wa.heap.size, 4, none⟩ (.slice a1 dl c1) hcw.symm)
      have HAP := hide hap
      have HC4 := hide C4
      have HC5 : Hid (Chg (fun x => x = wb) wr (w4.setCell ⟨wa.heap.size, 4, none⟩ (.slice a1 dl c1))) := ((unhide HCB).trans C4 (fun _ h => h.elim)).setCell _ _ (Or.inr hcas)
      clear y0 y1 y2 y3 y4 c9 f9 hap C4 hk4 hb4 HNW HON hl1
      go_wp2_with fail
      have hcbl : wa.heap.size < (w4.setCell ⟨wa.heap.size, 4, none⟩ (.slice a1 dl c1)).heap.size := (unhide HK5).lt
      have HWA : Hid (wr.heap.size ≤ wa.heap.size) := hcas
      have HC45 : Hid (Chg (fun x => x = wa.heap.size) w4 (w4.setCell ⟨wa.heap.size, 4, none⟩ (.slice a1 dl c1))) := Chg.setCell (X := fun x => x = wa.heap.size) (Chg.refl _ w4) _ _ (Or.inl rfl)
      obtain ⟨w3, hw3⟩ : ∃ w3, w3 = (wa.setCell ⟨wb, 9, none⟩ (.int .i64 ((li : Int) + 1))).alloc (.cells #[.int .i64 ((li : Int) + 1), .int .i64 kd, .int .i64 (d : Int), .int .i64 0, .slice av dl cv] 91) := ⟨_, rfl⟩
      rw [← hw3] at HAP HCB HC4
      clear hw3 HBS HK3
      clear hcas
      generalize wa.heap.size = cb at *
      generalize w4.setCell ⟨cb, 4, none⟩ (.slice a1 dl c1) = w5 at *
      clear k4 kf
      have hS : (fun w' : World => w'.cell? ⟨wb, 8, none⟩ = some (.slice oa on oc) ∧ w'.cell? ⟨wb, 10, none⟩ = some (.int .i64 (X.time : Int)) ∧ w'.cell? ⟨cb, 0, none⟩ = some (.int .i64 ((li : Int) + 1)) ∧ w'.cell? ⟨cb, 1, none⟩ = some (.int .i64 kd) ∧ w'.cell? ⟨cb, 2, none⟩ = some (.int .i64 (d : Int)) ∧ w'.cell? ⟨cb, 3, none⟩ = some (.int .i64 0) ∧ w'.cell? ⟨cb, 4, none⟩ = some (.slice a1 dl c1)) w5.drew := ⟨(unhide HB5).cell 8, (unhide HB5).cell 10, (unhide HK5).cell 0, (unhide HK5).cell 1, (unhide HK5).cell 2, (unhide HK5).cell 3, (unhide HK5).cell 4⟩
      refine wp_region_noPanic ?_
      refine orders_begin 15 (fun w' => w'.cell? ⟨wb, 8, none⟩ = some (.slice oa on oc) ∧ w'.cell? ⟨wb, 10, none⟩ = some (.int .i64 (X.time : Int)) ∧ w'.cell? ⟨cb, 0, none⟩ = some (.int .i64 ((li : Int) + 1)) ∧ w'.cell? ⟨cb, 1, none⟩ = some (.int .i64 kd) ∧ w'.cell? ⟨cb, 2, none⟩ = some (.int .i64 (d : Int)) ∧ w'.cell? ⟨cb, 3, none⟩ = some (.int .i64 0) ∧ w'.cell? ⟨cb, 4, none⟩ = some (.slice a1 dl c1)) (by kernel_rfl) ?_
      refine orders_take 0 (some 47) (v := .pointer (some ⟨wb, 0, none⟩)) rfl (by kernel_rfl) (by kernel_rfl) (by kernel_rfl) (by kernel_rfl) (fun _ _ _ h => h) (Or.inl ⟨by rfl, fun _ _ => rfl⟩) hS rfl ?_
      simp only [Act.put, List.setIfInBounds_toArray, List.set_cons_zero, List.set_cons_succ]
      refine orders_take 1 (some 48) (v := .pointer (some ⟨wb, 0, none⟩)) rfl (by kernel_rfl) (by kernel_rfl) (by kernel_rfl) (by kernel_rfl) (fun _ _ _ h => h) (Or.inl ⟨by rfl, fun _ _ => rfl⟩) hS rfl ?_
      simp only [Act.put, List.setIfInBounds_toArray, List.set_cons_zero, List.set_cons_succ]
      refine orders_take 2 (some 49) (v := .pointer (some ⟨wb, 0, none⟩)) rfl (by kernel_rfl) (by kernel_rfl) (by kernel_rfl) (by kernel_rfl) (fun _ _ _ h => h) (Or.inl ⟨by rfl, fun _ _ => by go_simp⟩) hS rfl ?_
      simp only [Act.put, List.setIfInBounds_toArray, List.set_cons_zero, List.set_cons_succ]
      refine orders_take 3 (some 50) (v := .pointer (some ⟨wb, 8, none⟩)) rfl (by kernel_rfl) (by kernel_rfl) (by kernel_rfl) (by kernel_rfl) (fun _ _ _ h => h) (Or.inl ⟨by rfl, fun _ _ => by go_simp⟩) hS rfl ?_
      simp only [Act.put, List.setIfInBounds_toArray, List.set_cons_zero, List.set_cons_succ]
      refine orders_take 4 (some 51) (v := .slice oa on oc) rfl (by kernel_rfl) (by kernel_rfl) (by kernel_rfl) (by kernel_rfl) (fun _ _ _ h => h) (Or.inl ⟨by rfl, fun w' hw => by have hcc := hw.1; clear hw; go_simp⟩) hS rfl ?_
      simp only [Act.put, List.setIfInBounds_toArray, List.set_cons_zero, List.set_cons_succ]
      refine orders_take 5 (some 52) (v := .agg #[.int .i64 ((li : Int) + 1), .int .i64 kd, .int .i64 (d : Int), .int .i64 0, .slice a1 dl c1]) rfl (by kernel_rfl) (by kernel_rfl) (by kernel_rfl) (by kernel_rfl) (fun _ _ _ h => h) (Or.inl ⟨by rfl, fun w' hw => by have h0 := hw.2.2.1; have h1 := hw.2.2.2.1; have h2 := hw.2.2.2.2.1; have h3 := hw.2.2.2.2.2.1; have h4 := hw.2.2.2.2.2.2; clear hw; go_simp⟩) hS rfl ?_
      simp only [Act.put, List.setIfInBounds_toArray, List.set_cons_zero, List.set_cons_succ]
      refine orders_take 6 (some 53) (v := .pointer (some ⟨wb, 0, none⟩)) rfl (by kernel_rfl) (by kernel_rfl) (by kernel_rfl) (by kernel_rfl) (fun _ _ _ h => h) (Or.inl ⟨by rfl, fun _ _ => rfl⟩) hS rfl ?_
      simp only [Act.put, List.setIfInBounds_toArray, List.set_cons_zero, List.set_cons_succ]
      refine orders_take 7 (some 54) (v := .pointer (some ⟨wb, 0, none⟩)) rfl (by kernel_rfl) (by kernel_rfl) (by kernel_rfl) (by kernel_rfl) (fun _ _ _ h => h) (Or.inl ⟨by rfl, fun _ _ => by go_simp⟩) hS rfl ?_
      simp only [Act.put, List.setIfInBounds_toArray, List.set_cons_zero, List.set_cons_succ]
      refine orders_take 8 (some 55) (v := .pointer (some ⟨wb, 10, none⟩)) rfl (by kernel_rfl) (by kernel_rfl) (by kernel_rfl) (by kernel_rfl) (fun _ _ _ h => h) (Or.inl ⟨by rfl, fun _ _ => by go_simp⟩) hS rfl ?_
      simp only [Act.put, List.setIfInBounds_toArray, List.set_cons_zero, List.set_cons_succ]
      refine orders_take 9 (some 56) (v := .int .i64 (X.time : Int)) rfl (by kernel_rfl) (by kernel_rfl) (by kernel_rfl) (by kernel_rfl) (fun _ _ _ h => h) (Or.inl ⟨by rfl, fun w' hw => by have hcc := hw.2.1; clear hw; go_simp⟩) hS rfl ?_
      simp only [Act.put, List.setIfInBounds_toArray, List.set_cons_zero, List.set_cons_succ]
      refine orders_take 10 (some 57) (v := .agg #[.int .i64 ((li : Int) + 1), .int .i64 kd, .int .i64 (d : Int), .int .i64 0, .slice a1 dl c1, .int .i64 (X.time : Int)]) rfl (by kernel_rfl) (by kernel_rfl) (by kernel_rfl) (by kernel_rfl) (fun _ _ _ h => h) (Or.inl ⟨by rfl, fun _ _ => by go_simp⟩) hS rfl ?_
      simp only [Act.put, List.setIfInBounds_toArray, List.set_cons_zero, List.set_cons_succ]
      have HBD := hide (unhide HB5).drew
      have HKD5 := hide (unhide HK5).drew
      have HCD : Hid (Chg (fun x => x = wb) wr w5.drew) := (unhide HC5).drew
      have HC45d : Hid (Chg (fun x => x = cb) w4 w5.drew) := (unhide HC45).drew
      clear HB5 HK5 HC5 HC45
      generalize w5.drew = wd at *
      have hwl := (unhide HBD).lt
      have hcl := (unhide HKD5).lt
      have hto := unhide HTO
      refine orders_one 11 (by kernel_rfl) rfl (by rfl) (fun K hK => ?_)
      go_simp
      refine hK.out _ _ (fun _ => ⟨by rw [World.cell?_alloc_past _ _ _ hwl]; exact hS.1, by rw [World.cell?_alloc_past _ _ _ hwl]; exact hS.2.1, by rw [World.cell?_alloc_past _ _ _ hcl]; exact hS.2.2.1, by rw [World.cell?_alloc_past _ _ _ hcl]; exact hS.2.2.2.1, by rw [World.cell?_alloc_past _ _ _ hcl]; exact hS.2.2.2.2.1, by rw [World.cell?_alloc_past _ _ _ hcl]; exact hS.2.2.2.2.2.1, by rw [World.cell?_alloc_past _ _ _ hcl]; exact hS.2.2.2.2.2.2⟩) ?_
      clear hK K
      have rowd := own_chg hto.row (unhide HCD) (fun g hg e => by
        subst e
        obtain ⟨cs, hb⟩ := own_blk hto.row g hg
        exact (by decide : 93 ≠ 56) (Blk.same hb (unhide HBL)).2)
      have hal := (Below.refl wd.heap.size wd).alloc (Nat.le_refl _) (.cells #[.int .i64 ((li : Int) + 1), .int .i64 kd, .int .i64 (d : Int), .int .i64 0, .slice a1 dl c1, .int .i64 (X.time : Int)] 93)
      refine orders_one 12 (by kernel_rfl) rfl (by rfl) (fun K hK => ?_)
      refine wp_append_all (.tmp 51) (.tmp 58) 45 rfl 93 (.agg #[.int .i64 0, .int .i64 0, .int .i64 0, .int .i64 0, .slice none 0 0, .int .i64 0]) 6 64 Tryz.underlying45 infoTl rfl (by decide) (.slice oa on oc) on ((T ++ Ti).flatMap Tl.cells) rfl (own_chg rowd (Chg.of_new (X := fun _ => False) hal) (fun _ _ => id)) (some ⟨wd.heap.size, 0, none⟩) 1 1 [.int .i64 ((li : Int) + 1), .int .i64 kd, .int .i64 (d : Int), .int .i64 0, .slice a1 dl c1, .int .i64 (X.time : Int)] rfl rfl (fun j u hj => ⟨_, rfl, news_blk (Blk.new wd #[.int .i64 ((li : Int) + 1), .int .i64 kd, .int .i64 (d : Int), .int .i64 0, .slice a1 dl c1, .int .i64 (X.time : Int)] 93) j u hj⟩) (by intro u hu; simp only [List.mem_cons, List.not_mem_nil, or_false] at hu; rcases hu with rfl | rfl | rfl | rfl | rfl | rfl <;> rfl) (by omega) (by decide) ?_
      intro a2 c2 w7 hap2
      have C7 : Chg (fun x => (Value.slice oa on oc).ownBlock = some x) wd w7 := ((Chg.refl _ _).alloc _).trans hap2.chg (fun k h => Or.inl h)
      have nO : ∀ g cs t, Blk wd g cs t → t ≠ 93 → ¬ (Value.slice oa on oc).ownBlock = some g := fun g cs t hb ht hv => by
        obtain ⟨cs', hb'⟩ := own_blk rowd g hv
        exact ht (Blk.same hb hb').2
      have B7 := (unhide HBD).chg C7 (nO _ _ _ (unhide HBD) (by decide))
      have K7 := (unhide HKD5).chg C7 (nO _ _ _ (unhide HKD5) (by decide))
      have hS7 : (fun w' : World => w'.cell? ⟨wb, 8, none⟩ = some (.slice oa on oc) ∧ w'.cell? ⟨wb, 10, none⟩ = some (.int .i64 (X.time : Int)) ∧ w'.cell? ⟨cb, 0, none⟩ = some (.int .i64 ((li : Int) + 1)) ∧ w'.cell? ⟨cb, 1, none⟩ = some (.int .i64 kd) ∧ w'.cell? ⟨cb, 2, none⟩ = some (.int .i64 (d : Int)) ∧ w'.cell? ⟨cb, 3, none⟩ = some (.int .i64 0) ∧ w'.cell? ⟨cb, 4, none⟩ = some (.slice a1 dl c1)) w7 := ⟨B7.cell 8, B7.cell 10, K7.cell 0, K7.cell 1, K7.cell 2, K7.cell 3, K7.cell 4⟩
      refine hK.out _ _ (fun _ => hS7) ?_
      clear hK K
      have HAP2 := hide hap2
      have HC7 := hide C7
      have HNO := hide nO
      have HB7 := hide B7
      have HRD := hide rowd
      have f8 := B7.free 8
      have c8 := hS7.1
      clear hap2 C7 nO B7 K7 rowd hal hS hto
      refine orders_one 13 (by kernel_rfl) rfl (by rfl) (fun K hK => ?_)
      go_simp
      refine hK.out _ _ (fun _ => hS7) ?_
      clear hK K
      refine orders_one 14 (by kernel_rfl) rfl (by rfl) (fun K hK => ?_)
      go_simp
      refine hK.out _ _ (fun _ => hS7) ?_
      clear hK K
      refine orders_one 15 (by kernel_rfl) rfl (by rfl) (fun K hK => ?_)
      go_simp
      refine hK.out _ _ (fun h => absurd rfl h) ?_
      clear hK K hS7 c8 f8
      refine orders_end (by kernel_rfl) ?_
      refine NoPanic.normal ?_
      go_wp2
      go_roundw
      case rel =>
        have hto := unhide HTO
        have hap := unhide HAP
        have hap2 := unhide HAP2
        have hli := unhide HLI
        obtain ⟨ce1, ce2, ce3, ce4, ce5⟩ := unhide HCE
        have hs1 := hto.chg.size
        have hs3 := (unhide HCB).size
        have hsd := (unhide HCD).size
        have CS : Chg (fun x => x = wb) w7 (w7.setCell ⟨wb, 8, none⟩ (.slice a2 (on + 1) c2)) := Chg.setCell (X := fun x => x = wb) (Chg.refl _ w7) ⟨wb, 8, none⟩ _ (Or.inl rfl)
        have CD8 : Chg (fun x => x = wb ∨ (Value.slice oa on oc).ownBlock = some x) wd (w7.setCell ⟨wb, 8, none⟩ (.slice a2 (on + 1) c2)) := ((unhide HC7).mono (fun k _ h => Or.inr h)).setCell _ _ (Or.inl (Or.inl rfl))
        have C8 : Chg (fun x => x = wb ∨ (Value.slice oa on oc).ownBlock = some x) wr (w7.setCell ⟨wb, 8, none⟩ (.slice a2 (on + 1) c2)) := ((unhide HCD).mono (fun k _ h => Or.inl h)).trans CD8 (fun k h => Or.inl h)
        have n8 : ∀ g cs t, Blk wr g cs t → t ≠ 56 → t ≠ 93 → ¬ (g = wb ∨ (Value.slice oa on oc).ownBlock = some g) := fun g cs t hb h1 h2 hx => by
          rcases hx with rfl | hx
          · exact h1 (Blk.same hb (unhide HBL)).2
          · obtain ⟨cs', hb'⟩ := own_blk hto.row g hx
            exact h2 (Blk.same hb hb').2
        have nd : ∀ g cs t, Blk wd g cs t → t ≠ 56 → t ≠ 93 → ¬ (g = wb ∨ (Value.slice oa on oc).ownBlock = some g) := fun g cs t hb h1 h2 hx => by
          rcases hx with rfl | hx
          · exact h1 (Blk.same hb (unhide HBD)).2
          · exact unhide HNO g cs t hb h2 hx
        -- the data's copy
        have dn4 : DataIn w4 ⟨(li : Int) + 1, kd, (d : Int), 0, .slice a1 dl c1⟩ := ⟨ys, by rw [← unhide HYL, unhide HXS]; have h0 := hap.own; rw [Nat.zero_add] at h0; exact h0, unhide HYL2, unhide HYB⟩
        have dnd := data_chg dn4 (unhide HC45d) (fun b hb e => by
          obtain ⟨cs, hb'⟩ := own_blk hap.own b ((data_ob dn4 b).2 hb)
          subst e
          exact (by decide : 5 ≠ 91) (Blk.same hb' (unhide HK4)).2)
        have dn8 := data_chg dnd CD8 (fun b hb => by
          obtain ⟨xs', ho, _⟩ := id dnd
          obtain ⟨cs, hb'⟩ := own_blk ho b ((data_ob dnd b).2 hb)
          exact nd b cs _ hb' (by decide) (by decide))
        have hlen1 : (Ti ++ [(⟨⟨(li : Int) + 1, kd, (d : Int), 0, .slice a1 dl c1⟩, (X.time : Int)⟩ : Tl)]).length = i + 1 := by simp [hto.len]
        refine ⟨i + 1, a2, on + 1, c2, Ti ++ [⟨⟨(li : Int) + 1, kd, (d : Int), 0, .slice a1 dl c1⟩, (X.time : Int)⟩], by omega, by go_num, ⟨?_, ?_, by have := hto.num; omega, hlen1, fun j t c' ht hc' => ?_, ?_, fun g hg => ?_⟩⟩
        · have h1 := (unhide HB7).set 8 (.slice a2 (on + 1) c2)
          have e : (li : Int) + 1 = ((X.last + (i + 1) : Nat) : Int) := by rw [hli]; omega
          rw [e] at h1
          exact h1
        · rw [← List.append_assoc, List.flatMap_append]
          exact own_chg hap2.own CS (fun g hg e => by
            subst e
            obtain ⟨cs, hb⟩ := own_blk hap2.own g hg
            exact (by decide : 93 ≠ 56) (Blk.same hb (unhide HB7)).2)
        · rcases Nat.lt_or_ge j i with hj | hj
          · rw [List.getElem?_append_left (by rw [hto.len]; exact hj)] at ht
            obtain ⟨q1, q2, q3⟩ := hto.ent j t c' ht hc'
            refine ⟨q1, data_chg q2 C8 (fun b hb => ?_), q3⟩
            obtain ⟨xs', ho, _⟩ := id q2
            obtain ⟨cs, hb'⟩ := own_blk ho b ((data_ob q2 b).2 hb)
            exact n8 b cs _ hb' (by decide) (by decide)
          · rw [List.getElem?_append_right (by rw [hto.len]; exact hj), hto.len] at ht
            have hji : j = i := by
              rcases Nat.eq_zero_or_pos (j - i) with q | q
              · omega
              · rw [List.getElem?_cons, if_neg (by omega)] at ht
                simp at ht
            subst hji
            rw [Nat.sub_self] at ht
            simp only [List.getElem?_cons_zero, Option.some.injEq] at ht
            subst ht
            rw [unhide HCC] at hc'
            obtain rfl := Option.some.inj hc'
            refine ⟨?_, dn8, fun b hb => ?_⟩
            · show (⟨(li : Int) + 1, kd, (d : Int), 0, .slice none 0 0⟩ : Cmd) = ⟨c.id, c.kind, c.disk, c.sector, .slice none 0 0⟩
              rw [ce1, ce2, ce3, ce4]
            · rcases hap.new b ((data_ob dn4 b).2 hb) with q | q
              · cases q
              · omega
        · exact hto.chg.trans C8 (fun x h => by
            rcases h with h | h
            · exact Or.inl (Or.inl h)
            · rcases hto.new x h with q | q
              · exact Or.inl (Or.inr q)
              · exact Or.inr q)
        · rcases hap2.new g hg with q | q
          · exact hto.new g q
          · rw [World.size_alloc] at q
            exact Or.inr (by omega)
      case measure => simp [intOf]; omega
    · obtain rfl : i = len := by omega
      have HCO := hide (unhide HCOM wr oa on oc Ti hto)
      clear hto
      go_wp2_with fail
      refine (unhide HCO).mono ?_
      rintro e w8 ⟨rfl, X', hb8, h1, h2, h3, hR⟩
      have t10 : w8.cell? ⟨wb, 10, none⟩ = some (.int .i64 (X.time : Int)) := (hb8.cell 10).trans (by show some (Value.int .i64 (X'.time : Int)) = _; rw [h1])
      have o8 : w8.cell? ⟨wb, 8, none⟩ = some (.slice oa on oc) := (hb8.cell 8).trans (by show some X'.out = _; rw [h2])
      have f10 := hb8.free 10
      have it : (X.time : Int) ≤ 1000 := by omega
      have io : (on : Int) ≤ 64 := by omega
      have HR := hide hR
      clear hb8 h1 h2 hR HCO
      go_wp2
      go_ret
      exact ⟨rfl, unhide HR⟩

end Go.Proofs.YtdcinlkkjbclmaaGreat

/- Commands are told: the law behind it. -/
namespace Go.Proofs.YtdcinlkkjbclmaaGreat
open Go.RowKit

theorem own_zero {w : World} {base : Nat} {t : TypeId} {k : Nat} {v : Value} {n : Nat} {xs : List Value} (h : w.ownsRow base t k v n xs) : w.ownsRow 0 t k v n xs := by
  obtain ⟨h1, h2⟩ := h
  refine ⟨h1, ?_⟩
  rcases h2 with h2 | ⟨g, cap, cur, e, hg, r⟩
  · exact Or.inl h2
  · exact Or.inr ⟨g, cap, cur, e, Nat.zero_le _, r⟩
theorem own_base {w : World} {base : Nat} {t : TypeId} {k : Nat} {v : Value} {n : Nat} {xs : List Value} (h : w.ownsRow base t k v n xs) (g : Nat) (hg : v.ownBlock = some g) : base ≤ g := by
  rcases h.2 with ⟨e, _⟩ | ⟨g', cap, cur, e, hb, r⟩
  · rw [e] at hg; cases hg
  · rw [e] at hg
    obtain rfl : g' = g := by simpa [Value.ownBlock] using hg
    exact hb
/-- what stays of the law, whatever is told or done -/
def SameX (X X' : LX) : Prop := X'.D = X.D ∧ X'.S = X.S ∧ X'.pb = X.pb ∧ X'.ds = X.ds ∧ X'.formed = X.formed ∧ X'.stale = X.stale ∧ X'.knows = X.knows ∧ X'.rs = X.rs ∧ X'.kr = X.kr
theorem SameX.refl (X : LX) : SameX X X := ⟨rfl, rfl, rfl, rfl, rfl, rfl, rfl, rfl, rfl⟩
theorem SameX.trans {X Y Z : LX} (h : SameX X Y) (h' : SameX Y Z) : SameX X Z := by
  obtain ⟨a1, a2, a3, a4, a5, a6, a7, a8, a9⟩ := h
  obtain ⟨b1, b2, b3, b4, b5, b6, b7, b8, b9⟩ := h'
  exact ⟨b1.trans a1, b2.trans a2, b3.trans a3, b4.trans a4, b5.trans a5, b6.trans a6, b7.trans a7, b8.trans a8, b9.trans a9⟩

set_option maxHeartbeats 2000000 in
theorem tell_any (wb : Nat) (X : LX) (us : List Value) (kk : List Int) (cus : List Value) (ckk : List Int) (T : List Tl) (db : Nat → Nat) (F : Nat → Nat → Prop) (vb : Nat) (A : VA) (O : List Nat) (w : World) (h : LSt w wb X us kk cus ckk T db F vb A O) (hD : X.D ≤ 8) (hS : X.S ≤ 6) (hlast : X.last = A.lastC) (hlc : A.lastC ≤ 50) (htime : X.time ≤ 900) (hTl : T.length ≤ 50) (htl : A.told.length + A.wait.length ≤ 60) (hwl : A.wait.length ≤ 8) (hid : ∀ c ∈ A.told, c.id ≤ (A.lastC : Int)) (hsh : ∀ c ∈ A.wait, Shp X.D c) (hn : X.n ≤ 90) (hus : us.length ≤ 700) (hcu : cus.length ≤ 800) :
    Calls Tryz.prog 26 #[.pointer (some ⟨wb, 0, none⟩)] w fun e w' => e = .returned (.bool true) ∧ ∃ X' us' kk' cus' ckk' T' O', LSt w' wb X' us' kk' cus' ckk' (T ++ T') db F vb (toldA A A.wait.length) O' ∧ SameX X X' ∧ X'.done = X.done ∧ X'.last = X.last + A.wait.length ∧ X'.time = X.time + 1 ∧ X'.n = X.n + A.wait.length ∧ us'.length = us.length + 4 * A.wait.length ∧ cus'.length = cus.length + 4 ∧ (∀ q ∈ ckk', q ∈ ckk ∨ q = (cus.length : Int) + 1) ∧ T'.length = A.wait.length ∧ (∀ (j : Nat) (t : Tl) (c : Cmd), T'[j]? = some t → (numb A.lastC A.wait)[j]? = some c → noData t.c = noData c) ∧
      Chg (AMem wb X us cus T F O) w w' ∧ ∀ b, AMem wb X' us' cus' (T ++ T') F O' b → AMem wb X us cus T F O b ∨ w.heap.size ≤ b := by
  have hL : (numb A.lastC A.wait).length = A.wait.length := numb_len _ _
  have hdL : dats (numb A.lastC A.wait) = dats A.wait := numb_dats _ _
  obtain ⟨G, hG, hGO, hGn, hGd⟩ := id h.vol
  have hdO : ∀ b ∈ dats A.wait, b ∈ O := fun b hb => by rw [hGO]; exact List.mem_append_right _ hb
  have hnd : (dats A.wait).Nodup := by rw [hGO, List.nodup_append] at hGn; exact hGn.2.1
  have hlt := h.vol.lt
  refine tell_walk wb X.pb X T (numb A.lastC A.wait) _ w rfl h.lw.blk hD hS (by omega) (by omega) (by omega) hTl (wrapCommands X.pb vb _ w (h.rs.pv.cell 0) ((commands_any vb A O w h.vol htl hid (by omega)).mono ?_)) (fun i c hc => ?_) (fun c hc => ?_)
  · rintro e w1 ⟨v, O', rfl, v1, c1, o1, hh⟩
    obtain ⟨la, cap, hla⟩ : ∃ la cap, v = .slice la (numb A.lastC A.wait).length cap := by
      rcases own_get (own_zero hh.row) with ⟨e, e2, _⟩ | ⟨g, cp, c, e, _⟩
      · exact ⟨none, 0, by rw [e, e2]⟩
      · exact ⟨_, _, e⟩
    subst hla
    have hs1 := c1.size
    have R1 := h.rs.chg c1 (fun b hb => h.ro b hb)
    have L1 := h.lw.chg c1 (fun b hb => h.lo b hb)
    have hO1 := v1.lt
    have hlb : ∀ g, (Value.slice la (numb A.lastC A.wait).length cap).ownBlock = some g → w.heap.size ≤ g ∧ g < w1.heap.size ∧ g ∉ O' := fun g hg => by
      obtain ⟨c, hc⟩ := own_blk (own_zero hh.row) g hg
      exact ⟨own_base hh.row g hg, hc.lt, hh.rno g (own_dBlk _ g hg)⟩
    have hdO' : ∀ b ∈ dats A.wait, b ∉ O' := fun b hb => by
      rw [← hdL] at hb
      obtain ⟨c, hc, hb⟩ := dats_mem.1 hb
      exact (hh.dat c hc).2 b hb
    have lo1 : ∀ b, LMem wb X us cus b → b ∉ O' := fun b hb ho => by
      rcases o1 b ho with q | q
      · exact h.lo b hb q
      · have := h.lw.lt b hb; omega
    have ro1 : ∀ b, RMem X T F b → b ∉ O' := fun b hb ho => by
      rcases o1 b ho with q | q
      · exact h.ro b hb q
      · have := h.rs.lt b hb; omega
    refine ⟨_, rfl, la, cap, rfl, own_zero hh.row, fun c hc => (hh.dat c hc).1, L1.blk, R1.kn, R1.out, fun wr oa on oc Ti hto => ?_⟩
    have hsr := hto.chg.size
    have n1 : ∀ g cs t, Blk w1 g cs t → t ≠ 56 → t ≠ 93 → ¬ (g = wb ∨ X.out.ownBlock = some g) := fun g cs t hb h1 h2 hx => by
      rcases hx with rfl | hx
      · exact h1 (Blk.same hb L1.blk).2
      · obtain ⟨cs', hb'⟩ := own_blk R1.out g hx
        exact h2 (Blk.same hb hb').2
    have nR : ∀ (t : TypeId) (k : Nat) (v : Value) (m : Nat) (xs : List Value), w1.ownsRow 0 t k v m xs → t ≠ 56 → t ≠ 93 → ∀ g, v.ownBlock = some g → ¬ (g = wb ∨ X.out.ownBlock = some g) := fun t k v m xs ho h1 h2 g hg => by
      obtain ⟨c, hc⟩ := own_blk ho g hg
      exact n1 g c t hc h1 h2
    have LR : Lw wr wb { X with last := X.last + (numb A.lastC A.wait).length, out := .slice oa on oc } us kk cus ckk :=
      ⟨hto.blk, L1.bk.chg hto.chg (nR _ _ _ _ _ L1.bk.row (by decide) (by decide)) (nR _ _ _ _ _ L1.bk.key (by decide) (by decide)) (fun u hu g hg => by obtain ⟨c, hc⟩ := L1.bk.typ u hu g hg; exact n1 g c _ hc (by decide) (by decide)),
       L1.cb.chg hto.chg (nR _ _ _ _ _ L1.cb.row (by decide) (by decide)) (nR _ _ _ _ _ L1.cb.key (by decide) (by decide)) (fun u hu g hg => by obtain ⟨c, hc⟩ := L1.cb.typ u hu g hg; exact n1 g c _ hc (by decide) (by decide)), L1.ne⟩
    have rowr := own_chg (own_zero hh.row) hto.chg (nR _ _ _ _ _ (own_zero hh.row) (by decide) (by decide))
    have datr : ∀ c ∈ numb A.lastC A.wait, DataIn wr c := fun c hc => data_chg (hh.dat c hc).1 hto.chg (fun b hb => by
      obtain ⟨xs, ho, _⟩ := id (hh.dat c hc).1
      obtain ⟨cs, hb'⟩ := own_blk ho b ((data_ob (hh.dat c hc).1 b).2 hb)
      exact n1 b cs _ hb' (by decide) (by decide))
    refine (cmds_any wb _ us kk cus ckk la cap _ (numb A.lastC A.wait) wr LR rfl rowr (by omega) datr (by rw [hdL]; exact hnd) (fun b hb hm => h.lo b hm (hdO b (by rw [← hdL]; exact hb))) (fun b hb hm => by have := (hlb b hb).1; have := h.lw.lt b hm; omega) (by show X.n ≤ 100; omega) (by omega) (by omega)).mono ?_
    rintro e w8 ⟨rfl, bs, ks, cs, kc, us', kk', qa, qb, qc, qd, L8, hnum, c8, m8⟩
    have hs8 := c8.size
    refine ⟨rfl, _, L8.blk, rfl, rfl, by have := hto.num; omega, ?_⟩
    have CS : Chg (fun x => x = wb) w8 (w8.setCell ⟨wb, 10, none⟩ (.int .i64 ((X.time : Int) + 1))) := Chg.setCell (X := fun x => x = wb) (Chg.refl _ w8) ⟨wb, 10, none⟩ _ (Or.inl rfl)
    have C19 : Chg (fun x => X.out.ownBlock = some x ∨ LMem wb X us cus x ∨ (Value.slice la (numb A.lastC A.wait).length cap).ownBlock = some x ∨ x ∈ dats A.wait) w1 (w8.setCell ⟨wb, 10, none⟩ (.int .i64 ((X.time : Int) + 1))) :=
      ((hto.chg.mono (fun k _ hk => hk.elim (fun e => Or.inr (Or.inl (Or.inl e))) Or.inl)).trans c8 (fun k hk => Or.inl (by
        rcases hk with hk | hk | hk
        · exact Or.inr (Or.inl hk)
        · exact Or.inr (Or.inr (Or.inl hk))
        · exact Or.inr (Or.inr (Or.inr (by rw [← hdL]; exact hk)))))).trans CS (fun k hk => Or.inl (Or.inr (Or.inl (Or.inl hk))))
    have hm8 : ∀ x, LMem wb { X with last := X.last + (numb A.lastC A.wait).length, out := .slice oa on oc, time := X.time + 1, n := X.n + (numb A.lastC A.wait).length, bs := bs, ks := ks, cs := cs, kc := kc } us' (cus ++ [qa, qb, qc, qd]) x → LMem wb X us cus x ∨ (Value.slice la (numb A.lastC A.wait).length cap).ownBlock = some x ∨ x ∈ dats A.wait ∨ wr.heap.size ≤ x := fun x hx => by
      rcases m8 x hx with q | q | q | q
      · exact Or.inl q
      · exact Or.inr (Or.inl q)
      · exact Or.inr (Or.inr (Or.inl (by rw [← hdL]; exact q)))
      · exact Or.inr (Or.inr (Or.inr q))
    -- blocks of the rest
    have old : ∀ b, RMem X T F b → b < w.heap.size := fun b hb => h.rs.lt b hb
    have keep : ∀ b cs t, RMem X T F b → Blk w1 b cs t → t ≠ 93 → t ≠ 91 → ¬ (X.out.ownBlock = some b ∨ LMem wb X us cus b ∨ (Value.slice la (numb A.lastC A.wait).length cap).ownBlock = some b ∨ b ∈ dats A.wait) := fun b cs t hr hb h1 h2 hx => by
      rcases hx with hx | hx | hx | hx
      · obtain ⟨cs', hb'⟩ := own_blk R1.out b hx
        exact h1 (Blk.same hb hb').2
      · exact h.lr b hx hr
      · have := (hlb b hx).1; have := old b hr; omega
      · exact h.ro b hr (hdO b hx)
    have newT : ∀ t ∈ Ti, DataIn wr t.c ∧ (∀ b ∈ dBlk t.c.data, w1.heap.size ≤ b ∧ b < wr.heap.size) := fun t ht => by
      obtain ⟨j, hj, e⟩ := List.getElem_of_mem ht
      have hj' : j < (numb A.lastC A.wait).length := by have := hto.len; omega
      obtain ⟨_, q2, q3⟩ := hto.ent j t _ (by rw [List.getElem?_eq_getElem hj, e]) (List.getElem?_eq_getElem hj')
      exact ⟨q2, fun b hb => ⟨q3 b hb, q2.lt b hb⟩⟩
    have hout : ∀ g, (Value.slice oa on oc).ownBlock = some g → g < wr.heap.size := fun g hg => by
      obtain ⟨c, hc⟩ := own_blk hto.row g hg
      exact hc.lt
    have C89 : Chg (fun x => LMem wb X us cus x ∨ (Value.slice la (numb A.lastC A.wait).length cap).ownBlock = some x ∨ x ∈ dats A.wait) wr (w8.setCell ⟨wb, 10, none⟩ (.int .i64 ((X.time : Int) + 1))) :=
      (c8.mono (fun k _ hk => by
        rcases hk with hk | hk | hk
        · exact Or.inl hk
        · exact Or.inr (Or.inl hk)
        · exact Or.inr (Or.inr (by rw [← hdL]; exact hk)))).trans CS (fun k hk => Or.inl (Or.inl (Or.inl hk)))
    have fresh : ∀ b, w1.heap.size ≤ b → ¬ (LMem wb X us cus b ∨ (Value.slice la (numb A.lastC A.wait).length cap).ownBlock = some b ∨ b ∈ dats A.wait) := fun b hb hx => by
      rcases hx with hx | hx | hx
      · have := h.lw.lt b hx; omega
      · have := (hlb b hx).2.1; omega
      · have := hlt b (hdO b hx); omega
    have rm' : ∀ b, RMem { X with last := X.last + (numb A.lastC A.wait).length, out := .slice oa on oc, time := X.time + 1, n := X.n + (numb A.lastC A.wait).length, bs := bs, ks := ks, cs := cs, kc := kc } (T ++ Ti) F b → (RMem X T F b) ∨ (w1.heap.size ≤ b ∧ b < wr.heap.size) := fun b hb => by
      rcases hb with hb | hb | hb | hb | hb | hb | hb
      · rcases hto.new b hb with q | q
        · exact Or.inl (Or.inl q)
        · exact Or.inr ⟨q, hout b hb⟩
      · obtain ⟨t, ht, hb⟩ := tl_mem.1 hb
        rcases List.mem_append.1 ht with q | q
        · exact Or.inl (Or.inr (Or.inl (tl_mem.2 ⟨t, q, hb⟩)))
        · exact Or.inr ((newT t q).2 b hb)
      · exact Or.inl (Or.inr (Or.inr (Or.inl hb)))
      · exact Or.inl (Or.inr (Or.inr (Or.inr (Or.inl hb))))
      · exact Or.inl (Or.inr (Or.inr (Or.inr (Or.inr (Or.inl hb)))))
      · exact Or.inl (Or.inr (Or.inr (Or.inr (Or.inr (Or.inr (Or.inl hb))))))
      · exact Or.inl (Or.inr (Or.inr (Or.inr (Or.inr (Or.inr (Or.inr hb))))))
    refine ⟨{ X with last := X.last + (numb A.lastC A.wait).length, out := .slice oa on oc, time := X.time + 1, n := X.n + (numb A.lastC A.wait).length, bs := bs, ks := ks, cs := cs, kc := kc }, us', kk', cus ++ [qa, qb, qc, qd], _, Ti, O', ⟨⟨?_, L8.bk.chg CS (fun g hg e => ?_) (fun g hg e => ?_) (fun u hu g hg e => ?_), L8.cb.chg CS (fun g hg e => ?_) (fun g hg e => ?_) (fun u hu g hg e => ?_), L8.ne⟩, ⟨?_, fun t ht => ?_, own_chg R1.ds C19 (fun g hg => ?_), fun i hi => (R1.dk i hi).chg C19 (fun g hg => ?_), R1.sep, own_chg R1.st C19 (fun g hg => ?_), own_chg R1.kn C19 (fun g hg => ?_), R1.pv.chg C19 ?_⟩, v1.chg C19 (fun b hb hx => ?_), fun b hl hr => ?_, fun b hb ho => ?_, fun b hb ho => ?_⟩, ⟨rfl, rfl, rfl, rfl, rfl, rfl, rfl, rfl, rfl⟩, rfl, by show X.last + (numb A.lastC A.wait).length = _; rw [hL], rfl, by show X.n + (numb A.lastC A.wait).length = _; rw [hL], by rw [hnum, hL], by simp, fun q hq => ?_, by rw [hto.len, hL], fun j t c ht hc => (hto.ent j t c ht hc).1, ?_, fun b hb => ?_⟩
    · exact L8.blk.set 10 _
    · subst e; obtain ⟨c, hc⟩ := own_blk L8.bk.row g hg; exact (by decide : 36 ≠ 56) (Blk.same hc L8.blk).2
    · subst e; obtain ⟨c, hc⟩ := own_blk L8.bk.key g hg; exact (by decide : 3 ≠ 56) (Blk.same hc L8.blk).2
    · subst e; obtain ⟨c, hc⟩ := L8.bk.typ u hu g hg; exact (by decide : 5 ≠ 56) (Blk.same hc L8.blk).2
    · subst e; obtain ⟨c, hc⟩ := own_blk L8.cb.row g hg; exact (by decide : 87 ≠ 56) (Blk.same hc L8.blk).2
    · subst e; obtain ⟨c, hc⟩ := own_blk L8.cb.key g hg; exact (by decide : 3 ≠ 56) (Blk.same hc L8.blk).2
    · subst e; obtain ⟨c, hc⟩ := L8.cb.typ u hu g hg; exact (by decide : 91 ≠ 56) (Blk.same hc L8.blk).2
    · have ho := own_chg hto.row C89 (fun g hg hx => by
        rcases hto.new g hg with q | q
        · rcases hx with hx | hx | hx
          · exact h.lr g hx (Or.inl q)
          · have := (hlb g hx).1; have := old g (Or.inl q); omega
          · exact h.ro g (Or.inl q) (hdO g hx)
        · exact fresh g q hx)
      rw [List.length_append, hto.len, ← hto.num]
      exact ho
    · rcases List.mem_append.1 ht with q | q
      · refine data_chg (R1.dat t q) C19 (fun b hb => ?_)
        obtain ⟨xs, ho, _⟩ := id (R1.dat t q)
        obtain ⟨cs', hb'⟩ := own_blk ho b ((data_ob (R1.dat t q) b).2 hb)
        exact keep b cs' _ (Or.inr (Or.inl (tl_mem.2 ⟨t, q, hb⟩))) hb' (by decide) (by decide)
      · exact data_chg (newT t q).1 C89 (fun b hb => fresh b ((newT t q).2 b hb).1)
    · obtain ⟨c, hc⟩ := own_blk R1.ds g hg; exact keep g c _ (Or.inr (Or.inr (Or.inl hg))) hc (by decide) (by decide)
    · obtain ⟨c, t, hc, ht⟩ := (R1.dk i hi).typ g hg
      refine keep g c t (Or.inr (Or.inr (Or.inr (Or.inl ⟨i, hi, hg⟩)))) hc (fun e => ?_) (fun e => ?_)
      · subst e; revert ht; unfold dskT; decide
      · subst e; revert ht; unfold dskT; decide
    · obtain ⟨c, hc⟩ := own_blk R1.st g hg; exact keep g c _ (Or.inr (Or.inr (Or.inr (Or.inr (Or.inl hg))))) hc (by decide) (by decide)
    · obtain ⟨c, hc⟩ := own_blk R1.kn g hg; exact keep g c _ (Or.inr (Or.inr (Or.inr (Or.inr (Or.inr (Or.inl hg)))))) hc (by decide) (by decide)
    · exact keep X.pb _ _ (Or.inr (Or.inr (Or.inr (Or.inr (Or.inr (Or.inr rfl)))))) R1.pv (by decide) (by decide)
    · rcases hx with hx | hx | hx | hx
      · exact ro1 b (Or.inl hx) hb
      · exact lo1 b hx hb
      · exact (hlb b hx).2.2 hb
      · exact hdO' b hx hb
    · rcases hm8 b hl with q | q | q | q
      · rcases rm' b hr with r | r
        · exact h.lr b q r
        · have := h.lw.lt b q; omega
      · rcases rm' b hr with r | r
        · have := (hlb b q).1; have := old b r; omega
        · have := (hlb b q).2.1; omega
      · rcases rm' b hr with r | r
        · exact h.ro b r (hdO b q)
        · have := hlt b (hdO b q); omega
      · rcases rm' b hr with r | r
        · have := old b r; omega
        · omega
    · rcases hm8 b hb with q | q | q | q
      · exact lo1 b q ho
      · exact (hlb b q).2.2 ho
      · exact hdO' b q ho
      · have := hO1 b ho; omega
    · rcases rm' b hb with r | r
      · exact ro1 b r ho
      · have := hO1 b ho; omega
    · rcases List.mem_append.1 hq with q1 | q1
      · exact Or.inl q1
      · simp only [List.mem_cons, List.not_mem_nil, or_false, or_self] at q1
        exact Or.inr q1
    · refine (c1.mono (fun k _ hk => Or.inr (Or.inr hk))).trans C19 (fun k hk => ?_)
      rcases hk with hk | hk | hk | hk
      · exact Or.inl (Or.inr (Or.inl (Or.inl hk)))
      · exact Or.inl (Or.inl hk)
      · exact Or.inr (hlb k hk).1
      · exact Or.inl (Or.inr (Or.inr (hdO k hk)))
    · rcases hb with hb | hb | hb
      · rcases hm8 b hb with q | q | q | q
        · exact Or.inl (Or.inl q)
        · exact Or.inr (hlb b q).1
        · exact Or.inl (Or.inr (Or.inr (hdO b q)))
        · exact Or.inr (by omega)
      · rcases rm' b hb with r | r
        · exact Or.inl (Or.inr (Or.inl r))
        · exact Or.inr (by omega)
      · rcases o1 b hb with q | q
        · exact Or.inl (Or.inr (Or.inr q))
        · exact Or.inr q
  · obtain ⟨d, hd, rfl⟩ := numb_at _ _ i c hc
    rw [hlast]
  · obtain ⟨j, hj, e⟩ := List.getElem_of_mem hc
    obtain ⟨d, hd, e2⟩ := numb_at A.lastC A.wait j c (by rw [List.getElem?_eq_getElem hj, e])
    subst e2
    exact hsh d (List.mem_of_getElem? hd)

end Go.Proofs.YtdcinlkkjbclmaaGreat
