/- What is written: bytes.Clone, a label's sector, write. -/
import Derived.Test.YtdcinlkkjbclmaaGreatMVReadVGive
import Derived.Laws.AppendOwnNone
import Derived.Deep.RegionHeld3
namespace Go.Proofs.YtdcinlkkjbclmaaGreat
open Go.RowKit

def Y (x : Nat) : Value := .int .u8 (x : Int)
theorem Tryz.infoY : (Tryz.prog.info? 5).map (fun i => (i.zero, i.size, i.bytes)) = some (some (.int .u8 0), 1, 1) := by kernel_rfl

set_option maxRecDepth 100000 in
set_option maxHeartbeats 400000 in
theorem clone_any (b o cap : Nat) (xs : List Nat) (w : World) (_hn : 0 < xs.length) (hm : xs.length ≤ 1000) (hr : w.rangeAt b o (xs.map Y)) :
    Calls Tryz.prog 172 #[.slice (some ⟨b, o, none⟩) xs.length cap] w fun e w' => ∃ v, e = .returned v ∧ w'.ownsRow w.heap.size 5 1 v xs.length (xs.map Y) ∧ Below w.heap.size w w' := by
  obtain ⟨i0, hi, hz0, hz1, hz2⟩ := info_parts Tryz.infoY
  go_enter Tryz.func172, Tryz.ntmps172
  have heq := fun (w' : World) => Lib.run_eql_slice_nil (P := Tryz.prog) w' 36 5 (some ⟨b, o, none⟩) xs.length cap 0 0 Tryz.underlying36
  have hl : (xs.map Y).length = xs.length * 1 := by simp
  have hnews : ∀ j u, (xs.map Y)[j]? = some u → (w.alloc (.cells #[] 5)).cell? ((⟨b, o, none⟩ : Addr).add j) = some u := by
    intro j u hj
    rw [Addr.add_mid]
    have h1 := hr j u hj
    rw [World.cell?_alloc_past _ _ _ (block_lt_of_cell h1)]
    exact h1
  have h1 : ∀ u ∈ xs.map Y, u.oneCell' = true := by intro u hu; simp only [List.mem_map] at hu; obtain ⟨x, _, rfl⟩ := hu; rfl
  have hown : (w.alloc (.cells #[] 5)).ownsRow w.heap.size 5 1 (.slice (some ⟨w.heap.size, 0, none⟩) 0 0) 0 [] := World.ownsRow_made w #[] 0 (Nat.le_refl _) (by decide) (by simp)
  have HL := hide hl
  have HN := hide hnews
  have H1 := hide h1
  have HO := hide hown
  clear hl hnews h1 hown hr
  go_wp2_with (at_builtin; refine wpList_append_own _ rfl _ _ 36 rfl w.heap.size 5 i0 (.int .u8 0) 1 1 Tryz.underlying36 hi hz0 hz1 hz2 rfl (by decide) _ _ _ rfl (unhide HO) ⟨b, o, none⟩ xs.length cap (xs.map Y) rfl (unhide HL) (unhide HN) (unhide H1) (by unfold maxLen; omega) (by omega) (by simp) ?_)
  intro v' w1 hown' hgrow _
  have HB : Hid (Below w.heap.size w w1) := ((Below.refl _ _).alloc (Nat.le_refl _) _).grown hgrow (by simp) (fun k hk => ((unhide HO).lt k hk).1)
  have HW := hide hown'
  clear hown' hgrow HO HN heq
  go_wp2
  go_ret
  exact ⟨v', rfl, unhide HW, unhide HB⟩

/-- the sector of a member's label -/
def label8 : List Nat := [1, 0, 0, 0, 0, 0, 0, 0]
set_option maxRecDepth 100000 in
set_option maxHeartbeats 1000000 in
theorem label_any (w : World) : Calls Tryz.prog 166 #[.agg #[.bool true, .bool false, .int .i64 0]] w fun e w' => e = .returned (.agg (label8.map Y).toArray) ∧ Below w.heap.size w w' := by
  go_enter Tryz.func166, Tryz.ntmps166
  go_wp2
  have hk := (Blk.new (w.alloc (.cells #[.bool true, .bool false, .int .i64 0] 232)) #[.int .u8 1, .int .u8 0, .int .u8 0, .int .u8 0, .int .u8 0, .int .u8 0, .int .u8 0, .int .u8 0] 149).alloc (.cells #[.int .u8 1, .int .u8 0, .int .u8 0, .int .u8 0, .int .u8 0, .int .u8 0, .int .u8 0, .int .u8 0] 149)
  simp only [World.size_alloc] at hk
  refine bodyPost_ret (results_cell_row Tryz.results166 _ _ (w.heap.size + 1) _ _ _ _ rfl hk Tryz.underlying149 rfl (by kernel_rfl)) rfl ⟨rfl, ?_⟩
  exact (((Below.refl _ _).alloc (Nat.le_refl _) _).alloc (by simp) _).alloc (by simp; omega) _

theorem ownsRow_base_le {w : World} {base base' : Nat} {e : TypeId} {size : Nat} {v : Value} {n : Nat} {xs : List Value} (h : w.ownsRow base e size v n xs) (hb : base' ≤ base) : w.ownsRow base' e size v n xs := by
  obtain ⟨h1, h2⟩ := h
  refine ⟨h1, ?_⟩
  rcases h2 with h2 | ⟨g, cap, cur, hv, hg, r⟩
  · exact Or.inl h2
  · exact Or.inr ⟨g, cap, cur, hv, Nat.le_trans hb hg, r⟩
theorem stepChg {w w' : World} {O D : List Nat} {vb : Nat} {A' : VA} (h : ∃ O', Vol w' vb A' O' ∧ Chg (fun b => b ∈ O) w w' ∧ ∀ b ∈ O', b ∈ O ∨ b ∈ D ∨ w.heap.size ≤ b) : Chg (fun b => b ∈ O) w w' := by
  obtain ⟨_, _, h, _⟩ := h
  exact h
theorem ymap (xs : List Nat) : xs.map Y = xs.map (fun (x : Nat) => Value.int .u8 (x : Int)) := rfl
set_option maxRecDepth 100000 in
set_option maxHeartbeats 2000000 in
theorem write_any (tb vb : Nat) (A : VA) (O : List Nat) (disk : Nat) (sector : Int) (xs : List Nat) (w : World) (h : Vol w vb A O) (ht : w.cell? ⟨tb, 0, none⟩ = some (.pointer (some ⟨vb, 0, none⟩))) (hto : tb ∉ O) (hd : disk < A.stand.length) (hl : A.wait.length ≤ 100000) (hx : xs.length = 8 ∧ ∀ x ∈ xs, x < 256) :
    Calls Tryz.prog 165 #[.pointer (some ⟨tb, 0, none⟩), .agg #[.int .i64 (disk : Int), .int .i64 sector], .agg (xs.map Y).toArray] w fun e w' => e = .returned (.tuple #[]) ∧ ∃ g c : Nat, Step w O w' vb (gaveA A 2 disk sector (.slice (some ⟨g, 0, none⟩) 8 c)) := by
  have htl := block_lt_of_cell ht
  have hlt := h.lt
  obtain ⟨hx8, hxb⟩ := hx
  have HX := hide hx8
  have HXB := hide hxb
  have HV := hide h
  have HLT := hide hlt
  clear h hlt hxb
  go_enter Tryz.func165, Tryz.ntmps165
  go_wp2_with fail
  have hb1 := ((Below.refl w.heap.size w).alloc (Nat.le_refl _) (.cells #[.int .i64 (disk : Int), .int .i64 sector] 147)).alloc (by simp) (.cells (xs.map Y).toArray 149)
  have hk1 := (Blk.new w #[.int .i64 (disk : Int), .int .i64 sector] 147).alloc (.cells (xs.map Y).toArray 149)
  have hk2 := Blk.new (w.alloc (.cells #[.int .i64 (disk : Int), .int .i64 sector] 147)) (xs.map Y).toArray 149
  have hsz : ((w.alloc (.cells #[.int .i64 (disk : Int), .int .i64 sector] 147)).alloc (.cells (xs.map Y).toArray 149)).heap.size = w.heap.size + 1 + 1 := by simp
  rw [World.size_alloc] at hk2
  generalize (w.alloc (.cells #[.int .i64 (disk : Int), .int .i64 sector] 147)).alloc (.cells (xs.map Y).toArray 149) = w1 at *
  have t0 : w1.cell? ⟨tb, 0, none⟩ = some (.pointer (some ⟨vb, 0, none⟩)) := by rw [hb1.cell (by exact htl)]; exact ht
  have t1 : w1.cell? ⟨w.heap.size, 0, none⟩ = some (.int .i64 (disk : Int)) := hk1.cell 0
  have t2 : w1.cell? ⟨w.heap.size, 1, none⟩ = some (.int .i64 sector) := hk1.cell 1
  have HB1 := hide hb1
  have HR : Hid (∀ w', Below w1.heap.size w1 w' → w'.rangeAt (w.heap.size + 1) 0 (xs.map Y)) := fun w' hw j v hj => by
    rw [hw.cell (by show w.heap.size + 1 < _; omega), hk2.cell]
    simpa using hj
  have HCL : Hid (∀ w', Below w1.heap.size w1 w' → Calls Tryz.prog 172 #[.slice (some ⟨w.heap.size + 1, 0, none⟩) 8 8] w' fun e w'' => ∃ v, e = .returned v ∧ w''.ownsRow w'.heap.size 5 1 v xs.length (xs.map Y) ∧ Below w'.heap.size w' w'') := fun w' hw => by
    have := clone_any (w.heap.size + 1) 0 8 xs w' (by omega) (by omega) (unhide HR w' hw)
    rw [unhide HX] at this
    rw [unhide HX]
    exact this
  clear hb1 hk1 hk2 ht hx8
  go_region_held3 (fun w' => w'.cell? ⟨tb, 0, none⟩ = some (.pointer (some ⟨vb, 0, none⟩)) ∧ w'.cell? ⟨w.heap.size, 0, none⟩ = some (.int .i64 (disk : Int)) ∧ w'.cell? ⟨w.heap.size, 1, none⟩ = some (.int .i64 sector)) (first | exact ⟨t0, t1, t2⟩ | exact ⟨q0, q1, q2⟩ | exact ⟨p0, p1, p2⟩)
    (first | (go_at_call 172; refine (unhide HCL _ (Below.refl _ _).drew).mono ?_; rintro e w2 ⟨v, rfl, hov, hb2⟩; have hB2 : Below w1.heap.size w1 w2 := (Below.refl w1.heap.size w1).drew.trans hb2; have q0 := (hB2.cell (p := ⟨tb, 0, none⟩) (by show tb < _; omega)).trans t0; have q1 := (hB2.cell (p := ⟨w.heap.size, 0, none⟩) (by show w.heap.size < _; omega)).trans t1; have q2 := (hB2.cell (p := ⟨w.heap.size, 1, none⟩) (by show w.heap.size < _; omega)).trans t2; rw [unhide HX] at hov; obtain ⟨g, c, hgv, hg1, _⟩ := hov.form (by omega); subst hgv; have hg2 : w1.heap.size ≤ g := Nat.le_trans (Nat.le_refl _) hg1; have HOV := hide hov; have HB2 := hide hB2; clear hov hb2) |
      (go_at_call 169; refine (give_any vb A O 2 disk sector (.slice (some ⟨g, 0, none⟩) 8 c) _ ((unhide HV).new ((unhide HB1).trans (hB2.mono (unhide HB1).size))) hd hl ⟨_, _, _, rfl⟩ ⟨xs, by rw [unhide HX]; exact ownsRow_base_le (unhide HOV) (Nat.zero_le _), Or.inr (unhide HX), unhide HXB⟩ (fun b hb ho => by simp only [dBlk, List.mem_singleton] at hb; have := unhide HLT b ho; omega)).mono ?_; rintro e w3 ⟨rfl, hst⟩; have hch := stepChg hst; have p0 := (World.cell?_of_block (w := w2) (a := ⟨tb, 0, none⟩) (hch.block tb (by have := hB2.size; omega) hto)).trans q0; have p1 := (World.cell?_of_block (w := w2) (a := ⟨w.heap.size, 0, none⟩) (hch.block w.heap.size (by have := hB2.size; omega) (fun ho => by have := unhide HLT _ ho; omega))).trans q1; have p2 := (World.cell?_of_block (w := w2) (a := ⟨w.heap.size, 1, none⟩) (hch.block w.heap.size (by have := hB2.size; omega) (fun ho => by have := unhide HLT _ ho; omega))).trans q2; have HST := hide hst; clear hst hch))
  have HSTEP : Hid (∃ g c : Nat, Step w O w3 vb (gaveA A 2 disk sector (.slice (some ⟨g, 0, none⟩) 8 c))) := by
    obtain ⟨O', r1, r2, r3⟩ := unhide HST
    have hbw := (unhide HB1).trans ((unhide HB2).mono (unhide HB1).size)
    refine ⟨g, c, O', r1, (Chg.of_new hbw).trans r2 (fun k hk => Or.inl hk), fun b hb => ?_⟩
    rcases r3 b hb with q | q | q
    · exact Or.inl q
    · simp only [dBlk, List.mem_singleton] at q
      exact Or.inr (by omega)
    · exact Or.inr (by have := hbw.size; omega)
  go_wp2
  refine bodyPost_end (results_none rfl _ _ _) rfl ⟨rfl, unhide HSTEP⟩

end Go.Proofs.YtdcinlkkjbclmaaGreat

/- The labels of a new volume's disks; commands that are told no more. -/
namespace Go.Proofs.YtdcinlkkjbclmaaGreat
open Go.RowKit

theorem wait_keep (vb : Nat) (A : VA) (O : List Nat) (d : Int) (db : Nat) (w : World) (h : Vol w vb A O) (hd : Blk w db #[.int .i64 d] 3) (hdo : db ∉ O) :
    Calls Tryz.prog 101 #[.pointer (some ⟨vb, 4, none⟩), .func (.func 102) #[] #[.pointer (some ⟨db, 0, none⟩)]] w fun e w' => e = .returned (.tuple #[]) ∧ Step w O w' vb { A with wait := A.wait.filter (fun c => c.disk != d) } := by
  obtain ⟨G, h, rfl, hnd, hdi⟩ := h
  obtain ⟨g0, hq, hg0, hx0, hvg⟩ := ring_at_w h
  have hdl := hd.lt
  have hdv : db ≠ vb := fun e => hdo (e ▸ List.mem_append_left _ (own_mem.2 (Or.inl rfl)))
  have hdg : db ≠ g0 := fun e => by
    rcases hx0 with ⟨h1, h2⟩ | ⟨_, h2⟩
    · exact hdo (List.mem_append_left _ (own_mem.2 (by rw [e, h2]; simp [h1])))
    · omega
  refine (keepC_any vb 4 (volC A G) _ g0 G.nw G.fw A.wait d db w h.blk (by show some (plV G.gw G.nw) = _; rw [hg0]) rfl rfl hq h.few.1 hvg hd hdv hdg).mono ?_
  rintro e w' ⟨rfl, f', hb, hr, hch⟩
  refine ⟨rfl, Vol.lift_sub hnd hdi (step_w (g' := g0) (n' := G.nw) (f' := f') h hx0 hch ?_ hr ?_ h.few.1) List.filter_sublist⟩
  · have e1 : volC { A with wait := A.wait.filter (fun c => c.disk != d) } { G with gw := g0, nw := G.nw, fw := f' } = upd3 (volC A G) 4 (plV g0 G.nw) (.int .i64 (f' : Int)) (.int .i64 ((A.wait.filter (fun c => c.disk != d)).length : Int)) := by
      unfold volC upd3
      simp
    rw [e1]
    exact hb
  · rcases hx0 with ⟨h1, _⟩ | ⟨_, h2⟩
    · exact Or.inl ⟨rfl, h1⟩
    · exact Or.inr (by omega)

theorem Step.chg' {w w' : World} {O : List Nat} {vb : Nat} {A' : VA} (h : Step w O w' vb A') : Chg (fun b => b ∈ O) w w' := by
  obtain ⟨_, _, h, _⟩ := h
  exact h
/-- labels for these disks, which bring these along -/
def labelA (A : VA) : List (Nat × Value) → VA := fun L => L.foldl (fun A p => gaveA A 2 p.1 0 p.2) A
theorem labelA_snoc (A : VA) (L : List (Nat × Value)) (p : Nat × Value) : labelA A (L ++ [p]) = gaveA (labelA A L) 2 p.1 0 p.2 := by unfold labelA; rw [List.foldl_append]; rfl
theorem labelA_facts (A : VA) (L : List (Nat × Value)) : (labelA A L).stand = A.stand ∧ (labelA A L).wait.length ≤ A.wait.length + L.length := by
  unfold labelA
  induction L generalizing A with
  | nil => exact ⟨rfl, Nat.le_refl _⟩
  | cons p r ih =>
    obtain ⟨h1, h2⟩ := ih (gaveA A 2 p.1 0 p.2)
    have h3 := gaveA_wait A 2 p.1 0 p.2
    refine ⟨h1.trans (gaveA_stand _ _ _ _ _), ?_⟩
    simp only [List.length_cons, List.foldl_cons] at *
    omega
theorem curTo_lt (l : List Int) (k : Nat) : ∀ d ∈ curTo l k, d < k := by
  intro d hd
  unfold curTo at hd
  simp only [List.mem_filter, List.mem_range] at hd
  exact hd.1
/-- eight bytes -/
def Eight (v : Value) : Prop := ∃ g c : Nat, v = .slice (some ⟨g, 0, none⟩) 8 c

set_option maxRecDepth 100000 in
set_option maxHeartbeats 2000000 in
theorem writeLabels_any (tb vb : Nat) (A : VA) (O : List Nat) (w : World) (h : Vol w vb A O) (ht : w.cell? ⟨tb, 0, none⟩ = some (.pointer (some ⟨vb, 0, none⟩))) (hto : tb ∉ O) (hs : A.stand.length ≤ 8) (hl : A.wait.length ≤ 90000) :
    Calls Tryz.prog 161 #[.pointer (some ⟨tb, 0, none⟩), .agg #[.bool true, .bool false, .int .i64 0]] w fun e w' => e = .returned (.tuple #[]) ∧ ∃ L : List (Nat × Value), L.map (·.1) = cur A.stand ∧ (∀ p ∈ L, Eight p.2) ∧ Step w O w' vb (labelA A L) := by
  have htl := block_lt_of_cell ht
  have hlt := h.lt
  have hcl := curTo_len A.stand A.stand.length
  have HV := hide h
  have HLT := hide hlt
  clear h hlt
  have hb1 := (Below.refl w.heap.size w).alloc (Nat.le_refl _) (.cells #[.bool true, .bool false, .int .i64 0] 232)
  have hk1 := Blk.new w #[.bool true, .bool false, .int .i64 0] 232
  have hs1 : (w.alloc (.cells #[.bool true, .bool false, .int .i64 0] 232)).heap.size = w.heap.size + 1 := by simp
  have HB1 := hide hb1
  have HK1 := hide hk1
  have HS1 := hide hs1
  clear hb1 hk1 hs1
  go_enter Tryz.func161, Tryz.ntmps161
  go_wp2_with fail
  generalize w.alloc (.cells #[.bool true, .bool false, .int .i64 0] 232) = w1 at *
  have hs1 := unhide HS1
  refine (current_any vb A O w1 ((unhide HV).new (unhide HB1)) hs).mono ?_
  rintro e w2 ⟨v, rfl, hov, hb2⟩
  obtain ⟨lb, ⟨la, c, rfl, hcell⟩, hlb⟩ := diskL_own hov
  have hbw2 := (unhide HB1).trans (hb2.mono (unhide HB1).size)
  have hs2 := hb2.size
  have HK2 := hide ((unhide HK1).below hb2 (by omega))
  have HV2 := hide ((unhide HV).new hbw2)
  have HT2 : Hid (w2.cell? ⟨tb, 0, none⟩ = some (.pointer (some ⟨vb, 0, none⟩))) := by rw [hbw2.cell (by exact htl)]; exact ht
  have HBW := hide hbw2
  have HCE := hide hcell
  have HLB := hide hlb
  have hcur := curTo_lt A.stand A.stand.length
  have HCU := hide hcur
  clear hov hb2 hcell hlb hbw2 ht HK1 hcur
  have hcc : (cur A.stand).length ≤ 8 := Nat.le_trans hcl hs
  have HCU' : Hid (∀ d ∈ cur A.stand, d < A.stand.length) := unhide HCU
  clear HCU hcl
  generalize hC : cur A.stand = C at *
  have HC := hide hC
  clear hC
  go_wp2
  go_loopw [13] (fun iv wr => ∃ (k : Nat) (Ok : List Nat) (L : List (Nat × Value)), k ≤ C.length ∧ iv = .int .i64 (k : Int) ∧ L.map (·.1) = C.take k ∧ (∀ p ∈ L, Eight p.2) ∧ Vol wr vb (labelA A L) Ok ∧ Chg (fun b => b ∈ O) w2 wr ∧ ∀ b ∈ Ok, b ∈ O ∨ w2.heap.size ≤ b) (fun i _ => C.length - (intOf i).toNat)
  case atStart => exact ⟨0, O, [], Nat.zero_le _, rfl, rfl, fun p hp => by simp at hp, unhide HV2, Chg.refl _ _, fun b hb => Or.inl hb⟩
  case round =>
    obtain ⟨k, Ok, L, hk, rfl, hLm, hLe, hvk, hck, hok⟩ := hrel
    rcases Nat.lt_or_ge k C.length with hlt | hge
    · obtain ⟨d, hd⟩ : ∃ d, C[k]? = some d := ⟨C[k], List.getElem?_eq_getElem hlt⟩
      obtain ⟨b, hb, rfl, hcell⟩ := unhide HCE k d hd
      have hdl := unhide HCU' d (List.mem_of_getElem? hd)
      have hbb := unhide HLB b hb
      clear hb
      have hbo : b ∉ O := fun ho => by have := unhide HLT b ho; omega
      have hwo : w.heap.size ∉ O := fun ho => by have := unhide HLT _ ho; omega
      have c0 : wr.cell? ⟨b, k, none⟩ = some (.int .i64 (d : Int)) := by
        rw [World.cell?_of_block (w := w2) (hck.block b (block_lt_of_cell hcell) hbo)]
        exact hcell
      have c1 : wr.cell? ⟨tb, 0, none⟩ = some (.pointer (some ⟨vb, 0, none⟩)) := by
        rw [World.cell?_of_block (w := w2) (hck.block tb (by omega) hto)]
        exact unhide HT2
      have hkb := (unhide HK2).chg hck hwo
      have b0 : wr.cell? ⟨w.heap.size, 0, none⟩ = some (.bool true) := hkb.cell 0
      have b1 : wr.cell? ⟨w.heap.size, 1, none⟩ = some (.bool false) := hkb.cell 1
      have b2 : wr.cell? ⟨w.heap.size, 2, none⟩ = some (.int .i64 0) := hkb.cell 2
      obtain ⟨f1, f2⟩ := labelA_facts A L
      have hLl : L.length ≤ k := by have := congrArg List.length hLm; rw [List.length_map, List.length_take] at this; omega
      have hwk := hvk.lt
      have htk : tb ∉ Ok := fun ho => by rcases hok tb ho with q | q; exact hto q; omega
      have hwk' : w.heap.size ∉ Ok := fun ho => by rcases hok _ ho with q | q; exact hwo q; omega
      have hszr := hck.size
      have HVK := hide hvk
      have HCK := hide hck
      have HOK := hide hok
      have HLM := hide hLm
      have HLE := hide hLe
      have HD := hide hd
      have hk0 : (0 : Int) ≤ (k : Int) := by omega
      have hk1 : (k : Int) < (C.length : Int) := by omega
      have HWR : Hid (∀ w', Below wr.heap.size wr w' → Calls Tryz.prog 165 #[.pointer (some ⟨tb, 0, none⟩), .agg #[.int .i64 (d : Int), .int .i64 0], .agg (label8.map Y).toArray] w' fun e w'' => e = .returned (.tuple #[]) ∧ ∃ g c : Nat, Step w' Ok w'' vb (gaveA (labelA A L) 2 d 0 (.slice (some ⟨g, 0, none⟩) 8 c))) := fun w' hw =>
        write_any tb vb (labelA A L) Ok d 0 label8 w' (hvk.new hw) ((hw.cell (by exact block_lt_of_cell c1)).trans c1) htk (by rw [f1]; exact hdl) (by omega) ⟨rfl, by intro x hx; simp [label8] at hx; omega⟩
      clear hvk hck hok hd hcell f1 f2 hLm hLe hkb hwk
      go_wp2_with fail
      clear c0
      go_region_held3 (fun w' => w'.cell? ⟨w.heap.size, 0, none⟩ = some (.bool true) ∧ w'.cell? ⟨w.heap.size, 1, none⟩ = some (.bool false) ∧ w'.cell? ⟨w.heap.size, 2, none⟩ = some (.int .i64 0)) (first | exact ⟨b0, b1, b2⟩ | exact ⟨q0, q1, q2⟩ | exact ⟨p0, p1, p2⟩)
        (first | (go_at_call 166; refine (label_any _).mono ?_; rintro e w3 ⟨rfl, hb3⟩; have hB3 : Below wr.heap.size wr w3 := (Below.refl wr.heap.size wr).drew.trans hb3; have q0 := (hB3.cell (p := ⟨w.heap.size, 0, none⟩) (by show w.heap.size < _; omega)).trans b0; have q1 := (hB3.cell (p := ⟨w.heap.size, 1, none⟩) (by show w.heap.size < _; omega)).trans b1; have q2 := (hB3.cell (p := ⟨w.heap.size, 2, none⟩) (by show w.heap.size < _; omega)).trans b2; clear hb3) |
          (go_at_call 165; refine (unhide HWR _ hB3).mono ?_; rintro e w4 ⟨rfl, g, gc, hst⟩; have hch := hst.chg'; have p0 := (World.cell?_of_block (w := w3) (a := ⟨w.heap.size, 0, none⟩) (hch.block w.heap.size (by have := hB3.size; omega) hwk')).trans q0; have p1 := (World.cell?_of_block (w := w3) (a := ⟨w.heap.size, 1, none⟩) (hch.block w.heap.size (by have := hB3.size; omega) hwk')).trans q1; have p2 := (World.cell?_of_block (w := w3) (a := ⟨w.heap.size, 2, none⟩) (hch.block w.heap.size (by have := hB3.size; omega) hwk')).trans q2; have HST := hide hst; clear hst hch))
      obtain ⟨O1, v1, ch1, o1⟩ := Step.trans (unhide HCK) (unhide HOK) (Step.new hB3 (unhide HST))
      have HV1 : Hid (Vol w4 vb (labelA A (L ++ [(d, .slice (some ⟨g, 0, none⟩) 8 gc)])) O1) := by rw [labelA_snoc]; exact v1
      have HC1 := hide ch1
      have HO1 := hide o1
      have HLM1 : Hid ((L ++ [(d, Value.slice (some ⟨g, 0, none⟩) 8 gc)]).map (·.1) = C.take (k + 1)) := by
        rw [List.map_append, unhide HLM, List.take_succ_eq_append_getElem hlt]
        have h1 := unhide HD
        rw [List.getElem?_eq_getElem hlt] at h1
        show C.take k ++ [d] = C.take k ++ [C[k]]
        rw [Option.some.inj h1]
      have HLE1 : Hid (∀ p ∈ L ++ [(d, Value.slice (some ⟨g, 0, none⟩) 8 gc)], Eight p.2) := fun p hp => by
        rcases List.mem_append.1 hp with hp | hp
        · exact unhide HLE p hp
        · rw [List.mem_singleton] at hp; subst hp; exact ⟨g, gc, rfl⟩
      clear v1 ch1 o1 HST HWR
      generalize L ++ [(d, Value.slice (some ⟨g, 0, none⟩) 8 gc)] = L1 at *
      go_wp2
      go_roundw
      case rel => exact ⟨k + 1, O1, L1, by omega, by go_num, unhide HLM1, unhide HLE1, unhide HV1, unhide HC1, unhide HO1⟩
      case measure => simp [intOf]; omega
    · obtain rfl : k = C.length := by omega
      rw [List.take_length] at hLm
      have HST := hide (Step.new (unhide HBW) ⟨Ok, hvk, hck, hok⟩)
      have HLM := hide hLm
      have HLE := hide hLe
      clear hvk hck hok hLm hLe
      go_wp2
      refine bodyPost_end (results_none rfl _ _ _) rfl ⟨rfl, L, (unhide HLM).trans (unhide HC).symm, unhide HLE, unhide HST⟩

end Go.Proofs.YtdcinlkkjbclmaaGreat
