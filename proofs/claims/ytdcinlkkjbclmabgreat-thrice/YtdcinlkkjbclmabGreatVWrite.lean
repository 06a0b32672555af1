/- What is written: bytes.Clone, a label's sector, write. -/
import Derived.Test.YtdcinlkkjbclmabGreatVGive
import Derived.Laws.AppendOwnNone
import Derived.Deep.RegionHeld3
namespace Go.Proofs.YtdcinlkkjbclmabGreat
open Go.RowKit

def Y (x : Nat) : Value := .int .u8 (x : Int)
theorem Tryz.infoY : (Tryz.prog.info? 5).map (fun i => (i.zero, i.size, i.bytes)) = some (some (.int .u8 0), 1, 1) := by kernel_rfl

set_option maxRecDepth 100000 in
set_option maxHeartbeats 400000 in
theorem clone_any (b o cap : Nat) (xs : List Nat) (w : World) (_hn : 0 < xs.length) (hm : xs.length ≤ 1000) (hr : w.rangeAt b o (xs.map Y)) :
    Calls Tryz.prog 117 #[.slice (some ⟨b, o, none⟩) xs.length cap] w fun e w' => ∃ v, e = .returned v ∧ w'.ownsRow w.heap.size 5 1 v xs.length (xs.map Y) ∧ Below w.heap.size w w' := by
  obtain ⟨i0, hi, hz0, hz1, hz2⟩ := info_parts Tryz.infoY
  go_enter Tryz.func117, Tryz.ntmps117
  have heq := fun (w' : World) => Lib.run_eql_slice_nil (P := Tryz.prog) w' 35 5 (some ⟨b, o, none⟩) xs.length cap 0 0 Tryz.underlying35
  have hl : (xs.map Y).length = xs.length * 1 := by simp
  have hnews : ∀ j u, (xs.map Y)[j]? = some u → (w.alloc (.cells #[] 5)).cell? ((⟨b, o, none⟩ : Addr).add j) = some u := by
    intro j u hj
    rw [Addr.add_mid]
    have h1 := hr j u hj
    rw [World.cell?_alloc_past _ _ _ (block_lt_of_cell h1)]
    exact h1
  have h1 : ∀ u ∈ xs.map Y, u.oneCell' = true := by intro u hu; simp only [List.mem_map] at hu; obtain ⟨x, _, rfl⟩ := hu; rfl
  have hown : (w.alloc (.cells #[] 5)).ownsRow w.heap.size 5 1 (.slice (some ⟨w.heap.size, 0, none⟩) 0 0) 0 [] := World.ownsRow_made w #[] 0 (Nat.le_refl _) (by decide) (by simp)
  have HL := hide hl
  have HN := hide hnews
  have H1 := hide h1
  have HO := hide hown
  clear hl hnews h1 hown hr
  go_wp2_with (at_builtin; refine wpList_append_own _ rfl _ _ 35 rfl w.heap.size 5 i0 (.int .u8 0) 1 1 Tryz.underlying35 hi hz0 hz1 hz2 rfl (by decide) _ _ _ rfl (unhide HO) ⟨b, o, none⟩ xs.length cap (xs.map Y) rfl (unhide HL) (unhide HN) (unhide H1) (by unfold maxLen; omega) (by omega) (by simp) ?_)
  intro v' w1 hown' hgrow _
  have HB : Hid (Below w.heap.size w w1) := ((Below.refl _ _).alloc (Nat.le_refl _) _).grown hgrow (by simp) (fun k hk => ((unhide HO).lt k hk).1)
  have HW := hide hown'
  clear hown' hgrow HO HN heq
  go_wp2
  go_ret
  exact ⟨v', rfl, unhide HW, unhide HB⟩

/-- the sector of a member's label -/
def label8 : List Nat := [1, 0, 0, 0, 0, 0, 0, 0]
set_option maxRecDepth 100000 in
set_option maxHeartbeats 1000000 in
theorem label_any (w : World) : Calls Tryz.prog 111 #[.agg #[.bool true, .bool false, .int .i64 0]] w fun e w' => e = .returned (.agg (label8.map Y).toArray) ∧ Below w.heap.size w w' := by
  go_enter Tryz.func111, Tryz.ntmps111
  go_wp2
  have hk := (Blk.new (w.alloc (.cells #[.bool true, .bool false, .int .i64 0] 176)) #[.int .u8 1, .int .u8 0, .int .u8 0, .int .u8 0, .int .u8 0, .int .u8 0, .int .u8 0, .int .u8 0] 128).alloc (.cells #[.int .u8 1, .int .u8 0, .int .u8 0, .int .u8 0, .int .u8 0, .int .u8 0, .int .u8 0, .int .u8 0] 128)
  simp only [World.size_alloc] at hk
  refine bodyPost_ret (results_cell_row Tryz.results111 _ _ (w.heap.size + 1) _ _ _ _ rfl hk Tryz.underlying128 rfl (by kernel_rfl)) rfl ⟨rfl, ?_⟩
  exact (((Below.refl _ _).alloc (Nat.le_refl _) _).alloc (by simp) _).alloc (by simp; omega) _

theorem ownsRow_base_le {w : World} {base base' : Nat} {e : TypeId} {size : Nat} {v : Value} {n : Nat} {xs : List Value} (h : w.ownsRow base e size v n xs) (hb : base' ≤ base) : w.ownsRow base' e size v n xs := by
  obtain ⟨h1, h2⟩ := h
  refine ⟨h1, ?_⟩
  rcases h2 with h2 | ⟨g, cap, cur, hv, hg, r⟩
  · exact Or.inl h2
  · exact Or.inr ⟨g, cap, cur, hv, Nat.le_trans hb hg, r⟩
theorem stepChg {w w' : World} {O D : List Nat} {vb : Nat} {A' : VA} (h : ∃ O', Vol w' vb A' O' ∧ Chg (fun b => b ∈ O) w w' ∧ ∀ b ∈ O', b ∈ O ∨ b ∈ D ∨ w.heap.size ≤ b) : Chg (fun b => b ∈ O) w w' := by
  obtain ⟨_, _, h, _⟩ := h
  exact h
theorem ymap (xs : List Nat) : xs.map Y = xs.map (fun (x : Nat) => Value.int .u8 (x : Int)) := rfl
set_option maxRecDepth 100000 in
set_option maxHeartbeats 2000000 in
theorem write_any (tb vb : Nat) (A : VA) (O : List Nat) (disk : Nat) (sector : Int) (xs : List Nat) (w : World) (h : Vol w vb A O) (ht : w.cell? ⟨tb, 0, none⟩ = some (.pointer (some ⟨vb, 0, none⟩))) (hto : tb ∉ O) (hd : disk < A.stand.length) (hl : A.wait.length ≤ 100000) (hx : xs.length = 8 ∧ ∀ x ∈ xs, x < 256) :
    Calls Tryz.prog 110 #[.pointer (some ⟨tb, 0, none⟩), .agg #[.int .i64 (disk : Int), .int .i64 sector], .agg (xs.map Y).toArray] w fun e w' => e = .returned (.tuple #[]) ∧ ∃ g c : Nat, Step w O w' vb (gaveA A 2 disk sector (.slice (some ⟨g, 0, none⟩) 8 c)) := by
  have htl := block_lt_of_cell ht
  have hlt := h.lt
  obtain ⟨hx8, hxb⟩ := hx
  have HX := hide hx8
  have HXB := hide hxb
  have HV := hide h
  have HLT := hide hlt
  clear h hlt hxb
  go_enter Tryz.func110, Tryz.ntmps110
  go_wp2_with fail
  have hb1 := ((Below.refl w.heap.size w).alloc (Nat.le_refl _) (.cells #[.int .i64 (disk : Int), .int .i64 sector] 126)).alloc (by simp) (.cells (xs.map Y).toArray 128)
  have hk1 := (Blk.new w #[.int .i64 (disk : Int), .int .i64 sector] 126).alloc (.cells (xs.map Y).toArray 128)
  have hk2 := Blk.new (w.alloc (.cells #[.int .i64 (disk : Int), .int .i64 sector] 126)) (xs.map Y).toArray 128
  have hsz : ((w.alloc (.cells #[.int .i64 (disk : Int), .int .i64 sector] 126)).alloc (.cells (xs.map Y).toArray 128)).heap.size = w.heap.size + 1 + 1 := by simp
  rw [World.size_alloc] at hk2
  generalize (w.alloc (.cells #[.int .i64 (disk : Int), .int .i64 sector] 126)).alloc (.cells (xs.map Y).toArray 128) = w1 at *
  have t0 : w1.cell? ⟨tb, 0, none⟩ = some (.pointer (some ⟨vb, 0, none⟩)) := by rw [hb1.cell (by exact htl)]; exact ht
  have t1 : w1.cell? ⟨w.heap.size, 0, none⟩ = some (.int .i64 (disk : Int)) := hk1.cell 0
  have t2 : w1.cell? ⟨w.heap.size, 1, none⟩ = some (.int .i64 sector) := hk1.cell 1
  have HB1 := hide hb1
  have HR : Hid (∀ w', Below w1.heap.size w1 w' → w'.rangeAt (w.heap.size + 1) 0 (xs.map Y)) := fun w' hw j v hj => by
    rw [hw.cell (by show w.heap.size + 1 < _; omega), hk2.cell]
    simpa using hj
  have HCL : Hid (∀ w', Below w1.heap.size w1 w' → Calls Tryz.prog 117 #[.slice (some ⟨w.heap.size + 1, 0, none⟩) 8 8] w' fun e w'' => ∃ v, e = .returned v ∧ w''.ownsRow w'.heap.size 5 1 v xs.length (xs.map Y) ∧ Below w'.heap.size w' w'') := fun w' hw => by
    have := clone_any (w.heap.size + 1) 0 8 xs w' (by omega) (by omega) (unhide HR w' hw)
    rw [unhide HX] at this
    rw [unhide HX]
    exact this
  clear hb1 hk1 hk2 ht hx8
  go_region_held3 (fun w' => w'.cell? ⟨tb, 0, none⟩ = some (.pointer (some ⟨vb, 0, none⟩)) ∧ w'.cell? ⟨w.heap.size, 0, none⟩ = some (.int .i64 (disk : Int)) ∧ w'.cell? ⟨w.heap.size, 1, none⟩ = some (.int .i64 sector)) (first | exact ⟨t0, t1, t2⟩ | exact ⟨q0, q1, q2⟩ | exact ⟨p0, p1, p2⟩)
    (first | (go_at_call 117; refine (unhide HCL _ (Below.refl _ _).drew).mono ?_; rintro e w2 ⟨v, rfl, hov, hb2⟩; have hB2 : Below w1.heap.size w1 w2 := (Below.refl w1.heap.size w1).drew.trans hb2; have q0 := (hB2.cell (p := ⟨tb, 0, none⟩) (by show tb < _; omega)).trans t0; have q1 := (hB2.cell (p := ⟨w.heap.size, 0, none⟩) (by show w.heap.size < _; omega)).trans t1; have q2 := (hB2.cell (p := ⟨w.heap.size, 1, none⟩) (by show w.heap.size < _; omega)).trans t2; rw [unhide HX] at hov; obtain ⟨g, c, hgv, hg1, _⟩ := hov.form (by omega); subst hgv; have hg2 : w1.heap.size ≤ g := Nat.le_trans (Nat.le_refl _) hg1; have HOV := hide hov; have HB2 := hide hB2; clear hov hb2) |
      (go_at_call 114; refine (give_any vb A O 2 disk sector (.slice (some ⟨g, 0, none⟩) 8 c) _ ((unhide HV).new ((unhide HB1).trans (hB2.mono (unhide HB1).size))) hd hl ⟨_, _, _, rfl⟩ ⟨xs, by rw [unhide HX]; exact ownsRow_base_le (unhide HOV) (Nat.zero_le _), Or.inr (unhide HX), unhide HXB⟩ (fun b hb ho => by simp only [dBlk, List.mem_singleton] at hb; have := unhide HLT b ho; omega)).mono ?_; rintro e w3 ⟨rfl, hst⟩; have hch := stepChg hst; have p0 := (World.cell?_of_block (w := w2) (a := ⟨tb, 0, none⟩) (hch.block tb (by have := hB2.size; omega) hto)).trans q0; have p1 := (World.cell?_of_block (w := w2) (a := ⟨w.heap.size, 0, none⟩) (hch.block w.heap.size (by have := hB2.size; omega) (fun ho => by have := unhide HLT _ ho; omega))).trans q1; have p2 := (World.cell?_of_block (w := w2) (a := ⟨w.heap.size, 1, none⟩) (hch.block w.heap.size (by have := hB2.size; omega) (fun ho => by have := unhide HLT _ ho; omega))).trans q2; have HST := hide hst; clear hst hch))
  have HSTEP : Hid (∃ g c : Nat, Step w O w3 vb (gaveA A 2 disk sector (.slice (some ⟨g, 0, none⟩) 8 c))) := by
    obtain ⟨O', r1, r2, r3⟩ := unhide HST
    have hbw := (unhide HB1).trans ((unhide HB2).mono (unhide HB1).size)
    refine ⟨g, c, O', r1, (Chg.of_new hbw).trans r2 (fun k hk => Or.inl hk), fun b hb => ?_⟩
    rcases r3 b hb with q | q | q
    · exact Or.inl q
    · simp only [dBlk, List.mem_singleton] at q
      exact Or.inr (by omega)
    · exact Or.inr (by have := hbw.size; omega)
  go_wp2
  refine bodyPost_end (results_none rfl _ _ _) rfl ⟨rfl, unhide HSTEP⟩

end Go.Proofs.YtdcinlkkjbclmabGreat
