/- A command that is one; how many commands may be done. -/
import Derived.Test.YtdcinlkkjbclmaaGreatMLRestLDisk
import Derived.IntWalk
import Derived.Laws.BytesArg
namespace Go.Proofs.YtdcinlkkjbclmaaGreat
open Go.RowKit

theorem rep_cell {w : World} {t : TypeId} {v : Value} {n : Nat} {u : Value} (h : w.ownsRow 0 t 1 v n (List.replicate n u)) (hn : 0 < n) : ∃ (g cap : Nat) (cs : Array Value), v = .slice (some ⟨g, 0, none⟩) n cap ∧ Blk w g cs t ∧ ∀ i, i < n → cs[i]? = some u := by
  obtain ⟨g, cap, cs, e, hb, _, _, _, hx⟩ := row_some h hn
  exact ⟨g, cap, cs, e, hb, fun i hi => by rw [hx i (by omega), List.getElem?_replicate, if_pos hi]⟩

set_option maxRecDepth 100000 in
set_option maxHeartbeats 2000000 in
theorem bound_any (wb : Nat) (X : LX) (w : World) (hb : Blk w wb (lwL X).toArray 56) (hs : w.ownsRow 0 4 1 X.stale X.D (List.replicate X.D (.bool false))) (hD4 : 4 ≤ X.D) (hD : X.D ≤ 8) :
    Calls Tryz.prog 50 #[.pointer (some ⟨wb, 0, none⟩)] w fun e w' => e = .returned (.int .i64 800) ∧ w' = w := by
  obtain ⟨g, cap, cs, hst, hbs, hxs⟩ := rep_cell hs (by omega)
  have c12 : w.cell? ⟨wb, 12, none⟩ = some (.slice none 0 0) := hb.cell 12
  have c4 : w.cell? ⟨wb, 4, none⟩ = some (.int .i64 (X.D : Int)) := hb.cell 4
  have c15 : w.cell? ⟨wb, 15, none⟩ = some (.slice (some ⟨g, 0, none⟩) X.D cap) := (hb.cell 15).trans (by show some X.stale = _; rw [hst])
  have HX : Hid (∀ i, i < X.D → w.cell? ⟨g, i, none⟩ = some (.bool false)) := fun i hi => (hbs.cell i).trans (hxs i hi)
  generalize X.D = D at *
  clear hb hs hst hbs hxs
  go_enter Tryz.func50, Tryz.ntmps50
  go_wp2
  go_loopw [3, 4] (fun nv iv wr => ∃ (k : Nat), k ≤ D ∧ nv = .int .i64 2 ∧ iv = .int .i64 (k : Int) ∧ wr = w) (fun _ i _ => D - (intOf i).toNat)
  case atStart => exact ⟨0, Nat.zero_le _, rfl, rfl, rfl⟩
  case round =>
    obtain ⟨k, hk, rfl, rfl, rfl⟩ := hrel
    rcases Nat.lt_or_ge k D with hlt | hge
    · have ck := unhide HX k hlt
      have ik0 : (0 : Int) ≤ (k : Int) := by omega
      have ik1 : (k : Int) < (D : Int) := by omega
      go_wp2
      go_roundw
      case rel => exact ⟨k + 1, by omega, rfl, by go_num, trivial⟩
      case measure => simp [intOf]; omega
    · obtain rfl : k = D := by omega
      go_wp2
      go_ret
      exact ⟨rfl, rfl⟩

set_option maxRecDepth 100000 in
set_option maxHeartbeats 4000000 in
theorem right_any (wb : Nat) (X : LX) (d : Nat) (kd : Int) (da : Option Addr) (dn dc : Nat) (w : World) (hb : Blk w wb (lwL X).toArray 56) (hs : w.ownsRow 0 4 1 X.knows X.D (List.replicate X.D (.bool false))) (hD : X.D ≤ 8) (hS : X.S ≤ 6) (hl : X.last ≤ 1000) (hd : d < X.D) (hkd : (kd = 2 ∧ dn = 8) ∨ (kd = 3 ∧ dn = 0)) :
    Calls Tryz.prog 48 #[.pointer (some ⟨wb, 0, none⟩), .agg #[.int .i64 ((X.last : Int) + 1), .int .i64 kd, .int .i64 (d : Int), .int .i64 0, .slice da dn dc]] w fun e w' => e = .returned (.bool true) ∧ Chg (fun _ => False) w w' := by
  obtain ⟨g, cap, cs, hst, hbs, hxs⟩ := rep_cell hs (by omega)
  have hb0 := (Below.refl w.heap.size w).alloc (Nat.le_refl _) (.cells #[.int .i64 ((X.last : Int) + 1), .int .i64 kd, .int .i64 (d : Int), .int .i64 0, .slice da dn dc] 91)
  have hk0 := Blk.new w #[.int .i64 ((X.last : Int) + 1), .int .i64 kd, .int .i64 (d : Int), .int .i64 0, .slice da dn dc] 91
  have HW0 := hide (hb.below hb0 hb.lt)
  have HB0 := hide hb0
  have HK0 := hide hk0
  have HG0 := hide (hbs.below hb0 hbs.lt)
  have HX := hide (hxs d hd)
  have HST := hide hst
  obtain ⟨D, eD⟩ : ∃ D, D = X.D := ⟨_, rfl⟩
  obtain ⟨S, eS⟩ : ∃ S, S = X.S := ⟨_, rfl⟩
  obtain ⟨L, eL⟩ : ∃ L, L = X.last := ⟨_, rfl⟩
  have HC : Hid ((lwL X).toArray[4]? = some (.int .i64 (D : Int)) ∧ (lwL X).toArray[5]? = some (.int .i64 (S : Int)) ∧ (lwL X).toArray[9]? = some (.int .i64 (L : Int)) ∧ (lwL X).toArray[16]? = some (.slice (some ⟨g, 0, none⟩) D cap)) := by
    rw [eD, eS, eL]
    exact ⟨rfl, rfl, rfl, by show some X.knows = _; rw [hst]⟩
  rw [← eL]
  rw [← eL] at HB0 HK0 HW0 HG0
  have e1 : decide ((d : Int) < 0) = false := by simp
  have e2 : decide ((D : Int) ≤ (d : Int)) = false := by simp; omega
  have iS : (S : Int) ≤ 6 := by omega
  have iS0 : (0 : Int) ≤ (S : Int) := by omega
  have iL : (L : Int) ≤ 1000 := by omega
  have iL0 : (0 : Int) ≤ (L : Int) := by omega
  have hw0 : IntKind.i64.wrap ((L : Int) + 1) = (L : Int) + 1 := Go.IntWalk.i64_in _ (by omega)
  have hw1 : IntKind.i64.wrap (2 * (S : Int)) = 2 * (S : Int) := Go.IntWalk.i64_in _ (by omega)
  have hw2 : IntKind.i64.wrap (17 + 2 * (S : Int)) = 17 + 2 * (S : Int) := Go.IntWalk.i64_in _ (by omega)
  have e0 : ((L : Int) + 1 != IntKind.i64.wrap ((L : Int) + 1)) = false := by rw [hw0]; simp
  have e5 : decide (D ≤ d) = false := by simp; omega
  have e4 : (0 : Int) < 17 + 2 * (S : Int) := by omega
  have id0 : (0 : Int) ≤ (d : Int) := by omega
  have id1 : (d : Int) < (D : Int) := by omega
  clear hb hs hst hbs hxs hb0 hk0 hD hS hl hd HST eD eS eL
  go_enter Tryz.func48, Tryz.ntmps48
  go_wp2_with fail
  generalize w.alloc (.cells #[.int .i64 ((L : Int) + 1), .int .i64 kd, .int .i64 (d : Int), .int .i64 0, .slice da dn dc] 91) = w0 at *
  have l0 : w0.cell? ⟨w.heap.size, 0, none⟩ = some (.int .i64 ((L : Int) + 1)) := (unhide HK0).cell 0
  have l1 : w0.cell? ⟨w.heap.size, 1, none⟩ = some (.int .i64 kd) := (unhide HK0).cell 1
  have l2 : w0.cell? ⟨w.heap.size, 2, none⟩ = some (.int .i64 (d : Int)) := (unhide HK0).cell 2
  have l3 : w0.cell? ⟨w.heap.size, 3, none⟩ = some (.int .i64 0) := (unhide HK0).cell 3
  have l4 : w0.cell? ⟨w.heap.size, 4, none⟩ = some (.slice da dn dc) := (unhide HK0).cell 4
  have g4 : w0.cell? ⟨wb, 4, none⟩ = some (.int .i64 (D : Int)) := ((unhide HW0).cell 4).trans (unhide HC).1
  have g5 : w0.cell? ⟨wb, 5, none⟩ = some (.int .i64 (S : Int)) := ((unhide HW0).cell 5).trans (unhide HC).2.1
  have g9 : w0.cell? ⟨wb, 9, none⟩ = some (.int .i64 (L : Int)) := ((unhide HW0).cell 9).trans (unhide HC).2.2.1
  have g16 : w0.cell? ⟨wb, 16, none⟩ = some (.slice (some ⟨g, 0, none⟩) D cap) := ((unhide HW0).cell 16).trans (unhide HC).2.2.2
  have gd : w0.cell? ⟨g, d, none⟩ = some (.bool false) := ((unhide HG0).cell d).trans (unhide HX)
  go_quiet (fail)
  have HX1 : Hid (Chg (fun _ => False) w0 (w0.drewN nq)) := (Chg.refl _ _).drewN nq
  generalize w0.drewN nq = w1 at *
  clear l0 l1 l2 l3 l4 g4 g5 g9 g16 gd
  have l3 : w1.cell? ⟨w.heap.size, 3, none⟩ = some (.int .i64 0) := ((unhide HK0).chg (unhide HX1) id).cell 3
  have g5 : w1.cell? ⟨wb, 5, none⟩ = some (.int .i64 (S : Int)) := (((unhide HW0).chg (unhide HX1) id).cell 5).trans (unhide HC).2.1
  go_wp2_with fail
  go_quiet (fail)
  have HX2 : Hid (Chg (fun _ => False) w0 (w1.drewN nq)) := (unhide HX1).drewN nq
  generalize w1.drewN nq = w2 at *
  clear l3 g5
  have l1 : w2.cell? ⟨w.heap.size, 1, none⟩ = some (.int .i64 kd) := ((unhide HK0).chg (unhide HX2) id).cell 1
  have l3 : w2.cell? ⟨w.heap.size, 3, none⟩ = some (.int .i64 0) := ((unhide HK0).chg (unhide HX2) id).cell 3
  have l4 : w2.cell? ⟨w.heap.size, 4, none⟩ = some (.slice da dn dc) := ((unhide HK0).chg (unhide HX2) id).cell 4
  have HF : Hid (Chg (fun _ => False) w w2) := (Chg.of_new (unhide HB0)).trans (unhide HX2) (fun _ h => Or.inl h)
  rcases hkd with ⟨rfl, rfl⟩ | ⟨rfl, rfl⟩
  · go_wp2
    go_ret
    exact ⟨rfl, unhide HF⟩
  · go_wp2
    go_ret
    exact ⟨rfl, unhide HF⟩

end Go.Proofs.YtdcinlkkjbclmaaGreat

/- What is handed in with spare room, where it is nothing. -/
namespace Go.Proofs.YtdcinlkkjbclmaaGreat
open Go.RowKit

/-- one list handed in, which is nil, and four more behind it, each with a stain -/
def GvN (w : World) (G base : Nat) : Prop := base ≤ G ∧ ∃ cs, Blk w G cs 36 ∧ cs.size = 5 ∧ cs[0]? = some (.slice none 0 0) ∧ ∀ i, 1 ≤ i → i < 5 → ∃ b, cs[i]? = some (.slice (some ⟨b, 0, none⟩) 1 1) ∧ Blk w b #[.int .u8 77] 5 ∧ base ≤ b
theorem GvN.chg {X : Nat → Prop} {w w' : World} {G base : Nat} (h : GvN w G base) (hc : Chg X w w') (hx : ∀ b, base ≤ b → b < w.heap.size → ¬ X b) : GvN w' G base := by
  obtain ⟨h0, cs, h1, h2, h3, h4⟩ := h
  refine ⟨h0, cs, h1.chg hc (hx G h0 h1.lt), h2, h3, fun i hi hj => ?_⟩
  obtain ⟨b, e, hb, hbb⟩ := h4 i hi hj
  exact ⟨b, e, hb.chg hc (hx b hbb hb.lt), hbb⟩
theorem make5 (w : World) : (Instr.makeSlice 49 (.int .i64 5) (.int .i64 5)).run Tryz.prog w = .ok (.slice (some ⟨w.heap.size, 0, none⟩) 5 5) (w.alloc (.cells #[.slice none 0 0, .slice none 0 0, .slice none 0 0, .slice none 0 0, .slice none 0 0] 36)) := by kernel_rfl
theorem eqn_list (lb : Nat) (w : World) : (binOp .eql 49 (.slice (some ⟨lb, 0, none⟩) 1 1) (.slice none 0 0)).run Tryz.prog w = .ok (.bool false) w := by kernel_rfl
theorem nen_list (lb : Nat) (w : World) : (binOp .neq 49 (.slice (some ⟨lb, 0, none⟩) 1 1) (.slice none 0 0)).run Tryz.prog w = .ok (.bool true) w := by kernel_rfl
theorem eqn_nil (w : World) : (binOp .eql 36 (.slice none 0 0) (.slice none 0 0)).run Tryz.prog w = .ok (.bool true) w := by kernel_rfl

set_option maxRecDepth 100000 in
set_option maxHeartbeats 4000000 in
theorem given_nil (lb : Nat) (w : World) (hl : w.cell? ⟨lb, 0, none⟩ = some (.slice none 0 0)) :
    Calls Tryz.prog 54 #[.slice (some ⟨lb, 0, none⟩) 1 1] w fun e w' => ∃ G, e = .returned (.slice (some ⟨G, 0, none⟩) 1 5) ∧ GvN w' G w.heap.size ∧ Below w.heap.size w w' := by
  have hmk := make5
  have he1 := eqn_list lb
  have hll : lb < w.heap.size := block_lt_of_cell hl
  have HB0 := hide ((Below.refl w.heap.size w).alloc (Nat.le_refl _) (.cells #[.slice none 0 0, .slice none 0 0, .slice none 0 0, .slice none 0 0, .slice none 0 0] 36))
  have HK0 := hide (Blk.new w #[.slice none 0 0, .slice none 0 0, .slice none 0 0, .slice none 0 0, .slice none 0 0] 36)
  go_enter Tryz.func54, Tryz.ntmps54
  go_wp2
  clear hmk he1
  go_loopw [4] (fun iv wr => ∃ (k : Nat) (cs : Array Value), 1 ≤ k ∧ k ≤ 5 ∧ iv = .int .i64 (k : Int) ∧ Blk wr w.heap.size cs 36 ∧ cs.size = 5 ∧ cs[0]? = some (.slice none 0 0) ∧ (∀ i, 1 ≤ i → i < k → ∃ b, cs[i]? = some (.slice (some ⟨b, 0, none⟩) 1 1) ∧ Blk wr b #[.int .u8 77] 5 ∧ w.heap.size ≤ b) ∧ Below w.heap.size w wr) (fun i _ => 5 - (intOf i).toNat)
  case atStart => exact ⟨1, _, by omega, by omega, rfl, unhide HK0, rfl, rfl, fun i h1 h2 => by omega, unhide HB0⟩
  case round =>
    obtain ⟨k, cs, hk1, hk, rfl, hbk, hcs, hc0, hel, hbel⟩ := hrel
    have hsz := hbk.lt
    rcases Nat.lt_or_ge k 5 with hlt | hge
    · have c1 : ∃ u, wr.cell? ⟨w.heap.size, k, none⟩ = some u := ⟨_, (hbk.cell k).trans (Array.getElem?_eq_getElem (by omega))⟩
      obtain ⟨u, c1⟩ := c1
      have c1' : (wr.alloc (.cells #[.int .u8 77] 5)).cell? ⟨w.heap.size, k, none⟩ = some u := by rw [World.cell?_alloc_past _ _ _ hsz]; exact c1
      have c2 := (hbk.alloc (.cells #[.int .u8 77] 5)).free k
      have ik : (k : Int) < 5 := by omega
      have ik0 : (0 : Int) ≤ (k : Int) := by omega
      have HBK := hide hbk
      have HEL := hide hel
      have HBL := hide hbel
      have HC0 := hide hc0
      clear hbk hel hbel HB0 HK0 c1 hc0
      go_wp2
      go_roundw
      case rel =>
        have hn := Blk.new (wr.setCell ⟨w.heap.size, k, none⟩ (.slice (some ⟨wr.heap.size, 0, none⟩) 1 1)) #[.int .u8 77] 5
        rw [show (wr.setCell ⟨w.heap.size, k, none⟩ (.slice (some ⟨wr.heap.size, 0, none⟩) 1 1)).heap.size = wr.heap.size by simp] at hn
        refine ⟨k + 1, cs.setIfInBounds k (.slice (some ⟨wr.heap.size, 0, none⟩) 1 1), by omega, by omega, by go_num, ((unhide HBK).set k _).alloc _, by simpa using hcs, by rw [set_ne (by omega)]; exact unhide HC0, fun i h1 h2 => ?_, ((unhide HBL).setCell (p := ⟨w.heap.size, k, none⟩) (Nat.le_refl _) _).alloc (by have := (unhide HBL).size; simp; omega) _⟩
        rcases Nat.lt_or_ge i k with q | q
        · obtain ⟨b, e, hb, hbb⟩ := unhide HEL i h1 q
          refine ⟨b, by rw [set_ne (by omega)]; exact e, (hb.other _ _ (fun e => ?_)).alloc _, hbb⟩
          have e' : b = w.heap.size := e
          subst e'
          exact (by decide : 5 ≠ 36) (Blk.same hb (unhide HBK)).2
        · obtain rfl : i = k := by omega
          exact ⟨wr.heap.size, set_at (by omega), hn, (unhide HBL).size⟩
      case measure => simp [intOf]; omega
    · obtain rfl : k = 5 := by omega
      have hll2 : wr.cell? ⟨lb, 0, none⟩ = some (.slice none 0 0) := (hbel.cell (p := ⟨lb, 0, none⟩) hll).trans hl
      have HR : Hid (GvN wr w.heap.size w.heap.size) := ⟨Nat.le_refl _, cs, hbk, hcs, hc0, hel⟩
      have HBL := hide hbel
      have he2 := eqn_nil
      clear hbk hel hbel HB0 HK0 hc0
      obtain ⟨wo, hwo⟩ : ∃ wo, wo = wr := ⟨wr, rfl⟩
      subst hwo
      go_wp2
      go_loopw [5] (fun iv wx => ∃ (j : Nat), j ≤ 1 ∧ iv = .int .i64 (j : Int) ∧ wx = wo) (fun i _ => 1 - (intOf i).toNat)
      case atStart => exact ⟨0, by omega, rfl, rfl⟩
      case round =>
        obtain ⟨j, hj, rfl, hwx⟩ := hrel
        have HWX := hide hwx
        clear hwx
        rcases (show j = 0 ∨ j = 1 by omega) with hz | hz
        · have ij0 : (0 : Int) ≤ (j : Int) := by omega
          have ij1 : (j : Int) < 1 := by omega
          have hlj : wr.cell? ⟨lb, j, none⟩ = some (.slice none 0 0) := by rw [hz, unhide HWX]; exact hll2
          clear hz
          go_wp2
          go_roundw
          case rel => exact ⟨j + 1, by omega, by go_num, unhide HWX⟩
          case measure => simp [intOf]; omega
        · have ij1 : ¬ (j : Int) < 1 := by omega
          clear hz
          go_wp2
          go_ret
          rw [unhide HWX]
          exact ⟨w.heap.size, rfl, unhide HR, unhide HBL⟩

theorem conv_nil (w : World) : (convert 36 9 (.slice none 0 0)).run Tryz.prog w = .ok (.string ByteArray.empty) w := by kernel_rfl
set_option maxRecDepth 100000 in
set_option maxHeartbeats 4000000 in
theorem clean_nil (G lb base : Nat) (w : World) (hg : GvN w G base) (hl : w.cell? ⟨lb, 0, none⟩ = some (.slice none 0 0)) :
    Calls Tryz.prog 55 #[.slice (some ⟨G, 0, none⟩) 1 5, .slice (some ⟨lb, 0, none⟩) 1 1] w fun e w' => e = .returned (.bool true) ∧ Chg (fun _ => False) w w' := by
  obtain ⟨h0, cs, h1, h2, h3, h4⟩ := hg
  have he1 := nen_list lb
  have HEL : Hid (∀ i, 1 ≤ i → i < 5 → ∃ b, w.cell? ⟨G, i, none⟩ = some (.slice (some ⟨b, 0, none⟩) 1 1) ∧ w.cell? ⟨b, 0, none⟩ = some (.int .u8 77)) := fun i hi hj => by
    obtain ⟨b, e, hb, _⟩ := h4 i hi hj
    exact ⟨b, (h1.cell i).trans e, hb.cell 0⟩
  have g0 : w.cell? ⟨G, 0, none⟩ = some (.slice none 0 0) := (h1.cell 0).trans h3
  clear h0 h1 h2 h3 h4
  go_enter Tryz.func55, Tryz.ntmps55
  go_wp2
  clear he1
  go_loopw [6] (fun iv wr => ∃ (k : Nat), 1 ≤ k ∧ k ≤ 5 ∧ iv = .int .i64 (k : Int) ∧ wr = w) (fun i _ => 5 - (intOf i).toNat)
  case atStart => exact ⟨1, by omega, by omega, rfl, rfl⟩
  case round =>
    obtain ⟨k, hk1, hk, rfl, hwx⟩ := hrel
    have HWX := hide hwx
    clear hwx
    rcases Nat.lt_or_ge k 5 with hlt | hge
    · obtain ⟨b, e1, e2⟩ := unhide HEL k hk1 hlt
      rw [← unhide HWX] at e1 e2
      have ik : (k : Int) < 5 := by omega
      have ik0 : (0 : Int) ≤ (k : Int) := by omega
      go_wp2
      go_roundw
      case rel => exact ⟨k + 1, by omega, by omega, by go_num, unhide HWX⟩
      case measure => simp [intOf]; omega
    · obtain rfl : k = 5 := by omega
      go_wp2
      go_loopw [7] (fun iv wx => ∃ (j : Nat), j ≤ 1 ∧ iv = .int .i64 (j : Int) ∧ Chg (fun _ => False) w wx) (fun i _ => 1 - (intOf i).toNat)
      case atStart => exact ⟨0, by omega, rfl, by rw [unhide HWX]; exact Chg.refl _ _⟩
      case round =>
        obtain ⟨j, hj, rfl, hch⟩ := hrel
        have hcl : ∀ (b : Nat) (u : Value), w.cell? ⟨b, 0, none⟩ = some u → wr.cell? ⟨b, 0, none⟩ = some u := fun b u hu => (World.cell?_of_block (a := ⟨b, 0, none⟩) (hch.block b (block_lt_of_cell hu) id)).trans hu
        have HCH := hide hch
        clear hch
        rcases (show j = 0 ∨ j = 1 by omega) with hz | hz
        · have ij0 : (0 : Int) ≤ (j : Int) := by omega
          have ij1 : (j : Int) < 1 := by omega
          have hlj : wr.cell? ⟨lb, j, none⟩ = some (.slice none 0 0) := by rw [hz]; exact hcl _ _ hl
          have hgj : wr.cell? ⟨G, j, none⟩ = some (.slice none 0 0) := by rw [hz]; exact hcl _ _ g0
          have hcv := conv_nil
          have he2 := eqn_nil
          clear hz hcl
          go_wp2
          go_quiet (fail)
          have HC2 : Hid (Chg (fun _ => False) w (wr.drewN nq)) := (unhide HCH).drewN nq
          have hl2 : (wr.drewN nq).cell? ⟨lb, j, none⟩ = some (.slice none 0 0) := hlj
          generalize wr.drewN nq = wq at *
          clear hlj hgj
          go_wp2
          go_roundw
          case rel => exact ⟨j + 1, by omega, by go_num, unhide HC2⟩
          case measure => simp [intOf]; omega
        · have ij1 : ¬ (j : Int) < 1 := by omega
          clear hz hcl
          go_wp2
          go_ret
          exact ⟨rfl, unhide HCH⟩

end Go.Proofs.YtdcinlkkjbclmaaGreat
