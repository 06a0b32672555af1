/- World.open over new disks. -/
import Derived.Test.YtdcinlkkjbclmaaGreatMLBlankLOpen
import Derived.Test.YtdcinlkkjbclmaaGreatMLResLQuiet
namespace Go.Proofs.YtdcinlkkjbclmaaGreat
open Go.RowKit

theorem opn_below {w w1 w2 : World} {d s : Nat} {fr : Bool} {vb tb hb : Nat} {A : VA} {O : List Nat} {nx : Value} {o : Obj} (h : Opened w.drew w1 d s fr vb tb hb A O nx) (e : w2 = w1.alloc o) : Below w.heap.size w w2 := by
  subst e
  exact ((Below.refl w.heap.size w).drew.trans h.new).alloc h.new.size _

set_option maxRecDepth 100000 in
set_option maxHeartbeats 8000000 in
theorem open_any (W : World) (wb D S : Nat) (ds bl st kn : Value) (db : Nat → Nat) (F : Nat → Nat → Prop) (w : World) (h : Mk W w wb D S D (.pointer none) ds bl st kn db F) (hD4 : 4 ≤ D) (hD : D ≤ 8) (hS1 : 1 ≤ S) (hS : S ≤ 6) :
    Calls Tryz.prog 24 #[.pointer (some ⟨wb, 0, none⟩)] w fun e w' => e = .returned (.bool true) ∧ ∃ vb tb hb, Ph W wb D S vb tb hb db (2 * D) w' := by
  have c4 : w.drew.cell? ⟨wb, 4, none⟩ = some (.int .i64 (D : Int)) := h.blk.cell 4
  have c5 : w.drew.cell? ⟨wb, 5, none⟩ = some (.int .i64 (S : Int)) := h.blk.cell 5
  have c14 : w.drew.cell? ⟨wb, 14, none⟩ = some (.bool false) := h.blk.cell 14
  have HM := hide h
  have HOP := hide (platOpen_any D S true w.drew hD4 hD hS1 hS)
  have hwl : wb < w.heap.size := h.blk.lt
  clear h
  go_enter Tryz.func24, Tryz.ntmps24
  go_wp2_with fail
  go_region_held3 (fun w' => w'.cell? ⟨wb, 4, none⟩ = some (.int .i64 (D : Int)) ∧ w'.cell? ⟨wb, 5, none⟩ = some (.int .i64 (S : Int)) ∧ w'.cell? ⟨wb, 14, none⟩ = some (.bool false)) (first | exact ⟨c4, c5, c14⟩ | exact ⟨q4, q5, q14⟩)
    (first | (go_at_call 15; refine (unhide HOP).mono ?_; rintro e w2 ⟨pb, vb, tb, hb, A, O, nx, w1, rfl, hop, hw2, hpb⟩; have hb2 : Below w.heap.size w w2 := opn_below hop hw2; have q4 := (hb2.cell (p := ⟨wb, 4, none⟩) hwl).trans c4; have q5 := (hb2.cell (p := ⟨wb, 5, none⟩) hwl).trans c5; have q14 := (hb2.cell (p := ⟨wb, 14, none⟩) hwl).trans c14; have HOPN := hide hop; have HW2 := hide hw2; have HPB0 := hide hpb; clear hop hw2 hpb hb2))
  have hop := unhide HOPN
  have hw2 := unhide HW2
  have hpb := unhide HPB0
  clear c4 c5 c14 q4 q5 q14 HOPN HW2 HPB0
  have hm0 := unhide HM
  have cd1 : Chg (fun _ => False) w w1 := Chg.of_new ((Below.refl w.heap.size w).drew.trans hop.new)
  have c12 : Chg (fun _ => False) w1 w2 := by rw [hw2]; exact (Chg.refl _ _).alloc _
  have c02 : Chg (fun _ => False) w w2 := cd1.trans c12 (fun _ h => h.elim)
  have hm2 := hm0.chg c02 (fun _ _ => id) (fun _ h => h.elim)
  have hpk : Blk w2 pb #[.pointer (some ⟨vb, 0, none⟩)] 81 := by rw [hw2, hpb]; exact Blk.new w1 _ _
  have hst0 : A.state = 0 := by
    rcases hop.first with ⟨_, _, L, _, _, hA⟩ | ⟨e, _⟩
    · rw [hA]; rfl
    · cases e
  have HST : Hid (Calls Tryz.prog 39 #[.pointer (some ⟨pb, 0, none⟩)] w2 fun e w' => e = .returned (.int .i64 0) ∧ w' = w2) := by
    have h1 := wrapState pb vb A O w2 (hpk.cell 0) (hop.vol.chg c12 (fun _ _ => id))
    rw [hst0] at h1
    exact h1
  have hne : pb ≠ wb := by have := cd1.size; omega
  have e6 : w2.cell? ⟨wb, 6, none⟩ = some (.pointer none) := hm2.blk.cell 6
  have e8 : w2.cell? ⟨wb, 8, none⟩ = some (.slice none 0 0) := hm2.blk.cell 8
  have e9 : w2.cell? ⟨wb, 9, none⟩ = some (.int .i64 0) := hm2.blk.cell 9
  have e11 : w2.cell? ⟨wb, 11, none⟩ = some (.int .i64 0) := hm2.blk.cell 11
  have e12 : w2.cell? ⟨wb, 12, none⟩ = some (.slice none 0 0) := hm2.blk.cell 12
  have e22 : w2.cell? ⟨wb, 22, none⟩ = some (.int .i64 0) := hm2.blk.cell 22
  have e20 : w2.cell? ⟨wb, 20, none⟩ = some (.bool false) := hm2.blk.cell 20
  have f6 := hm2.blk.free 6
  have f8 := hm2.blk.free 8
  have f9 := hm2.blk.free 9
  have f11 := hm2.blk.free 11
  have f12 := hm2.blk.free 12
  have f22 := hm2.blk.free 22
  have f20 := hm2.blk.free 20
  have CS : Chg (fun x => x = wb) w2 (((((((w2.setCell ⟨wb, 6, none⟩ (.pointer (some ⟨pb, 0, none⟩))).setCell ⟨wb, 8, none⟩ (.slice none 0 0)).setCell ⟨wb, 9, none⟩ (.int .i64 0)).setCell ⟨wb, 11, none⟩ (.int .i64 0)).setCell ⟨wb, 12, none⟩ (.slice none 0 0)).setCell ⟨wb, 22, none⟩ (.int .i64 0)).setCell ⟨wb, 20, none⟩ (.bool false)) := (((((((Chg.refl (fun x => x = wb) w2).setCell _ _ (Or.inl rfl)).setCell _ _ (Or.inl rfl)).setCell _ _ (Or.inl rfl)).setCell _ _ (Or.inl rfl)).setCell _ _ (Or.inl rfl)).setCell _ _ (Or.inl rfl)).setCell _ _ (Or.inl rfl)
  have BS : Blk (((((((w2.setCell ⟨wb, 6, none⟩ (.pointer (some ⟨pb, 0, none⟩))).setCell ⟨wb, 8, none⟩ (.slice none 0 0)).setCell ⟨wb, 9, none⟩ (.int .i64 0)).setCell ⟨wb, 11, none⟩ (.int .i64 0)).setCell ⟨wb, 12, none⟩ (.slice none 0 0)).setCell ⟨wb, 22, none⟩ (.int .i64 0)).setCell ⟨wb, 20, none⟩ (.bool false)) wb (mkL D S (.pointer (some ⟨pb, 0, none⟩)) ds bl st kn).toArray 56 := ((((((hm2.blk.set 6 _).set 8 _).set 9 _).set 11 _).set 12 _).set 22 _).set 20 _
  have HM3 := hide (hm2.put CS BS)
  have HCS := hide CS
  have HPK := hide (hpk.chg CS hne)
  have HOPD := hide hop
  have HC12 := hide c12
  have HPB := hide hpb
  have HKN := hide hm2.rkn
  clear hop hw2 hpb hm0 hm2 cd1 c12 c02 hpk hst0 CS BS HOP
  go_wp2_with fail
  refine (unhide HST).mono ?_
  rintro e wx ⟨rfl, hwx⟩
  obtain rfl := hwx
  clear HST
  go_wp2
  clear e6 e8 e9 e11 e12 e22 e20 f6 f8 f9 f11 f12 f22 f20
  generalize ((((((wx.setCell ⟨wb, 6, none⟩ (.pointer (some ⟨pb, 0, none⟩))).setCell ⟨wb, 8, none⟩ (.slice none 0 0)).setCell ⟨wb, 9, none⟩ (.int .i64 0)).setCell ⟨wb, 11, none⟩ (.int .i64 0)).setCell ⟨wb, 12, none⟩ (.slice none 0 0)).setCell ⟨wb, 22, none⟩ (.int .i64 0)).setCell ⟨wb, 20, none⟩ (.bool false) = w3 at *
  go_loopw [6] (fun iv wr => ∃ (i : Nat), i ≤ D ∧ iv = .int .i64 (i : Int) ∧ Chg (fun _ => False) w3 wr) (fun i _ => D - (intOf i).toNat)
  case atStart => exact ⟨0, Nat.zero_le _, rfl, Chg.refl _ _⟩
  case round =>
    obtain ⟨i, hi, rfl, hch⟩ := hrel
    have hr := (unhide HM3).chg hch (fun _ _ => id) (fun _ h => h.elim)
    have HCH := hide hch
    have g4 : wr.cell? ⟨wb, 4, none⟩ = some (.int .i64 (D : Int)) := hr.blk.cell 4
    rcases Nat.lt_or_ge i D with hlt | hge
    · obtain ⟨kb, kc, kcs, hke, hkb, hkx⟩ := rep_cell hr.rkn (by omega)
      have g16 : wr.cell? ⟨wb, 16, none⟩ = some (.slice (some ⟨kb, 0, none⟩) D kc) := (hr.blk.cell 16).trans (by show some kn = _; rw [hke])
      have k1 : wr.cell? ⟨kb, i, none⟩ = some (.bool false) := (hkb.cell i).trans (hkx i hlt)
      have kf := hkb.free i
      have HCK := hide (chg_same hkb (hkx i hlt))
      have ii0 : (0 : Int) ≤ (i : Int) := by omega
      have ii1 : (i : Int) < (D : Int) := by omega
      clear hr hch hke hkb hkx
      go_wp2
      go_roundw
      case rel => exact ⟨i + 1, by omega, by go_num, (unhide HCH).trans (unhide HCK) (fun _ h => h.elim)⟩
      case measure => simp [intOf]; omega
    · obtain rfl : i = D := by omega
      have HMR := hide hr
      clear hr hch
      go_wp2
      go_ret
      have hm0 := unhide HM
      refine ⟨rfl, vb, tb, hb, ph_begin (w0 := w.drew) (w1 := w1) (unhide HMR) hm0.bel.size (fun b hb' => ?_) (unhide HOPD) (unhide HPB) ((unhide HPK).chg (unhide HCH) id) (((unhide HC12).mono (fun _ _ h => h.elim)).trans ((unhide HCS).trans (unhide HCH) (fun _ h => h.elim)) (fun x hx => Or.inl hx)) hD4⟩
      obtain ⟨cs, t, hk, _⟩ := hm0.typ b hb'
      exact hk.lt

end Go.Proofs.YtdcinlkkjbclmaaGreat
