/- Results are told where there are none. -/
import Derived.Test.YtdcinlkkjbclmaaGreatMLDoneLPickLSomeLPhaseLRun
import Derived.Test.YtdcinlkkjbclmaaGreatMLAnsLKept
import Derived.Test.YtdcinlkkjbclmaaGreatLKeptW
namespace Go.Proofs.YtdcinlkkjbclmaaGreat
open Go.RowKit

set_option maxRecDepth 100000 in
set_option maxHeartbeats 4000000 in
theorem res_walk (wb pb : Nat) (R : World → Prop) (w : World) (h6 : w.cell? ⟨wb, 6, none⟩ = some (.pointer (some ⟨pb, 0, none⟩)))
    (hr : Calls Tryz.prog 57 #[.pointer (some ⟨pb, 0, none⟩)] w fun e w1 => ∃ v, e = .returned v ∧ ∃ la cap, v = .slice la 0 cap ∧ Calls Tryz.prog 59 #[.pointer (some ⟨wb, 0, none⟩), .slice la 0 cap] w1 fun e w' => e = .returned (.tuple #[]) ∧ R w') :
    Calls Tryz.prog 29 #[.pointer (some ⟨wb, 0, none⟩)] w fun e w' => e = .returned (.bool true) ∧ R w' := by
  have HR := hide hr
  clear hr
  go_enter Tryz.func29, Tryz.ntmps29
  go_wp2_with fail
  refine (unhide HR).mono ?_
  rintro e w1 ⟨v, rfl, la, cap, rfl, ha⟩
  have HAN := hide ha
  clear ha h6 HR
  go_wp2
  go_loopw [4] (fun iv wr => iv = .int .i64 0 ∧ wr = w1) (fun _ _ => 0)
  case atStart => exact ⟨rfl, rfl⟩
  case round =>
    obtain ⟨rfl, hwr⟩ := hrel
    have HAW : Hid (Calls Tryz.prog 59 #[.pointer (some ⟨wb, 0, none⟩), .slice la 0 cap] wr fun e w' => e = .returned (.tuple #[]) ∧ R w') := by rw [hwr]; exact unhide HAN
    clear hwr HAN
    go_wp2_with fail
    refine (unhide HAW).mono ?_
    rintro e w2 ⟨rfl, hR⟩
    have HRR := hide hR
    clear hR HAW
    go_wp2
    go_ret
    exact ⟨rfl, unhide HRR⟩

set_option maxHeartbeats 2000000 in
theorem res_any (wb : Nat) (X : LX) (us : List Value) (kk : List Int) (cus : List Value) (ckk : List Int) (T : List Tl) (db : Nat → Nat) (F : Nat → Nat → Prop) (vb : Nat) (A : VA) (O : List Nat) (w : World) (h : LSt w wb X us kk cus ckk T db F vb A O) (hA : A.ress = []) (hrs : X.rs = .slice none 0 0) (hkr : X.kr = .slice none 0 0) :
    Calls Tryz.prog 29 #[.pointer (some ⟨wb, 0, none⟩)] w fun e w' => e = .returned (.bool true) ∧ ∃ rs kr a b c d O', LSt w' wb { X with rs := rs, kr := kr } us kk cus ckk T db F vb A O' ∧ Bk w' 103 99 resP rs kr [a, b, c, d] [1, 1, 1, 1] ∧
      Chg (AMem wb X us cus T F O) w w' ∧ ∀ q, AMem wb { X with rs := rs, kr := kr } us cus T F O' q → AMem wb X us cus T F O q ∨ w.heap.size ≤ q := by
  refine res_walk wb X.pb _ w (h.lw.blk.cell 6) (wrapResults X.pb vb _ w (h.rs.pv.cell 0) ((results_any vb A O w h.vol (by rw [hA]; simp) (by rw [hA]; simp)).mono ?_))
  rintro e w1 ⟨v, O', rfl, v1, c1, o1, hrow, hrno⟩
  have hA' : ({ A with ress := [] } : VA) = A := by rw [← hA]
  rw [hA'] at v1
  rw [hA] at hrow
  obtain ⟨la, cap, hla⟩ : ∃ la cap, v = .slice la 0 cap := by
    rcases own_get (own_zero hrow) with ⟨e, _, _⟩ | ⟨g, cp, c, e, _⟩
    · exact ⟨none, 0, e⟩
    · exact ⟨_, _, e⟩
  subst hla
  have hs1 := c1.size
  have L1 := h.lw.chg c1 (fun b hb => h.lo b hb)
  have R1 := h.rs.chg c1 (fun b hb => h.ro b hb)
  refine ⟨_, rfl, la, cap, rfl, (ans_any wb X us kk cus ckk la cap 0 rfl w1 L1 hrs hkr (own_zero hrow)).mono ?_⟩
  rintro e w' ⟨rfl, rs, kr, a, b, c, d, L', B', c2⟩
  have hvn : ∀ g, (Value.slice la 0 cap).ownBlock = some g → w.heap.size ≤ g ∧ g ∉ O' := fun g hg => ⟨own_base hrow g hg, hrno g (own_dBlk _ g hg)⟩
  have lo1 : ∀ b, LMem wb X us cus b → b ∉ O' := fun b hb ho => by
    rcases o1 b ho with q | q
    · exact h.lo b hb q
    · have := h.lw.lt b hb; omega
  have ro1 : ∀ b, RMem X T F b → b ∉ O' := fun b hb ho => by
    rcases o1 b ho with q | q
    · exact h.ro b hb q
    · have := h.rs.lt b hb; omega
  have nR : ∀ b, RMem X T F b → ¬ (b = wb ∨ (Value.slice la 0 cap).ownBlock = some b) := fun b hb hx => by
    rcases hx with hx | hx
    · exact h.lr wb (Or.inl rfl) (hx ▸ hb)
    · have := (hvn b hx).1; have := h.rs.lt b hb; omega
  have R2 := R1.chg c2 nR
  refine ⟨rfl, rs, kr, a, b, c, d, O', ⟨L', ⟨R2.out, R2.dat, R2.ds, R2.dk, R2.sep, R2.st, R2.kn, R2.pv⟩, v1.chg c2 (fun b hb hx => ?_), h.lr, lo1, ro1⟩, B', (c1.mono (fun k _ hk => Or.inr (Or.inr hk))).trans c2 (fun k hk => ?_), fun q hq => ?_⟩
  · rcases hx with hx | hx
    · exact lo1 wb (Or.inl rfl) (hx ▸ hb)
    · exact (hvn b hx).2 hb
  · rcases hk with hk | hk
    · exact Or.inl (Or.inl (Or.inl hk))
    · exact Or.inr (hvn k hk).1
  · rcases hq with hq | hq | hq
    · exact Or.inl (Or.inl hq)
    · exact Or.inl (Or.inr (Or.inl hq))
    · rcases o1 q hq with r | r
      · exact Or.inl (Or.inr (Or.inr r))
      · exact Or.inr r

end Go.Proofs.YtdcinlkkjbclmaaGreat

/- The volume comes to rest, and all is as it must be. -/
namespace Go.Proofs.YtdcinlkkjbclmaaGreat
open Go.RowKit

theorem chg_same {w : World} {sb i : Nat} {cs : Array Value} {t : TypeId} {v : Value} (h : Blk w sb cs t) (hv : cs[i]? = some v) : Chg (fun _ => False) w (w.setCell ⟨sb, i, none⟩ v) := by
  have h1 : Chg (fun x => x = sb) w (w.setCell ⟨sb, i, none⟩ v) := Chg.setCell (X := fun x => x = sb) (Chg.refl _ w) ⟨sb, i, none⟩ _ (Or.inl rfl)
  refine ⟨h1.os, h1.tape, h1.output, h1.size, fun k hk _ => ?_⟩
  by_cases e : k = sb
  · subst e
    have h2 := h.set i v
    rw [set_same hv] at h2
    exact h2.trans h.symm
  · exact h1.block k hk e
theorem LSt.formed {w : World} {wb : Nat} {X : LX} {us : List Value} {kk : List Int} {cus : List Value} {ckk : List Int} {T : List Tl} {db : Nat → Nat} {F : Nat → Nat → Prop} {vb : Nat} {A : VA} {O : List Nat} (h : LSt w wb X us kk cus ckk T db F vb A O) : LSt (w.setCell ⟨wb, 14, none⟩ (.bool true)) wb { X with formed := true } us kk cus ckk T db F vb A O ∧ Chg (fun x => x = wb) w (w.setCell ⟨wb, 14, none⟩ (.bool true)) := by
  have hc : Chg (fun x => x = wb) w (w.setCell ⟨wb, 14, none⟩ (.bool true)) := Chg.setCell (X := fun x => x = wb) (Chg.refl _ w) ⟨wb, 14, none⟩ _ (Or.inl rfl)
  have nT : ∀ g cs t, Blk w g cs t → t ≠ 56 → ¬ g = wb := fun g cs t hb ht e => by
    subst e
    exact ht (Blk.same hb h.lw.blk).2
  have R := h.rs.chg hc (fun b hb e => h.lr wb (Or.inl rfl) (e ▸ hb))
  refine ⟨⟨⟨h.lw.blk.set 14 _, h.lw.bk.chg hc (fun g hg => ?_) (fun g hg => ?_) (fun u hu g hg => ?_), h.lw.cb.chg hc (fun g hg => ?_) (fun g hg => ?_) (fun u hu g hg => ?_), h.lw.ne⟩, ⟨R.out, R.dat, R.ds, R.dk, R.sep, R.st, R.kn, R.pv⟩, h.vol.chg hc (fun b hb e => h.lo wb (Or.inl rfl) (e ▸ hb)), h.lr, h.lo, h.ro⟩, hc⟩
  · obtain ⟨c, hc'⟩ := own_blk h.lw.bk.row g hg; exact nT g c _ hc' (by decide)
  · obtain ⟨c, hc'⟩ := own_blk h.lw.bk.key g hg; exact nT g c _ hc' (by decide)
  · obtain ⟨c, hc'⟩ := h.lw.bk.typ u hu g hg; exact nT g c _ hc' (by decide)
  · obtain ⟨c, hc'⟩ := own_blk h.lw.cb.row g hg; exact nT g c _ hc' (by decide)
  · obtain ⟨c, hc'⟩ := own_blk h.lw.cb.key g hg; exact nT g c _ hc' (by decide)
  · obtain ⟨c, hc'⟩ := h.lw.cb.typ u hu g hg; exact nT g c _ hc' (by decide)
/-- at rest, and seen to be -/
def Fin (W0 : World) (wb D S vb tb hb : Nat) (db : Nat → Nat) (w : World) : Prop := ∃ X us kk cus ckk F lc O, LSt w wb X us kk cus ckk [] db F vb (readyA D S tb lc) O ∧ X.D = D ∧ Env W0 w wb X us cus [] F O tb hb

set_option maxRecDepth 100000 in
set_option maxHeartbeats 8000000 in
theorem quiet_any (W0 : World) (wb D S vb tb hb : Nat) (db : Nat → Nat) (a b : Int) (hD4 : 4 ≤ D) (hD : D ≤ 8) (hS : S ≤ 6) (ha1 : -9223372036854775808 ≤ a) (ha2 : a ≤ 9223372036854775807) (w : World) (h : Ph W0 wb D S vb tb hb db (2 * D) w) :
    Calls Tryz.prog 16 #[.pointer (some ⟨wb, 0, none⟩), .int .i64 a, .int .i64 b] w fun e w' => e = .returned (.bool true) ∧ Fin W0 wb D S vb tb hb db w' := by
  have HSO := hide (some_walk wb a b (Ph W0 wb D S vb tb hb db) (Rdy W0 wb D S vb tb hb db) ha1 ha2 (fun m w' hp => ph_step W0 wb D S vb tb hb db hD4 hD hS m w' hp) (2 * D) (by omega) w h)
  clear h
  go_enter Tryz.func16, Tryz.ntmps16
  go_wp2_with fail
  refine (unhide HSO).mono ?_
  rintro e w1 ⟨rfl, X, us, kk, cus, ckk, F, lc, O, hst, hfx, henv, hn, hul, hcl, hdn, hkq⟩
  clear HSO
  obtain ⟨eD, eS, ers, ekr, efm⟩ := hfx
  have o8 : ∃ oa oc, w1.cell? ⟨wb, 8, none⟩ = some (.slice oa 0 oc) := by
    have h8 : w1.cell? ⟨wb, 8, none⟩ = some X.out := hst.lw.blk.cell 8
    rcases own_get hst.rs.out with ⟨e, _, _⟩ | ⟨g, cp, c, e, _⟩
    · exact ⟨none, 0, by rw [h8, e]⟩
    · exact ⟨_, _, by rw [h8, e]; rfl⟩
  obtain ⟨oa, oc, o8⟩ := o8
  have HRE := hide (res_any wb X us kk cus ckk [] db F vb _ O w1 hst rfl ers ekr)
  have HEN := hide henv
  have HKQ := hide hkq
  have HED := hide eD
  have HEF := hide efm
  clear hst henv ers ekr eD eS efm hkq
  go_wp2_with fail
  refine (unhide HRE).mono ?_
  rintro e w2 ⟨rfl, rs, kr, ra, rb, rc, rd, O2, h2, hB2, c2, n2⟩
  have HE2 := hide ((unhide HEN).step (c2.mono (fun b _ hb' => Or.inl hb')) n2)
  have g6 : w2.cell? ⟨wb, 6, none⟩ = some (.pointer (some ⟨X.pb, 0, none⟩)) := h2.lw.blk.cell 6
  have HST : Hid (Calls Tryz.prog 39 #[.pointer (some ⟨X.pb, 0, none⟩)] w2 fun e w' => e = .returned (.int .i64 1) ∧ w' = w2) := wrapState X.pb vb (readyA D S tb lc) O2 w2 (h2.rs.pv.cell 0) h2.vol
  have i12 : w2.cell? ⟨wb, 12, none⟩ = some (.slice none 0 0) := h2.lw.blk.cell 12
  have i19 : w2.cell? ⟨wb, 19, none⟩ = some (.bool false) := h2.lw.blk.cell 19
  have g14 : w2.cell? ⟨wb, 14, none⟩ = some (.bool false) := (h2.lw.blk.cell 14).trans (by show some (Value.bool X.formed) = _; rw [unhide HEF])
  have f14 := h2.lw.blk.free 14
  obtain ⟨h3, c3⟩ := h2.formed
  have HE3 : Hid (Env W0 (w2.setCell ⟨wb, 14, none⟩ (.bool true)) wb { X with rs := rs, kr := kr, formed := true } us cus [] F O2 tb hb) := (unhide HE2).step (X' := { X with rs := rs, kr := kr, formed := true }) (c3.mono (fun x _ hx => Or.inl (Or.inl (Or.inl hx)))) (fun x hx => Or.inl hx)
  have g12 : (w2.setCell ⟨wb, 14, none⟩ (.bool true)).cell? ⟨wb, 12, none⟩ = some (.slice none 0 0) := h3.lw.blk.cell 12
  have g19 : (w2.setCell ⟨wb, 14, none⟩ (.bool true)).cell? ⟨wb, 19, none⟩ = some (.bool false) := h3.lw.blk.cell 19
  have HB3 := hide (hB2.chg c3 (fun g hg e => by subst e; obtain ⟨c, hc⟩ := own_blk hB2.row g hg; exact (by decide : 99 ≠ 56) (Blk.same hc h2.lw.blk).2) (fun g hg e => by subst e; obtain ⟨c, hc⟩ := own_blk hB2.key g hg; exact (by decide : 3 ≠ 56) (Blk.same hc h2.lw.blk).2) (fun u hu g hg e => by subst e; obtain ⟨c, hc⟩ := hB2.typ u hu g hg; exact (by decide : 103 ≠ 56) (Blk.same hc h2.lw.blk).2))
  have H3 := hide h3
  clear h2 hB2 c2 n2 h3 c3 HRE o8
  go_wp2_with fail
  refine (unhide HST).mono ?_
  rintro e wx ⟨rfl, hwx⟩
  obtain rfl := hwx
  clear HST
  go_wp2
  clear g6 g14 f14 g12 g19 i12 i19 HE2
  generalize wx.setCell ⟨wb, 14, none⟩ (.bool true) = w3 at *
  go_loopw [9] (fun iv wr => ∃ (i : Nat), i ≤ D ∧ iv = .int .i64 (i : Int) ∧ Chg (fun _ => False) w3 wr) (fun i _ => D - (intOf i).toNat)
  case atStart => exact ⟨0, Nat.zero_le _, rfl, Chg.refl _ _⟩
  case round =>
    obtain ⟨i, hi, rfl, hch⟩ := hrel
    have hr := (unhide H3).same hch
    have HR := hide hr
    have HCH := hide hch
    have g4 : wr.cell? ⟨wb, 4, none⟩ = some (.int .i64 (D : Int)) := (hr.lw.blk.cell 4).trans (by show some (Value.int .i64 (X.D : Int)) = _; rw [unhide HED])
    rcases Nat.lt_or_ge i D with hlt | hge
    · have g6 : wr.cell? ⟨wb, 6, none⟩ = some (.pointer (some ⟨X.pb, 0, none⟩)) := hr.lw.blk.cell 6
      have HMB : Hid (Calls Tryz.prog 20 #[.pointer (some ⟨X.pb, 0, none⟩), .int .i64 (i : Int)] wr fun e w' => e = .returned (.tuple #[.int .i64 0, .int .i64 0]) ∧ w' = wr) := by
        have h1 := wrapMember X.pb vb (readyA D S tb lc) O2 (i : Int) wr (hr.rs.pv.cell 0) hr.vol (fun k => getD_rep D k)
        have hlen : (readyA D S tb lc).stand.length = D := List.length_replicate
        rw [hlen, if_pos ⟨by omega, by omega⟩] at h1
        exact h1
      obtain ⟨sb, sc, scs, hse, hsb, hsx⟩ := rep_cell hr.rs.st (by show 0 < X.D; rw [unhide HED]; omega)
      obtain ⟨kb, kc, kcs, hke, hkb, hkx⟩ := rep_cell hr.rs.kn (by show 0 < X.D; rw [unhide HED]; omega)
      have g15 : wr.cell? ⟨wb, 15, none⟩ = some (.slice (some ⟨sb, 0, none⟩) D sc) := (hr.lw.blk.cell 15).trans (by show some X.stale = _; rw [← unhide HED]; exact congrArg some hse)
      have g16 : wr.cell? ⟨wb, 16, none⟩ = some (.slice (some ⟨kb, 0, none⟩) D kc) := (hr.lw.blk.cell 16).trans (by show some X.knows = _; rw [← unhide HED]; exact congrArg some hke)
      have hix : i < X.D := by rw [unhide HED]; exact hlt
      have s1 : wr.cell? ⟨sb, i, none⟩ = some (.bool false) := (hsb.cell i).trans (hsx i hix)
      have k1 : wr.cell? ⟨kb, i, none⟩ = some (.bool false) := (hkb.cell i).trans (hkx i hix)
      have sf := hsb.free i
      have HCS := hide (chg_same hsb (hsx i hix))
      have ii0 : (0 : Int) ≤ (i : Int) := by omega
      have ii1 : (i : Int) < (D : Int) := by omega
      clear hr hch hse hsb hsx hke hkb hkx
      go_wp2_with fail
      refine (unhide HMB).mono ?_
      rintro e wy ⟨rfl, hwy⟩
      obtain rfl := hwy
      clear HMB
      go_wp2
      go_roundw
      case rel => exact ⟨i + 1, by omega, by go_num, (unhide HCH).trans (unhide HCS) (fun _ h => h.elim)⟩
      case measure => simp [intOf]; omega
    · obtain rfl : i = D := by omega
      have HKP := hide (kept_any wb _ us kk cus ckk [ra, rb, rc, rd] [1, 1, 1, 1] wr hr.lw ((unhide HB3).chg hch (fun _ _ h => h) (fun _ _ h => h) (fun _ _ _ _ h => h)) (unhide HKQ) (fun q hq => by simp only [List.mem_cons, List.not_mem_nil, or_false, or_self] at hq; omega) (by omega) (by omega) (by simp))
      clear hr hch
      go_wp2_with fail
      refine (unhide HKP).mono ?_
      rintro e wz ⟨rfl, cz⟩
      have HCZ := hide cz
      clear cz HKP
      go_wp2
      go_ret
      refine ⟨rfl, _, us, kk, cus, ckk, F, lc, O2, (unhide HR).same (unhide HCZ), unhide HED, (unhide HE3).step (((unhide HCH).trans (unhide HCZ) (fun _ h => h.elim)).mono (fun _ _ h => h.elim)) (fun x hx => Or.inl hx)⟩

end Go.Proofs.YtdcinlkkjbclmaaGreat
