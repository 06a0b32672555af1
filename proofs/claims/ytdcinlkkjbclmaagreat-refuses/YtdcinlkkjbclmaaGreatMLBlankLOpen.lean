/- A new disk. -/
import Derived.Test.YtdcinlkkjbclmaaGreatMLRestLDisk
import Derived.Test.YtdcinlkkjbclmaaGreatMLDoneLPickLSomeLPhaseLRun
namespace Go.Proofs.YtdcinlkkjbclmaaGreat
open Go.RowKit

theorem make8 (w : World) : (Instr.makeSlice 36 (.int .i64 8) (.int .i64 8)).run Tryz.prog w = .ok (.slice (some ⟨w.heap.size, 0, none⟩) 8 8) (w.alloc (.cells #[.int .u8 0, .int .u8 0, .int .u8 0, .int .u8 0, .int .u8 0, .int .u8 0, .int .u8 0, .int .u8 0] 5)) := by kernel_rfl
theorem make16 (w : World) : (Instr.makeSlice 36 (.int .i64 16) (.int .i64 16)).run Tryz.prog w = .ok (.slice (some ⟨w.heap.size, 0, none⟩) 16 16) (w.alloc (.cells #[.int .u8 0, .int .u8 0, .int .u8 0, .int .u8 0, .int .u8 0, .int .u8 0, .int .u8 0, .int .u8 0, .int .u8 0, .int .u8 0, .int .u8 0, .int .u8 0, .int .u8 0, .int .u8 0, .int .u8 0, .int .u8 0] 5)) := by kernel_rfl
theorem zeros8 (w : World) : Calls Tryz.prog 23 #[.int .i64 8] w fun e w' => e = .returned (.slice (some ⟨w.heap.size, 0, none⟩) 8 8) ∧ Below w.heap.size w w' ∧ w.heap.size < w'.heap.size := by
  have hmk := make8
  go_enter Tryz.func23, Tryz.ntmps23
  go_wp2
  go_ret
  exact ⟨rfl, (Below.refl _ _).alloc (Nat.le_refl _) _, by simp⟩
theorem zeros16 (w : World) : Calls Tryz.prog 23 #[.int .i64 16] w fun e w' => e = .returned (.slice (some ⟨w.heap.size, 0, none⟩) 16 16) ∧ Below w.heap.size w w' ∧ w.heap.size < w'.heap.size := by
  have hmk := make16
  go_enter Tryz.func23, Tryz.ntmps23
  go_wp2
  go_ret
  exact ⟨rfl, (Below.refl _ _).alloc (Nat.le_refl _) _, by simp⟩
theorem infoSl : (Tryz.prog.info? 36).map (fun i => (i.zero, i.size, i.bytes)) = some (some (.slice none 0 0), 1, 24) := by kernel_rfl

/-- a disk in the making: i sectors -/
structure BlankTo (w wr : World) (i : Nat) (sa : Option Addr) (sc : Nat) (ma : Option Addr) (mc : Nat) (ss : List Value) : Prop where
  blk : Blk wr w.heap.size #[.bool false, .slice sa i sc, .slice ma i mc] 85
  saf : wr.ownsRow 0 36 1 (.slice sa i sc) i ss
  mor : wr.ownsRow 0 155 1 (.slice ma i mc) i (List.replicate i (.slice none 0 0))
  sn : ∀ g, (Value.slice sa i sc).ownBlock = some g → w.heap.size ≤ g
  mn : ∀ g, (Value.slice ma i mc).ownBlock = some g → w.heap.size ≤ g
  bel : Below w.heap.size w wr

set_option maxRecDepth 100000 in
set_option maxHeartbeats 4000000 in
theorem blank_any (n : Nat) (w : World) (hn : 0 < n) (hn2 : n ≤ 100) :
    Calls Tryz.prog 22 #[.int .i64 (n : Int)] w fun e w' => e = .returned (.pointer (some ⟨w.heap.size, 0, none⟩)) ∧ ∃ F, DiskB w' n 0 F w.heap.size ∧ (∀ g, F g → w.heap.size ≤ g) ∧ Below w.heap.size w w' := by
  have H0 : Hid (BlankTo w (w.alloc (.cells #[.bool false, .slice none 0 0, .slice none 0 0] 85)) 0 none 0 none 0 []) := ⟨Blk.new w _ _, World.ownsRow_nil _ _ _ _, World.ownsRow_nil _ _ _ _, (fun g hg => by cases hg), (fun g hg => by cases hg), (Below.refl _ _).alloc (Nat.le_refl _) _⟩
  have hni : (n : Int) ≤ 100 := by omega
  go_enter Tryz.func22, Tryz.ntmps22
  go_wp2
  go_loopw [4] (fun iv wr => ∃ (i : Nat) (sa : Option Addr) (sc : Nat) (ma : Option Addr) (mc : Nat) (ss : List Value), i ≤ n ∧ iv = .int .i64 (i : Int) ∧ BlankTo w wr i sa sc ma mc ss) (fun i _ => n - (intOf i).toNat)
  case atStart => exact ⟨0, _, _, _, _, _, Nat.zero_le _, rfl, unhide H0⟩
  case round =>
    clear H0
    obtain ⟨i, sa, sc, ma, mc, ss, hi, rfl, hto⟩ := hrel
    have hsw := hto.bel.size
    rcases Nat.lt_or_ge i n with hlt | hge
    · have ii0 : (0 : Int) ≤ (i : Int) := by omega
      have ii1 : (i : Int) < (n : Int) := by omega
      have hS : (fun w' : World => w'.cell? ⟨w.heap.size, 1, none⟩ = some (.slice sa i sc)) wr.drew := hto.blk.cell 1
      have HTO := hide hto
      have hdl := hto.blk.lt
      clear hto
      go_wp2_with fail
      refine wp_region_noPanic ?_
      refine orders_begin 10 (fun w' => w'.cell? ⟨w.heap.size, 1, none⟩ = some (.slice sa i sc)) (by kernel_rfl) ?_
      refine orders_take 0 (some 12) (v := .pointer (some ⟨w.heap.size, 0, none⟩)) rfl (by kernel_rfl) (by kernel_rfl) (by kernel_rfl) (by kernel_rfl) (fun _ _ _ h => h) (Or.inl ⟨by rfl, fun _ _ => rfl⟩) hS rfl ?_
      simp only [Act.put, List.setIfInBounds_toArray, List.set_cons_zero, List.set_cons_succ]
      refine orders_take 1 (some 13) (v := .pointer (some ⟨w.heap.size, 0, none⟩)) rfl (by kernel_rfl) (by kernel_rfl) (by kernel_rfl) (by kernel_rfl) (fun _ _ _ h => h) (Or.inl ⟨by rfl, fun _ _ => rfl⟩) hS rfl ?_
      simp only [Act.put, List.setIfInBounds_toArray, List.set_cons_zero, List.set_cons_succ]
      refine orders_take 2 (some 14) (v := .pointer (some ⟨w.heap.size, 0, none⟩)) rfl (by kernel_rfl) (by kernel_rfl) (by kernel_rfl) (by kernel_rfl) (fun _ _ _ h => h) (Or.inl ⟨by rfl, fun _ _ => by go_simp⟩) hS rfl ?_
      simp only [Act.put, List.setIfInBounds_toArray, List.set_cons_zero, List.set_cons_succ]
      refine orders_take 3 (some 15) (v := .pointer (some ⟨w.heap.size, 1, none⟩)) rfl (by kernel_rfl) (by kernel_rfl) (by kernel_rfl) (by kernel_rfl) (fun _ _ _ h => h) (Or.inl ⟨by rfl, fun _ _ => by go_simp⟩) hS rfl ?_
      simp only [Act.put, List.setIfInBounds_toArray, List.set_cons_zero, List.set_cons_succ]
      refine orders_take 4 (some 16) (v := .slice sa i sc) rfl (by kernel_rfl) (by kernel_rfl) (by kernel_rfl) (by kernel_rfl) (fun _ _ _ h => h) (Or.inl ⟨by rfl, fun w' hw => by have hcc := hw; clear hw; go_simp⟩) hS rfl ?_
      simp only [Act.put, List.setIfInBounds_toArray, List.set_cons_zero, List.set_cons_succ]
      refine orders_one 5 (by kernel_rfl) rfl (by rfl) (fun K hK => ?_)
      go_simp
      refine (zeros8 _).mono ?_
      rintro e w1 ⟨rfl, hb1, hs1⟩
      have hb1' : Below wr.heap.size wr w1 := (Below.refl wr.heap.size wr).drew.trans hb1
      have C1 : Chg (fun _ => False) wr w1 := Chg.of_new hb1'
      have hto := unhide HTO
      have B1 := hto.blk.chg C1 id
      have hdl1 := B1.lt
      refine hK.out _ _ (fun _ => B1.cell 1) ?_
      clear hK K
      refine orders_one 6 (by kernel_rfl) rfl (by rfl) (fun K hK => ?_)
      go_simp
      refine hK.out _ _ (fun _ => by show World.cell? _ _ = _; rw [World.cell?_alloc_past _ _ _ hdl1]; exact B1.cell 1) ?_
      clear hK K
      obtain ⟨v8, hv8⟩ : ∃ v8, v8 = Value.slice (some ⟨wr.drew.heap.size, 0, none⟩) 8 8 := ⟨_, rfl⟩
      have hal := (Below.refl w1.heap.size w1).alloc (Nat.le_refl _) (.cells #[Value.slice (some ⟨wr.drew.heap.size, 0, none⟩) 8 8] 36)
      refine orders_one 7 (by kernel_rfl) rfl (by rfl) (fun K hK => ?_)
      refine wp_append_grew (.tmp 16) (.tmp 18) 49 rfl 36 (.slice none 0 0) 1 24 Tryz.underlying49 infoSl rfl (by decide) (.slice sa i sc) i ss rfl (own_chg (own_chg hto.saf C1 (fun _ _ => id)) (Chg.of_new (X := fun _ => False) hal) (fun _ _ => id)) ⟨w1.heap.size, 0, none⟩ 1 1 [.slice (some ⟨wr.drew.heap.size, 0, none⟩) 8 8] rfl rfl (news_blk (Blk.new w1 #[.slice (some ⟨wr.drew.heap.size, 0, none⟩) 8 8] 36)) (by intro u hu; rw [List.mem_singleton.1 hu]; rfl) (by decide) (by omega) (by decide) ?_
      intro g2 c2 w2 hg2
      have C2 : Chg (fun x => (Value.slice sa i sc).ownBlock = some x) w1 w2 := ((Chg.refl _ _).alloc _).trans hg2.chg (fun k h => Or.inl h)
      have nS : ∀ g cs t, Blk w1 g cs t → t ≠ 36 → ¬ (Value.slice sa i sc).ownBlock = some g := fun g cs t hb ht hv => by
        obtain ⟨cs', hb'⟩ := own_blk (own_chg hto.saf C1 (fun _ _ => id)) g hv
        exact ht (Blk.same hb hb').2
      have B2 := B1.chg C2 (nS _ _ _ B1 (by decide))
      refine hK.out _ _ (fun _ => B2.cell 1) ?_
      clear hK K
      have M2 := own_chg (own_chg hto.mor C1 (fun _ _ => id)) C2 (fun g hg => by
        obtain ⟨cs, hb⟩ := own_blk (own_chg hto.mor C1 (fun _ _ => id)) g hg
        exact nS g cs _ hb (by decide))
      have hsz1 := hb1'.size
      have C02 : Below w.heap.size w w2 := hto.bel.trans ((C1.mono (fun _ _ h => h.elim)).trans C2 (fun k h => Or.inl h) |>.below w.heap.size hsw (fun k hk hx => by have := hto.sn k hx; omega))
      have hgn : w.heap.size ≤ g2 := by
        rcases hg2.at' with q | q
        · exact hto.sn g2 q
        · rw [World.size_alloc] at q; omega
      have HO2 := hide hg2.own
      have HB2 := hide B2
      have HM2 := hide M2
      have HC02 := hide C02
      have HGN := hide hgn
      have HMN := hide hto.mn
      have q1 : w2.cell? ⟨w.heap.size, 1, none⟩ = some (.slice sa i sc) := B2.cell 1
      have f1 := B2.free 1
      have hS2 : (fun w' : World => w'.cell? ⟨w.heap.size, 1, none⟩ = some (.slice sa i sc)) w2 := q1
      clear hg2 C2 B2 M2 C02 nS B1 C1 hb1 hb1' hal hto hgn
      refine orders_one 8 (by kernel_rfl) rfl (by rfl) (fun K hK => ?_)
      go_simp
      refine hK.out _ _ (fun _ => hS2) ?_
      clear hK K
      refine orders_one 9 (by kernel_rfl) rfl (by rfl) (fun K hK => ?_)
      go_simp
      refine hK.out _ _ (fun _ => hS2) ?_
      clear hK K
      refine orders_one 10 (by kernel_rfl) rfl (by rfl) (fun K hK => ?_)
      go_simp
      refine hK.out _ _ (fun h => absurd rfl h) ?_
      clear hK K hS2 q1 f1 hS
      refine orders_end (by kernel_rfl) ?_
      refine NoPanic.normal ?_
      have CS : Chg (fun x => x = w.heap.size) w2 (w2.setCell ⟨w.heap.size, 1, none⟩ (.slice (some ⟨g2, 0, none⟩) (i + 1) c2)) := Chg.setCell (X := fun x => x = w.heap.size) (Chg.refl _ w2) _ _ (Or.inl rfl)
      have HB3 := hide ((unhide HB2).set 1 (.slice (some ⟨g2, 0, none⟩) (i + 1) c2))
      have HO3 := hide (own_chg (unhide HO2) CS (fun g hg e => by subst e; obtain ⟨c, hc⟩ := own_blk (unhide HO2) _ hg; exact (by decide : 36 ≠ 85) (Blk.same hc (unhide HB2)).2))
      have HM3 := hide (own_chg (unhide HM2) CS (fun g hg e => by subst e; obtain ⟨c, hc⟩ := own_blk (unhide HM2) _ hg; exact (by decide : 155 ≠ 85) (Blk.same hc (unhide HB2)).2))
      have HC03 : Hid (Below w.heap.size w (w2.setCell ⟨w.heap.size, 1, none⟩ (.slice (some ⟨g2, 0, none⟩) (i + 1) c2))) := (unhide HC02).setCell (p := ⟨w.heap.size, 1, none⟩) (Nat.le_refl _) _
      generalize w2.setCell ⟨w.heap.size, 1, none⟩ (.slice (some ⟨g2, 0, none⟩) (i + 1) c2) = w3 at *
      have m2 : w3.cell? ⟨w.heap.size, 2, none⟩ = some (.slice ma i mc) := (unhide HB3).cell 2
      have mf := (unhide HB3).free 2
      have hal := (Below.refl w3.heap.size w3).alloc (Nat.le_refl _) (.cells #[.slice none 0 0] 155)
      have OM := hide (own_chg (unhide HM3) (Chg.of_new (X := fun _ => False) hal) (fun _ _ => id))
      have NM := hide (news_blk (Blk.new w3 #[.slice none 0 0] 155))
      clear CS hal HTO
      go_wp2_with (at_builtin; refine wpList_append_grew rfl (.tmp 26) (.tmp 27) 83 rfl 155 (.slice none 0 0) 1 24 Tryz.underlying83 infoVs rfl (by decide) (.slice ma i mc) i (List.replicate i (.slice none 0 0)) rfl (unhide OM) ⟨w3.heap.size, 0, none⟩ 1 1 [.slice none 0 0] rfl rfl (unhide NM) (by intro u hu; rw [List.mem_singleton.1 hu]; rfl) (by decide) (by omega) (by decide) ?_)
      intro g4 c4 w4 hg4
      have C4 : Chg (fun x => (Value.slice ma i mc).ownBlock = some x) w3 w4 := ((Chg.refl _ _).alloc _).trans hg4.chg (fun k h => Or.inl h)
      have nM : ∀ g cs t, Blk w3 g cs t → t ≠ 155 → ¬ (Value.slice ma i mc).ownBlock = some g := fun g cs t hb ht hv => by
        obtain ⟨cs', hb'⟩ := own_blk (unhide HM3) g hv
        exact ht (Blk.same hb hb').2
      have hsz3 := (unhide HC03).size
      have B4 := (unhide HB3).chg C4 (nM _ _ _ (unhide HB3) (by decide))
      have O4 := own_chg (unhide HO3) C4 (fun g hg => by
        obtain ⟨cs, hb⟩ := own_blk (unhide HO3) g hg
        exact nM g cs _ hb (by decide))
      have C04 : Below w.heap.size w w4 := (unhide HC03).trans (C4.below w.heap.size hsz3 (fun k hk hx => by have := unhide HMN k hx; omega))
      have hg4n : w.heap.size ≤ g4 := by
        rcases hg4.at' with q | q
        · exact unhide HMN g4 q
        · rw [World.size_alloc] at q; omega
      have p2 : w4.cell? ⟨w.heap.size, 2, none⟩ = some (.slice ma i mc) := B4.cell 2
      have pf := B4.free 2
      have HB4 := hide B4
      have HO4 := hide O4
      have HC04 := hide C04
      have HR4 := hide hg4.own
      clear m2 mf hg4 C4 nM B4 O4 C04 OM NM
      go_wp2
      go_roundw
      case rel =>
        have CS : Chg (fun x => x = w.heap.size) w4 (w4.setCell ⟨w.heap.size, 2, none⟩ (.slice (some ⟨g4, 0, none⟩) (i + 1) c4)) := Chg.setCell (X := fun x => x = w.heap.size) (Chg.refl _ w4) _ _ (Or.inl rfl)
        refine ⟨i + 1, some ⟨g2, 0, none⟩, c2, some ⟨g4, 0, none⟩, c4, ss ++ [.slice (some ⟨wr.drew.heap.size, 0, none⟩) 8 8], by omega, by go_num, ⟨(unhide HB4).set 2 _, own_chg (unhide HO4) CS (fun g hg e => ?_), ?_, fun g hg => ?_, fun g hg => ?_, (unhide HC04).setCell (p := ⟨w.heap.size, 2, none⟩) (Nat.le_refl _) _⟩⟩
        · subst e; obtain ⟨c, hc⟩ := own_blk (unhide HO4) _ hg; exact (by decide : 36 ≠ 85) (Blk.same hc (unhide HB4)).2
        · rw [List.replicate_succ']
          exact own_chg (unhide HR4) CS (fun g hg e => by subst e; obtain ⟨c, hc⟩ := own_blk (unhide HR4) _ hg; exact (by decide : 155 ≠ 85) (Blk.same hc (unhide HB4)).2)
        · rw [ob_eq hg]; exact unhide HGN
        · rw [ob_eq hg]; exact hg4n
      case measure => simp [intOf]; omega
    · obtain rfl : i = n := by omega
      have HTO := hide hto
      clear hto
      go_wp2
      go_ret
      have hto := unhide HTO
      refine ⟨rfl, dMem w.heap.size (.slice sa i sc) (.slice ma i mc) (.slice none 0 0), ⟨_, _, .slice none 0 0, ss, [], ⟨hto.blk, hto.saf, ?_, World.ownsRow_nil _ _ _ _, fun p hp => by cases hp⟩, by simp, fun g => Iff.rfl⟩, fun g hg => ?_, hto.bel⟩
      · have h1 := hto.mor
        rw [show List.replicate i (Value.slice none 0 0) = .slice none 0 0 :: List.replicate (i - 1) (.slice none 0 0) by rw [← List.replicate_succ]; congr 1; omega] at h1
        exact h1
      · rcases hg with rfl | hg | hg | hg
        · exact Nat.le_refl _
        · exact hto.sn g hg
        · exact hto.mn g hg
        · cases hg

end Go.Proofs.YtdcinlkkjbclmaaGreat

/- A volume over new disks. -/
namespace Go.Proofs.YtdcinlkkjbclmaaGreat
open Go.RowKit

/-- a World's cells ahead of the first tell -/
def mkL (D S : Nat) (pv ds bl st kn : Value) : List Value := [.bool false, .bool false, .bool false, .bool false, .int .i64 (D : Int), .int .i64 (S : Int), pv, ds, .slice none 0 0, .int .i64 0, .int .i64 0, .int .i64 0, .slice none 0 0, bl, .bool false, st, kn, .int .i64 (-1), .int .i64 0, .bool false, .bool false, .int .i64 0, .int .i64 0, .bool false, .slice none 0 0, .slice none 0 0, .int .i64 0, .slice none 0 0, .slice none 0 0, .slice none 0 0, .slice none 0 0]
def mkM (wb i : Nat) (ds st kn : Value) (F : Nat → Nat → Prop) (b : Nat) : Prop := b = wb ∨ ds.ownBlock = some b ∨ (∃ k, k < i ∧ F k b) ∨ st.ownBlock = some b ∨ kn.ownBlock = some b
/-- a world in the making: i disks -/
structure Mk (W w : World) (wb D S i : Nat) (pv ds bl st kn : Value) (db : Nat → Nat) (F : Nat → Nat → Prop) : Prop where
  blk : Blk w wb (mkL D S pv ds bl st kn).toArray 56
  rds : w.ownsRow 0 63 1 ds i ((List.range i).map (fun (k : Nat) => Value.pointer (some ⟨db k, 0, none⟩)))
  dk : ∀ k, k < i → DiskB w (17 + 2 * S) 0 (F k) (db k)
  sep : ∀ j k g, j < i → k < i → j ≠ k → F j g → ¬ F k g
  rst : w.ownsRow 0 4 1 st i (List.replicate i (.bool false))
  rkn : w.ownsRow 0 4 1 kn i (List.replicate i (.bool false))
  ne : ∀ g, st.ownBlock = some g → kn.ownBlock ≠ some g
  all : ∀ b, mkM wb i ds st kn F b → W.heap.size ≤ b
  bel : Below W.heap.size W w
theorem Mk.typ {W w : World} {wb D S i : Nat} {pv ds bl st kn : Value} {db : Nat → Nat} {F : Nat → Nat → Prop} (h : Mk W w wb D S i pv ds bl st kn db F) (b : Nat) (hb : mkM wb i ds st kn F b) : ∃ cs t, Blk w b cs t ∧ (t = 56 ∨ t = 63 ∨ dskT t ∨ t = 4) := by
  rcases hb with rfl | hb | ⟨k, hk, hb⟩ | hb | hb
  · exact ⟨_, _, h.blk, Or.inl rfl⟩
  · obtain ⟨c, hc⟩ := own_blk h.rds b hb; exact ⟨_, _, hc, Or.inr (Or.inl rfl)⟩
  · obtain ⟨c, t, hc, ht⟩ := (h.dk k hk).typ b hb; exact ⟨_, _, hc, Or.inr (Or.inr (Or.inl ht))⟩
  · obtain ⟨c, hc⟩ := own_blk h.rst b hb; exact ⟨_, _, hc, Or.inr (Or.inr (Or.inr rfl))⟩
  · obtain ⟨c, hc⟩ := own_blk h.rkn b hb; exact ⟨_, _, hc, Or.inr (Or.inr (Or.inr rfl))⟩
theorem Mk.chg {X : Nat → Prop} {W w w' : World} {wb D S i : Nat} {pv ds bl st kn : Value} {db : Nat → Nat} {F : Nat → Nat → Prop} (h : Mk W w wb D S i pv ds bl st kn db F) (hc : Chg X w w') (hx : ∀ b, mkM wb i ds st kn F b → ¬ X b) (hX : ∀ b, X b → W.heap.size ≤ b) : Mk W w' wb D S i pv ds bl st kn db F :=
  ⟨h.blk.chg hc (hx wb (Or.inl rfl)), own_chg h.rds hc (fun g hg => hx g (Or.inr (Or.inl hg))), fun k hk => (h.dk k hk).chg hc (fun g hg => hx g (Or.inr (Or.inr (Or.inl ⟨k, hk, hg⟩)))), h.sep, own_chg h.rst hc (fun g hg => hx g (Or.inr (Or.inr (Or.inr (Or.inl hg))))), own_chg h.rkn hc (fun g hg => hx g (Or.inr (Or.inr (Or.inr (Or.inr hg))))), h.ne, h.all,
   h.bel.trans (hc.below W.heap.size h.bel.size (fun k hk hX' => by have := hX k hX'; omega))⟩
/-- the World's block is written -/
theorem Mk.put {W w w' : World} {wb D S i : Nat} {pv ds bl st kn pv' bl' : Value} {db : Nat → Nat} {F : Nat → Nat → Prop} (h : Mk W w wb D S i pv ds bl st kn db F) (hc : Chg (fun x => x = wb) w w') (hb : Blk w' wb (mkL D S pv' ds bl' st kn).toArray 56) : Mk W w' wb D S i pv' ds bl' st kn db F := by
  have nW : ∀ g cs t, Blk w g cs t → t ≠ 56 → ¬ g = wb := fun g cs t hb' ht e => by
    subst e
    exact ht (Blk.same hb' h.blk).2
  refine ⟨hb, own_chg h.rds hc (fun g hg => ?_), fun k hk => (h.dk k hk).chg hc (fun g hg => ?_), h.sep, own_chg h.rst hc (fun g hg => ?_), own_chg h.rkn hc (fun g hg => ?_), h.ne, h.all, h.bel.trans (hc.below W.heap.size h.bel.size (fun k hk e => by have := h.all wb (Or.inl rfl); omega))⟩
  · obtain ⟨c, hc'⟩ := own_blk h.rds g hg; exact nW g c _ hc' (by decide)
  · obtain ⟨c, t, hc', ht⟩ := (h.dk k hk).typ g hg
    exact nW g c t hc' (fun e => by subst e; revert ht; unfold dskT; decide)
  · obtain ⟨c, hc'⟩ := own_blk h.rst g hg; exact nW g c _ hc' (by decide)
  · obtain ⟨c, hc'⟩ := own_blk h.rkn g hg; exact nW g c _ hc' (by decide)

/-- the law begins -/
theorem ph_begin {W w0 w1 w2 : World} {wb D S pb vb tb hb : Nat} {ds bl st kn : Value} {db : Nat → Nat} {F : Nat → Nat → Prop} {A : VA} {O : List Nat} {nx : Value} (hm : Mk W w2 wb D S D (.pointer (some ⟨pb, 0, none⟩)) ds bl st kn db F) (h0 : W.heap.size ≤ w0.heap.size) (hold : ∀ b, mkM wb D ds st kn F b → b < w0.heap.size) (hop : Opened w0 w1 D S true vb tb hb A O nx) (hpb : pb = w1.heap.size) (hpk : Blk w2 pb #[.pointer (some ⟨vb, 0, none⟩)] 81) (hc : Chg (fun x => x = wb) w1 w2) (hD4 : 4 ≤ D) : Ph W wb D S vb tb hb db (2 * D) w2 := by
  have hwb := hold wb (Or.inl rfl)
  have hlt := hop.vol.lt
  have hs1 := hop.new.size
  have hO : ∀ b ∈ O, w0.heap.size ≤ b := hop.own
  have hv2 : Vol w2 vb A O := hop.vol.chg hc (fun b hb' e => by have := hO b hb'; omega)
  have ht2 : OpenT w2 tb hb vb nx true := hop.top.chg hc (fun e => by have := hop.tnew; omega) (fun e => by have := hop.hnew; omega)
  have hpl := hpk.lt
  rcases hop.first with ⟨_, hnx, L, hL1, hL2, hA⟩ | ⟨e, _⟩
  · have hLl : L.length = D := by have := congrArg List.length hL1; simpa using this
    refine ⟨⟨D, S, pb, ds, .slice none 0 0, 0, 0, bl, false, st, kn, 0, .slice none 0 0, .slice none 0 0, 0, .slice none 0 0, .slice none 0 0, .slice none 0 0, .slice none 0 0⟩, [], [], [], [], [], F, 0, A, O, ⟨⟨hm.blk, Bk.nil _ _ _ _, Bk.nil _ _ _ _, fun g hg => by cases hg⟩, ⟨World.ownsRow_nil _ _ _ _, (fun t ht => by cases ht), hm.rds, hm.dk, hm.sep, hm.rst, hm.rkn, hpk⟩, hv2, fun b hl hr => ?_, fun b hl ho => ?_, fun b hr ho => ?_⟩, ⟨rfl, rfl, rfl, rfl, rfl⟩, ⟨hm.bel, fun b hb' => ?_, by have := hop.tnew; omega, by have := hop.hnew; omega⟩, hop.tno, hop.hno, Nat.le_refl _, ⟨(fun q hq => by cases hq), rfl, rfl, rfl, Nat.zero_le _, Nat.zero_le _, Nat.zero_le _, Nat.zero_le _⟩, List.nodup_nil, (fun t ht => by cases ht), (fun t ht => by cases ht), ?_⟩
    · have hbw : b = wb := by
        rcases hl with e | e | e | e | e | ⟨u, hu, _⟩ | ⟨u, hu, _⟩
        · exact e
        · cases e
        · cases e
        · cases e
        · cases e
        · cases hu
        · cases hu
      subst hbw
      rcases hr with e | e | e | ⟨i, hi, e⟩ | e | e | e
      · cases e
      · cases e
      · obtain ⟨c, hc'⟩ := own_blk hm.rds b e; exact (by decide : 63 ≠ 56) (Blk.same hc' hm.blk).2
      · obtain ⟨c, t, hc', ht⟩ := (hm.dk i hi).typ b e
        have := (Blk.same hc' hm.blk).2
        subst this
        revert ht; unfold dskT; decide
      · obtain ⟨c, hc'⟩ := own_blk hm.rst b e; exact (by decide : 4 ≠ 56) (Blk.same hc' hm.blk).2
      · obtain ⟨c, hc'⟩ := own_blk hm.rkn b e; exact (by decide : 4 ≠ 56) (Blk.same hc' hm.blk).2
      · have e' : b = pb := e
        omega
    · have hbw : b = wb := by
        rcases hl with e | e | e | e | e | ⟨u, hu, _⟩ | ⟨u, hu, _⟩
        · exact e
        · cases e
        · cases e
        · cases e
        · cases e
        · cases hu
        · cases hu
      have := hO b ho
      omega
    · have := hO b ho
      have := hlt b ho
      rcases hr with e | e | e | ⟨i, hi, e⟩ | e | e | e
      · cases e
      · cases e
      · have := hold b (Or.inr (Or.inl e)); omega
      · have := hold b (Or.inr (Or.inr (Or.inl ⟨i, hi, e⟩))); omega
      · have := hold b (Or.inr (Or.inr (Or.inr (Or.inl e)))); omega
      · have := hold b (Or.inr (Or.inr (Or.inr (Or.inr e)))); omega
      · have e' : b = pb := e
        omega
    · rcases hb' with hl | hr | ho
      · rcases hl with e | e | e | e | e | ⟨u, hu, _⟩ | ⟨u, hu, _⟩
        · exact hm.all b (Or.inl e)
        · cases e
        · cases e
        · cases e
        · cases e
        · cases hu
        · cases hu
      · rcases hr with e | e | e | ⟨i, hi, e⟩ | e | e | e
        · cases e
        · cases e
        · exact hm.all b (Or.inr (Or.inl e))
        · exact hm.all b (Or.inr (Or.inr (Or.inl ⟨i, hi, e⟩)))
        · exact hm.all b (Or.inr (Or.inr (Or.inr (Or.inl e))))
        · exact hm.all b (Or.inr (Or.inr (Or.inr (Or.inr e))))
        · have e' : b = pb := e
          omega
      · have := hO b ho; omega
    · refine Or.inl ⟨2, L.map (fun p => (⟨0, 2, (p.1 : Int), 0, p.2⟩ : Cmd)), Or.inr rfl, ?_, ?_, ?_, ?_, by rw [hA]; rfl, ?_, fun c hc' => ?_⟩
      · simp [hLl]; omega
      · simp [hLl]; omega
      · simp [hLl]
      · simp [hLl]; omega
      · rw [hnx] at ht2; exact ht2
      · obtain ⟨p, hp, rfl⟩ := List.mem_map.1 hc'
        refine ⟨⟨p.1, ?_, rfl⟩, rfl, Or.inl ⟨rfl, hL2 p hp⟩⟩
        have : p.1 ∈ L.map (·.1) := List.mem_map_of_mem hp
        rw [hL1, List.mem_range] at this
        exact this
  · cases e

end Go.Proofs.YtdcinlkkjbclmaaGreat
