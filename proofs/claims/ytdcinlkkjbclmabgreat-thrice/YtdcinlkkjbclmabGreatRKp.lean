/- platterkeep's own: pick, column, blank. -/
import Derived.Test.YtdcinlkkjbclmabGreatPWrap
namespace Go.Proofs.YtdcinlkkjbclmabGreat
open Go.RowKit

def pickAt (c n : Int) : Int := (if c < 0 then -(c + 1) else c) % n
theorem pickAt_bd (c n : Int) (hn : 0 < n) : 0 ≤ pickAt c n ∧ pickAt c n < n := by
  unfold pickAt
  exact ⟨Int.emod_nonneg _ (by omega), Int.emod_lt_of_pos _ hn⟩
theorem pick_any (c n : Int) (w : World) (hn : 0 < n) (hc1 : -9223372036854775808 ≤ c) (hc2 : c ≤ 9223372036854775807) (hn2 : n ≤ 1000000000000000) :
    Calls Tryz.prog 8 #[.int .i64 c, .int .i64 n] w fun e w' => e = .returned (.int .i64 (pickAt c n)) ∧ w' = w := by
  by_cases h : c < 0
  · have hp : Hid (pickAt c n = -((c + 1).tmod n)) := by unfold pickAt; rw [if_pos h, ← Int.tmod_eq_emod_of_nonneg (by omega), Int.neg_tmod]; exact rfl
    go_enter Tryz.func8, Tryz.ntmps8
    go_wp2
    go_ret
    exact ⟨by rw [unhide hp]; rfl, rfl⟩
  · have hp : Hid (pickAt c n = c % n) := by unfold pickAt; rw [if_neg h]; exact rfl
    go_enter Tryz.func8, Tryz.ntmps8
    go_wp2
    go_ret
    exact ⟨by rw [unhide hp]; rfl, rfl⟩
/-- bytes from the first to number n -/
def Bytes (cs : Array Value) (n : Nat) : Prop := ∀ i, i < n → ∃ x : Nat, x < 256 ∧ cs[i]? = some (.int .u8 (x : Int))
theorem Bytes.set {cs : Array Value} {n : Nat} (h : Bytes cs n) (hn : n ≤ cs.size) (k : Nat) (e : Int) (h0 : 0 ≤ e) (h1 : e < 256) : Bytes (cs.setIfInBounds k (.int .u8 e)) n := by
  intro i hi
  by_cases q : k = i
  · subst q
    exact ⟨e.toNat, by omega, by rw [set_at (by omega), Int.toNat_of_nonneg h0]⟩
  · rw [set_ne q]; exact h i hi
theorem make16 (w : World) : (Instr.makeSlice 35 (.int .i64 16) (.int .i64 16)).run Tryz.prog w = .ok (.slice (some ⟨w.heap.size, 0, none⟩) 16 16) (w.alloc (.cells #[.int .u8 0, .int .u8 0, .int .u8 0, .int .u8 0, .int .u8 0, .int .u8 0, .int .u8 0, .int .u8 0, .int .u8 0, .int .u8 0, .int .u8 0, .int .u8 0, .int .u8 0, .int .u8 0, .int .u8 0, .int .u8 0] 5)) := by kernel_rfl
theorem make8 (w : World) : (Instr.makeSlice 35 (.int .i64 8) (.int .i64 8)).run Tryz.prog w = .ok (.slice (some ⟨w.heap.size, 0, none⟩) 8 8) (w.alloc (.cells #[.int .u8 0, .int .u8 0, .int .u8 0, .int .u8 0, .int .u8 0, .int .u8 0, .int .u8 0, .int .u8 0] 5)) := by kernel_rfl
theorem bytes16 : Bytes #[.int .u8 0, .int .u8 0, .int .u8 0, .int .u8 0, .int .u8 0, .int .u8 0, .int .u8 0, .int .u8 0, .int .u8 0, .int .u8 0, .int .u8 0, .int .u8 0, .int .u8 0, .int .u8 0, .int .u8 0, .int .u8 0] 16 := fun i hi => ⟨0, by omega, by
  rcases (show i = 0 ∨ i = 1 ∨ i = 2 ∨ i = 3 ∨ i = 4 ∨ i = 5 ∨ i = 6 ∨ i = 7 ∨ i = 8 ∨ i = 9 ∨ i = 10 ∨ i = 11 ∨ i = 12 ∨ i = 13 ∨ i = 14 ∨ i = 15 from by omega) with rfl | rfl | rfl | rfl | rfl | rfl | rfl | rfl | rfl | rfl | rfl | rfl | rfl | rfl | rfl | rfl <;> rfl⟩
theorem bytes8 : Bytes #[.int .u8 0, .int .u8 0, .int .u8 0, .int .u8 0, .int .u8 0, .int .u8 0, .int .u8 0, .int .u8 0] 8 := fun i hi => ⟨0, by omega, by
  rcases (show i = 0 ∨ i = 1 ∨ i = 2 ∨ i = 3 ∨ i = 4 ∨ i = 5 ∨ i = 6 ∨ i = 7 from by omega) with rfl | rfl | rfl | rfl | rfl | rfl | rfl | rfl <;> rfl⟩

set_option maxRecDepth 100000 in
set_option maxHeartbeats 4000000 in
theorem column_any (raw : Int) (w : World) (hc1 : -9223372036854775808 ≤ raw) (hc2 : raw ≤ 9223372036854775807) :
    Calls Tryz.prog 11 #[.int .i64 raw] w fun e w' => e = .returned (.slice (some ⟨w.heap.size, 0, none⟩) 16 16) ∧ (∃ cs, Blk w' w.heap.size cs 5 ∧ cs.size = 16 ∧ Bytes cs 16) ∧ Below w.heap.size w w' := by
  have hmk := make16
  have HB0 := hide ((Below.refl w.heap.size w).alloc (Nat.le_refl _) (.cells #[.int .u8 0, .int .u8 0, .int .u8 0, .int .u8 0, .int .u8 0, .int .u8 0, .int .u8 0, .int .u8 0, .int .u8 0, .int .u8 0, .int .u8 0, .int .u8 0, .int .u8 0, .int .u8 0, .int .u8 0, .int .u8 0] 5))
  have HK0 := hide (Blk.new w #[.int .u8 0, .int .u8 0, .int .u8 0, .int .u8 0, .int .u8 0, .int .u8 0, .int .u8 0, .int .u8 0, .int .u8 0, .int .u8 0, .int .u8 0, .int .u8 0, .int .u8 0, .int .u8 0, .int .u8 0, .int .u8 0] 5)
  obtain ⟨p1, p2⟩ := pickAt_bd raw 1099511627776 (by omega)
  go_enter Tryz.func11, Tryz.ntmps11
  go_wp2_with fail
  refine (pick_any _ _ _ (by omega) hc1 hc2 (by omega)).mono ?_
  rintro e w1 ⟨rfl, rfl⟩
  obtain ⟨X, hX⟩ := Int.eq_ofNat_of_zero_le p1
  rw [hX] at p2 ⊢
  have hX2 : X < 1099511627776 := by omega
  clear hX p1 hmk
  go_wp2
  go_loopw [5] (fun i wr => ∃ (k : Nat) (cs : Array Value), k ≤ 16 ∧ i = .int .i64 k ∧ Blk wr w.heap.size cs 5 ∧ cs.size = 16 ∧ Bytes cs 16 ∧ Below w.heap.size w wr) (fun i _ => 16 - (intOf i).toNat)
  case atStart => exact ⟨0, _, by omega, rfl, unhide HK0, rfl, bytes16, unhide HB0⟩
  case round =>
    obtain ⟨k, cs, hk, rfl, hbk, hcs, hby, hbel⟩ := hrel
    by_cases hlt : k < 16
    · obtain ⟨x, hx, hxc⟩ := hby k hlt
      have c1 : wr.cell? ⟨w.heap.size, k, none⟩ = some (.int .u8 (x : Int)) := (hbk.cell k).trans hxc
      have c2 := hbk.free k
      have HBK := hide hbk
      have HBY := hide hby
      have HBL := hide hbel
      clear hbk hby hbel HB0 HK0 hxc
      obtain ⟨m, hm⟩ : ∃ m, m = k + 1 := ⟨_, rfl⟩
      have HM := hide hm
      clear hm
      rcases (show k = 0 ∨ k = 1 ∨ k = 2 ∨ k = 3 ∨ k = 4 ∨ k = 5 ∨ k = 6 ∨ k = 7 ∨ k = 8 ∨ k = 9 ∨ k = 10 ∨ k = 11 ∨ k = 12 ∨ k = 13 ∨ k = 14 ∨ k = 15 from by omega) with rfl | rfl | rfl | rfl | rfl | rfl | rfl | rfl | rfl | rfl | rfl | rfl | rfl | rfl | rfl | rfl
      all_goals go_wp2
      all_goals go_roundw
      all_goals first | (simp [intOf]; done) | (refine ⟨m, _, by rw [unhide HM]; omega, by rw [unhide HM]; rfl, (unhide HBK).set _ _, by rw [Array.size_setIfInBounds]; exact hcs, (unhide HBY).set (by omega) _ _ ?_ ?_, (unhide HBL).setCell (Nat.le_refl _) _⟩)
      all_goals omega
    · obtain rfl : k = 16 := by omega
      have HBK := hide hbk
      have HBY := hide hby
      have HBL := hide hbel
      clear hbk hby hbel HB0 HK0
      go_wp2
      go_ret
      exact ⟨rfl, ⟨cs, unhide HBK, hcs, unhide HBY⟩, unhide HBL⟩

theorem Sec.keep {X : Nat → Prop} {w w' : World} {O : List Nat} {v : Value} (h : Sec w O v) (hc : Chg X w w') (hX : ∀ b cs, Blk w b cs 5 → ¬ X b) : Sec w' O v := by
  obtain ⟨b, c, bs, rfl, h1, h2, h3⟩ := h
  exact ⟨b, c, bs, rfl, h1, h2.chg hc (hX b _ h2), h3⟩
theorem Tryz.infoL : (Tryz.prog.info? 35).map (fun i => (i.zero, i.size, i.bytes)) = some (some (.slice none 0 0), 1, 24) := by kernel_rfl

set_option maxRecDepth 100000 in
set_option maxHeartbeats 4000000 in
theorem blank_any (s : Nat) (w : World) (h1 : s ≤ 6) :
    Calls Tryz.prog 20 #[.int .i64 (s : Int)] w fun e w' => ∃ v xs, e = .returned v ∧ w'.ownsRow w.heap.size 35 1 v (17 + 2 * s) xs ∧ (∀ u ∈ xs, Sec w' (Pl [] w.heap.size) u) ∧ Below w.heap.size w w' := by
  obtain ⟨iL, hiL, hzL0, hzL1, hzL2⟩ := info_parts Tryz.infoL
  have hmk := make8
  have i1 : (s : Int) ≤ 6 := by omega
  have i0 : (0 : Int) ≤ (s : Int) := by omega
  go_enter Tryz.func20, Tryz.ntmps20
  go_wp2
  go_loopw [3, 4] (fun tv iv wr => ∃ (k : Nat) (xs : List Value), k ≤ 17 + 2 * s ∧ iv = .int .i64 (k : Int) ∧ wr.ownsRow w.heap.size 35 1 tv k xs ∧ (∀ u ∈ xs, Sec wr (Pl [] w.heap.size) u) ∧ Below w.heap.size w wr) (fun _ i _ => 17 + 2 * s - (intOf i).toNat)
  case atStart => exact ⟨0, [], Nat.zero_le _, rfl, World.ownsRow_nil _ _ _ _, by simp, Below.refl _ _⟩
  case round =>
    obtain ⟨k, xs, hk, rfl, hrw, hsec, hbel⟩ := hrel
    have hsz := hbel.size
    rcases Nat.lt_or_ge k (17 + 2 * s) with hlt | hge
    · have hk1 : (k : Int) < 17 + 2 * (s : Int) := by omega
      have hba : Below wr.heap.size wr ((wr.alloc (.cells #[.int .u8 0, .int .u8 0, .int .u8 0, .int .u8 0, .int .u8 0, .int .u8 0, .int .u8 0, .int .u8 0] 5)).alloc (.cells #[.slice (some ⟨wr.heap.size, 0, none⟩) 8 8] 35)) := ((Below.refl _ _).alloc (Nat.le_refl _) _).alloc (by simp) _
      have hsn : Sec ((wr.alloc (.cells #[.int .u8 0, .int .u8 0, .int .u8 0, .int .u8 0, .int .u8 0, .int .u8 0, .int .u8 0, .int .u8 0] 5)).alloc (.cells #[.slice (some ⟨wr.heap.size, 0, none⟩) 8 8] 35)) (Pl [] w.heap.size) (.slice (some ⟨wr.heap.size, 0, none⟩) 8 8) := ⟨_, _, _, rfl, not_pl hsz, (Blk.new wr _ _).alloc _, bytes8⟩
      have HRW := hide (ownsRow_keep hrw hba)
      have HSE : Hid (∀ u ∈ xs, Sec ((wr.alloc (.cells #[.int .u8 0, .int .u8 0, .int .u8 0, .int .u8 0, .int .u8 0, .int .u8 0, .int .u8 0, .int .u8 0] 5)).alloc (.cells #[.slice (some ⟨wr.heap.size, 0, none⟩) 8 8] 35)) (Pl [] w.heap.size) u) := fun u hu => (hsec u hu).keep (X := fun _ => False) (Chg.of_new hba) (fun _ _ _ => id)
      have HSN := hide hsn
      have HN1 : Hid (∀ j u, [Value.slice (some ⟨wr.heap.size, 0, none⟩) 8 8][j]? = some u → ((wr.alloc (.cells #[.int .u8 0, .int .u8 0, .int .u8 0, .int .u8 0, .int .u8 0, .int .u8 0, .int .u8 0, .int .u8 0] 5)).alloc (.cells #[.slice (some ⟨wr.heap.size, 0, none⟩) 8 8] 35)).cell? ((⟨wr.heap.size + 1, 0, none⟩ : Addr).add j) = some u) := by
        have := cell_one_new (wr.alloc (.cells #[.int .u8 0, .int .u8 0, .int .u8 0, .int .u8 0, .int .u8 0, .int .u8 0, .int .u8 0, .int .u8 0] 5)) (.slice (some ⟨wr.heap.size, 0, none⟩) 8 8) 35
        rw [World.size_alloc] at this
        exact this
      have HBA := hide hba
      have HBE := hide hbel
      clear hba hsn hrw hsec hbel
      go_wp2_with (at_builtin; refine wpList_append_lies _ rfl (.tmp 12) (.tmp 14) 25 rfl w.heap.size 35 iL (.slice none 0 0) 1 24 Tryz.underlying25 hiL hzL0 hzL1 hzL2 rfl (by decide) u3 k xs rfl (unhide HRW) ⟨wr.heap.size + 1, 0, none⟩ 1 1 [.slice (some ⟨wr.heap.size, 0, none⟩) 8 8] rfl rfl (unhide HN1) (by intro u hu; simp only [List.mem_singleton] at hu; subst hu; rfl) (by decide) (by unfold maxLen; omega) (by omega) (by simp; omega) (wr.heap.size + 1 + 1) (by simp) ?_)
      intro g2 c2 w4 hown hgrow hat hlt4
      have hgw : Chg (fun b => b ∈ dBlk u3) ((wr.alloc (.cells #[.int .u8 0, .int .u8 0, .int .u8 0, .int .u8 0, .int .u8 0, .int .u8 0, .int .u8 0, .int .u8 0] 5)).alloc (.cells #[.slice (some ⟨wr.heap.size, 0, none⟩) 8 8] 35)) w4 := (Chg.refl _ _).grown hgrow (fun g hg => Or.inl (own_dBlk _ g hg))
      have hrb := row_blk (unhide HRW)
      have hkp : ∀ u, Sec ((wr.alloc (.cells #[.int .u8 0, .int .u8 0, .int .u8 0, .int .u8 0, .int .u8 0, .int .u8 0, .int .u8 0, .int .u8 0] 5)).alloc (.cells #[.slice (some ⟨wr.heap.size, 0, none⟩) 8 8] 35)) (Pl [] w.heap.size) u → Sec w4 (Pl [] w.heap.size) u := fun u hu => hu.keep hgw (fun b cs hb hx => by
        obtain ⟨_, cs', hk'⟩ := hrb b hx
        have := (Blk.same hb hk').2
        revert this; decide)
      have HSE4 : Hid (∀ u ∈ xs ++ [.slice (some ⟨wr.heap.size, 0, none⟩) 8 8], Sec w4 (Pl [] w.heap.size) u) := fun u hu => by
        rcases List.mem_append.1 hu with q | q
        · exact hkp u (unhide HSE u q)
        · rw [List.mem_singleton] at q; subst q; exact hkp _ (unhide HSN)
      have HB4 : Hid (Below w.heap.size w w4) := ((unhide HBE).trans ((unhide HBA).mono hsz)).grown hgrow (by simp; omega) (fun j hj => ((unhide HRW).lt j hj).1)
      have HOW := hide hown
      clear hown hgrow hat hlt4 hgw hrb hkp HRW HSE HSN HN1
      go_wp2
      go_roundw
      case rel => exact ⟨k + 1, _, by omega, by go_num, unhide HOW, unhide HSE4, unhide HB4⟩
      case measure => simp [intOf]; omega
    · obtain rfl : k = 17 + 2 * s := by omega
      have HRW := hide hrw
      have HSE := hide hsec
      have HBE := hide hbel
      clear hrw hsec hbel
      go_wp2
      go_ret
      exact ⟨_, xs, rfl, unhide HRW, unhide HSE, unhide HBE⟩

end Go.Proofs.YtdcinlkkjbclmabGreat
