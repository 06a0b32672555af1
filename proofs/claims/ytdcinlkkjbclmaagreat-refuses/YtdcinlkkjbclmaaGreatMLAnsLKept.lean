/- A list of results that came out, which is empty, is written behind, kept, and looked at later. -/
import Derived.Test.YtdcinlkkjbclmaaGreatMLDefLCmds
namespace Go.Proofs.YtdcinlkkjbclmaaGreat
open Go.RowKit

def resP (k : Int) : List Value := [.int .i64 (-k), .int .i64 0, .slice none 0 0, .int .i64 0, .int .i64 0]
theorem infoR5 : (Tryz.prog.info? 103).map (fun i => (i.zero, i.size, i.bytes)) = some (some (.agg #[.int .i64 0, .int .i64 0, .slice none 0 0, .int .i64 0, .int .i64 0]), 5, 56) := by kernel_rfl
theorem infoSR : (Tryz.prog.info? 99).map (fun i => (i.zero, i.size, i.bytes)) = some (some (.slice none 0 0), 1, 24) := by kernel_rfl

set_option maxRecDepth 100000 in
set_option maxHeartbeats 8000000 in
theorem ans_any (wb : Nat) (X : LX) (us : List Value) (kk : List Int) (cus : List Value) (ckk : List Int) (la : Option Addr) (cap i : Nat) (hi : i = 0) (w : World) (h : Lw w wb X us kk cus ckk) (hrs : X.rs = .slice none 0 0) (hkr : X.kr = .slice none 0 0) (hl : w.ownsRow 0 103 5 (.slice la i cap) i []) :
    Calls Tryz.prog 59 #[.pointer (some ⟨wb, 0, none⟩), .slice la i cap] w fun e w' => e = .returned (.tuple #[]) ∧ ∃ rs kr a b c d,
      Lw w' wb { X with rs := rs, kr := kr } us kk cus ckk ∧ Bk w' 103 99 resP rs kr [a, b, c, d] [1, 1, 1, 1] ∧ Chg (fun x => x = wb ∨ (Value.slice la i cap).ownBlock = some x) w w' := by
  have hl' : w.ownsRow 0 103 5 (.slice la i cap) i (repP (resP 1) i) := by rw [hi] at hl ⊢; exact hl
  have hii : ¬ (0 : Int) < (i : Int) := by omega
  have hi1 : i ≤ 1 := by omega
  have HI := hide hi
  clear hl hi
  have q28 : w.cell? ⟨wb, 28, none⟩ = some (.slice none 0 0) := (h.blk.cell 28).trans (by show some X.rs = _; rw [hrs])
  have hb0 := (Below.refl w.heap.size w).alloc (Nat.le_refl _) (.cells #[.int .i64 (-1), .int .i64 0, .slice none 0 0, .int .i64 0, .int .i64 0] 103)
  have hk0 := Blk.new w #[.int .i64 (-1), .int .i64 0, .slice none 0 0, .int .i64 0, .int .i64 0] 103
  have HL0 := hide (h.chg (Y := fun _ => False) (Chg.of_new hb0) (fun _ _ => id))
  have HR0 := hide (own_chg hl' (Chg.of_new (X := fun _ => False) hb0) (fun _ _ => id))
  have HLL : Hid (∀ b, (Value.slice la i cap).ownBlock = some b → b < w.heap.size) := fun b hb => by
    obtain ⟨c, hc⟩ := own_blk hl' b hb
    exact hc.lt
  have HK0 := hide hk0
  have HB0 := hide hb0
  have HRS := hide hrs
  have HKR := hide hkr
  have HWB := hide h.blk
  have hwl := h.blk.lt
  clear h hl' hb0 hk0 hrs hkr
  go_enter Tryz.func59, Tryz.ntmps59
  go_wp2
  clear q28
  go_loopw [6] (fun iv wr => iv = .int .i64 0 ∧ wr = w.alloc (.cells #[.int .i64 (-1), .int .i64 0, .slice none 0 0, .int .i64 0, .int .i64 0] 103)) (fun _ _ => 0)
  case atStart => exact ⟨rfl, rfl⟩
  case round =>
    obtain ⟨rfl, hwr⟩ := hrel
    have HWR := hide hwr
    have HL4 : Hid (Lw wr wb X us kk cus ckk) := by rw [hwr]; exact unhide HL0
    have hrw : wr.ownsRow 0 103 5 (.slice la i cap) i (repP (resP 1) i) := by rw [hwr]; exact unhide HR0
    have HVM : Hid (Blk wr w.heap.size #[.int .i64 (-1), .int .i64 0, .slice none 0 0, .int .i64 0, .int .i64 0] 103) := by rw [hwr]; exact unhide HK0
    have HBW : Hid (Below w.heap.size w wr) := by rw [hwr]; exact unhide HB0
    clear hwr HL0 HR0 HK0 HB0
    have P0 := hide (pat_own (p := resP 1) hrw)
    obtain ⟨X0, hX0⟩ : ∃ X0, repP (resP 1) i = X0 := ⟨_, rfl⟩
    rw [hX0] at hrw
    have HX0 := hide hX0
    have O0 := hide hrw
    have CC0 := hide (Chg.refl (fun x => (Value.slice la i cap).ownBlock = some x) wr)
    have NN0 : Hid (∀ g, (Value.slice la i cap).ownBlock = some g → (Value.slice la i cap).ownBlock = some g ∨ wr.heap.size ≤ g) := fun g hg => Or.inl hg
    have HML : Hid (∀ b, (Value.slice la i cap).ownBlock = some b → b ≠ w.heap.size) := fun b hb e => by have := unhide HLL b hb; omega
    have O0R := hide hrw
    clear hrw hX0
    have vm : Blk wr w.heap.size #[.int .i64 (-1), .int .i64 0, .slice none 0 0, .int .i64 0, .int .i64 0] 103 := (unhide HVM).chg (unhide CC0) (fun h => unhide HML _ h rfl)
    have m0 : wr.cell? ⟨w.heap.size, 0, none⟩ = some (.int .i64 (-1)) := vm.cell 0
    have m1 : wr.cell? ⟨w.heap.size, 1, none⟩ = some (.int .i64 0) := vm.cell 1
    have m2 : wr.cell? ⟨w.heap.size, 2, none⟩ = some (.slice none 0 0) := vm.cell 2
    have m3 : wr.cell? ⟨w.heap.size, 3, none⟩ = some (.int .i64 0) := vm.cell 3
    have m4 : wr.cell? ⟨w.heap.size, 4, none⟩ = some (.int .i64 0) := vm.cell 4
    have hal := (Below.refl wr.heap.size wr).alloc (Nat.le_refl _) (.cells #[.int .i64 (-1), .int .i64 0, .slice none 0 0, .int .i64 0, .int .i64 0] 103)
    have OO := hide (own_chg (unhide O0) (Chg.of_new (X := fun _ => False) hal) (fun _ _ => id))
    have NB := hide (news_blk (Blk.new wr #[.int .i64 (-1), .int .i64 0, .slice none 0 0, .int .i64 0, .int .i64 0] 103))
    clear hal vm
    go_wp2_with (at_builtin; refine wpList_append_grew rfl (.tmp 38) (.tmp 40) 99 rfl 103 (.agg #[.int .i64 0, .int .i64 0, .slice none 0 0, .int .i64 0, .int .i64 0]) 5 56 Tryz.underlying99 infoR5 rfl (by decide) (.slice la i cap) (i) X0 rfl (unhide OO) ⟨wr.heap.size, 0, none⟩ 1 1 [.int .i64 (-1), .int .i64 0, .slice none 0 0, .int .i64 0, .int .i64 0] rfl rfl (unhide NB) (by intro u hu; simp only [List.mem_cons, List.not_mem_nil, or_false] at hu; rcases hu with rfl | rfl | rfl | rfl | rfl <;> rfl) (by decide) (by omega) (by decide) ?_)
    intro g1 c1 w2 hg1
    rw [← unhide HX0] at hg1
    obtain ⟨o1, C1, n1, k1⟩ := next_of (p := resP 1) (unhide CC0) (unhide NN0) hg1
    have P0 := hide (k1 _ _ (unhide P0) (by omega))
    have P1 := hide (pat_own (p := resP 1) o1)
    obtain ⟨X1, hX1⟩ : ∃ X1, repP (resP 1) (i + 1) = X1 := ⟨_, rfl⟩
    rw [hX1] at o1
    have HX1 := hide hX1
    have O1 := hide o1
    have CC1 := hide C1
    have NN1 := hide n1
    clear o1 hX1 C1 n1 k1 hg1 OO NB O0 HX0 CC0 m0 m1 m2 m3 m4
    have vm : Blk w2 w.heap.size #[.int .i64 (-1), .int .i64 0, .slice none 0 0, .int .i64 0, .int .i64 0] 103 := (unhide HVM).chg (unhide CC1) (fun h => unhide HML _ h rfl)
    have m0 : w2.cell? ⟨w.heap.size, 0, none⟩ = some (.int .i64 (-1)) := vm.cell 0
    have m1 : w2.cell? ⟨w.heap.size, 1, none⟩ = some (.int .i64 0) := vm.cell 1
    have m2 : w2.cell? ⟨w.heap.size, 2, none⟩ = some (.slice none 0 0) := vm.cell 2
    have m3 : w2.cell? ⟨w.heap.size, 3, none⟩ = some (.int .i64 0) := vm.cell 3
    have m4 : w2.cell? ⟨w.heap.size, 4, none⟩ = some (.int .i64 0) := vm.cell 4
    have hal := (Below.refl w2.heap.size w2).alloc (Nat.le_refl _) (.cells #[.int .i64 (-1), .int .i64 0, .slice none 0 0, .int .i64 0, .int .i64 0] 103)
    have OO := hide (own_chg (unhide O1) (Chg.of_new (X := fun _ => False) hal) (fun _ _ => id))
    have NB := hide (news_blk (Blk.new w2 #[.int .i64 (-1), .int .i64 0, .slice none 0 0, .int .i64 0, .int .i64 0] 103))
    clear hal vm
    go_wp2_with (at_builtin; refine wpList_append_grew rfl (.tmp 42) (.tmp 44) 99 rfl 103 (.agg #[.int .i64 0, .int .i64 0, .slice none 0 0, .int .i64 0, .int .i64 0]) 5 56 Tryz.underlying99 infoR5 rfl (by decide) (.slice (some ⟨g1, 0, none⟩) (i + 1) c1) (i + 1) X1 rfl (unhide OO) ⟨w2.heap.size, 0, none⟩ 1 1 [.int .i64 (-1), .int .i64 0, .slice none 0 0, .int .i64 0, .int .i64 0] rfl rfl (unhide NB) (by intro u hu; simp only [List.mem_cons, List.not_mem_nil, or_false] at hu; rcases hu with rfl | rfl | rfl | rfl | rfl <;> rfl) (by decide) (by omega) (by decide) ?_)
    intro g2 c2 w3 hg2
    rw [← unhide HX1] at hg2
    obtain ⟨o2, C2, n2, k2⟩ := next_of (p := resP 1) (unhide CC1) (unhide NN1) hg2
    have P0 := hide (k2 _ _ (unhide P0) (by omega))
    have P1 := hide (k2 _ _ (unhide P1) (by omega))
    have P2 := hide (pat_own (p := resP 1) o2)
    obtain ⟨X2, hX2⟩ : ∃ X2, repP (resP 1) (i + 1 + 1) = X2 := ⟨_, rfl⟩
    rw [hX2] at o2
    have HX2 := hide hX2
    have O2 := hide o2
    have CC2 := hide C2
    have NN2 := hide n2
    clear o2 hX2 C2 n2 k2 hg2 OO NB O1 HX1 CC1 m0 m1 m2 m3 m4
    have vm : Blk w3 w.heap.size #[.int .i64 (-1), .int .i64 0, .slice none 0 0, .int .i64 0, .int .i64 0] 103 := (unhide HVM).chg (unhide CC2) (fun h => unhide HML _ h rfl)
    have m0 : w3.cell? ⟨w.heap.size, 0, none⟩ = some (.int .i64 (-1)) := vm.cell 0
    have m1 : w3.cell? ⟨w.heap.size, 1, none⟩ = some (.int .i64 0) := vm.cell 1
    have m2 : w3.cell? ⟨w.heap.size, 2, none⟩ = some (.slice none 0 0) := vm.cell 2
    have m3 : w3.cell? ⟨w.heap.size, 3, none⟩ = some (.int .i64 0) := vm.cell 3
    have m4 : w3.cell? ⟨w.heap.size, 4, none⟩ = some (.int .i64 0) := vm.cell 4
    have hal := (Below.refl w3.heap.size w3).alloc (Nat.le_refl _) (.cells #[.int .i64 (-1), .int .i64 0, .slice none 0 0, .int .i64 0, .int .i64 0] 103)
    have OO := hide (own_chg (unhide O2) (Chg.of_new (X := fun _ => False) hal) (fun _ _ => id))
    have NB := hide (news_blk (Blk.new w3 #[.int .i64 (-1), .int .i64 0, .slice none 0 0, .int .i64 0, .int .i64 0] 103))
    clear hal vm
    go_wp2_with (at_builtin; refine wpList_append_grew rfl (.tmp 46) (.tmp 48) 99 rfl 103 (.agg #[.int .i64 0, .int .i64 0, .slice none 0 0, .int .i64 0, .int .i64 0]) 5 56 Tryz.underlying99 infoR5 rfl (by decide) (.slice (some ⟨g2, 0, none⟩) (i + 1 + 1) c2) (i + 1 + 1) X2 rfl (unhide OO) ⟨w3.heap.size, 0, none⟩ 1 1 [.int .i64 (-1), .int .i64 0, .slice none 0 0, .int .i64 0, .int .i64 0] rfl rfl (unhide NB) (by intro u hu; simp only [List.mem_cons, List.not_mem_nil, or_false] at hu; rcases hu with rfl | rfl | rfl | rfl | rfl <;> rfl) (by decide) (by omega) (by decide) ?_)
    intro g3 c3 w4 hg3
    rw [← unhide HX2] at hg3
    obtain ⟨o3, C3, n3, k3⟩ := next_of (p := resP 1) (unhide CC2) (unhide NN2) hg3
    have P0 := hide (k3 _ _ (unhide P0) (by omega))
    have P1 := hide (k3 _ _ (unhide P1) (by omega))
    have P2 := hide (k3 _ _ (unhide P2) (by omega))
    have P3 := hide (pat_own (p := resP 1) o3)
    have NN3 := hide n3
    have hLM : ∀ b, (Value.slice la i cap).ownBlock = some b → ¬ LMem wb X us cus b := fun b hb hm => by
      obtain ⟨c, hc⟩ := own_blk (unhide O0R) b hb
      obtain ⟨c', t', hc', ht'⟩ := (unhide HL4).typ b hm
      have := (Blk.same hc hc').2
      subst this
      revert ht'; unfold lwT; decide
    have LW4 := (unhide HL4).chg C3 (fun b hm hb => hLM b hb hm)
    have c28 : w4.cell? ⟨wb, 28, none⟩ = some (.slice none 0 0) := (LW4.blk.cell 28).trans (by show some X.rs = _; rw [unhide HRS])
    have f28 := LW4.blk.free 28
    have hal := (Below.refl w4.heap.size w4).alloc (Nat.le_refl _) (.cells #[.slice la i cap, .slice (some ⟨g1, 0, none⟩) (i + 1) c1, .slice (some ⟨g2, 0, none⟩) (i + 1 + 1) c2, .slice (some ⟨g3, 0, none⟩) (i + 1 + 1 + 1) c3] 99)
    have N4 := hide (news_blk (Blk.new w4 #[.slice la i cap, .slice (some ⟨g1, 0, none⟩) (i + 1) c1, .slice (some ⟨g2, 0, none⟩) (i + 1 + 1) c2, .slice (some ⟨g3, 0, none⟩) (i + 1 + 1 + 1) c3] 99))
    have HLW := hide LW4
    have HC3 := hide C3
    clear o3 n3 k3 hg3 OO NB O2 HX2 CC2 m0 m1 m2 m3 m4 hal LW4 C3 hLM HVM
    go_wp2_with (at_builtin; refine wpList_append_grew rfl (.tmp 54) (.tmp 59) 54 rfl 99 (.slice none 0 0) 1 24 Tryz.underlying54 infoSR rfl (by decide) (.slice none 0 0) 0 [] rfl (World.ownsRow_nil _ _ _ _) ⟨w4.heap.size, 0, none⟩ 4 4 [.slice la i cap, .slice (some ⟨g1, 0, none⟩) (i + 1) c1, .slice (some ⟨g2, 0, none⟩) (i + 1 + 1) c2, .slice (some ⟨g3, 0, none⟩) (i + 1 + 1 + 1) c3] rfl rfl (unhide N4) (by intro u hu; simp only [List.mem_cons, List.not_mem_nil, or_false] at hu; rcases hu with rfl | rfl | rfl | rfl <;> rfl) (by decide) (by omega) (by decide) ?_)
    intro gb cb w5 hg5
    clear c28 f28 N4
    have ho5 := hg5.own
    have hn5 : w4.heap.size + 1 ≤ gb := by
      rcases hg5.at' with h | h
      · cases h
      · rw [World.size_alloc] at h; exact h
    have C5 : Chg (fun _ => False) w4 w5 := ((Chg.refl _ _).alloc _).trans hg5.chg (fun k h => by cases h)
    have W5 := (unhide HLW).blk.chg C5 id
    have c28 : w5.cell? ⟨wb, 28, none⟩ = some (.slice none 0 0) := (W5.cell 28).trans (by show some X.rs = _; rw [unhide HRS])
    have f28 := W5.free 28
    have W6 : Blk (w5.setCell ⟨wb, 28, none⟩ (.slice (some ⟨gb, 0, none⟩) 4 cb)) wb (lwL { X with rs := .slice (some ⟨gb, 0, none⟩) 4 cb }).toArray 56 := W5.set 28 (.slice (some ⟨gb, 0, none⟩) 4 cb)
    have c30 : (w5.setCell ⟨wb, 28, none⟩ (.slice (some ⟨gb, 0, none⟩) 4 cb)).cell? ⟨wb, 30, none⟩ = some (.slice none 0 0) := (W6.cell 30).trans (by show some X.kr = _; rw [unhide HKR])
    have hsz6 : (w5.setCell ⟨wb, 28, none⟩ (.slice (some ⟨gb, 0, none⟩) 4 cb)).heap.size = w5.heap.size := by simp
    have n6 := news_blk (Blk.new (w5.setCell ⟨wb, 28, none⟩ (.slice (some ⟨gb, 0, none⟩) 4 cb)) #[.int .i64 1, .int .i64 1, .int .i64 1, .int .i64 1] 3)
    rw [hsz6] at n6
    have N6 := hide n6
    have HW6 := hide W6
    have HC5 := hide C5
    have HO5 : Hid (w5.ownsRow 0 99 1 (.slice (some ⟨gb, 0, none⟩) 4 cb) 4 [.slice la i cap, .slice (some ⟨g1, 0, none⟩) (i + 1) c1, .slice (some ⟨g2, 0, none⟩) (i + 1 + 1) c2, .slice (some ⟨g3, 0, none⟩) (i + 1 + 1 + 1) c3]) := ho5
    have HC56 : Hid (Chg (fun x => x = wb) w5 (w5.setCell ⟨wb, 28, none⟩ (.slice (some ⟨gb, 0, none⟩) 4 cb))) := Chg.setCell (X := fun x => x = wb) (Chg.refl _ w5) _ _ (Or.inl rfl)
    have HS5 : Hid (w4.heap.size ≤ w5.heap.size) := C5.size
    clear n6 W6 C5 W5 hg5 ho5
    go_wp2_with (at_builtin; refine wpList_append_grew rfl (.tmp 67) (.tmp 72) 50 rfl 3 (.int .i64 0) 1 8 Tryz.underlying50 Tryz.infoI rfl (by decide) (.slice none 0 0) 0 [] rfl (World.ownsRow_nil _ _ _ _) ⟨w5.heap.size, 0, none⟩ 4 4 [.int .i64 1, .int .i64 1, .int .i64 1, .int .i64 1] rfl rfl (unhide N6) (by intro u hu; simp only [List.mem_cons, List.not_mem_nil, or_false, or_self] at hu; subst hu; rfl) (by decide) (by omega) (by decide) ?_)
    clear c28 f28 c30
    intro gk ck w8 hg8
    generalize w5.setCell ⟨wb, 28, none⟩ (.slice (some ⟨gb, 0, none⟩) 4 cb) = w6 at *
    have hn8 : w6.heap.size + 1 ≤ gk := by
      rcases hg8.at' with h | h
      · cases h
      · rw [World.size_alloc] at h; exact h
    have C8 : Chg (fun _ => False) w6 w8 := ((Chg.refl _ _).alloc _).trans hg8.chg (fun k h => by cases h)
    have W8 := (unhide HW6).chg C8 id
    have c30 : w8.cell? ⟨wb, 30, none⟩ = some (.slice none 0 0) := (W8.cell 30).trans (by show some X.kr = _; rw [unhide HKR])
    have f30 := W8.free 30
    have HW8 := hide W8
    have HC8 := hide C8
    have HO8 : Hid (w8.ownsRow 0 3 1 (.slice (some ⟨gk, 0, none⟩) 4 ck) 4 [.int .i64 1, .int .i64 1, .int .i64 1, .int .i64 1]) := hg8.own
    clear C8 W8 hg8 N6
    go_wp2
    have hL4 := unhide HLW
    have hSet : Chg (fun b => b = wb) w8 (w8.setCell ⟨wb, 30, none⟩ (.slice (some ⟨gk, 0, none⟩) 4 ck)) := Chg.setCell (X := fun b => b = wb) (Chg.refl _ w8) ⟨wb, 30, none⟩ _ (Or.inl rfl)
    have C59 : Chg (fun x => x = wb) w5 (w8.setCell ⟨wb, 30, none⟩ (.slice (some ⟨gk, 0, none⟩) 4 ck)) := ((unhide HC56).trans (unhide HC8) (fun _ h => h.elim)).trans hSet (fun k h => Or.inl h)
    have C9 : Chg (fun x => x = wb) w4 (w8.setCell ⟨wb, 30, none⟩ (.slice (some ⟨gk, 0, none⟩) 4 ck)) := ((unhide HC5).mono (fun _ _ h => h.elim)).trans C59 (fun k h => Or.inl h)
    have T9 : ∀ g c t', Blk w4 g c t' → t' ≠ 56 → ¬ g = wb := fun g c t' hb h1 e => by
      subst e
      exact h1 (Blk.same hb hL4.blk).2
    have PP : ∀ (u : Value) (l : Nat), PatA w4 103 (resP 1) u l → ∃ l', PatA (w8.setCell ⟨wb, 30, none⟩ (.slice (some ⟨gk, 0, none⟩) 4 ck)) 103 (resP 1) u l' := fun u l hu => ⟨l, hu.chg C9 (fun g hg => by
      obtain ⟨c, hc⟩ := pat_blk hu g hg
      exact T9 g c _ hc (by decide))⟩
    refine bodyPost_end (results_none rfl _ _ _) rfl ⟨rfl, .slice (some ⟨gb, 0, none⟩) 4 cb, .slice (some ⟨gk, 0, none⟩) 4 ck, .slice la i cap, .slice (some ⟨g1, 0, none⟩) (i + 1) c1, .slice (some ⟨g2, 0, none⟩) (i + 1 + 1) c2, .slice (some ⟨g3, 0, none⟩) (i + 1 + 1 + 1) c3, ⟨(unhide HW8).set 30 _, hL4.bk.chg C9 (fun g hg => ?_) (fun g hg => ?_) (fun u hu g hg => ?_), hL4.cb.chg C9 (fun g hg => ?_) (fun g hg => ?_) (fun u hu g hg => ?_), hL4.ne⟩, Bk.add (us := []) (ks := []) rfl (fun j u q hu hq => by simp at hu) ?_ ?_ (PP _ _ (unhide P0)) (PP _ _ (unhide P1)) (PP _ _ (unhide P2)) (PP _ _ (unhide P3)), ?_⟩
    · obtain ⟨c, hc⟩ := own_blk hL4.bk.row g hg; exact T9 g c _ hc (by decide)
    · obtain ⟨c, hc⟩ := own_blk hL4.bk.key g hg; exact T9 g c _ hc (by decide)
    · obtain ⟨c, hc⟩ := hL4.bk.typ u hu g hg; exact T9 g c _ hc (by decide)
    · obtain ⟨c, hc⟩ := own_blk hL4.cb.row g hg; exact T9 g c _ hc (by decide)
    · obtain ⟨c, hc⟩ := own_blk hL4.cb.key g hg; exact T9 g c _ hc (by decide)
    · obtain ⟨c, hc⟩ := hL4.cb.typ u hu g hg; exact T9 g c _ hc (by decide)
    · refine own_chg (unhide HO5) C59 (fun g hg e => ?_)
      have := ob_eq hg
      have := hL4.blk.lt
      omega
    · refine own_chg (unhide HO8) hSet (fun g hg e => ?_)
      have := ob_eq hg
      have := (unhide HW6).lt
      omega
    · refine ((Chg.of_new (unhide HBW)).trans (unhide HC3) (fun x h => Or.inl (Or.inr h))).trans C9 (fun x h => Or.inl (Or.inl h))

end Go.Proofs.YtdcinlkkjbclmaaGreat

/- Every list that came out reads as it was written. -/
namespace Go.Proofs.YtdcinlkkjbclmaaGreat
open Go.RowKit

/-- an entry of a book, as it is read -/
theorem Bk.read {w : World} {te tr : TypeId} {P : Int → List Value} {rv kv : Value} {us : List Value} {ks : List Int} (h : Bk w te tr P rv kv us ks) (i : Nat) (hi : i < us.length) (n : Nat) (hP : ∀ k, (P k).length = n) :
    ∃ (rb rc kb kc : Nat) (k : Int) (ua : Option Addr) (len uc : Nat), rv = .slice (some ⟨rb, 0, none⟩) us.length rc ∧ kv = .slice (some ⟨kb, 0, none⟩) us.length kc ∧ w.cell? ⟨rb, i, none⟩ = some (.slice ua len uc) ∧ w.cell? ⟨kb, i, none⟩ = some (.int .i64 k) ∧ ks[i]? = some k ∧ len ≤ maxLen ∧
      ∀ x, x < len → ∃ g, ua = some ⟨g, 0, none⟩ ∧ ∀ j, j < n → w.cell? ⟨g, x * n + j, none⟩ = (P k)[j]? := by
  have hki : i < ks.length := by rw [← h.len]; exact hi
  obtain ⟨u, hu⟩ : ∃ u, us[i]? = some u := ⟨_, List.getElem?_eq_getElem hi⟩
  obtain ⟨k, hk⟩ : ∃ k, ks[i]? = some k := ⟨_, List.getElem?_eq_getElem hki⟩
  obtain ⟨len, hp⟩ := h.ent i u k hu hk
  rcases own_get h.row with ⟨_, e, _⟩ | ⟨rb, rc, rcs, hre, hrb, _, _, _, _, hrx⟩
  · omega
  rcases own_get h.key with ⟨_, e, _⟩ | ⟨kb, kc, kcs, hke, hkb, _, _, _, _, hkx⟩
  · omega
  have c1 : w.cell? ⟨rb, i, none⟩ = some u := by rw [hrb.cell, hrx i (by omega)]; exact hu
  have c2 : w.cell? ⟨kb, i, none⟩ = some (.int .i64 k) := by rw [hkb.cell, hkx i (by omega), List.getElem?_map, hk]; rfl
  rcases hp with ⟨rfl, rfl⟩ | ⟨g, c, cs, rfl, hb, hx, hl⟩
  · exact ⟨rb, rc, kb, kc, k, none, 0, 0, hre, hke, c1, c2, hk, by unfold maxLen; omega, fun x hx => by omega⟩
  · refine ⟨rb, rc, kb, kc, k, some ⟨g, 0, none⟩, len, c, hre, hke, c1, c2, hk, hl, fun x hxl => ⟨g, rfl, fun j hj => ?_⟩⟩
    have h1 : x * n + j < len * n := by
      have : (x + 1) * n ≤ len * n := Nat.mul_le_mul_right _ hxl
      rw [Nat.succ_mul] at this
      omega
    rw [hb.cell, hx (x * n + j) (by rw [hP]; exact h1), hP, Nat.mul_comm x n, Nat.mul_add_mod, Nat.mod_eq_of_lt hj]
theorem Bk.form {w : World} {te tr : TypeId} {P : Int → List Value} {rv kv : Value} {us : List Value} {ks : List Int} (h : Bk w te tr P rv kv us ks) : ∃ ra rc, rv = .slice ra us.length rc := by
  rcases own_get h.row with ⟨e, e2, _⟩ | ⟨g, cap, c, e, _⟩
  · exact ⟨none, 0, by rw [e, e2]⟩
  · exact ⟨_, _, e⟩

set_option maxRecDepth 100000 in
set_option maxHeartbeats 4000000 in
theorem bkept_any (wb : Nat) (bs ks : Value) (us : List Value) (kk : List Int) (w : World) (h24 : w.cell? ⟨wb, 24, none⟩ = some bs) (h25 : w.cell? ⟨wb, 25, none⟩ = some ks) (h : Bk w 5 36 bytP bs ks us kk) (hus : us.length ≤ 1000) :
    Calls Tryz.prog 74 #[.pointer (some ⟨wb, 24, none⟩)] w fun e w' => e = .returned (.bool true) ∧ Chg (fun _ => False) w w' := by
  obtain ⟨ra, rc, hbs⟩ := h.form
  have H := hide h
  have HKE := hide h25
  have c24 := h24
  rw [hbs] at c24
  have hi24 := h24
  have HBS := hide hbs
  obtain ⟨n, hn⟩ : ∃ n, n = us.length := ⟨_, rfl⟩
  rw [← hn] at c24
  have HNN := hide hn
  have H24 := hide c24
  have in1 : (n : Int) ≤ 1000 := by omega
  clear h h25 h24 hbs hi24 hn
  go_enter Tryz.func74, Tryz.ntmps74
  go_wp2
  clear c24
  go_loopw [3] (fun iv wr => ∃ (i : Nat), i ≤ n ∧ iv = .int .i64 (i : Int) ∧ Chg (fun _ => False) w wr) (fun i _ => n - (intOf i).toNat)
  case atStart => exact ⟨0, Nat.zero_le _, rfl, Chg.refl _ _⟩
  case round =>
    obtain ⟨i, hi, rfl, hch⟩ := hrel
    have hcl : ∀ (b o : Nat) (u : Value), w.cell? ⟨b, o, none⟩ = some u → wr.cell? ⟨b, o, none⟩ = some u := fun b o u hu => (World.cell?_of_block (a := ⟨b, o, none⟩) (hch.block b (block_lt_of_cell hu) (fun h => h))).trans hu
    have c24 := hcl wb 24 _ (unhide H24)
    have HCH := hide hch
    clear hch hcl
    rcases Nat.lt_or_ge i n with hlt | hge
    · obtain ⟨rb, rc', kb, kc, k, ua, len, uc, e1, e2, e3, e4, _, hml, hx⟩ := (unhide H).read i (by have := unhide HNN; omega) 1 (fun _ => rfl)
      have hra : ra = some ⟨rb, 0, none⟩ := by
        have := (unhide HBS).symm.trans e1
        simp only [Value.slice.injEq] at this
        exact this.1
      subst hra
      have HC2 := hide e3
      have HC3 := hide e4
      have HC4 : Hid (w.cell? ⟨wb, 25, none⟩ = some (.slice (some ⟨kb, 0, none⟩) n kc)) := by rw [unhide HNN, ← e2]; exact unhide HKE
      have HX := hide hx
      have hml' : (len : Int) ≤ 9223372036854775807 := by unfold maxLen at hml; omega
      have ii0 : (0 : Int) ≤ (i : Int) := by omega
      have ii1 : (i : Int) < (n : Int) := by omega
      clear e1 e2 e3 e4 hx hml
      go_wp2
      clear c24
      go_loopw [4] (fun xv wx => ∃ (x : Nat), x ≤ len ∧ xv = .int .i64 (x : Int) ∧ Chg (fun _ => False) w wx) (fun x _ => len - (intOf x).toNat)
      case atStart => exact ⟨0, Nat.zero_le _, rfl, unhide HCH⟩
      case round =>
        obtain ⟨x, hxl, rfl, hch⟩ := hrel
        have hcl : ∀ (b o : Nat) (u : Value), w.cell? ⟨b, o, none⟩ = some u → wr.cell? ⟨b, o, none⟩ = some u := fun b o u hu => (World.cell?_of_block (a := ⟨b, o, none⟩) (hch.block b (block_lt_of_cell hu) (fun h => h))).trans hu
        have c24 := hcl wb 24 _ (unhide H24)
        have r1 := hcl rb i _ (unhide HC2)
        have HCH2 := hide hch
        rcases Nat.lt_or_ge x len with hxt | hxg
        · obtain ⟨g, hua, hxe⟩ := unhide HX x hxt
          subst hua
          have b1 : w.cell? ⟨g, x, none⟩ = some (.int .u8 (k % 256)) := by
            have := hxe 0 (by omega)
            rw [Nat.mul_one, Nat.add_zero] at this
            exact this
          have c25 := hcl wb 25 _ (unhide HC4)
          have k1 := hcl kb i _ (unhide HC3)
          have b2 := hcl g x _ b1
          have ix0 : (0 : Int) ≤ (x : Int) := by omega
          have ix1 : (x : Int) < (len : Int) := by omega
          have hw8 : IntKind.u8.wrap k = k % 256 := IntKind.wrap_u8 k
          clear hxe b1 hcl hch
          go_wp2
          go_quiet (fail)
          have HC3' : Hid (Chg (fun _ => False) w (wr.drewN nq)) := (unhide HCH2).drewN nq
          generalize wr.drewN nq = wq at *
          clear c24 r1 c25 k1 b2
          go_wp2
          go_roundw
          case rel => exact ⟨x + 1, by omega, by go_num, unhide HC3'⟩
          case measure => simp [intOf]; omega
        · obtain rfl : x = len := by omega
          clear hcl hch
          go_wp2
          go_roundw
          case rel => exact ⟨i + 1, by omega, by go_num, unhide HCH2⟩
          case measure => simp [intOf]; omega
    · obtain rfl : i = n := by omega
      go_wp2
      go_ret
      exact ⟨rfl, unhide HCH⟩

end Go.Proofs.YtdcinlkkjbclmaaGreat
