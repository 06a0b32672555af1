/- Every list of commands and of results that came out reads as it was written. -/
import Derived.Test.YtdcinlkkjbclmaaGreatMLAnsLKept
namespace Go.Proofs.YtdcinlkkjbclmaaGreat
open Go.RowKit

set_option maxRecDepth 100000 in
set_option maxHeartbeats 8000000 in
theorem kept_any (wb : Nat) (X : LX) (us : List Value) (kk : List Int) (cus : List Value) (ckk : List Int) (rus : List Value) (rkk : List Int) (w : World) (h : Lw w wb X us kk cus ckk) (hr : Bk w 103 99 resP X.rs X.kr rus rkk) (hq1 : ∀ q ∈ ckk, 0 ≤ q ∧ q ≤ 1000) (hq2 : ∀ q ∈ rkk, 0 ≤ q ∧ q ≤ 1000) (hus : us.length ≤ 1000) (hcu : cus.length ≤ 1000) (hru : rus.length ≤ 1000) :
    Calls Tryz.prog 40 #[.pointer (some ⟨wb, 0, none⟩)] w fun e w' => e = .returned (.bool true) ∧ Chg (fun _ => False) w w' := by
  have HBK := hide (bkept_any wb X.bs X.ks us kk w (h.blk.cell 24) (h.blk.cell 25) h.bk hus)
  obtain ⟨raA, rcA, hbsA⟩ := h.cb.form
  obtain ⟨raB, rcB, hbsB⟩ := hr.form
  have HA := hide h.cb
  have HB := hide hr
  obtain ⟨nA, hnA⟩ : ∃ n, n = cus.length := ⟨_, rfl⟩
  obtain ⟨nB, hnB⟩ : ∃ n, n = rus.length := ⟨_, rfl⟩
  have HKA : Hid (w.cell? ⟨wb, 29, none⟩ = some X.kc) := h.blk.cell 29
  have HKB : Hid (w.cell? ⟨wb, 30, none⟩ = some X.kr) := h.blk.cell 30
  have HRA : Hid (w.cell? ⟨wb, 27, none⟩ = some (.slice raA nA rcA)) := by rw [hnA, ← hbsA]; exact h.blk.cell 27
  have HRB : Hid (w.cell? ⟨wb, 28, none⟩ = some (.slice raB nB rcB)) := by rw [hnB, ← hbsB]; exact h.blk.cell 28
  have HSA := hide hbsA
  have HSB := hide hbsB
  have HNA := hide hnA
  have HNB := hide hnB
  have HQA := hide hq1
  have HQB := hide hq2
  have inA : (nA : Int) ≤ 1000 := by omega
  have inB : (nB : Int) ≤ 1000 := by omega
  have hwl := h.blk.lt
  clear h hr hq1 hq2 hbsA hbsB hnA hnB
  go_enter Tryz.func40, Tryz.ntmps40
  go_wp2_with fail
  refine (unhide HBK).mono ?_
  rintro e w1 ⟨rfl, hc1⟩
  have HC0 := hide hc1
  clear hc1 HBK
  go_wp2
  go_loopw [3, 4] (fun ov iv wr => ∃ (i : Nat), i ≤ nA ∧ ov = .bool true ∧ iv = .int .i64 (i : Int) ∧ Chg (fun _ => False) w wr) (fun _ i _ => nA - (intOf i).toNat)
  case atStart => exact ⟨0, Nat.zero_le _, rfl, rfl, unhide HC0⟩
  case round =>
    obtain ⟨i, hi, rfl, rfl, hch⟩ := hrel
    have hcl : ∀ (b o : Nat) (u : Value), w.cell? ⟨b, o, none⟩ = some u → wr.cell? ⟨b, o, none⟩ = some u := fun b o u hu => (World.cell?_of_block (a := ⟨b, o, none⟩) (hch.block b (block_lt_of_cell hu) (fun h => h))).trans hu
    have cR := hcl wb 27 _ (unhide HRA)
    have HCHA := hide hch
    clear hch hcl
    rcases Nat.lt_or_ge i nA with hlt | hge
    · obtain ⟨rb, rc', kb, kc, q, ua, len, uc, e1, e2, e3, e4, e5, hml, hx⟩ := (unhide HA).read i (by have := unhide HNA; omega) 5 (fun _ => rfl)
      have hra : raA = some ⟨rb, 0, none⟩ := by
        have := (unhide HSA).symm.trans e1
        simp only [Value.slice.injEq] at this
        exact this.1
      have cR' : wr.cell? ⟨wb, 27, none⟩ = some (.slice (some ⟨rb, 0, none⟩) nA rcA) := by rw [← hra]; exact cR
      have HRA' : Hid (w.cell? ⟨wb, 27, none⟩ = some (.slice (some ⟨rb, 0, none⟩) nA rcA)) := by rw [← hra]; exact unhide HRA
      have HC2 := hide e3
      have HC3 := hide e4
      have HC4 : Hid (w.cell? ⟨wb, 29, none⟩ = some (.slice (some ⟨kb, 0, none⟩) nA kc)) := by rw [unhide HNA, ← e2]; exact unhide HKA
      have HX := hide hx
      obtain ⟨q0, q1⟩ := unhide HQA q (List.mem_of_getElem? e5)
      have hml' : (len : Int) ≤ 9223372036854775807 := by unfold maxLen at hml; omega
      have ii0 : (0 : Int) ≤ (i : Int) := by omega
      have ii1 : (i : Int) < (nA : Int) := by omega
      clear e1 e2 e3 e4 e5 hx hml hra cR
      have r0 : wr.cell? ⟨rb, i, none⟩ = some (.slice ua len uc) := (World.cell?_of_block (a := ⟨rb, i, none⟩) ((unhide HCHA).block rb (block_lt_of_cell (unhide HC2)) (fun h => h))).trans (unhide HC2)
      go_wp2
      clear cR' r0
      go_loopw [3, 5] (fun ov xv wx => ∃ (x : Nat), x ≤ len ∧ ov = .bool true ∧ xv = .int .i64 (x : Int) ∧ Chg (fun _ => False) w wx) (fun _ x _ => len - (intOf x).toNat)
      case atStart => exact ⟨0, Nat.zero_le _, rfl, rfl, unhide HCHA⟩
      case round =>
        obtain ⟨x, hxl, rfl, rfl, hch⟩ := hrel
        have hcl : ∀ (b o : Nat) (u : Value), w.cell? ⟨b, o, none⟩ = some u → wr.cell? ⟨b, o, none⟩ = some u := fun b o u hu => (World.cell?_of_block (a := ⟨b, o, none⟩) (hch.block b (block_lt_of_cell hu) (fun h => h))).trans hu
        have cR := hcl wb 27 _ (unhide HRA')
        have r1 := hcl rb i _ (unhide HC2)
        have hcs := hch.size
        have HCH2 := hide hch
        rcases Nat.lt_or_ge x len with hxt | hxg
        · obtain ⟨g, hua, hxe⟩ := unhide HX x hxt
          subst hua
          have z0 := hcl g (x * 5) (.int .i64 (-q)) (hxe 0 (by omega))
          have z1 := hcl g (x * 5 + 1) (.int .i64 0) (hxe 1 (by omega))
          have z2 := hcl g (x * 5 + 2) (.int .i64 0) (hxe 2 (by omega))
          have z3 := hcl g (x * 5 + 3) (.int .i64 0) (hxe 3 (by omega))
          have z4 := hcl g (x * 5 + 4) (.slice none 0 0) (hxe 4 (by omega))
          have cK := hcl wb 29 _ (unhide HC4)
          have k1 := hcl kb i _ (unhide HC3)
          have hkbl : kb < wr.heap.size := block_lt_of_cell k1
          have hwbl : wb < wr.heap.size := by omega
          have ix0 : (0 : Int) ≤ (x : Int) := by omega
          have ix1 : (x : Int) < (len : Int) := by omega
          have hw0 : IntKind.i64.wrap (-q) = -q := Go.IntWalk.i64_in _ (by omega)
          have e0 : ((-q : Int) == IntKind.i64.wrap (-q)) = true := by rw [hw0]; simp
          have HCA : Hid (Chg (fun _ => False) w (wr.alloc (.cells #[.int .i64 (-q), .int .i64 0, .int .i64 0, .int .i64 0, .slice none 0 0] 91))) := (unhide HCH2).alloc _
          have HKN := hide (Blk.new wr #[.int .i64 (-q), .int .i64 0, .int .i64 0, .int .i64 0, .slice none 0 0] 91)
          have a1 : (wr.alloc (.cells #[.int .i64 (-q), .int .i64 0, .int .i64 0, .int .i64 0, .slice none 0 0] 91)).cell? ⟨wb, 29, none⟩ = some (.slice (some ⟨kb, 0, none⟩) nA kc) := by rw [World.cell?_alloc_past _ _ _ hwbl]; exact cK
          have a2 : (wr.alloc (.cells #[.int .i64 (-q), .int .i64 0, .int .i64 0, .int .i64 0, .slice none 0 0] 91)).cell? ⟨kb, i, none⟩ = some (.int .i64 q) := by rw [World.cell?_alloc_past _ _ _ hkbl]; exact k1
          have HA1 := hide a1
          have HA2 := hide a2
          clear hxe hcl hch cK k1 a1 a2
          go_wp2_with fail
          generalize wr.alloc (.cells #[.int .i64 (-q), .int .i64 0, .int .i64 0, .int .i64 0, .slice none 0 0] 91) = wn at *
          have n0 : wn.cell? ⟨wr.heap.size, 0, none⟩ = some (.int .i64 (-q)) := (unhide HKN).cell 0
          have n1 : wn.cell? ⟨wr.heap.size, 1, none⟩ = some (.int .i64 0) := (unhide HKN).cell 1
          have n2 : wn.cell? ⟨wr.heap.size, 2, none⟩ = some (.int .i64 0) := (unhide HKN).cell 2
          have n3 : wn.cell? ⟨wr.heap.size, 3, none⟩ = some (.int .i64 0) := (unhide HKN).cell 3
          have n4 : wn.cell? ⟨wr.heap.size, 4, none⟩ = some (.slice none 0 0) := (unhide HKN).cell 4
          have a1 := unhide HA1
          have a2 := unhide HA2
          clear z0 z1 z2 z3 z4 cR r1
          go_quiet (fail)
          have HC3' : Hid (Chg (fun _ => False) w (wn.drewN nq)) := (unhide HCA).drewN nq
          generalize wn.drewN nq = wq at *
          clear n0 n1 n2 n3 n4 a1 a2
          go_wp2
          go_roundw
          case rel => exact ⟨x + 1, by omega, rfl, by go_num, unhide HC3'⟩
          case measure => simp [intOf]; omega
        · obtain rfl : x = len := by omega
          clear hcl hch
          go_wp2
          go_roundw
          case rel => exact ⟨i + 1, by omega, rfl, by go_num, unhide HCH2⟩
          case measure => simp [intOf]; omega
    · obtain rfl : i = nA := by omega
      clear HC0
      go_wp2
      go_loopw [3, 7] (fun ov iv wr => ∃ (i : Nat), i ≤ nB ∧ ov = .bool true ∧ iv = .int .i64 (i : Int) ∧ Chg (fun _ => False) w wr) (fun _ i _ => nB - (intOf i).toNat)
      case atStart => exact ⟨0, Nat.zero_le _, rfl, rfl, unhide HCHA⟩
      case round =>
        obtain ⟨i, hi, rfl, rfl, hch⟩ := hrel
        have hcl : ∀ (b o : Nat) (u : Value), w.cell? ⟨b, o, none⟩ = some u → wr.cell? ⟨b, o, none⟩ = some u := fun b o u hu => (World.cell?_of_block (a := ⟨b, o, none⟩) (hch.block b (block_lt_of_cell hu) (fun h => h))).trans hu
        have cR := hcl wb 28 _ (unhide HRB)
        have HCHB := hide hch
        clear hch hcl
        rcases Nat.lt_or_ge i nB with hlt | hge
        · obtain ⟨rb, rc', kb, kc, q, ua, len, uc, e1, e2, e3, e4, e5, hml, hx⟩ := (unhide HB).read i (by have := unhide HNB; omega) 5 (fun _ => rfl)
          have hra : raB = some ⟨rb, 0, none⟩ := by
            have := (unhide HSB).symm.trans e1
            simp only [Value.slice.injEq] at this
            exact this.1
          have cR' : wr.cell? ⟨wb, 28, none⟩ = some (.slice (some ⟨rb, 0, none⟩) nB rcB) := by rw [← hra]; exact cR
          have HRB' : Hid (w.cell? ⟨wb, 28, none⟩ = some (.slice (some ⟨rb, 0, none⟩) nB rcB)) := by rw [← hra]; exact unhide HRB
          have HC2 := hide e3
          have HC3 := hide e4
          have HC4 : Hid (w.cell? ⟨wb, 30, none⟩ = some (.slice (some ⟨kb, 0, none⟩) nB kc)) := by rw [unhide HNB, ← e2]; exact unhide HKB
          have HX := hide hx
          obtain ⟨q0, q1⟩ := unhide HQB q (List.mem_of_getElem? e5)
          have hml' : (len : Int) ≤ 9223372036854775807 := by unfold maxLen at hml; omega
          have ii0 : (0 : Int) ≤ (i : Int) := by omega
          have ii1 : (i : Int) < (nB : Int) := by omega
          clear e1 e2 e3 e4 e5 hx hml hra cR
          have r0 : wr.cell? ⟨rb, i, none⟩ = some (.slice ua len uc) := (World.cell?_of_block (a := ⟨rb, i, none⟩) ((unhide HCHB).block rb (block_lt_of_cell (unhide HC2)) (fun h => h))).trans (unhide HC2)
          go_wp2
          clear cR' r0
          go_loopw [3, 8] (fun ov xv wx => ∃ (x : Nat), x ≤ len ∧ ov = .bool true ∧ xv = .int .i64 (x : Int) ∧ Chg (fun _ => False) w wx) (fun _ x _ => len - (intOf x).toNat)
          case atStart => exact ⟨0, Nat.zero_le _, rfl, rfl, unhide HCHB⟩
          case round =>
            obtain ⟨x, hxl, rfl, rfl, hch⟩ := hrel
            have hcl : ∀ (b o : Nat) (u : Value), w.cell? ⟨b, o, none⟩ = some u → wr.cell? ⟨b, o, none⟩ = some u := fun b o u hu => (World.cell?_of_block (a := ⟨b, o, none⟩) (hch.block b (block_lt_of_cell hu) (fun h => h))).trans hu
            have cR := hcl wb 28 _ (unhide HRB')
            have r1 := hcl rb i _ (unhide HC2)
            have hcs := hch.size
            have HCH2 := hide hch
            rcases Nat.lt_or_ge x len with hxt | hxg
            · obtain ⟨g, hua, hxe⟩ := unhide HX x hxt
              subst hua
              have z0 := hcl g (x * 5) (.int .i64 (-q)) (hxe 0 (by omega))
              have z1 := hcl g (x * 5 + 1) (.int .i64 0) (hxe 1 (by omega))
              have z2 := hcl g (x * 5 + 2) (.slice none 0 0) (hxe 2 (by omega))
              have z3 := hcl g (x * 5 + 3) (.int .i64 0) (hxe 3 (by omega))
              have z4 := hcl g (x * 5 + 4) (.int .i64 0) (hxe 4 (by omega))
              have cK := hcl wb 30 _ (unhide HC4)
              have k1 := hcl kb i _ (unhide HC3)
              have hkbl : kb < wr.heap.size := block_lt_of_cell k1
              have hwbl : wb < wr.heap.size := by omega
              have ix0 : (0 : Int) ≤ (x : Int) := by omega
              have ix1 : (x : Int) < (len : Int) := by omega
              have hw0 : IntKind.i64.wrap (-q) = -q := Go.IntWalk.i64_in _ (by omega)
              have e0 : ((-q : Int) == IntKind.i64.wrap (-q)) = true := by rw [hw0]; simp
              have HCA : Hid (Chg (fun _ => False) w (wr.alloc (.cells #[.int .i64 (-q), .int .i64 0, .slice none 0 0, .int .i64 0, .int .i64 0] 103))) := (unhide HCH2).alloc _
              have HKN := hide (Blk.new wr #[.int .i64 (-q), .int .i64 0, .slice none 0 0, .int .i64 0, .int .i64 0] 103)
              have a1 : (wr.alloc (.cells #[.int .i64 (-q), .int .i64 0, .slice none 0 0, .int .i64 0, .int .i64 0] 103)).cell? ⟨wb, 30, none⟩ = some (.slice (some ⟨kb, 0, none⟩) nB kc) := by rw [World.cell?_alloc_past _ _ _ hwbl]; exact cK
              have a2 : (wr.alloc (.cells #[.int .i64 (-q), .int .i64 0, .slice none 0 0, .int .i64 0, .int .i64 0] 103)).cell? ⟨kb, i, none⟩ = some (.int .i64 q) := by rw [World.cell?_alloc_past _ _ _ hkbl]; exact k1
              have HA1 := hide a1
              have HA2 := hide a2
              clear hxe hcl hch cK k1 a1 a2
              go_wp2_with fail
              generalize wr.alloc (.cells #[.int .i64 (-q), .int .i64 0, .slice none 0 0, .int .i64 0, .int .i64 0] 103) = wn at *
              have n0 : wn.cell? ⟨wr.heap.size, 0, none⟩ = some (.int .i64 (-q)) := (unhide HKN).cell 0
              have n1 : wn.cell? ⟨wr.heap.size, 1, none⟩ = some (.int .i64 0) := (unhide HKN).cell 1
              have n2 : wn.cell? ⟨wr.heap.size, 2, none⟩ = some (.slice none 0 0) := (unhide HKN).cell 2
              have n3 : wn.cell? ⟨wr.heap.size, 3, none⟩ = some (.int .i64 0) := (unhide HKN).cell 3
              have n4 : wn.cell? ⟨wr.heap.size, 4, none⟩ = some (.int .i64 0) := (unhide HKN).cell 4
              have a1 := unhide HA1
              have a2 := unhide HA2
              clear z0 z1 z2 z3 z4 cR r1
              go_quiet (fail)
              have HC3' : Hid (Chg (fun _ => False) w (wn.drewN nq)) := (unhide HCA).drewN nq
              generalize wn.drewN nq = wq at *
              clear n0 n1 n2 n3 n4 a1 a2
              go_wp2
              go_roundw
              case rel => exact ⟨x + 1, by omega, rfl, by go_num, unhide HC3'⟩
              case measure => simp [intOf]; omega
            · obtain rfl : x = len := by omega
              clear hcl hch
              go_wp2
              go_roundw
              case rel => exact ⟨i + 1, by omega, rfl, by go_num, unhide HCH2⟩
              case measure => simp [intOf]; omega
        · obtain rfl : i = nB := by omega
          go_wp2
          go_ret
          exact ⟨rfl, unhide HCHB⟩

end Go.Proofs.YtdcinlkkjbclmaaGreat
