/- The contract of book.kept. -/
import Derived.Test.YtdcinlkkjbclmaaDoorLOwn
namespace Go.Proofs.YtdcinlkkjbclmaaDoor
open Go.RowKit

set_option maxHeartbeats 4000000 in
theorem kept_any (N lo ob n : Nat) (bs ks : Value) (U : Nat → Value) (Ln : Nat → Nat) (w : World) (hbk : Book w N lo ob n bs ks U Ln) (hN : N ≤ w.heap.size) (hn : n ≤ 100000000) :
    Calls Tryd.prog 12 #[.pointer (some ⟨ob, 0, none⟩)] w fun e w' => e = .returned (.bool true) ∧ Below w.heap.size w w' := by
  obtain ⟨av, cv, hve⟩ : ∃ av cv, bs = .slice av (4 * n) cv := by
    rcases hbk.bsR.2 with ⟨rfl, h0⟩ | ⟨g, cap, cur, rfl, _⟩
    · exact ⟨none, 0, by rw [h0]⟩
    · exact ⟨_, _, rfl⟩
  subst hve
  have HBK := hide hbk
  clear hbk
  go_enter Tryd.func12, Tryd.ntmps12
  go_wp2
  go_loopw [3] (fun iv wr => ∃ k : Nat, k ≤ 4 * n ∧ iv = .int .i64 (k : Int) ∧ Below w.heap.size w wr) (fun i _ => 4 * n - (intOf i).toNat)
  case atStart => exact ⟨0, Nat.zero_le _, rfl, Below.refl _ _⟩
  case round =>
    obtain ⟨k, hk, rfl, hbw⟩ := hrel
    have HB := hide hbw
    have hb := (unhide HBK).below ((hbw.mono hN))
    have c0 := hb.obj.cell (i := 0) (by omega)
    simp only [bookV, if_true] at c0
    rcases Nat.lt_or_ge k (4 * n) with hlt | hge
    · have hki : (k : Int) < 4 * (n : Int) := by omega
      have hki' : (k : Int) < ((4 * n : Nat) : Int) := by omega
      have hk0 : (0 : Int) ≤ (k : Int) := by omega
      have c1 := hb.obj.cell (i := 1) (by omega)
      simp only [bookV, show ¬ (1 = 0) by omega, if_false, if_true] at c1
      obtain ⟨gb, cb, hbe, _, _⟩ := hb.bsR.form (by omega)
      simp only [Value.slice.injEq] at hbe
      obtain ⟨rfl, _, rfl⟩ := hbe
      obtain ⟨gk, ck, hke, _, _⟩ := hb.ksR.form (by omega)
      subst hke
      have d0 := World.ownsRow.cellAt hb.bsR k (by omega)
      rw [show ((List.range (4 * n)).map U)[k]? = some (U k) by simp [hlt]] at d0
      have d1 := World.ownsRow.cellAt hb.ksR k (by omega)
      rw [show ((List.range (4 * n)).map fun i => Value.int .i64 ((noOf i : Nat) : Int))[k]? = some (.int .i64 ((noOf k : Nat) : Int)) by simp [hlt]] at d1
      obtain ⟨a1, cap1, hue, hx⟩ := hb.ent k hlt
      rw [hue, List.length_replicate] at d0
      have hnk : noOf k ≤ 200000000 := by unfold noOf; omega
      rw [List.length_replicate] at hue
      have HD := hide hx
      obtain ⟨q, hq⟩ : ∃ q, noOf k = q := ⟨_, rfl⟩
      rw [hq] at d1 HD hnk
      obtain ⟨L, hL⟩ : ∃ L, Ln k = L := ⟨_, rfl⟩
      rw [hL] at d0 HD
      have hLb : L ≤ 2000 := by rw [← hL]; exact hb.lens k hlt
      have HDW := hide (show ∀ w' : World, Below wr.heap.size wr w' → w'.cell? ⟨ob, 0, none⟩ = some (.slice (some ⟨gb, 0, none⟩) (4 * n) cv) ∧ w'.cell? ⟨ob, 1, none⟩ = some (.slice (some ⟨gk, 0, none⟩) (4 * n) ck) ∧ w'.cell? ⟨gb, k, none⟩ = some (.slice a1 L cap1) ∧ w'.cell? ⟨gk, k, none⟩ = some (.int .i64 (q : Int)) from fun w' h' => ⟨(h'.cell (block_lt_of_cell c0)).trans c0, (h'.cell (block_lt_of_cell c1)).trans c1, (h'.cell (block_lt_of_cell d0)).trans d0, (h'.cell (block_lt_of_cell d1)).trans d1⟩)
      clear hb hbw hue hq hL hx
      go_wp2
      clear c0 c1 d0 d1
      obtain ⟨wo, hwo⟩ : ∃ wo, wo = wr := ⟨wr, rfl⟩
      subst hwo
      go_loopw [4] (fun iv wz => ∃ j : Nat, iv = .int .i64 (j : Int) ∧ j ≤ L ∧ Below wo.heap.size wo wz) (fun i _ => L - (intOf i).toNat)
      case atStart => exact ⟨0, rfl, Nat.zero_le _, Below.refl _ _⟩
      case round =>
        obtain ⟨j, rfl, hj, hbz⟩ := hrel
        obtain ⟨c0, c1, d0, d1⟩ := unhide HDW wr hbz
        have HBZ := hide hbz
        rcases Nat.lt_or_ge j L with hjl | hjg
        · have hji : (j : Int) < (L : Int) := by omega
          have hj0 : (0 : Int) ≤ (j : Int) := by omega
          rcases unhide HD with h | ⟨b1, o1, rfl, hr⟩
          · have := congrArg List.length h; simp at this; omega
          have e1 : wr.cell? ⟨b1, o1 + j, none⟩ = some (.int .u8 ((q % 256 : Nat) : Int)) := by
            have h1 := range_keep hr hbz j (B (q % 256)) (by simp [hjl])
            exact h1
          have e2 : (((q % 256 : Nat) : Int) != (q : Int) % 256) = false := by simp
          clear hr hbz
          go_wp2
          go_quiet (fail)
          have HB3 := hide ((unhide HBZ).trans ((below_drewN (Below.refl wr.heap.size wr) nq).mono (unhide HBZ).size))
          generalize wr.drewN nq = wq at *
          clear c0 c1 d0 d1 e1 e2
          go_wp2
          go_roundw
          case rel => exact ⟨j + 1, by go_num, by omega, unhide HB3⟩
          case measure => simp [intOf]; omega
        · obtain rfl : j = L := by omega
          have HB2 := hide ((unhide HB).trans (hbz.mono (unhide HB).size))
          clear hbz
          go_wp2
          go_roundw
          case rel => exact ⟨k + 1, by omega, by go_num, unhide HB2⟩
          case measure => simp [intOf]; omega
    · obtain rfl : k = 4 * n := by omega
      clear hb hbw
      go_wp2
      go_ret
      exact ⟨rfl, unhide HB⟩

end Go.Proofs.YtdcinlkkjbclmaaDoor
