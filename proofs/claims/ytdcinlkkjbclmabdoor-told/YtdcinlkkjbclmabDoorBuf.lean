/- The contracts of platterkeep's small functions: pick, column, copied, stripe. -/
import Derived.Test.YtdcinlkkjbclmabDoorPar
namespace Go.Proofs.YtdcinlkkjbclmabDoor
open Go.RowKit

/-- bytes that lie in block g from its head on, and may be written -/
structure Buf (w : World) (g : Nat) (xs : List Nat) : Prop where
  lies : w.rangeAt g 0 (xs.map B)
  free : w.there g 0 xs.length
theorem byte_at (xs : List Nat) (k : Nat) (h : k < xs.length) : (xs.map B)[k]? = some (.int .u8 (xs.getD k 0 : Nat)) := by simp [B, h]
theorem Buf.cell {w : World} {g : Nat} {xs : List Nat} (h : Buf w g xs) (k : Nat) (hk : k < xs.length) : w.cell? ⟨g, k, none⟩ = some (.int .u8 (xs.getD k 0 : Nat)) := by
  have := h.lies k _ (byte_at xs k hk)
  simpa using this
theorem Buf.frozen {w : World} {g : Nat} {xs : List Nat} (h : Buf w g xs) (k : Nat) (hk : k < xs.length) : w.frozen? ⟨g, k, none⟩ = false := by
  have := (h.free k hk).2
  simpa using this
theorem Buf.lt {w : World} {g : Nat} {xs : List Nat} (h : Buf w g xs) (hx : 0 < xs.length) : g < w.heap.size := block_lt_of_cell (h.cell 0 hx)
theorem Buf.below {w w' : World} {g n : Nat} {xs : List Nat} (h : Buf w g xs) (hb : Below n w w') (hn : g < n) : Buf w' g xs :=
  ⟨range_below h.lies hb hn, fun j hj => by rw [hb.cell (by exact hn), hb.frozen (by exact hn)]; exact h.free j hj⟩
theorem Buf.set {w : World} {g : Nat} {xs : List Nat} (h : Buf w g xs) (k x : Nat) (hk : k < xs.length) : Buf (w.setCell ⟨g, k, none⟩ (.int .u8 (x : Int))) g (xs.set k x) := by
  constructor
  · intro j v hv
    simp only [List.map_set, List.getElem?_set, List.length_map, Nat.zero_add] at hv ⊢
    by_cases e : k = j
    · subst e
      rw [if_pos rfl, if_pos hk] at hv
      rw [World.cell?_setCell_same _ _ _ (h.cell k hk)]
      exact hv
    · rw [if_neg e] at hv
      rw [World.cell?_setCell_other _ _ _ _ (by simp only [ne_eq, Addr.mk.injEq]; omega)]
      have := h.lies j v hv
      simpa using this
  · intro j hj
    rw [List.length_set] at hj
    have := h.free j hj
    simp only [Nat.zero_add] at this ⊢
    constructor
    · by_cases e : k = j
      · subst e; rw [World.cell?_setCell_same _ _ _ (h.cell k hk)]; rfl
      · rw [World.cell?_setCell_other _ _ _ _ (by simp only [ne_eq, Addr.mk.injEq]; omega)]; exact this.1
    · simpa using this.2
theorem Buf.other {w : World} {g : Nat} {xs : List Nat} (h : Buf w g xs) (a : Addr) (v : Value) (hne : g ≠ a.block) : Buf (w.setCell a v) g xs := by
  have hc : ∀ j, (w.setCell a v).cell? ⟨g, j, none⟩ = w.cell? ⟨g, j, none⟩ := fun j => World.cell?_setCell_other _ _ _ _ (fun e => hne (by rw [e]))
  constructor
  · intro j u hu
    rw [hc]; exact h.lies j u hu
  · intro j hj
    rw [hc]
    have := h.free j hj
    exact ⟨this.1, by simpa using this.2⟩
theorem buf_own {w : World} {base g cap : Nat} {xs : List Nat} (h : w.ownsRow base 5 1 (.slice (some ⟨g, 0, none⟩) xs.length cap) xs.length (xs.map B)) : Buf w g xs := by
  have hc : ∀ j, j < xs.length → w.cell? ⟨g, j, none⟩ = (xs.map B)[j]? := fun j hj => h.cellAt j (by omega)
  constructor
  · intro j v hv
    have hj : j < xs.length := by have := (List.getElem?_eq_some_iff.1 hv).1; simpa using this
    rw [Nat.zero_add, hc j hj]; exact hv
  · intro j hj
    rw [Nat.zero_add, hc j hj, h.frozenAt j]
    simp [hj]
theorem Buf.slb {w : World} {g cap : Nat} {xs : List Nat} (h : Buf w g xs) : SlB w (.slice (some ⟨g, 0, none⟩) xs.length cap) xs := ⟨_, _, rfl, .inr ⟨g, 0, rfl, h.lies⟩⟩

/-! ### pick -/
def pickAt (c n : Int) : Int := (if c < 0 then -(c + 1) else c) % n
theorem pickAt_bd (c n : Int) (hn : 0 < n) : 0 ≤ pickAt c n ∧ pickAt c n < n := ⟨Int.emod_nonneg _ (by omega), Int.emod_lt_of_pos _ hn⟩

set_option maxHeartbeats 400000 in
theorem pick_any (c n : Int) (w : World) (hn : 0 < n) (hc1 : -9223372036854775808 ≤ c) (hc2 : c ≤ 9223372036854775807) (hn2 : n ≤ 1000000000000000) :
    Calls Tryd.prog 7 #[.int .i64 c, .int .i64 n] w fun e w' => e = .returned (.int .i64 (pickAt c n)) ∧ w' = w := by
  by_cases h : c < 0
  · have hp : Hid (pickAt c n = -((c + 1).tmod n)) := by unfold pickAt; rw [if_pos h, ← Int.tmod_eq_emod_of_nonneg (by omega), Int.neg_tmod]; exact rfl
    go_enter Tryd.func7, Tryd.ntmps7
    go_wp2
    go_ret
    exact ⟨by rw [unhide hp]; rfl, rfl⟩
  · have hp : Hid (pickAt c n = c % n) := by unfold pickAt; rw [if_neg h]; exact rfl
    go_enter Tryd.func7, Tryd.ntmps7
    go_wp2
    go_ret
    exact ⟨by rw [unhide hp]; rfl, rfl⟩

/-! ### column -/
def rawByte (x i : Nat) : Nat := (x / 2 ^ (i % 5 * 8) * (i + 1)) % 256
def rawCol (raw : Int) : List Nat := (List.range 16).map (rawByte (pickAt raw 1099511627776).toNat)
theorem rawCol_col (raw : Int) : IsCol (rawCol raw) := by
  constructor
  · simp [rawCol]
  · intro x hx
    simp only [rawCol, List.mem_map, rawByte] at hx
    obtain ⟨i, _, rfl⟩ := hx
    omega

theorem make16 (w : World) : (Instr.makeSlice 25 (.int .i64 16) (.int .i64 16)).run Tryd.prog w = .ok (.slice (some ⟨w.heap.size, 0, none⟩) 16 16) (w.alloc (.cells zA 5)) := by kernel_rfl
theorem buf_zero (w : World) : Buf (w.alloc (.cells zA 5)) w.heap.size zero16 := by
  have hg : (w.alloc (.cells (colA zero16) 5)).heap[w.heap.size]? = some (.cells (colA zero16) 5 (0, 0)) := heap_alloc_new w _
  have hc : ∀ j, j < 16 → (w.alloc (.cells zA 5)).cell? ⟨w.heap.size, j, none⟩ = some (B 0) := fun j hj => by
    show (w.alloc (.cells (colA zero16) 5)).cell? _ = _
    rw [cell_of_row _ _ _ _ _ _ hg]
    simp only [colA, zero16, List.map_replicate, List.getElem?_toArray, List.getElem?_replicate, hj, if_true]
  constructor
  · intro j v hv
    have hj : j < 16 := by have := (List.getElem?_eq_some_iff.1 hv).1; simpa [zero16] using this
    rw [Nat.zero_add, hc j hj]
    simp only [zero16, List.map_replicate, List.getElem?_replicate, hj, if_true] at hv
    exact hv
  · intro j hj
    have hj' : j < 16 := by simpa [zero16] using hj
    rw [Nat.zero_add, hc j hj']
    exact ⟨rfl, frozen_of_row _ _ j _ _ hg⟩

theorem raw_word (X k : Nat) : IntKind.u8.wrap ((X : Int) / 2 ^ (k % 5 * 8) * ((k : Int) + 1)) = ((rawByte X k : Nat) : Int) := by
  rw [IntKind.wrap_u8', rawByte]
  have : ((X : Int) / 2 ^ (k % 5 * 8) * ((k : Int) + 1)) = ((X / 2 ^ (k % 5 * 8) * (k + 1) : Nat) : Int) := by simp
  rw [this]
  omega

theorem raw_step {w : World} {g X k : Nat} (h : Buf w g (mixL (rawByte X) zero16 k)) (hk : k < 16) (v : Int) (hv : v = ((rawByte X k : Nat) : Int)) :
    Buf (w.setCell ⟨g, k, none⟩ (.int .u8 v)) g (mixL (rawByte X) zero16 (k + 1)) := by
  subst hv
  rw [← mixL_succ]
  exact h.set k (rawByte X k) (by rw [mixL_len]; exact hk)

set_option maxRecDepth 100000 in
set_option maxHeartbeats 2000000 in
theorem column_any (raw : Int) (w : World) (hc1 : -9223372036854775808 ≤ raw) (hc2 : raw ≤ 9223372036854775807) :
    Calls Tryd.prog 10 #[.int .i64 raw] w fun e w' => e = .returned (.slice (some ⟨w.heap.size, 0, none⟩) 16 16) ∧ Buf w' w.heap.size (rawCol raw) ∧ Below w.heap.size w w' := by
  have hmk := make16
  obtain ⟨p1, p2⟩ := pickAt_bd raw 1099511627776 (by omega)
  go_enter Tryd.func10, Tryd.ntmps10
  go_wp2_with fail
  refine (pick_any _ _ _ (by omega) hc1 hc2 (by omega)).mono ?_
  rintro e w1 ⟨rfl, rfl⟩
  obtain ⟨X, hX⟩ := Int.eq_ofNat_of_zero_le p1
  have HR : Hid (rawCol raw = (List.range 16).map (rawByte X)) := by unfold rawCol; rw [hX]; exact rfl
  rw [hX] at p2 ⊢
  have hX2 : X < 1099511627776 := by omega
  clear hX p1 hmk
  go_wp2
  go_loopw [5] (fun i wr => ∃ k : Nat, k ≤ 16 ∧ i = .int .i64 k ∧ Buf wr w.heap.size (mixL (rawByte X) zero16 k) ∧ Below w.heap.size w wr) (fun i _ => 16 - (intOf i).toNat)
  case atStart => exact ⟨0, by omega, rfl, by rw [mixL_zero _ (by rfl)]; exact buf_zero w, (Below.refl _ _).alloc (Nat.le_refl _) _⟩
  case round =>
    obtain ⟨k, hk, rfl, hbuf, hbel⟩ := hrel
    by_cases hlt : k < 16
    · have c1 := hbuf.cell k (by rw [mixL_len]; exact hlt)
      have c2 := hbuf.frozen k (by rw [mixL_len]; exact hlt)
      rw [mixL_at _ _ _ hlt] at c1
      have HBF := hide hbuf
      clear hbuf HR
      rcases (show k = 0 ∨ k = 1 ∨ k = 2 ∨ k = 3 ∨ k = 4 ∨ k = 5 ∨ k = 6 ∨ k = 7 ∨ k = 8 ∨ k = 9 ∨ k = 10 ∨ k = 11 ∨ k = 12 ∨ k = 13 ∨ k = 14 ∨ k = 15 from by omega) with rfl | rfl | rfl | rfl | rfl | rfl | rfl | rfl | rfl | rfl | rfl | rfl | rfl | rfl | rfl | rfl
      all_goals go_wp2
      all_goals go_roundw
      all_goals first | (simp [intOf]; done) | (refine ⟨_, ?_, ?_, raw_step (unhide HBF) (by omega) _ ?_, hbel.setCell (Nat.le_refl _) _⟩)
      all_goals first | omega | rfl | (simp [rawByte]; done) | (simp [rawByte]; omega)
    · obtain rfl : k = 16 := by omega
      rw [mixL_all, ← unhide HR] at hbuf
      have HBF := hide hbuf
      clear hbuf
      go_wp2
      go_ret
      exact ⟨rfl, unhide HBF, hbel⟩

end Go.Proofs.YtdcinlkkjbclmabDoor
