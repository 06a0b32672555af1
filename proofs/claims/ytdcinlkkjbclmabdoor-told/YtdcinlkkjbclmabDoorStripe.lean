/- The contracts of package stripe: plus, times, Parity: columns as lists of sixteen bytes. -/
import Derived.Test.YtdcinlkkjbclmabDoorField
import Derived.Deep.MidRow
namespace Go.Proofs.YtdcinlkkjbclmabDoor
open Go.RowKit

/-- a column's value -/
def colA (xs : List Nat) : Array Value := (xs.map B).toArray
def colV (xs : List Nat) : Value := .agg (colA xs)
structure IsCol (xs : List Nat) : Prop where
  len : xs.length = 16
  byte : ∀ x ∈ xs, x < 256
theorem IsCol.at {xs : List Nat} (h : IsCol xs) (k : Nat) (hk : k < 16) : xs.getD k 0 < 256 := by
  have := h.len
  rw [List.getD_eq_getElem?_getD, List.getElem?_eq_getElem (by omega), Option.getD_some]
  exact h.byte _ (List.getElem_mem _)

def zero16 : List Nat := List.replicate 16 0
def xorL (a b : List Nat) : List Nat := List.zipWith (· ^^^ ·) a b
def mulL (a : List Nat) (c : Nat) : List Nat := a.map fun x => gmul x c
theorem xorL_col {a b : List Nat} (ha : IsCol a) (hb : IsCol b) : IsCol (xorL a b) := by
  constructor
  · simp [xorL, ha.len, hb.len]
  · intro x hx
    obtain ⟨i, hi, rfl⟩ := List.getElem_of_mem hx
    simp only [xorL, List.getElem_zipWith]
    exact Nat.xor_lt_two_pow (n := 8) (ha.byte _ (List.getElem_mem _)) (hb.byte _ (List.getElem_mem _))
theorem mulL_col {a : List Nat} (ha : IsCol a) (c : Nat) : IsCol (mulL a c) := by
  constructor
  · simp [mulL, ha.len]
  · intro x hx
    simp only [mulL, List.mem_map] at hx
    obtain ⟨y, _, rfl⟩ := hx
    exact gmul_lt _ _
theorem zero_col : IsCol zero16 := ⟨by simp [zero16], by intro x hx; simp [zero16] at hx; omega⟩
theorem colA_size {a : List Nat} (ha : IsCol a) : (colA a).size = 16 := by simp [colA, ha.len]
theorem colA_at {a : List Nat} (k : Nat) (hk : k < a.length) : (colA a)[k]? = some (.int .u8 (a.getD k 0 : Nat)) := by
  simp [colA, B, hk]
theorem colA_one (a : List Nat) : (colA a).all (·.oneCell') = true := all_oneCell_toArray (by intro v hv; simp only [List.mem_map] at hv; obtain ⟨x, _, rfl⟩ := hv; rfl)

/-- block b of the world is a column's -/
def RowAt (w : World) (b : Nat) (xs : List Nat) : Prop := w.heap[b]? = some (.cells (colA xs) 41 (0, 0))
theorem RowAt.cell {w : World} {b : Nat} {xs : List Nat} (h : RowAt w b xs) (k : Nat) (hk : k < xs.length) : w.cell? ⟨b, k, none⟩ = some (.int .u8 (xs.getD k 0 : Nat)) := by
  rw [cell_of_row w b k _ _ _ h, colA_at k hk]
theorem RowAt.free {w : World} {b : Nat} {xs : List Nat} (h : RowAt w b xs) (k : Nat) : w.frozen? ⟨b, k, none⟩ = false := frozen_of_row w b k _ _ h
theorem RowAt.below {w w' : World} {b n : Nat} {xs : List Nat} (h : RowAt w b xs) (hb : Below n w w') (hn : b < n) : RowAt w' b xs := (hb.block b hn).trans h
theorem RowAt.alloc {w : World} {b : Nat} {xs : List Nat} (h : RowAt w b xs) (o : Obj) : RowAt (w.alloc o) b xs := by
  have hlt : b < w.heap.size := by
    rcases Nat.lt_or_ge b w.heap.size with h1 | h1
    · exact h1
    · have : w.heap[b]? = none := Array.getElem?_eq_none h1
      rw [RowAt, this] at h; cases h
  exact (Below.heap_alloc w o b hlt).trans h
theorem RowAt.lt {w : World} {b : Nat} {xs : List Nat} (h : RowAt w b xs) : b < w.heap.size := by
  rcases Nat.lt_or_ge b w.heap.size with h1 | h1
  · exact h1
  · have : w.heap[b]? = none := Array.getElem?_eq_none h1
    rw [RowAt, this] at h; cases h
theorem RowAt.new (w : World) (xs : List Nat) : RowAt (w.alloc (.cells (colA xs) 41)) w.heap.size xs := heap_alloc_new w _
theorem RowAt.setCell {w : World} {b : Nat} {xs : List Nat} (h : RowAt w b xs) (k x : Nat) : RowAt (w.setCell ⟨b, k, none⟩ (.int .u8 (x : Int))) b (xs.set k x) := by
  unfold RowAt
  rw [heap_setCell_same w b k _ _ _ h]
  simp [colA, B, List.map_set]
theorem RowAt.setCell_other {w : World} {b : Nat} {xs : List Nat} (h : RowAt w b xs) (a : Addr) (v : Value) (hne : b ≠ a.block) : RowAt (w.setCell a v) b xs :=
  (heap_setCell_other w a b v hne).trans h

/-- a whole block stored anew -/
theorem setCells_block (b : Nat) (t : TypeId) : ∀ (vs : List Value) (o : Nat) (w : World) (cs : Array Value), w.heap[b]? = some (.cells cs t (0, 0)) →
    ∃ cs', (w.setCells b o vs).heap[b]? = some (.cells cs' t (0, 0)) ∧ cs'.size = cs.size ∧ ∀ i : Nat, i < cs.size → cs'[i]? = if o ≤ i ∧ i < o + vs.length then vs[i - o]? else cs[i]?
  | [], o, w, cs, h => ⟨cs, h, rfl, fun i _ => by rw [if_neg (by simp only [List.length_nil]; omega)]⟩
  | v :: r, o, w, cs, h => by
    obtain ⟨cs', h1, h2, h3⟩ := setCells_block b t r (o + 1) (w.setCell ⟨b, o, none⟩ v) (cs.setIfInBounds o v) (heap_setCell_same w b o cs t v h)
    refine ⟨cs', h1, by simpa using h2, fun i hi => ?_⟩
    rw [h3 i (by simpa using hi)]
    by_cases e : i = o
    · subst e
      rw [if_neg (by omega), if_pos (by simp)]
      simp [hi]
    · by_cases e2 : o + 1 ≤ i ∧ i < o + 1 + r.length
      · rw [if_pos e2, if_pos (by simp; omega), show i - o = (i - (o + 1)) + 1 from by omega, List.getElem?_cons_succ]
      · rw [if_neg e2, if_neg (by simp; omega), Array.getElem?_setIfInBounds_ne (by omega)]
theorem RowAt.stored {w : World} {b : Nat} {xs : List Nat} (h : RowAt w b xs) (hx : xs.length = 16) {ys : List Nat} (hy : ys.length = 16) : RowAt (w.setCells b 0 (colA ys).toList) b ys := by
  obtain ⟨cs', h1, h2, h3⟩ := setCells_block b _ (colA ys).toList 0 w _ h
  have e : cs' = colA ys := by
    apply Array.ext_getElem?
    intro i
    have hs : (colA xs).size = 16 := by simp [colA, hx]
    have hs2 : (colA ys).size = 16 := by simp [colA, hy]
    rcases Nat.lt_or_ge i 16 with hi | hi
    · rw [h3 i (by omega), if_pos (by simp [colA, hy]; omega)]
      simp
    · rw [Array.getElem?_eq_none (by omega), Array.getElem?_eq_none (by omega)]
  rw [RowAt, h1, e]
theorem RowAt.there {w : World} {b : Nat} {xs : List Nat} (h : RowAt w b xs) (hx : xs.length = 16) : w.there b 0 16 := fun j hj => by
  simp only [Nat.zero_add]
  rw [h.cell j (by omega), h.free j]
  simp
theorem below_setCells {n : Nat} {w w' : World} (hb : Below n w w') (b o : Nat) (vs : List Value) (h : n ≤ b) : Below n w (w'.setCells b o vs) := by
  induction vs generalizing o w' with
  | nil => exact hb
  | cons v r ih => exact ih (hb.setCell (p := ⟨b, o, none⟩) h v) (o + 1)
theorem RowAt.setCells_other {w : World} {b : Nat} {xs : List Nat} (h : RowAt w b xs) (b' o : Nat) (vs : List Value) (hne : b ≠ b') : RowAt (w.setCells b' o vs) b xs := by
  induction vs generalizing o w with
  | nil => exact h
  | cons v r ih => exact ih (h.setCell_other ⟨b', o, none⟩ v hne) (o + 1)
theorem setCells_size (w : World) (b o : Nat) (vs : List Value) : (w.setCells b o vs).heap.size = w.heap.size := by
  induction vs generalizing o w with
  | nil => rfl
  | cons v r ih => rw [World.setCells, ih]; simp [World.setCell]

/-- the first k places added -/
def mixL (f : Nat → Nat) (a : List Nat) (k : Nat) : List Nat := (List.range 16).map fun i => if i < k then f i else a.getD i 0
theorem mixL_len (f : Nat → Nat) (a : List Nat) (k : Nat) : (mixL f a k).length = 16 := by simp [mixL]
theorem mixL_zero (f : Nat → Nat) {a : List Nat} (ha : a.length = 16) : mixL f a 0 = a := by
  apply List.ext_getElem (by simp [mixL, ha])
  intro i h1 h2
  simp [mixL, h2]
theorem mixL_at (f : Nat → Nat) (a : List Nat) (k : Nat) (hk : k < 16) : (mixL f a k).getD k 0 = a.getD k 0 := by
  simp [mixL, hk]
theorem mixL_succ (f : Nat → Nat) (a : List Nat) (k : Nat) : (mixL f a k).set k (f k) = mixL f a (k + 1) := by
  apply List.ext_getElem (by simp [mixL])
  intro i h1 h2
  simp only [mixL, List.getElem_set, List.getElem_map, List.getElem_range]
  by_cases e : k = i
  · subst e; simp
  · rw [if_neg e]
    by_cases e2 : i < k
    · rw [if_pos e2, if_pos (by omega)]
    · rw [if_neg e2, if_neg (by omega)]
theorem mixL_all (f : Nat → Nat) (a : List Nat) : mixL f a 16 = (List.range 16).map f := by
  apply List.ext_getElem (by simp [mixL])
  intro i h1 h2
  simp [mixL] at h1 ⊢
  intro h
  omega
theorem xorL_eq {a b : List Nat} (ha : a.length = 16) (hb : b.length = 16) : (List.range 16).map (fun i => a.getD i 0 ^^^ b.getD i 0) = xorL a b := by
  apply List.ext_getElem (by simp [xorL, ha, hb])
  intro i h1 h2
  simp at h1
  simp [xorL, ha, hb, h1]
theorem mulL_eq {a : List Nat} (ha : a.length = 16) (c : Nat) : (List.range 16).map (fun i => gmul (a.getD i 0) c) = mulL a c := by
  apply List.ext_getElem (by simp [mulL, ha])
  intro i h1 h2
  simp at h1
  simp [mulL, ha, h1]

theorem Tryd.colSize : (Tryd.prog.info? 41).map (·.size) = some 16 := by kernel_rfl

set_option maxHeartbeats 800000 in
theorem plus_any (a b : List Nat) (w : World) (ha : IsCol a) (hb : IsCol b) :
    Calls Tryd.prog 17 #[colV a, colV b] w fun e w' => e = .returned (colV (xorL a b)) ∧ Below w.heap.size w w' := by
  unfold colV
  go_enter Tryd.func17, Tryd.ntmps17
  go_wp2
  go_loopw [6] (fun i wr => ∃ k : Nat, k ≤ 16 ∧ i = .int .i64 k ∧ RowAt wr w.heap.size (mixL (fun i => a.getD i 0 ^^^ b.getD i 0) a k) ∧ RowAt wr (w.heap.size + 1) b ∧ RowAt wr (w.heap.size + 1 + 1) zero16 ∧ Below w.heap.size w wr) (fun i _ => 16 - (intOf i).toNat)
  case atStart =>
    refine ⟨0, by omega, rfl, ?_, ?_, ?_, ?_⟩
    · rw [mixL_zero _ ha.len]; exact ((RowAt.new w a).alloc _).alloc _
    · exact RowAt.alloc (by have := RowAt.new (w.alloc (.cells (colA a) 41)) b; simpa using this) _
    · have := RowAt.new ((w.alloc (.cells (colA a) 41)).alloc (.cells (colA b) 41)) zero16
      simp only [World.size_alloc] at this
      exact this
    · exact (((Below.refl _ _).alloc (Nat.le_refl _) _).alloc (by simp) _).alloc (by simp; omega) _
  case round =>
    obtain ⟨k, hk, rfl, hA, hB, hZ, hbel⟩ := hrel
    by_cases hlt : k < 16
    · have c1 := hA.cell k (by rw [mixL_len]; exact hlt)
      rw [mixL_at _ _ _ hlt] at c1
      have c2 := hB.cell k (by rw [hb.len]; exact hlt)
      have c3 := hA.free k
      have hi1 : (0 : Int) ≤ (k : Int) := by omega
      have hi2 : (k : Int) < 16 := by omega
      have HX := hide (u8_xor_nat _ _ (ha.at k hlt) (hb.at k hlt))
      have HA := hide hA
      have HB := hide hB
      have HZ := hide hZ
      clear hA hB hZ
      generalize hxa : a.getD k 0 = x at *
      generalize hxb : b.getD k 0 = y at *
      have HXA := hide hxa
      have HXB := hide hxb
      clear hxa hxb
      go_wp2
      go_region
      all_goals go_wp2
      go_roundw
      case rel =>
        refine ⟨k + 1, by omega, by go_num, ?_, ?_, ?_, ?_⟩
        · rw [unhide HX, ← mixL_succ]
          simp only [unhide HXA, unhide HXB]
          exact (unhide HA).setCell k (x ^^^ y)
        · exact (unhide HB).setCell_other _ _ (by simp)
        · exact (unhide HZ).setCell_other _ _ (by simp only; omega)
        · exact (hbel.setCell (p := ⟨w.heap.size, k, none⟩) (Nat.le_refl _) _).drew
      case measure => simp [intOf]; omega
    · obtain rfl : k = 16 := by omega
      rw [mixL_all, xorL_eq ha.len hb.len] at hA
      have hc := xorL_col ha hb
      have hsz : (Tryd.prog.info? 41).map (·.size) = some (colA (xorL a b)).size := by rw [colA_size hc]; exact Tryd.colSize
      have hth : wr.there (w.heap.size + 1 + 1) 0 (colA (xorL a b)).size := by rw [colA_size hc]; exact hZ.there (by rfl)
      have hR := hide (hZ.stored (by rfl) hc.len)
      have hBe := hide (below_setCells hbel (w.heap.size + 1 + 1) 0 (colA (xorL a b)).toList (by omega))
      have HA := hide hA
      have HT := hide hth
      clear hA hB hZ hbel hth
      go_wp2_with (first | (refine wpList_load_row rfl 41 _ rfl w.heap.size rfl 41 _ _ _ (unhide HA) Tryd.underlying41 rfl hsz ?_) | (refine wpList_store_mid rfl 41 _ _ rfl (w.heap.size + 1 + 1) 0 (colA (xorL a b)) rfl rfl (unhide HT) hsz (colA_one _) ?_))
      exact bodyPost_ret (v := colV (xorL a b)) (results_cell_row Tryd.results17 _ _ (w.heap.size + 1 + 1) _ _ _ _ rfl (unhide hR) Tryd.underlying41 rfl hsz) rfl ⟨rfl, unhide hBe⟩

theorem times_raw (a b : Nat) (w : World) (ha : a < 256) (hb : b < 256) (ht : Tabs w) :
    Calls Tryd.prog 22 #[.int .u8 (a : Int), .int .u8 (b : Int)] w fun e w' => e = .returned (.int .u8 ((gmul a b : Nat) : Int)) ∧ w' = w := times_any a b w ha hb ht

set_option maxHeartbeats 800000 in
theorem colTimes_any (a : List Nat) (c : Nat) (w : World) (ha : IsCol a) (hc : c < 256) (ht : Tabs w) :
    Calls Tryd.prog 18 #[colV a, B c] w fun e w' => e = .returned (colV (mulL a c)) ∧ Below w.heap.size w w' := by
  unfold colV
  rw [show B c = Value.int .u8 (c : Int) from rfl]
  have hs2 := ht.size
  go_enter Tryd.func18, Tryd.ntmps18
  go_wp2
  go_loopw [6] (fun i wr => ∃ k : Nat, k ≤ 16 ∧ i = .int .i64 k ∧ RowAt wr w.heap.size (mixL (fun i => gmul (a.getD i 0) c) a k) ∧ RowAt wr (w.heap.size + 1) zero16 ∧ Below w.heap.size w wr) (fun i _ => 16 - (intOf i).toNat)
  case atStart =>
    refine ⟨0, by omega, rfl, ?_, ?_, ?_⟩
    · rw [mixL_zero _ ha.len]; exact (RowAt.new w a).alloc _
    · have := RowAt.new (w.alloc (.cells (colA a) 41)) zero16
      simp only [World.size_alloc] at this
      exact this
    · exact ((Below.refl _ _).alloc (Nat.le_refl _) _).alloc (by simp) _
  case round =>
    obtain ⟨k, hk, rfl, hA, hZ, hbel⟩ := hrel
    by_cases hlt : k < 16
    · have c1 := hA.cell k (by rw [mixL_len]; exact hlt)
      rw [mixL_at _ _ _ hlt] at c1
      have c3 := hA.free k
      have HA := hide hA
      have HZ := hide hZ
      have HT := hide (ht.below hs2 hbel)
      have hx := ha.at k hlt
      clear hA hZ
      generalize hxa : a.getD k 0 = x at *
      have HXA := hide hxa
      clear hxa
      go_wp2_with fail
      refine (times_raw x c _ hx hc (unhide HT)).mono ?_
      rintro e w1 ⟨rfl, rfl⟩
      go_wp2
      go_roundw
      case rel =>
        refine ⟨k + 1, by omega, by go_num, ?_, ?_, ?_⟩
        · rw [← mixL_succ]
          simp only [unhide HXA]
          exact (unhide HA).setCell k (gmul x c)
        · exact (unhide HZ).setCell_other _ _ (by simp)
        · exact hbel.setCell (p := ⟨w.heap.size, k, none⟩) (Nat.le_refl _) _
      case measure => simp [intOf]; omega
    · obtain rfl : k = 16 := by omega
      rw [mixL_all, mulL_eq ha.len] at hA
      have hcc := mulL_col ha c
      have hsz : (Tryd.prog.info? 41).map (·.size) = some (colA (mulL a c)).size := by rw [colA_size hcc]; exact Tryd.colSize
      have hth : wr.there (w.heap.size + 1) 0 (colA (mulL a c)).size := by rw [colA_size hcc]; exact hZ.there (by rfl)
      have hR := hide (hZ.stored (by rfl) hcc.len)
      have hBe := hide (below_setCells hbel (w.heap.size + 1) 0 (colA (mulL a c)).toList (by omega))
      have HA := hide hA
      have HT := hide hth
      clear hA hZ hbel hth ht
      go_wp2_with (first | (refine wpList_load_row rfl 41 _ rfl w.heap.size rfl 41 _ _ _ (unhide HA) Tryd.underlying41 rfl hsz ?_) | (refine wpList_store_mid rfl 41 _ _ rfl (w.heap.size + 1) 0 (colA (mulL a c)) rfl rfl (unhide HT) hsz (colA_one _) ?_))
      exact bodyPost_ret (v := colV (mulL a c)) (results_cell_row Tryd.results18 _ _ (w.heap.size + 1) _ _ _ _ rfl (unhide hR) Tryd.underlying41 rfl hsz) rfl ⟨rfl, unhide hBe⟩

/-! ### Parity -/
/-- the columns P and Q of the first k data columns -/
def parP (cs : List (List Nat)) : Nat → List Nat
  | 0 => zero16
  | k + 1 => xorL (parP cs k) (cs.getD k [])
def parQ (cs : List (List Nat)) : Nat → List Nat
  | 0 => zero16
  | k + 1 => xorL (parQ cs k) (mulL (cs.getD k []) (powN k))
structure AreCols (cs : List (List Nat)) : Prop where
  col : ∀ k, k < cs.length → IsCol (cs.getD k [])
theorem parP_col {cs : List (List Nat)} (h : AreCols cs) (k : Nat) (hk : k ≤ cs.length) : IsCol (parP cs k) := by
  induction k with
  | zero => exact zero_col
  | succ k ih => exact xorL_col (ih (by omega)) (h.col k (by omega))
theorem parQ_col {cs : List (List Nat)} (h : AreCols cs) (k : Nat) (hk : k ≤ cs.length) : IsCol (parQ cs k) := by
  induction k with
  | zero => exact zero_col
  | succ k ih => exact xorL_col (ih (by omega)) (mulL_col (h.col k (by omega)) _)

/-- a list of columns lies in block b, from its head on -/
def ColsAt (w : World) (b : Nat) (cs : List (List Nat)) : Prop := ∀ k, k < cs.length → w.rangeAt b (k * 16) ((cs.getD k []).map B)
theorem range_below {w w' : World} {b o n : Nat} {vs : List Value} (h : w.rangeAt b o vs) (hb : Below n w w') (hn : b < n) : w'.rangeAt b o vs := fun j v hv => (hb.cell (by exact hn)).trans (h j v hv)
theorem ColsAt.below {w w' : World} {b n : Nat} {cs : List (List Nat)} (h : ColsAt w b cs) (hb : Below n w w') (hn : b < n) : ColsAt w' b cs := fun k hk => range_below (h k hk) hb hn

end Go.Proofs.YtdcinlkkjbclmabDoor
