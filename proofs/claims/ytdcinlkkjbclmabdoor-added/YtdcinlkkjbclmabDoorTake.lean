/- The contracts of slices.Index, slices.Contains over ints, and of platter's take. -/
import Derived.Test.YtdcinlkkjbclmabDoorGive
import Derived.Laws.Cover3
namespace Go.Proofs.YtdcinlkkjbclmabDoor
open Go.RowKit

/-- a slice of ints -/
def SlI (w : World) (v : Value) (ms : List Int) : Prop := ∃ (a : Option Addr) (cap : Nat), v = .slice a ms.length cap ∧ (ms = [] ∨ ∃ b o : Nat, a = some ⟨b, o, none⟩ ∧ w.rangeAt b o (ms.map (Value.int .i64)))
/-- a slice of bytes -/
def SlB (w : World) (v : Value) (xs : List Nat) : Prop := ∃ (a : Option Addr) (cap : Nat), v = .slice a xs.length cap ∧ (xs = [] ∨ ∃ b o : Nat, a = some ⟨b, o, none⟩ ∧ w.rangeAt b o (xs.map B))
/-- a slice of slices of bytes -/
def SlL (w : World) (v : Value) (Ls : List (List Nat)) : Prop := ∃ (a : Option Addr) (cap : Nat), v = .slice a Ls.length cap ∧ (Ls = [] ∨ ∃ b o : Nat, a = some ⟨b, o, none⟩ ∧ ∀ i, i < Ls.length → ∃ u, w.cell? ⟨b, o + i, none⟩ = some u ∧ SlB w u (Ls.getD i []))

theorem range_lt {w : World} {b o : Nat} {vs : List Value} (h : w.rangeAt b o vs) (hv : 0 < vs.length) : b < w.heap.size := by
  have := h 0 vs[0] (by simp [hv])
  exact block_lt_of_cell this
theorem range_keep {w w' : World} {b o : Nat} {vs : List Value} (h : w.rangeAt b o vs) (hb : Below w.heap.size w w') : w'.rangeAt b o vs := by
  intro j v hv
  have h1 := h j v hv
  rw [hb.cell (block_lt_of_cell h1)]
  exact h1
theorem SlB.below {w w' : World} {v : Value} {xs : List Nat} (h : SlB w v xs) (hb : Below w.heap.size w w') : SlB w' v xs := by
  obtain ⟨a, cap, hv, h | ⟨b, o, ha, hr⟩⟩ := h
  · exact ⟨a, cap, hv, .inl h⟩
  · exact ⟨a, cap, hv, .inr ⟨b, o, ha, range_keep hr hb⟩⟩
theorem SlI.below {w w' : World} {v : Value} {xs : List Int} (h : SlI w v xs) (hb : Below w.heap.size w w') : SlI w' v xs := by
  obtain ⟨a, cap, hv, h | ⟨b, o, ha, hr⟩⟩ := h
  · exact ⟨a, cap, hv, .inl h⟩
  · exact ⟨a, cap, hv, .inr ⟨b, o, ha, range_keep hr hb⟩⟩
theorem SlL.below {w w' : World} {v : Value} {Ls : List (List Nat)} (h : SlL w v Ls) (hb : Below w.heap.size w w') : SlL w' v Ls := by
  obtain ⟨a, cap, hv, h | ⟨b, o, ha, hr⟩⟩ := h
  · exact ⟨a, cap, hv, .inl h⟩
  · refine ⟨a, cap, hv, .inr ⟨b, o, ha, fun i hi => ?_⟩⟩
    obtain ⟨u, h1, h2⟩ := hr i hi
    exact ⟨u, by rw [hb.cell (block_lt_of_cell h1)]; exact h1, h2.below hb⟩

def inI (ms : List Int) (x : Int) : Bool := ms.contains x

theorem int_at (ms : List Int) (k : Nat) (h : k < ms.length) : (ms.map (Value.int .i64))[k]? = some (.int .i64 (ms.getD k 0)) := by
  simp [h]
theorem no_head (ms : List Int) (x : Int) (k : Nat) (hno : ∀ j, j < k → (x == ms.getD j 0) = false) (hk : ms.length ≤ k) : inI ms x = false := by
  rw [inI]
  rw [List.contains_eq_any_beq, Bool.eq_false_iff]
  intro h
  rw [List.any_eq_true] at h
  obtain ⟨y, hy, he⟩ := h
  obtain ⟨i, hi, rfl⟩ := List.getElem_of_mem hy
  have := hno i (by omega)
  simp [hi] at this
  simp at he
  exact this he
theorem yes_head (ms : List Int) (x : Int) (k : Nat) (hk : k < ms.length) (he : (x == ms.getD k 0) = true) : inI ms x = true := by
  have h1 : x = ms[k] := by simpa [hk] using he
  rw [h1, inI]
  simp

set_option maxHeartbeats 400000 in
theorem index_any (v : Value) (ms : List Int) (x : Int) (w : World) (hv : SlI w v ms) (hl : ms.length ≤ 1000000000) :
    Calls Tryd.prog 21 #[v, .int .i64 x] w fun e w' => ∃ i : Int, e = .returned (.int .i64 i) ∧ (0 ≤ i ↔ inI ms x = true) ∧ w' = w := by
  obtain ⟨a, cap, rfl, hr⟩ := hv
  have HR := hide hr
  clear hr
  go_enter Tryd.func21, Tryd.ntmps21
  go_wp2
  go_loop [8] (fun i => ∃ k : Nat, k ≤ ms.length ∧ i = .int .i64 k ∧ ∀ j, j < k → (x == ms.getD j 0) = false) (fun i => ms.length - (intOf i).toNat)
  case atStart => exact ⟨0, Nat.zero_le _, rfl, by intro j hj; omega⟩
  case round =>
    obtain ⟨k, hk, rfl, hno⟩ := hrel
    have HN := hide hno
    clear hno
    by_cases hlt : k < ms.length
    · rcases unhide HR with h0 | ⟨b, o, rfl, hrange⟩
      · rw [h0] at hlt; simp at hlt
      · have hcell : w.cell? ⟨b, o + k, none⟩ = some (.int .i64 (ms.getD k 0)) := hrange k _ (int_at ms k hlt)
        have hi1 : (0 : Int) ≤ (k : Int) := by omega
        have hi2 : (k : Int) < (ms.length : Int) := by omega
        clear hrange
        obtain ⟨y, hy⟩ : ∃ y, ms.getD k 0 = y := ⟨_, rfl⟩
        rw [hy] at hcell
        cases hq : (x == y) with
        | true =>
          have HY := hide (yes_head ms x k hlt (by rw [hy]; exact hq))
          clear hy
          go_wp2
          go_ret
          exact ⟨_, rfl, ⟨fun _ => unhide HY, fun _ => by omega⟩, rfl⟩
        | false =>
          have HY : Hid ((x == ms.getD k 0) = false) := by rw [hy]; exact hq
          clear hy
          go_wp2
          go_round
          case rel =>
            refine ⟨k + 1, by omega, by go_num, fun j hj => ?_⟩
            rcases Nat.lt_or_ge j k with h1 | h1
            · exact unhide HN j h1
            · obtain rfl : j = k := by omega
              exact unhide HY
          case measure => simp [intOf]; omega
    · have HX := hide (no_head ms x k (unhide HN) (by omega))
      go_wp2
      go_ret
      exact ⟨-1, rfl, ⟨fun h => by omega, fun h => by rw [unhide HX] at h; cases h⟩, rfl⟩

set_option maxHeartbeats 400000 in
theorem contains_any (v : Value) (ms : List Int) (x : Int) (w : World) (hv : SlI w v ms) (hl : ms.length ≤ 1000000000) :
    Calls Tryd.prog 16 #[v, .int .i64 x] w fun e w' => e = .returned (.bool (inI ms x)) ∧ w' = w := by
  go_enter Tryd.func16, Tryd.ntmps16
  go_wp2_with fail
  refine (index_any v ms x _ hv hl).mono ?_
  rintro e w1 ⟨i, rfl, hi, rfl⟩
  cases hc : inI ms x with
  | true =>
    have h0 : 0 ≤ i := hi.2 hc
    have HC := hide hc
    clear hc hi
    go_wp2
    go_ret
    exact ⟨by rw [unhide HC]; rfl, rfl⟩
  | false =>
    have h0 : decide (0 ≤ i) = false := by
      rw [decide_eq_false_iff_not]
      intro h
      rw [hi.1 h] at hc; cases hc
    have HC := hide hc
    clear hc hi
    go_wp2
    go_ret
    exact ⟨by rw [unhide HC]; rfl, rfl⟩

/-- a list of columns of the call's own, in block g -/
structure Cols (w : World) (g : Nat) (cs : List (List Nat)) : Prop where
  lies : ColsAt w g cs
  free : w.there g 0 (cs.length * 16)
  lt : g < w.heap.size
theorem there_keep {w w' : World} {b o n : Nat} (h : w.there b o n) (hb : Below w.heap.size w w') (hlt : b < w.heap.size) : w'.there b o n := fun j hj => by
  rw [hb.cell (by exact hlt), hb.frozen (by exact hlt)]
  exact h j hj
theorem Cols.below {w w' : World} {g : Nat} {cs : List (List Nat)} (h : Cols w g cs) (hb : Below w.heap.size w w') : Cols w' g cs :=
  ⟨h.lies.below hb h.lt, there_keep h.free hb h.lt, Nat.lt_of_lt_of_le h.lt hb.size⟩
theorem there_part {w : World} {b n o m : Nat} (h : w.there b 0 n) (hm : o + m ≤ n) : w.there b o m := fun j hj => by
  have := h (o + j) (by omega)
  simpa using this
theorem getD_set (cs : List (List Nat)) (k j : Nat) (x : List Nat) (hk : k < cs.length) : (cs.set k x).getD j [] = if j = k then x else cs.getD j [] := by
  simp only [List.getD_eq_getElem?_getD, List.getElem?_set]
  by_cases e : k = j
  · subst e; simp [hk]
  · rw [if_neg e, if_neg (fun h => e h.symm)]
theorem Cols.store {w : World} {g : Nat} {cs : List (List Nat)} (h : Cols w g cs) (hcs : AreCols cs) (k : Nat) (hk : k < cs.length) {x : List Nat} (hx : x.length = 16) :
    Cols (w.setCells g (k * 16) (colA x).toList) g (cs.set k x) := by
  have hl : (colA x).toList.length = 16 := by simp [colA, hx]
  refine ⟨fun j hj => ?_, ?_, by rw [setCells_size]; exact h.lt⟩
  · rw [List.length_set] at hj
    rw [getD_set cs k j x hk]
    by_cases e : j = k
    · subst e
      rw [if_pos rfl]
      have := World.rangeAt_setCells_same w g (j * 16) (colA x).toList (by rw [hl]; exact there_part h.free (by omega))
      simpa [colA] using this
    · rw [if_neg e]
      have hjl : ((cs.getD j []).map B).length = 16 := by rw [List.length_map]; exact (hcs.col j hj).len
      exact World.rangeAt_setCells_apart (h.lies j hj) g (k * 16) (colA x).toList (by rw [hjl, hl]; omega)
  · rw [List.length_set]
    exact World.there_setCells h.free g (k * 16) (colA x).toList

def takenTo (Ls : List (List Nat)) (ms : List Int) (k : Nat) : List (List Nat) := (List.range Ls.length).map fun i => if i < k ∧ inI ms i = false then Ls.getD i [] else zero16
theorem takenTo_len (Ls : List (List Nat)) (ms : List Int) (k : Nat) : (takenTo Ls ms k).length = Ls.length := by simp [takenTo]
theorem takenTo_at (Ls : List (List Nat)) (ms : List Int) (k i : Nat) (hi : i < Ls.length) : (takenTo Ls ms k).getD i [] = if i < k ∧ inI ms i = false then Ls.getD i [] else zero16 := by
  simp [takenTo, hi]
theorem takenTo_skip (Ls : List (List Nat)) (ms : List Int) (k : Nat) (h : inI ms k = true) : takenTo Ls ms (k + 1) = takenTo Ls ms k := by
  apply List.ext_getElem (by simp [takenTo])
  intro i h1 h2
  simp only [takenTo, List.getElem_map, List.getElem_range]
  by_cases e : i = k
  · subst e; simp [h]
  · congr 1
    simp only [eq_iff_iff]
    constructor
    · rintro ⟨a, b⟩; exact ⟨by omega, b⟩
    · rintro ⟨a, b⟩; exact ⟨by omega, b⟩
theorem takenTo_set (Ls : List (List Nat)) (ms : List Int) (k : Nat) (h : inI ms k = false) : takenTo Ls ms (k + 1) = (takenTo Ls ms k).set k (Ls.getD k []) := by
  apply List.ext_getElem (by simp [takenTo])
  intro i h1 h2
  simp only [takenTo, List.getElem_set, List.getElem_map, List.getElem_range]
  by_cases e : k = i
  · subst e; simp [h]
  · rw [if_neg e]
    congr 1
    simp only [eq_iff_iff]
    constructor
    · rintro ⟨a, b⟩; exact ⟨by omega, b⟩
    · rintro ⟨a, b⟩; exact ⟨by omega, b⟩
/-- the columns that are not missing are columns -/
def Sized (Ls : List (List Nat)) (ms : List Int) : Prop := ∀ i, i < Ls.length → inI ms i = false → IsCol (Ls.getD i [])
theorem takenTo_cols (Ls : List (List Nat)) (ms : List Int) (k : Nat) (h : ∀ i, i < k → i < Ls.length → inI ms i = false → IsCol (Ls.getD i [])) : AreCols (takenTo Ls ms k) := by
  refine ⟨fun i hi => ?_⟩
  rw [takenTo_len] at hi
  rw [takenTo_at _ _ _ _ hi]
  split
  · rename_i hc; exact h i hc.1 hi hc.2
  · exact zero_col

theorem Tryd.infoC : (Tryd.prog.info? 41).map (fun i => (i.zero, i.size, i.bytes)) = some (some (.agg zA), 16, 16) := by kernel_rfl

theorem made_at (n j : Nat) (h : j < n * 16) : (madeCells (Value.agg zA).cells (n * 16))[j]? = some (B 0) := by
  have hs : (Value.agg zA).cells = zA := rfl
  rw [hs]
  simp only [madeCells, Array.getElem?_map, Array.getElem?_range, h, if_true, Option.map_some]
  congr 1
  have hm : j % 16 < 16 := Nat.mod_lt _ (by omega)
  have hz : zA.size = 16 := rfl
  rw [hz]
  generalize j % 16 = r at *
  rcases (show r = 0 ∨ r = 1 ∨ r = 2 ∨ r = 3 ∨ r = 4 ∨ r = 5 ∨ r = 6 ∨ r = 7 ∨ r = 8 ∨ r = 9 ∨ r = 10 ∨ r = 11 ∨ r = 12 ∨ r = 13 ∨ r = 14 ∨ r = 15 from by omega) with rfl | rfl | rfl | rfl | rfl | rfl | rfl | rfl | rfl | rfl | rfl | rfl | rfl | rfl | rfl | rfl <;> rfl

theorem cols_made {w : World} {base g n : Nat} {Ls : List (List Nat)} {ms : List Int} (hn : n = Ls.length) (h : w.ownsRow base 41 16 (.slice (some ⟨g, 0, none⟩) n n) n (madeCells (Value.agg zA).cells (n * 16)).toList) (hlt : g < w.heap.size) : Cols w g (takenTo Ls ms 0) := by
  have hc : ∀ j, j < n * 16 → w.cell? ⟨g, j, none⟩ = some (B 0) := fun j hj => by
    rw [h.cellAt j hj, Array.getElem?_toList, made_at n j hj]
  refine ⟨fun k hk => ?_, fun j hj => ?_, hlt⟩
  · rw [takenTo_len] at hk
    rw [takenTo_at _ _ _ _ hk, if_neg (by omega)]
    intro j v hv
    have hj : j < 16 := by
      have := (List.getElem?_eq_some_iff.1 hv).1
      simpa [zero16] using this
    rw [hc _ (by omega)]
    simp only [zero16, List.map_replicate, List.getElem?_replicate, hj, if_true] at hv
    exact hv
  · rw [takenTo_len] at hj
    simp only [Nat.zero_add]
    rw [hc j (by omega), h.frozenAt j]
    simp

theorem slB_len {w : World} {u : Value} {xs : List Nat} (h : SlB w u xs) : ∃ a cap, u = .slice a xs.length cap := by
  obtain ⟨a, cap, hv, _⟩ := h
  exact ⟨a, cap, hv⟩

set_option maxHeartbeats 1000000 in
theorem take_any (v m : Value) (Ls : List (List Nat)) (ms : List Int) (w : World) (hv : SlL w v Ls) (hm : SlI w m ms) (h1 : 0 < Ls.length) (h8 : Ls.length ≤ 8) (hl : ms.length ≤ 1000000000)
    (hby : ∀ i, i < Ls.length → ∀ x ∈ Ls.getD i [], x < 256) (hbd : ∀ i, i < Ls.length → (Ls.getD i []).length ≤ 140737488355328) :
    Calls Tryd.prog 12 #[v, m] w fun e w' => Below w.heap.size w w' ∧
      ((∃ g : Nat, e = .returned (.tuple #[.slice (some ⟨g, 0, none⟩) Ls.length Ls.length, .bool true]) ∧ w.heap.size ≤ g ∧ Cols w' g (takenTo Ls ms Ls.length) ∧ Sized Ls ms) ∨
       (e = .returned (.tuple #[.slice none 0 0, .bool false]) ∧ ¬ Sized Ls ms)) := by
  obtain ⟨i0, hi, hz0, hz1, hz2⟩ := info_parts Tryd.infoC
  obtain ⟨a, cap, rfl, hd⟩ := hv
  rcases hd with h0 | ⟨b, o, rfl, hd⟩
  · rw [h0] at h1; simp at h1
  have HD := hide hd
  have HM := hide hm
  have HBY := hide hby
  have HBD := hide hbd
  clear hd hm hby hbd
  go_enter Tryd.func12, Tryd.ntmps12
  go_wp2_with (at_make; refine wpList_make_full _ rfl _ _ 37 rfl w.heap.size 41 i0 (.agg zA) 16 Tryd.underlying37 hi hz0 hz1 .i64 .i64 _ _ Ls.length rfl rfl (by omega) (by omega) (by rw [hz2]; omega) (by unfold maxLen; omega) (Nat.le_refl _) ?_)
  intro w1 hown hgrow
  have hbel : Below w.heap.size w w1 := (Below.refl _ _).grown hgrow (Nat.le_refl _) (fun k hk => by cases hk)
  have hlt1 : w.heap.size < w1.heap.size := by
    obtain ⟨g, c, he, _, hlt⟩ := hown.form h1
    simp at he
    obtain ⟨rfl, _⟩ := he
    exact hlt
  have HC := hide (cols_made (Ls := Ls) (ms := ms) rfl hown hlt1)
  have HB := hide hbel
  clear hown hgrow hbel
  go_wp2
  go_loopw [14] (fun i wr => ∃ k : Nat, k ≤ Ls.length ∧ i = .int .i64 k ∧ Below w.heap.size w wr ∧ Cols wr w.heap.size (takenTo Ls ms k) ∧ ∀ i, i < k → i < Ls.length → inI ms i = false → IsCol (Ls.getD i [])) (fun i _ => Ls.length - (intOf i).toNat)
  case atStart => exact ⟨0, Nat.zero_le _, rfl, unhide HB, unhide HC, by intro i hi; omega⟩
  case round =>
    obtain ⟨k, hk, rfl, hbw, hcols, hcl⟩ := hrel
    clear HC HB hlt1
    have HBW := hide hbw
    have HCO := hide hcols
    have HCL := hide hcl
    clear hcols hcl
    by_cases hlt : k < Ls.length
    · obtain ⟨u, hu, hsb⟩ := (unhide HD) k hlt
      have hsb' := hsb.below hbw
      obtain ⟨a1, cap1, rfl, hx⟩ := hsb'
      have hcell : wr.cell? ⟨b, o + k, none⟩ = some (.slice a1 (Ls.getD k []).length cap1) := by
        rw [hbw.cell (block_lt_of_cell hu)]; exact hu
      have hi1 : (0 : Int) ≤ (k : Int) := by omega
      have hi2 : (k : Int) < (Ls.length : Int) := by omega
      have HX := hide hx
      have hmr := hide ((unhide HM).below hbw)
      clear hx hu hsb hbw
      have hbd := (unhide HBD) k hlt
      obtain ⟨L, hL⟩ : ∃ L, Ls.getD k [] = L := ⟨_, rfl⟩
      rw [hL] at hcell hbd
      have HL := hide hL
      clear hL
      go_wp2_with fail
      refine (contains_any m ms k _ (unhide hmr) hl).mono ?_
      rintro e w2 ⟨rfl, rfl⟩
      cases hin : inI ms k with
      | true =>
        have HS := hide (takenTo_skip Ls ms k hin)
        have HIN := hide hin
        clear hin
        go_wp2
        go_roundw
        case rel =>
          refine ⟨k + 1, by omega, by go_num, unhide HBW, by rw [unhide HS]; exact unhide HCO, fun i hi hi' hn => ?_⟩
          rcases Nat.lt_or_ge i k with h | h
          · exact unhide HCL i h hi' hn
          · obtain rfl : i = k := by omega
            rw [unhide HIN] at hn; cases hn
        case measure => simp [intOf]; omega
      | false =>
        have HS := hide (takenTo_set Ls ms k hin)
        have HIN := hide hin
        clear hin
        by_cases h16 : L.length = 16
        · rcases unhide HX with h0 | ⟨b1, o1, rfl, hr1⟩
          · rw [unhide HL] at h0; rw [h0] at h16; simp at h16
          · rw [unhide HL] at hr1
            have hLc : IsCol L := ⟨h16, by have := (unhide HBY) k hlt; rw [unhide HL] at this; exact this⟩
            have hszL : (Tryd.prog.info? 41).map (·.size) = some (L.map B).length := by rw [List.length_map, h16]; exact Tryd.colSize
            have hszA : (Tryd.prog.info? 41).map (·.size) = some (colA L).size := by rw [colA_size hLc]; exact Tryd.colSize
            have hth : w2.there w.heap.size (k * 16) (colA L).size := by
              rw [colA_size hLc]
              have := (unhide HCO).free
              rw [takenTo_len] at this
              exact there_part this (by omega)
            have hne : ((L.length : Int) != 16) = false := by rw [h16]; rfl
            have hge : (16 : Int) ≤ (L.length : Int) := by omega
            have harr := fun (w' : World) => run_arrayAt (P := Tryd.prog) (w := w') 41 5 16 (some ⟨b1, o1, none⟩) L.length cap1 Tryd.underlying41 (by omega)
            have HR1 := hide hr1
            have HTH := hide hth
            have H16 := hide h16
            clear hr1 hth h16
            go_wp2_with (first | (refine wpList_load_mid rfl 41 _ rfl b1 o1 rfl _ _ (unhide HR1) Tryd.underlying41 rfl hszL ?_) | (refine wpList_store_mid rfl 41 _ _ rfl w.heap.size (k * 16) (colA L) rfl rfl (unhide HTH) hszA (colA_one _) ?_))
            have HB2 := hide (below_setCells (unhide HBW) w.heap.size (k * 16) (colA L).toList (Nat.le_refl _))
            have HC2 := (unhide HCO).store (takenTo_cols Ls ms k (unhide HCL)) k (by rw [takenTo_len]; exact hlt) (unhide H16)
            have HC3 : Hid (Cols (w2.setCells w.heap.size (k * 16) (colA L).toList) w.heap.size (takenTo Ls ms (k + 1))) := by rw [unhide HS, unhide HL]; exact HC2
            clear HC2
            go_roundw
            case rel =>
              refine ⟨k + 1, by omega, by go_num, unhide HB2, unhide HC3, fun i hi hi' hn => ?_⟩
              rcases Nat.lt_or_ge i k with h | h
              · exact unhide HCL i h hi' hn
              · obtain rfl : i = k := by omega
                rw [unhide HL]; exact hLc
            case measure => simp [intOf]; omega
        · have hne : ((L.length : Int) != 16) = true := by rw [bne_iff_ne]; omega
          have HNO : Hid (¬ Sized Ls ms) := hide (fun h => h16 (by have := (h k hlt (unhide HIN)).len; rw [unhide HL] at this; exact this))
          clear h16
          go_wp2
          go_ret2
          exact ⟨unhide HBW, .inr ⟨rfl, unhide HNO⟩⟩
    · obtain rfl : k = Ls.length := by omega
      have HSZ : Hid (Sized Ls ms) := hide (fun i hi hn => unhide HCL i hi hi hn)
      clear hbw
      go_wp2
      go_ret2
      exact ⟨unhide HBW, .inl ⟨w.heap.size, rfl, Nat.le_refl _, unhide HCO, unhide HSZ⟩⟩

end Go.Proofs.YtdcinlkkjbclmabDoor
