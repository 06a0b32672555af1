/- The contract of platterlaw.given. -/
import Derived.Test.YtdcinlkkjbclmaaDoorMath
import Derived.Deep.OwnRows
import Derived.Laws.CopyOwn
namespace Go.Proofs.YtdcinlkkjbclmaaDoor
open Go.RowKit

/-- bytes as they are read, and whether the slice is nil -/
def SlBn (w : World) (u : Value) (xs : List Nat) (zn : Bool) : Prop :=
  (zn = true ∧ u = .slice none 0 0 ∧ xs = []) ∨ (zn = false ∧ ∃ (x : Addr) (cap : Nat), u = .slice (some x) xs.length cap ∧ (xs = [] ∨ ∃ b o : Nat, x = ⟨b, o, none⟩ ∧ w.rangeAt b o (xs.map B)))
theorem SlBn.slB {w : World} {u : Value} {xs : List Nat} {zn : Bool} (h : SlBn w u xs zn) : SlB w u xs := by
  rcases h with ⟨_, rfl, rfl⟩ | ⟨_, x, cap, rfl, h⟩
  · exact ⟨none, 0, rfl, Or.inl rfl⟩
  · refine ⟨some x, cap, rfl, ?_⟩
    rcases h with h | ⟨b, o, rfl, h⟩
    · exact Or.inl h
    · exact Or.inr ⟨b, o, rfl, h⟩
theorem SlBn.below {w w' : World} {u : Value} {xs : List Nat} {zn : Bool} (h : SlBn w u xs zn) (hb : Below w.heap.size w w') : SlBn w' u xs zn := by
  rcases h with h | ⟨h1, x, cap, rfl, h⟩
  · exact Or.inl h
  · refine Or.inr ⟨h1, x, cap, rfl, ?_⟩
    rcases h with h | ⟨b, o, rfl, h⟩
    · exact Or.inl h
    · exact Or.inr ⟨b, o, rfl, range_keep h hb⟩
/-- lists of bytes as they are read, and which are nil -/
def SlLn (w : World) (v : Value) (Ls : List (List Nat)) (zn : Bool) (z : Nat → Bool) : Prop :=
  (zn = true ∧ v = .slice none 0 0 ∧ Ls = []) ∨ (zn = false ∧ ∃ (x : Addr) (cap : Nat), v = .slice (some x) Ls.length cap ∧
    (Ls = [] ∨ ∃ b o : Nat, x = ⟨b, o, none⟩ ∧ ∀ i, i < Ls.length → ∃ u, w.cell? ⟨b, o + i, none⟩ = some u ∧ SlBn w u (Ls.getD i []) (z i)))
theorem SlLn.slL {w : World} {v : Value} {Ls : List (List Nat)} {zn : Bool} {z : Nat → Bool} (h : SlLn w v Ls zn z) : SlL w v Ls := by
  rcases h with ⟨_, rfl, rfl⟩ | ⟨_, x, cap, rfl, h⟩
  · exact ⟨none, 0, rfl, Or.inl rfl⟩
  · refine ⟨some x, cap, rfl, ?_⟩
    rcases h with h | ⟨b, o, rfl, h⟩
    · exact Or.inl h
    · refine Or.inr ⟨b, o, rfl, fun i hi => ?_⟩
      obtain ⟨u, h1, h2⟩ := h i hi
      exact ⟨u, h1, h2.slB⟩
theorem SlLn.below {w w' : World} {v : Value} {Ls : List (List Nat)} {zn : Bool} {z : Nat → Bool} (h : SlLn w v Ls zn z) (hb : Below w.heap.size w w') : SlLn w' v Ls zn z := by
  rcases h with h | ⟨h1, x, cap, rfl, h⟩
  · exact Or.inl h
  · refine Or.inr ⟨h1, x, cap, rfl, ?_⟩
    rcases h with h | ⟨b, o, rfl, h⟩
    · exact Or.inl h
    · refine Or.inr ⟨b, o, rfl, fun i hi => ?_⟩
      obtain ⟨u, h1, h2⟩ := h i hi
      exact ⟨u, (hb.cell (block_lt_of_cell h1)).trans h1, h2.below hb⟩

theorem rowIs_below {w w' : World} {g n m : Nat} {t : TypeId} {f : Nat → Value} (h : w.rowIs g t m f) (hb : Below n w w') (hg : g < n) : w'.rowIs g t m f := h.of_block (hb.block g hg)

/-- a column that is handed in: its bytes, then the stain -/
def extV (xs : List Nat) (j : Nat) : Value := if j < xs.length then B (xs.getD j 0) else B 77
def gV (Ls : List (List Nat)) (z : Nat → Bool) (Gf : Nat → Nat) (i : Nat) : Value := if z i = true then .slice none 0 0 else .slice (some ⟨Gf i, 0, none⟩) (Ls.getD i []).length ((Ls.getD i []).length + 4)

/-- what is handed in, with its spare room; the first k columns of it laid -/
structure GivenTo (w : World) (G n k : Nat) (Ls : List (List Nat)) (z : Nat → Bool) (Gf S : Nat → Nat) : Prop where
  row : ∃ F, w.rowIs G 31 (n + 4) F ∧ (∀ i, i < k → F i = gV Ls z Gf i) ∧ (∀ i, k ≤ i → i < n → F i = .slice none 0 0) ∧ ∀ j, j < 4 → F (n + j) = .slice (some ⟨S j, 0, none⟩) 1 1
  col : ∀ i, i < k → z i = false → w.rowIs (Gf i) 5 ((Ls.getD i []).length + 4) (extV (Ls.getD i []))
  spare : ∀ j, j < 4 → w.rowIs (S j) 5 1 (fun _ => B 77)
  behind : ∀ i, i < k → z i = false → G < Gf i
  behindS : ∀ j, j < 4 → G < S j
  inc : ∀ i j, i < j → j < k → z i = false → z j = false → Gf i < Gf j

theorem GivenTo.below {w w' : World} {G n k : Nat} {Ls : List (List Nat)} {z : Nat → Bool} {Gf S : Nat → Nat} (h : GivenTo w G n k Ls z Gf S) (hb : Below w.heap.size w w') : GivenTo w' G n k Ls z Gf S := by
  obtain ⟨F, h1, h2⟩ := h.row
  exact ⟨⟨F, rowIs_below h1 hb h1.lt, h2⟩, fun i hi hz => rowIs_below (h.col i hi hz) hb (h.col i hi hz).lt, fun j hj => rowIs_below (h.spare j hj) hb (h.spare j hj).lt, h.behind, h.behindS, h.inc⟩
theorem GivenTo.skip {w : World} {G n k : Nat} {Ls : List (List Nat)} {z : Nat → Bool} {Gf S : Nat → Nat} (h : GivenTo w G n k Ls z Gf S) (hk : k < n) (hz : z k = true) : GivenTo w G n (k + 1) Ls z Gf S := by
  obtain ⟨F, h1, h2, h3, h4⟩ := h.row
  refine ⟨⟨F, h1, fun i hi => ?_, fun i hi hn => h3 i (by omega) hn, h4⟩, fun i hi hzi => ?_, h.spare, fun i hi hzi => ?_, h.behindS, fun i j hij hj h5 h6 => ?_⟩
  · rcases Nat.lt_or_ge i k with h' | h'
    · exact h2 i h'
    · obtain rfl : i = k := by omega
      rw [h3 i (Nat.le_refl _) hk, gV, if_pos hz]
  · rcases Nat.lt_or_ge i k with h' | h'
    · exact h.col i h' hzi
    · obtain rfl : i = k := by omega
      rw [hz] at hzi; cases hzi
  · rcases Nat.lt_or_ge i k with h' | h'
    · exact h.behind i h' hzi
    · obtain rfl : i = k := by omega
      rw [hz] at hzi; cases hzi
  · rcases Nat.lt_or_ge j k with h' | h'
    · exact h.inc i j hij h' h5 h6
    · obtain rfl : j = k := by omega
      rw [hz] at h6; cases h6
theorem GivenTo.step {w : World} {G n k : Nat} {Ls : List (List Nat)} {z : Nat → Bool} {Gf S : Nat → Nat} (h : GivenTo w G n k Ls z Gf S) (hkn : k < n) (hz : z k = false) (g : Nat) (hg : w.rowIs g 5 ((Ls.getD k []).length + 4) (extV (Ls.getD k []))) (hG : G < g) (hGf : ∀ i, i < k → z i = false → Gf i < g) :
    GivenTo (w.setCell ⟨G, k, none⟩ (.slice (some ⟨g, 0, none⟩) (Ls.getD k []).length ((Ls.getD k []).length + 4))) G n (k + 1) Ls z (fun i => if i < k then Gf i else g) S := by
  obtain ⟨F, h1, h2, h3, h4⟩ := h.row
  refine ⟨⟨_, h1.set k _, fun i hi => ?_, fun i hi hn => ?_, fun j hj => ?_⟩, fun i hi hzi => ?_, fun j hj => (h.spare j hj).setOther (by have := h.behindS j hj; simp; omega) _, fun i hi hzi => ?_, h.behindS, fun i j hij hj h5 h6 => ?_⟩
  · rcases Nat.lt_or_ge i k with h' | h'
    · rw [if_neg (by omega), h2 i h', gV, gV, if_pos h']
    · obtain rfl : i = k := by omega
      rw [if_pos rfl, gV, if_neg (by rw [hz]; exact Bool.false_ne_true), if_neg (Nat.lt_irrefl _)]
  · rw [if_neg (by omega)]
    exact h3 i (by omega) hn
  · rw [if_neg (by omega)]
    exact h4 j hj
  · rcases Nat.lt_or_ge i k with h' | h'
    · simp only [if_pos h']
      exact (h.col i h' hzi).setOther (by have := h.behind i h' hzi; simp; omega) _
    · obtain rfl : i = k := by omega
      simp only [Nat.lt_irrefl, if_false]
      exact hg.setOther (by simp; omega) _
  · rcases Nat.lt_or_ge i k with h' | h'
    · simp only [if_pos h']; exact h.behind i h' hzi
    · obtain rfl : i = k := by omega
      simp only [Nat.lt_irrefl, if_false]; exact hG
  · rcases Nat.lt_or_ge j k with h' | h'
    · simp only [if_pos h', if_pos (show i < k by omega)]
      exact h.inc i j hij h' h5 h6
    · obtain rfl : j = k := by omega
      simp only [Nat.lt_irrefl, if_false, if_pos hij]
      exact hGf i hij h5

/-- a column's row while its stain is laid, up to m -/
def stainV (xs : List Nat) (m j : Nat) : Value := if j < xs.length then B (xs.getD j 0) else if j < m then B 77 else B 0
theorem stain_step {w : World} {g : Nat} {xs : List Nat} {m : Nat} (h : w.rowIs g 5 (xs.length + 4) (stainV xs m)) (hm : xs.length ≤ m) : (w.setCell ⟨g, m, none⟩ (.int .u8 77)).rowIs g 5 (xs.length + 4) (stainV xs (m + 1)) :=
  (h.set m _).congr (fun j hj => by
    unfold stainV
    by_cases e : j = m
    · rw [if_pos e, if_neg (by omega), if_pos (by omega)]; rfl
    · rw [if_neg e]
      by_cases e2 : j < xs.length
      · rw [if_pos e2, if_pos e2]
      · rw [if_neg e2, if_neg e2]
        by_cases e3 : j < m
        · rw [if_pos e3, if_pos (by omega)]
        · rw [if_neg e3, if_neg (by omega)])
theorem stain_all {w : World} {g : Nat} {xs : List Nat} (h : w.rowIs g 5 (xs.length + 4) (stainV xs (xs.length + 4))) : w.rowIs g 5 (xs.length + 4) (extV xs) :=
  h.congr (fun j hj => by
    unfold stainV extV
    by_cases e : j < xs.length
    · rw [if_pos e, if_pos e]
    · rw [if_neg e, if_neg e, if_pos hj])
theorem splice_row {w : World} {g : Nat} {xs : List Nat} {cur : List Value} (hcur : ∀ j, j < xs.length + 4 → cur[j]? = some (B 0)) (hlen : cur.length = xs.length + 4) (h : w.heap[g]? = some (.cells (splice cur 0 (xs.map B)).toArray 5 (0, 0))) : w.rowIs g 5 (xs.length + 4) (stainV xs xs.length) := by
  refine ⟨_, h, by simp [length_splice _ _ _ (show 0 + (xs.map B).length ≤ cur.length by simp [hlen]), hlen], fun j hj => ?_⟩
  unfold splice stainV
  rw [List.getElem?_toArray, List.take_zero, List.nil_append, Nat.zero_add, List.length_map]
  by_cases e : j < xs.length
  · rw [if_pos e, List.getElem?_append_left (by simpa using e)]
    simp [e]
  · rw [if_neg e, if_neg (by omega), List.getElem?_append_right (by simp; omega), List.getElem?_drop, List.length_map]
    rw [show xs.length + (j - xs.length) = j by omega]
    exact hcur j hj

theorem bytes_one' (xs : List Nat) : ∀ u ∈ xs.map B, u.oneCell' = true := by intro u hu; simp only [List.mem_map] at hu; obtain ⟨x, _, rfl⟩ := hu; rfl

set_option maxHeartbeats 4000000 in
theorem given_any (v : Value) (Ls : List (List Nat)) (zn : Bool) (z : Nat → Bool) (w : World) (hv : SlLn w v Ls zn z) (hl : Ls.length ≤ 1048576) (hll : ∀ i, i < Ls.length → (Ls.getD i []).length ≤ 1048576) :
    Calls Tryd.prog 7 #[v] w fun e w' => Below w.heap.size w w' ∧ ((zn = true ∧ e = .returned (.slice none 0 0)) ∨
      (zn = false ∧ ∃ Gf S : Nat → Nat, e = .returned (.slice (some ⟨w.heap.size, 0, none⟩) Ls.length (Ls.length + 4)) ∧ GivenTo w' w.heap.size Ls.length Ls.length Ls z Gf S)) := by
  obtain ⟨iL, hiL, hzL0, hzL1, hzL2⟩ := info_parts Tryd.infoL
  obtain ⟨i5, hi5, hz50, hz51, hz52⟩ := info_parts Tryd.info5
  rcases id hv with ⟨rfl, rfl, rfl⟩ | ⟨rfl, x, cap, rfl, hd⟩
  · have hn1 := fun (w' : World) => Lib.run_eql_slice_nil (P := Tryd.prog) w' 24 31 none 0 0 0 0 Tryd.underlying24
    clear hv
    go_enter Tryd.func7, Tryd.ntmps7
    go_wp2
    go_ret
    refine ⟨Below.refl _ _, .inl ⟨?_, rfl⟩⟩
    trivial
  · have hn1 := fun (w' : World) => Lib.run_eql_slice_nil (P := Tryd.prog) w' 24 31 (some x) Ls.length cap 0 0 Tryd.underlying24
    have hmk : ∀ w' : World, (Instr.makeSlice 24 (.int .i64 ((Ls.length : Int) + 4)) (.int .i64 ((Ls.length : Int) + 4))).run Tryd.prog w' = .ok (.slice (some ⟨w'.heap.size, 0, none⟩) (Ls.length + 4) (Ls.length + 4)) (w'.alloc (.cells (madeCells #[.slice none 0 0] (Ls.length + 4)) 31)) := fun w' =>
      run_make_row (P := Tryd.prog) 24 31 iL (.slice none 0 0) Tryd.underlying24 hiL hzL0 hzL1 rfl .i64 .i64 (Ls.length + 4) (by rw [hzL2]; omega) (by omega) w'
    have HV := hide hv
    have HLL := hide hll
    clear hv hd hll
    go_enter Tryd.func7, Tryd.ntmps7
    go_wp2
    clear hmk hn1
    have hst := World.rowIs_made w (.slice none 0 0) (Ls.length + 4) 31
    go_loopw [4] (fun iv wr => ∃ (j : Nat) (F : Nat → Value) (S : Nat → Nat), j ≤ 4 ∧ iv = .int .i64 ((Ls.length + j : Nat) : Int) ∧ wr.rowIs w.heap.size 31 (Ls.length + 4) F ∧ (∀ i, i < Ls.length → F i = .slice none 0 0) ∧ (∀ i, i < j → F (Ls.length + i) = .slice (some ⟨S i, 0, none⟩) 1 1 ∧ wr.rowIs (S i) 5 1 (fun _ => B 77) ∧ w.heap.size < S i) ∧ Below w.heap.size w wr) (fun i _ => Ls.length + 4 - (intOf i).toNat)
    case atStart => exact ⟨0, _, fun _ => 0, by omega, rfl, hst, fun _ _ => rfl, fun i hi => by omega, (Below.refl _ _).alloc (Nat.le_refl _) _⟩
    case round =>
      clear hst
      obtain ⟨j, F, S, hj, rfl, hrow, hnil, hsp, hbw⟩ := hrel
      have hlr := hrow.lt
      have HR := hide hrow
      have HN := hide hnil
      have HS := hide hsp
      have HB := hide hbw
      clear hnil hsp
      rcases Nat.lt_or_ge j 4 with hlt | hge
      · have c1 := hrow.cell (i := Ls.length + j) (by omega)
        have c2 := hrow.frozen (Ls.length + j)
        have hi1 : (0 : Int) ≤ ((Ls.length + j : Nat) : Int) := by omega
        have hi2 : ((Ls.length + j : Nat) : Int) < (Ls.length : Int) + 4 := by omega
        have nrow := (hrow.alloc (.cells #[.int .u8 77] 5)).set (Ls.length + j) (.slice (some ⟨wr.heap.size, 0, none⟩) 1 1)
        have nsp : ∀ i, i < j → ((wr.alloc (.cells #[.int .u8 77] 5)).setCell ⟨w.heap.size, Ls.length + j, none⟩ (.slice (some ⟨wr.heap.size, 0, none⟩) 1 1)).rowIs (S i) 5 1 (fun _ => B 77) := fun i hi => ((unhide HS i hi).2.1.alloc _).setOther (by have := (unhide HS i hi).2.2; simp; omega) _
        have nnew : ((wr.alloc (.cells #[.int .u8 77] 5)).setCell ⟨w.heap.size, Ls.length + j, none⟩ (.slice (some ⟨wr.heap.size, 0, none⟩) 1 1)).rowIs wr.heap.size 5 1 (fun _ => B 77) := (World.rowIs_alloc wr #[.int .u8 77] 5 (fun _ => B 77) (fun i hi => by simp at hi; subst hi; rfl)).setOther (by simp; omega) _
        have nbw := (hbw.alloc hbw.size (.cells #[.int .u8 77] 5)).setCell (p := ⟨w.heap.size, Ls.length + j, none⟩) (Nat.le_refl _) (.slice (some ⟨wr.heap.size, 0, none⟩) 1 1)
        rw [World.setCell_alloc_past _ _ _ _ hlr] at nrow nnew nbw
        have nsp' : ∀ i, i < j → ((wr.setCell ⟨w.heap.size, Ls.length + j, none⟩ (.slice (some ⟨wr.heap.size, 0, none⟩) 1 1)).alloc (.cells #[.int .u8 77] 5)).rowIs (S i) 5 1 (fun _ => B 77) := fun i hi => by rw [← World.setCell_alloc_past _ _ _ _ hlr]; exact nsp i hi
        have NR := hide nrow
        have NS := hide nsp'
        have NN := hide nnew
        have NB := hide nbw
        clear nrow nsp nsp' nnew nbw hrow hbw
        go_wp2
        go_roundw
        case rel =>
          refine ⟨j + 1, _, fun i => if i < j then S i else wr.heap.size, by omega, by go_num, unhide NR, fun i hi => ?_, fun i hi => ?_, unhide NB⟩
          · show (if i = Ls.length + j then _ else F i) = _
            rw [if_neg (by omega), unhide HN i hi]
          · rcases Nat.lt_or_ge i j with h | h
            · simp only [if_pos h]
              obtain ⟨s1, _, s3⟩ := unhide HS i h
              refine ⟨?_, unhide NS i h, s3⟩
              rw [if_neg (by omega), s1]
            · obtain rfl : i = j := by omega
              simp only [Nat.lt_irrefl, if_false]
              exact ⟨by simp, unhide NN, hlr⟩
        case measure => simp [intOf]; omega
      · obtain rfl : j = 4 := by omega
        have HG : Hid (GivenTo wr w.heap.size Ls.length 0 Ls z (fun _ => 0) S) := ⟨⟨F, unhide HR, fun i hi => (by omega), fun i _ hi => unhide HN i hi, fun j hj => (unhide HS j hj).1⟩, fun i hi => (by omega), fun j hj => (unhide HS j hj).2.1, fun i hi => (by omega), fun j hj => (unhide HS j hj).2.2, fun i j _ hj => (by omega)⟩
        clear hrow hbw HR HN HS
        go_wp2
        go_loopw [5] (fun iv wr => ∃ (k : Nat) (Gf : Nat → Nat), k ≤ Ls.length ∧ iv = .int .i64 (k : Int) ∧ GivenTo wr w.heap.size Ls.length k Ls z Gf S ∧ Below w.heap.size w wr) (fun i _ => Ls.length - (intOf i).toNat)
        case atStart => exact ⟨0, fun _ => 0, Nat.zero_le _, rfl, unhide HG, unhide HB⟩
        case round =>
          clear HG HB hlr
          obtain ⟨k, Gf, hk, rfl, hgt, hbw⟩ := hrel
          have HG := hide hgt
          have HB := hide hbw
          clear hgt
          rcases Nat.lt_or_ge k Ls.length with hlt | hge
          · rcases (unhide HV).below hbw with ⟨h0, _⟩ | ⟨_, x', cap', hve, hd⟩
            · cases h0
            simp only [Value.slice.injEq, Option.some.injEq] at hve
            obtain ⟨rfl, _, rfl⟩ := hve
            rcases hd with hd | ⟨b, o, rfl, hd⟩
            · rw [hd] at hlt; simp at hlt
            obtain ⟨u, hu, hsb⟩ := hd k hlt
            have hi1 : (0 : Int) ≤ (k : Int) := by omega
            have hi2 : (k : Int) < (Ls.length : Int) := by omega
            have hlk := unhide HLL k hlt
            clear hd
            rcases hsb with ⟨hzk, rfl, hxs⟩ | ⟨hzk, x1, cap1, rfl, hx⟩
            · have hn2 := fun (w' : World) => Lib.run_eql_slice_nil (P := Tryd.prog) w' 31 5 none 0 0 0 0 Tryd.underlying31
              have HG2 := hide ((unhide HG).skip hlt hzk)
              clear hxs hzk hbw HG
              go_wp2
              go_roundw
              case rel => exact ⟨k + 1, Gf, by omega, by go_num, unhide HG2, unhide HB⟩
              case measure => simp [intOf]; omega
            · have hn2 := fun (w' : World) => Lib.run_eql_slice_nil (P := Tryd.prog) w' 31 5 (some x1) (Ls.getD k []).length cap1 0 0 Tryd.underlying31
              obtain ⟨xs, hxe⟩ : ∃ xs, Ls.getD k [] = xs := ⟨_, rfl⟩
              rw [hxe] at hu hlk hn2 hx
              have hmk2 : ∀ w' : World, (Instr.makeSlice 31 (.int .i64 ((xs.length : Int) + 4)) (.int .i64 ((xs.length : Int) + 4))).run Tryd.prog w' = .ok (.slice (some ⟨w'.heap.size, 0, none⟩) (xs.length + 4) (xs.length + 4)) (w'.alloc (.cells (madeCells #[.int .u8 0] (xs.length + 4)) 5)) := fun w' =>
                run_make_row (P := Tryd.prog) 31 5 i5 (.int .u8 0) Tryd.underlying31 hi5 hz50 hz51 rfl .i64 .i64 (xs.length + 4) (by rw [hz52]; omega) (by omega) w'
              obtain ⟨cur, hcur⟩ : ∃ cur, (madeCells #[.int .u8 0] (xs.length + 4)).toList = cur := ⟨_, rfl⟩
              have hcl : cur.length = xs.length + 4 := by rw [← hcur]; simp [size_madeCells]
              have hca : ∀ j, j < xs.length + 4 → cur[j]? = some (B 0) := fun j hj => by rw [← hcur]; simp [madeCells, hj, Nat.mod_one, B]
              have hcb : (wr.alloc (.cells (madeCells #[.int .u8 0] (xs.length + 4)) 5)).heap[wr.heap.size]? = some (.cells cur.toArray 5 (0, 0)) := by
                rw [← hcur]
                exact heap_alloc_new wr _
              have hlr : w.heap.size < wr.heap.size := by obtain ⟨F, h1, _⟩ := (unhide HG).row; exact h1.lt
              have hpos : 0 < (xs.map B).length → (some ⟨wr.heap.size, 0, none⟩ : Option Addr) = some ⟨wr.heap.size, 0, none⟩ ∧ ∃ ad, (some x1 : Option Addr) = some ad ∧ ∀ j v, (xs.map B)[j]? = some v → (wr.alloc (.cells (madeCells #[.int .u8 0] (xs.length + 4)) 5)).cell? (ad.add j) = some v := fun hp => by
                refine ⟨rfl, x1, rfl, fun j v hj => ?_⟩
                rcases hx with h | ⟨b1, o1, rfl, hr⟩
                · rw [h] at hp; simp at hp
                · rw [Addr.add_mid]
                  have := hr j v hj
                  rw [World.cell?_alloc_past _ _ _ (block_lt_of_cell this)]
                  exact this
              have HCB := hide hcb
              have HCL := hide hcl
              have HCA := hide hca
              have HPO := hide hpos
              have HZ := hide hzk
              have HXE := hide hxe
              have HB1 := hide (bytes_one' xs)
              have hba := (Below.refl wr.heap.size wr).alloc (Nat.le_refl _) (.cells (madeCells #[.int .u8 0] (xs.length + 4)) 5)
              have HBA := hide hba
              have hub := block_lt_of_cell hu
              have HU : Hid (∀ w' : World, Below wr.heap.size wr w' → w'.cell? ⟨b, o + k, none⟩ = some (.slice (some x1) xs.length cap1)) := fun w' hb' => (hb'.cell hub).trans hu
              obtain ⟨X1, hX1⟩ : ∃ X1, X1 = xs.map B := ⟨_, rfl⟩
              have hXl : X1.length = xs.length := by rw [hX1, List.length_map]
              have hXm : X1.length = Nat.min xs.length (xs.length + 4) := by rw [hXl]; exact (Nat.min_eq_left (by omega)).symm
              rw [← hX1] at HPO HB1
              have HX1 := hide hX1
              have HXM := hide hXm
              have HXL := hide hXl
              clear hcb hcl hca hpos hzk hxe hba hx hbw hcur hX1 hXl hXm
              go_wp2_with (show wpList _ _ _ (Oper.mk _ (Op.call (Call.mk (Callee.builtin Builtin.copy) _ _)) _ _ _ _ :: _) _ _; refine wpList_copy_splice rfl (.tmp 44) (.tmp 48) 31 31 rfl 5 Tryd.underlying31 (by kernel_rfl) (some ⟨wr.heap.size, 0, none⟩) (some x1) (xs.length + 4) (xs.length + 4) xs.length cap1 rfl rfl wr.heap.size 0 cur 5 (unhide HCB) X1 (unhide HXM) (unhide HPO) (by rw [unhide HXL, unhide HCL]; omega) (unhide HB1) wr.heap.size wr (unhide HBA) (Nat.le_refl _) ?_)
              intro wc hgc hbc
              have hrc : wc.rowIs wr.heap.size 5 (xs.length + 4) (stainV xs xs.length) := by
                have h := unhide hgc
                rw [unhide HX1] at h
                exact splice_row (unhide HCA) (unhide HCL) h
              have hcu := unhide HU wc hbc
              have HRC := hide hrc
              have HBC := hide hbc
              clear hgc hrc hbc HCB HCA HCL HPO HB1 HX1 HXM HXL hu HBA hmk2 hn2
              go_wp2
              clear hcu
              obtain ⟨wo, hwo⟩ : ∃ wo, wo = wr := ⟨wr, rfl⟩
              subst hwo
              go_loopw [7] (fun iv wq => ∃ m : Nat, xs.length ≤ m ∧ m ≤ xs.length + 4 ∧ iv = .int .i64 (m : Int) ∧ wq.rowIs wo.heap.size 5 (xs.length + 4) (stainV xs m) ∧ Below wo.heap.size wo wq) (fun i _ => xs.length + 4 - (intOf i).toNat)
              case atStart => exact ⟨xs.length, Nat.le_refl _, by omega, rfl, unhide HRC, unhide HBC⟩
              case round =>
                obtain ⟨m, hm1, hm2, rfl, hrow, hbq⟩ := hrel
                have HBQ := hide hbq
                rcases Nat.lt_or_ge m (xs.length + 4) with hmlt | hmge
                · have hmi : (m : Int) < (xs.length : Int) + 4 := by omega
                  have hm0 : (0 : Int) ≤ (m : Int) := by omega
                  have c1 := hrow.cell hmlt
                  have c2 := hrow.frozen m
                  have NR := hide (stain_step hrow hm1)
                  have NB := hide (hbq.setCell (p := ⟨wo.heap.size, m, none⟩) (Nat.le_refl _) (.int .u8 77))
                  clear hrow hbq HBQ
                  go_wp2
                  go_roundw
                  case rel => exact ⟨m + 1, by omega, by omega, by go_num, unhide NR, unhide NB⟩
                  case measure => simp [intOf]; omega
                · obtain rfl : m = xs.length + 4 := by omega
                  have hcu := unhide HU wr hbq
                  have hG3 := (unhide HG).below hbq
                  obtain ⟨F2, hrow2, _⟩ := hG3.row
                  have c1 := hrow2.cell (i := k) (by omega)
                  have c2 := hrow2.frozen k
                  have hxr := stain_all hrow
                  rw [← unhide HXE] at hxr
                  have hGn := hG3.step hlt (unhide HZ) wo.heap.size hxr hlr (fun i hi hzi => ((unhide HG).col i hi hzi).lt)
                  rw [unhide HXE] at hGn
                  have HGN := hide hGn
                  have NB := hide (((unhide HB).trans (hbq.mono (unhide HB).size)).setCell (p := ⟨w.heap.size, k, none⟩) (Nat.le_refl _) (.slice (some ⟨wo.heap.size, 0, none⟩) xs.length (xs.length + 4)))
                  have hx4 : (xs.length : Int) ≤ (xs.length : Int) + 4 := by omega
                  have hx0 : (0 : Int) ≤ (xs.length : Int) := by omega
                  clear hG3 hrow2 hxr hGn hrow hbq HRC HBC HBQ
                  go_wp2
                  go_roundw
                  case rel =>
                    (repeat apply Exists.intro)
                    refine ⟨?_, rfl⟩
                    exact ⟨k + 1, _, by omega, by go_num, unhide HGN, unhide NB⟩
                  case measure => simp [intOf]; omega
          · obtain rfl : k = Ls.length := by omega
            have hx4 : (Ls.length : Int) ≤ (Ls.length : Int) + 4 := by omega
            have hx0 : (0 : Int) ≤ (Ls.length : Int) := by omega
            clear hbw
            go_wp2
            go_ret
            exact ⟨unhide HB, .inr ⟨trivial, Gf, S, rfl, unhide HG⟩⟩

end Go.Proofs.YtdcinlkkjbclmaaDoor
