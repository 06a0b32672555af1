/- The contract of book.own. -/
import Derived.Test.YtdcinlkkjbclmaaDoorLBook
namespace Go.Proofs.YtdcinlkkjbclmaaDoor
open Go.RowKit

/-- a slice that lies at its block's head, full of one byte -/
def Pre (w : World) (u : Value) (len m : Nat) : Prop := (u = .slice none 0 0 ∧ len = 0) ∨ ∃ g c : Nat, u = .slice (some ⟨g, 0, none⟩) len c ∧ g < w.heap.size ∧ ∀ j, j < len → w.cell? ⟨g, j, none⟩ = some (B m)
theorem Pre.slB {w : World} {u : Value} {len m : Nat} (h : Pre w u len m) : SlB w u (List.replicate len m) := by
  rcases h with ⟨rfl, rfl⟩ | ⟨g, c, rfl, _, h⟩
  · exact ⟨none, 0, rfl, Or.inl rfl⟩
  · refine ⟨_, c, by rw [List.length_replicate], Or.inr ⟨g, 0, rfl, fun j v hj => ?_⟩⟩
    have hj' : j < len := by have := (List.getElem?_eq_some_iff.1 hj).1; simpa using this
    rw [Nat.zero_add, h j hj']
    simp only [List.map_replicate, List.getElem?_replicate, hj', if_true] at hj
    exact hj
theorem Pre.alloc {w : World} {u : Value} {len m : Nat} (h : Pre w u len m) (o : Obj) : Pre (w.alloc o) u len m := by
  rcases h with h | ⟨g, c, rfl, hl, h⟩
  · exact Or.inl h
  · exact Or.inr ⟨g, c, rfl, by simp; omega, fun j hj => by rw [World.cell?_alloc_past _ _ _ hl]; exact h j hj⟩
theorem Pre.grown {w w' : World} {u : Value} {len m n : Nat} {vb : Option Nat} (h : Pre w u len m) (hg : w.grownBy w' vb) (hk : ∀ g0, vb = some g0 → ∀ j, j < n → w'.cell? ⟨g0, j, none⟩ = w.cell? ⟨g0, j, none⟩) (hle : len ≤ n) : Pre w' u len m := by
  rcases h with h | ⟨g, c, rfl, hl, h⟩
  · exact Or.inl h
  · refine Or.inr ⟨g, c, rfl, Nat.lt_of_lt_of_le hl hg.size, fun j hj => ?_⟩
    rw [← h j hj]
    by_cases e : vb = some g
    · exact hk g e j (by omega)
    · exact World.cell?_of_block (hg.block g hl (fun e' => e e'.symm))
theorem Pre.far {w w' : World} {u : Value} {len m : Nat} {vb : Option Nat} (h : Pre w u len m) (hg : w.grownBy w' vb) (hne : ∀ g, u.ownBlock = some g → vb ≠ some g) : Pre w' u len m := by
  rcases h with h | ⟨g, c, rfl, hl, h⟩
  · exact Or.inl h
  · refine Or.inr ⟨g, c, rfl, Nat.lt_of_lt_of_le hl hg.size, fun j hj => ?_⟩
    rw [← h j hj]
    exact World.cell?_of_block (hg.block g hl (fun e' => hne g rfl e'.symm))
theorem Pre.set {w : World} {u : Value} {len m : Nat} (h : Pre w u len m) (a : Addr) (v : Value) (hne : u.ownBlock ≠ some a.block) : Pre (w.setCell a v) u len m := by
  rcases h with h | ⟨g, c, rfl, hl, h⟩
  · exact Or.inl h
  · refine Or.inr ⟨g, c, rfl, by simpa using hl, fun j hj => ?_⟩
    rw [World.cell?_setCell_far _ _ _ _ (fun e => hne (by rw [e]; rfl))]
    exact h j hj
theorem own_pre {w : World} {base : Nat} {u : Value} {len m : Nat} (h : w.ownsRow base 5 1 u len ((List.replicate len m).map B)) : Pre w u len m := by
  have h' := h
  rcases h.2 with ⟨rfl, h0⟩ | ⟨g, cap, cur, rfl, hg, hh, _⟩
  · exact Or.inl ⟨rfl, h0⟩
  · refine Or.inr ⟨g, cap, rfl, ?_, fun j hj => ?_⟩
    · rcases Nat.lt_or_ge g w.heap.size with h1 | h1
      · exact h1
      · rw [Array.getElem?_eq_none h1] at hh; cases hh
    · rw [h'.cellAt j (by omega)]
      simp [hj]
theorem fill_cells (L m : Nat) (xs : List Nat) : ((List.range L).map fun j => if j < L then B m else B (xs.getD j 0)) = (List.replicate L m).map B := by
  apply List.ext_getElem?
  intro i
  rcases Nat.lt_or_ge i L with h | h
  · simp [h]
  · rw [List.getElem?_eq_none (by simp; exact h), List.getElem?_eq_none (by simp; exact h)]
def fillAt (m : Nat) (xs : List Nat) (k j : Nat) : Value := if j < k then B m else B (xs.getD j 0)
theorem fill_zero (m : Nat) (xs : List Nat) : (List.range xs.length).map (fillAt m xs 0) = xs.map B := by
  apply List.ext_getElem?
  intro i
  rcases Nat.lt_or_ge i xs.length with h | h
  · simp [h, fillAt]
  · rw [List.getElem?_eq_none (by simp; exact h), List.getElem?_eq_none (by simp; exact h)]
theorem fill_all (m : Nat) (xs : List Nat) : (List.range xs.length).map (fillAt m xs xs.length) = (List.replicate xs.length m).map B := fill_cells xs.length m xs

theorem fill_set {w : World} {base g cap m k : Nat} {xs : List Nat} (h : w.ownsRow base 5 1 (.slice (some ⟨g, 0, none⟩) xs.length cap) xs.length ((List.range xs.length).map (fillAt m xs k))) (_hk : k < xs.length) :
    (w.setCell ⟨g, k, none⟩ (B m)).ownsRow base 5 1 (.slice (some ⟨g, 0, none⟩) xs.length cap) xs.length ((List.range xs.length).map (fillAt m xs (k + 1))) := by
  obtain ⟨hb, hL, hm, f, hrow, hf⟩ := own_row h
  have h2 := row_own (base := base) (L := xs.length) (hrow.set k (B m)) hb hL hm
  have e : (List.range xs.length).map (fun j => if j = k then B m else f j) = (List.range xs.length).map (fillAt m xs (k + 1)) := by
    apply List.map_congr_left
    intro j hj
    rw [List.mem_range] at hj
    have h3 := hf j hj
    simp only [List.getElem?_map, List.getElem?_range hj, Option.map_some, Option.some.injEq] at h3
    unfold fillAt at h3 ⊢
    by_cases e1 : j = k
    · rw [if_pos e1, if_pos (by omega)]
    · rw [if_neg e1, ← h3]
      by_cases e2 : j < k
      · rw [if_pos e2, if_pos (by omega)]
      · rw [if_neg e2, if_neg (by omega)]
  rw [e] at h2
  exact h2

/-- of what was there nothing but blocks of X is changed -/
structure Chg (X : Nat → Prop) (w w' : World) : Prop where
  os : w'.os = w.os
  tape : w'.tape = w.tape
  output : w'.output = w.output
  size : w.heap.size ≤ w'.heap.size
  block : ∀ k, k < w.heap.size → ¬ X k → w'.heap[k]? = w.heap[k]?
theorem Chg.refl (X : Nat → Prop) (w : World) : Chg X w w := ⟨rfl, rfl, rfl, Nat.le_refl _, fun _ _ _ => rfl⟩
theorem Chg.mono {X Y : Nat → Prop} {w w' : World} (h : Chg X w w') (hx : ∀ k, X k → Y k) : Chg Y w w' := ⟨h.os, h.tape, h.output, h.size, fun k hk hy => h.block k hk (fun e => hy (hx k e))⟩
theorem Chg.drew {X : Nat → Prop} {w w' : World} (h : Chg X w w') : Chg X w w'.drew := ⟨h.os, h.tape, h.output, h.size, h.block⟩
theorem Chg.alloc {X : Nat → Prop} {w w' : World} (h : Chg X w w') (o : Obj) : Chg X w (w'.alloc o) :=
  ⟨h.os, h.tape, h.output, by have := h.size; simp; omega, fun k hk hx => (Below.heap_alloc w' o k (Nat.lt_of_lt_of_le hk h.size)).trans (h.block k hk hx)⟩
theorem Chg.setCell {X : Nat → Prop} {w w' : World} (h : Chg X w w') (a : Addr) (v : Value) (ha : X a.block ∨ w.heap.size ≤ a.block) : Chg X w (w'.setCell a v) :=
  ⟨h.os, h.tape, h.output, by simpa using h.size, fun k hk hx => (heap_setCell_other w' a k v (fun e => ha.elim (fun h' => hx (e ▸ h')) (fun h' => by omega))).trans (h.block k hk hx)⟩
theorem Chg.grown {X : Nat → Prop} {w w' w'' : World} {row : Option Nat} (h : Chg X w w') (hg : w'.grownBy w'' row) (hr : ∀ g, row = some g → X g ∨ w.heap.size ≤ g) : Chg X w w'' :=
  ⟨hg.os.trans h.os, hg.tape.trans h.tape, hg.output.trans h.output, Nat.le_trans h.size hg.size, fun k hk hx => (hg.block k (Nat.lt_of_lt_of_le hk h.size) (fun e => (hr k e.symm).elim hx (fun h' => by omega))).trans (h.block k hk hx)⟩
theorem Chg.below {X : Nat → Prop} {w w' : World} (h : Chg X w w') (n : Nat) (hn : n ≤ w.heap.size) (hx : ∀ k, k < n → ¬ X k) : Below n w w' := ⟨h.os, h.tape, h.output, h.size, fun k hk => h.block k (by omega) (hx k hk)⟩
theorem Only.chg {A : Nat → Prop} {w w' : World} (h : Only A w w') : Chg A w w' := ⟨h.os, h.tape, h.output, by rw [h.size]; exact Nat.le_refl _, fun k _ hk => h.block k hk⟩
theorem Chg.trans {X : Nat → Prop} {w w' w'' : World} (h : Chg X w w') (h' : Chg X w' w'') : Chg X w w'' :=
  ⟨h'.os.trans h.os, h'.tape.trans h.tape, h'.output.trans h.output, Nat.le_trans h.size h'.size, fun k hk hx => (h'.block k (Nat.lt_of_lt_of_le hk h.size) hx).trans (h.block k hk hx)⟩
theorem ownsRow_chg {X : Nat → Prop} {w w' : World} {base : Nat} {e : TypeId} {size : Nat} {v : Value} {n : Nat} {xs : List Value} (h : w.ownsRow base e size v n xs) (hc : Chg X w w') (hx : ∀ g, v.ownBlock = some g → ¬ X g) : w'.ownsRow base e size v n xs := by
  obtain ⟨h1, h2⟩ := h
  refine ⟨h1, ?_⟩
  rcases h2 with h2 | ⟨g, cap, cur, rfl, hg, hh, r⟩
  · exact Or.inl h2
  · have hlt : g < w.heap.size := by
      rcases Nat.lt_or_ge g w.heap.size with h | h
      · exact h
      · rw [Array.getElem?_eq_none h] at hh; cases hh
    exact Or.inr ⟨g, cap, cur, rfl, hg, (hc.block g hlt (hx g rfl)).trans hh, r⟩
theorem slB_chg {X : Nat → Prop} {w w' : World} {v : Value} {xs : List Nat} (h : SlB w v xs) (hc : Chg X w w') (hx : ∀ g, v.ownBlock = some g → ¬ X g) : SlB w' v xs :=
  h.cells (fun b o ⟨n, c, he⟩ j hj => by
    obtain ⟨a, cap, hv, hd⟩ := h
    rcases hd with hd | ⟨b', o', rfl, hd⟩
    · rw [hd] at hj; simp at hj
    · rw [hv] at he
      simp only [Value.slice.injEq, Option.some.injEq, Addr.mk.injEq, and_true] at he
      obtain ⟨⟨rfl, rfl⟩, _, _⟩ := he
      have := hd j _ (byte_at xs j hj)
      exact World.cell?_of_block (hc.block _ (block_lt_of_cell this) (hx _ (by rw [hv]; rfl))))
theorem pre_chg {X : Nat → Prop} {w w' : World} {u : Value} {len m : Nat} (h : Pre w u len m) (hc : Chg X w w') (hx : ∀ g, u.ownBlock = some g → ¬ X g) : Pre w' u len m := by
  rcases h with h | ⟨g, c, rfl, hl, h⟩
  · exact Or.inl h
  · exact Or.inr ⟨g, c, rfl, Nat.lt_of_lt_of_le hl hc.size, fun j hj => by rw [World.cell?_of_block (w := w) (hc.block g hl (hx g rfl))]; exact h j hj⟩
theorem rowIs_chg {X : Nat → Prop} {w w' : World} {g n : Nat} {t : TypeId} {f : Nat → Value} (h : w.rowIs g t n f) (hc : Chg X w w') (hx : ¬ X g) : w'.rowIs g t n f := h.of_block (hc.block g h.lt hx)
theorem four_new (w : World) (a b c d : Value) (t : TypeId) : ∀ j u, [a, b, c, d][j]? = some u → (w.alloc (.cells #[a, b, c, d] t)).cell? ((⟨w.heap.size, 0, none⟩ : Addr).add j) = some u := fun j u hj => by
  rw [Addr.add_mid, Nat.zero_add, World.cell?_alloc_at _ _ _ _ rfl]
  simpa using hj
theorem slb_set' {W : World} {v : Value} {xs : List Nat} (h : SlB W v xs) (a : Addr) (u : Value) (hne : v.ownBlock ≠ some a.block) : SlB (W.setCell a u) v xs := by
  obtain ⟨b, cap, rfl, hd⟩ := h
  refine ⟨b, cap, rfl, ?_⟩
  rcases hd with hd | ⟨g, o, rfl, hr⟩
  · exact Or.inl hd
  · refine Or.inr ⟨g, o, rfl, fun j x hx => ?_⟩
    have hb : g ≠ a.block := fun e => hne (by rw [← e]; rfl)
    rw [World.cell?_setCell_far _ _ _ _ (fun e => hb e.symm)]
    exact hr j x hx
/-- four more at the end -/
def put4 (U : Nat → Value) (n : Nat) (a b c d : Value) (i : Nat) : Value := if i < n then U i else if i = n then a else if i = n + 1 then b else if i = n + 2 then c else d
theorem put4_list (U : Nat → Value) (n : Nat) (a b c d : Value) : (List.range (n + 4)).map (put4 U n a b c d) = (List.range n).map U ++ [a, b, c, d] := by
  rw [show n + 4 = n + 1 + 1 + 1 + 1 from rfl, List.range_succ, List.range_succ, List.range_succ, List.range_succ]
  simp only [List.map_append, List.map_cons, List.map_nil, List.append_assoc, List.cons_append, List.nil_append]
  congr 1
  · apply List.map_congr_left
    intro i hi
    rw [List.mem_range] at hi
    unfold put4
    rw [if_pos hi]
  · unfold put4
    simp only [Nat.lt_irrefl, if_false, if_true, show ¬ (n + 1 < n) by omega, show ¬ (n + 1 + 1 < n) by omega, show ¬ (n + 1 + 1 + 1 < n) by omega, show ¬ (n + 1 = n) by omega, show ¬ (n + 1 + 1 = n) by omega, show ¬ (n + 1 + 1 + 1 = n) by omega, show ¬ (n + 1 + 1 = n + 1) by omega, show ¬ (n + 1 + 1 + 1 = n + 1) by omega, show ¬ (n + 1 + 1 + 1 = n + 2) by omega]
theorem put4_at (U : Nat → Value) (n i : Nat) (a b c d : Value) (hi : i < n + 4) : (i < n ∧ put4 U n a b c d i = U i) ∨ (i = n ∧ put4 U n a b c d i = a) ∨ (i = n + 1 ∧ put4 U n a b c d i = b) ∨ (i = n + 2 ∧ put4 U n a b c d i = c) ∨ (i = n + 3 ∧ put4 U n a b c d i = d) := by
  unfold put4
  rcases Nat.lt_or_ge i n with h | h
  · exact Or.inl ⟨h, if_pos h⟩
  · rcases (show i = n ∨ i = n + 1 ∨ i = n + 2 ∨ i = n + 3 by omega) with rfl | rfl | rfl | rfl
    · exact Or.inr (Or.inl ⟨rfl, by simp⟩)
    · exact Or.inr (Or.inr (Or.inl ⟨rfl, by rw [if_neg (by omega), if_neg (by omega), if_pos rfl]⟩))
    · exact Or.inr (Or.inr (Or.inr (Or.inl ⟨rfl, by rw [if_neg (by omega), if_neg (by omega), if_neg (by omega), if_pos rfl]⟩)))
    · exact Or.inr (Or.inr (Or.inr (Or.inr ⟨rfl, by rw [if_neg (by omega), if_neg (by omega), if_neg (by omega), if_neg (by omega)]⟩)))
def putLn (Ln : Nat → Nat) (n L : Nat) (i : Nat) : Nat := if i < n then Ln i else L + (i - n)
theorem noOf_list (n : Nat) : (List.range (4 * n + 4)).map (fun i => Value.int .i64 ((noOf i : Nat) : Int)) = ((List.range (4 * n)).map fun i => Value.int .i64 ((noOf i : Nat) : Int)) ++ [.int .i64 ((n : Int) + 1), .int .i64 ((n : Int) + 1), .int .i64 ((n : Int) + 1), .int .i64 ((n : Int) + 1)] := by
  rw [show 4 * n + 4 = 4 * n + 1 + 1 + 1 + 1 from rfl, List.range_succ, List.range_succ, List.range_succ, List.range_succ]
  simp only [List.map_append, List.map_cons, List.map_nil, List.append_assoc, List.cons_append, List.nil_append]
  have e0 : ((noOf (4 * n) : Nat) : Int) = (n : Int) + 1 := by unfold noOf; omega
  have e1 : ((noOf (4 * n + 1) : Nat) : Int) = (n : Int) + 1 := by unfold noOf; omega
  have e2 : ((noOf (4 * n + 1 + 1) : Nat) : Int) = (n : Int) + 1 := by unfold noOf; omega
  have e3 : ((noOf (4 * n + 1 + 1 + 1) : Nat) : Int) = (n : Int) + 1 := by unfold noOf; omega
  rw [e0, e1, e2, e3]
theorem rep_succ (L m : Nat) : (List.replicate L m).map B ++ [.int .u8 (m : Int)] = (List.replicate (L + 1) m).map B := by
  rw [List.replicate_succ', List.map_append]
  rfl

set_option maxHeartbeats 8000000 in
theorem own_any (N lo ob n : Nat) (bs ks : Value) (U : Nat → Value) (Ln : Nat → Nat) (v : Value) (xs : List Nat) (w : World) (hbk : Book w N lo ob n bs ks U Ln) (hN : N ≤ w.heap.size) (hv : w.ownsRow lo 5 1 v xs.length (xs.map B)) (hx : xs.length ≤ 1000)
    (hfr : ∀ g, v.ownBlock = some g → Free ob n bs ks U g) (hn : n ≤ 100000000) :
    Calls Tryd.prog 11 #[.pointer (some ⟨ob, 0, none⟩), v] w fun e w' => ∃ bs' ks' U' Ln', e = .returned (.tuple #[]) ∧ Book w' w'.heap.size lo ob (n + 1) bs' ks' U' Ln' ∧ Below lo w w' ∧
      ∀ k, k < w.heap.size → Free ob n bs ks U k → v.ownBlock ≠ some k → Free ob (n + 1) bs' ks' U' k ∧ w'.heap[k]? = w.heap[k]? := by
  obtain ⟨iL, hiL, hzL0, hzL1, hzL2⟩ := info_parts Tryd.infoL
  obtain ⟨i5, hi5, hz50, hz51, hz52⟩ := info_parts Tryd.info5
  obtain ⟨i3, hi3, hz30, hz31, hz32⟩ := info_parts Tryd.info3'
  have c2 := hbk.obj.cell (i := 2) (by omega)
  have f2 := hbk.obj.frozen 2
  simp only [bookV, show ¬ (2 = 0) by omega, show ¬ (2 = 1) by omega, if_false] at c2
  obtain ⟨av, cv, hve⟩ : ∃ av cv, v = .slice av xs.length cv := by
    rcases hv.2 with ⟨rfl, h0⟩ | ⟨g, cap, cur, rfl, _⟩
    · exact ⟨none, 0, by rw [h0]⟩
    · exact ⟨_, _, rfl⟩
  subst hve
  obtain ⟨m, hm⟩ : ∃ m, noOf (4 * n) % 256 = m := ⟨_, rfl⟩
  have hm2 : ((n : Int) + 1) % 256 = (m : Int) := by rw [← hm]; unfold noOf; omega
  have hmlt : m < 256 := by rw [← hm]; exact Nat.mod_lt _ (by omega)
  have hobne : (Value.slice av xs.length cv).ownBlock ≠ some ob := fun e => (hfr ob e).1 rfl
  have hv1 : (w.setCell ⟨ob, 2, none⟩ (.int .i64 ((n : Int) + 1))).ownsRow lo 5 1 (.slice av xs.length cv) xs.length ((List.range xs.length).map (fillAt m xs 0)) := by
    rw [fill_zero]
    exact ownsRow_other hv _ _ hobne
  have HBK := hide hbk
  have HFR := hide hfr
  have HV := hide hv1
  have HM := hide hm
  clear hbk hfr hv hv1 hm
  go_enter Tryd.func11, Tryd.ntmps11
  go_wp2
  rw [hm2]
  clear c2 f2 hm2
  obtain ⟨w1, hw1⟩ : ∃ w1, w.setCell ⟨ob, 2, none⟩ (.int .i64 ((n : Int) + 1)) = w1 := ⟨_, rfl⟩
  rw [hw1] at HV ⊢
  have HW1 := hide hw1
  clear hw1
  go_loopw [5] (fun iv wr => ∃ k : Nat, k ≤ xs.length ∧ iv = .int .i64 (k : Int) ∧ wr.ownsRow lo 5 1 (.slice av xs.length cv) xs.length ((List.range xs.length).map (fillAt m xs k)) ∧ Only (fun b => (Value.slice av xs.length cv).ownBlock = some b) w1 wr) (fun i _ => xs.length - (intOf i).toNat)
  case atStart => exact ⟨0, Nat.zero_le _, rfl, unhide HV, Only.refl _ _⟩
  case round =>
    clear HV
    obtain ⟨k, hk, rfl, hown, hon⟩ := hrel
    rcases Nat.lt_or_ge k xs.length with hlt | hge
    · obtain ⟨g, cap, hge, hg1, hg2⟩ := hown.form (by omega)
      simp only [Value.slice.injEq] at hge
      obtain ⟨rfl, _, rfl⟩ := hge
      have hi1 : (0 : Int) ≤ (k : Int) := by omega
      have hi2 : (k : Int) < (xs.length : Int) := by omega
      have c1 := World.ownsRow.cellAt hown k (by omega)
      rw [show ((List.range xs.length).map (fillAt m xs k))[k]? = some (fillAt m xs k k) by simp [hlt]] at c1
      have c2 := World.ownsRow.frozenAt hown k
      have NO := hide (fill_set hown hlt)
      have NN := hide (hon.setCell ⟨g, k, none⟩ (B m) rfl)
      unfold B at NO NN
      clear hown hon
      go_wp2
      go_roundw
      case rel => exact ⟨k + 1, by omega, by go_num, unhide NO, unhide NN⟩
      case measure => simp [intOf]; omega
    · obtain rfl : k = xs.length := by omega
      rw [fill_all] at hown
      have hws0 : wr.heap.size = w.heap.size := by rw [hon.size, ← unhide HW1]; simp
      have HWS := hide hws0
      -- the four lists
      have hba := hown
      have HVLO : Hid (∀ g, (Value.slice av xs.length cv).ownBlock = some g → lo ≤ g) := fun g hg => (hown.lt g hg).1
      have HVL : Hid (∀ g, (Value.slice av xs.length cv).ownBlock = some g → g < wr.heap.size) := fun g hg => (hown.lt g hg).2
      have P0 := own_pre hown
      have o1 := ownsRow_keep hown ((Below.refl wr.heap.size wr).alloc (Nat.le_refl _) (.cells #[.int .u8 (m : Int)] 5))
      have n1 := cell_one_new wr (.int .u8 (m : Int)) 5
      obtain ⟨X0, hX0⟩ : ∃ X0, (List.replicate xs.length m).map B = X0 := ⟨_, rfl⟩
      rw [hX0] at o1
      have HX0 := hide hX0
      have O1 := hide o1
      have N1 := hide n1
      have HP0 := hide (P0.alloc (.cells #[.int .u8 (m : Int)] 5))
      have HON := hide hon
      have hlo : lo ≤ wr.heap.size := by have := (unhide HBK).lo_ob; have := (unhide HBK).lt_ob; omega
      clear hws0 hba P0 o1 n1 hown hon hX0
      go_wp2_with (at_builtin; refine wpList_append_keep _ rfl (.tmp 31) (.tmp 33) 31 rfl lo 5 i5 (.int .u8 0) 1 1 Tryd.underlying31 hi5 hz50 hz51 hz52 rfl (by decide) (.slice av xs.length cv) xs.length X0 rfl (unhide O1) ⟨wr.heap.size, 0, none⟩ 1 1 [.int .u8 (m : Int)] rfl rfl (unhide N1) (by intro u hu; simp only [List.mem_singleton] at hu; subst hu; rfl) (by decide) (by unfold maxLen; omega) (by omega) (by simp; omega) (wr.heap.size + 1) (by simp) ?_)
      intro g1 c1 w2 hown1 hgr1 hat1 hlt1 hkp1
      have hC0 : Chg (fun b => (Value.slice av xs.length cv).ownBlock = some b) wr (wr.alloc (.cells #[.int .u8 (m : Int)] 5)) := (Chg.refl _ _).alloc _
      have hC1 := hC0.grown hgr1 (fun g hg => Or.inl hg)
      have hs2 := hgr1.size
      simp only [World.size_alloc] at hs2
      rw [← unhide HX0, rep_succ] at hown1
      have P1 := own_pre hown1
      have P0 := (unhide HP0).grown hgr1 hkp1 (Nat.le_refl _)
      have hb1 : ∀ g, (Value.slice (some ⟨g1, 0, none⟩) (xs.length + 1) c1).ownBlock = some g → (Value.slice av xs.length cv).ownBlock = some g ∨ wr.heap.size ≤ g := fun g hg => by
        obtain rfl : g1 = g := by simpa [Value.ownBlock] using hg
        rcases hat1 with h | h
        · exact Or.inl h
        · exact Or.inr (by omega)
      have o2 := ownsRow_keep hown1 ((Below.refl w2.heap.size w2).alloc (Nat.le_refl _) (.cells #[.int .u8 (m : Int)] 5))
      obtain ⟨X1, hX1⟩ : ∃ X1, (List.replicate (xs.length + 1) m).map B = X1 := ⟨_, rfl⟩
      rw [hX1] at o2
      have HX1 := hide hX1
      have O2 := hide o2
      have N2 := hide (cell_one_new w2 (.int .u8 (m : Int)) 5)
      have Q1a := hide (P1.alloc (.cells #[.int .u8 (m : Int)] 5))
      have Q0a := hide (P0.alloc (.cells #[.int .u8 (m : Int)] 5))
      have HC1 := hide hC1
      have HB1 := hide hb1
      clear hX1 o2 P1 P0 hC0 hC1 hb1 hown1 hgr1 hat1 hkp1 HX0 O1 N1 HP0
      go_wp2_with (at_builtin; refine wpList_append_keep _ rfl (.tmp 35) (.tmp 37) 31 rfl lo 5 i5 (.int .u8 0) 1 1 Tryd.underlying31 hi5 hz50 hz51 hz52 rfl (by decide) (.slice (some ⟨g1, 0, none⟩) (xs.length + 1) c1) (xs.length + 1) X1 rfl (unhide O2) ⟨w2.heap.size, 0, none⟩ 1 1 [.int .u8 (m : Int)] rfl rfl (unhide N2) (by intro u hu; simp only [List.mem_singleton] at hu; subst hu; rfl) (by decide) (by unfold maxLen; omega) (by omega) (by simp; omega) (w2.heap.size + 1) (by simp) ?_)
      intro g2 c2 w3 hown2 hgr2 hat2 hlt2 hkp2
      have hC2 := ((unhide HC1).alloc (.cells #[.int .u8 (m : Int)] 5)).grown hgr2 (unhide HB1)
      have hs3 := hgr2.size
      simp only [World.size_alloc] at hs3
      rw [← unhide HX1, rep_succ] at hown2
      have P2 := own_pre hown2
      have P1 := (unhide Q1a).grown hgr2 hkp2 (by omega)
      have P0 := (unhide Q0a).grown hgr2 hkp2 (by omega)
      have hb2 : ∀ g, (Value.slice (some ⟨g2, 0, none⟩) (xs.length + 1 + 1) c2).ownBlock = some g → (Value.slice av xs.length cv).ownBlock = some g ∨ wr.heap.size ≤ g := fun g hg => by
        obtain rfl : g2 = g := by simpa [Value.ownBlock] using hg
        rcases hat2 with h | h
        · exact unhide HB1 g2 h
        · exact Or.inr (by omega)
      have o3 := ownsRow_keep hown2 ((Below.refl w3.heap.size w3).alloc (Nat.le_refl _) (.cells #[.int .u8 (m : Int)] 5))
      obtain ⟨X2, hX2⟩ : ∃ X2, (List.replicate (xs.length + 1 + 1) m).map B = X2 := ⟨_, rfl⟩
      rw [hX2] at o3
      have HX2 := hide hX2
      have O3 := hide o3
      have N3 := hide (cell_one_new w3 (.int .u8 (m : Int)) 5)
      have Q2b := hide (P2.alloc (.cells #[.int .u8 (m : Int)] 5))
      have Q1b := hide (P1.alloc (.cells #[.int .u8 (m : Int)] 5))
      have Q0b := hide (P0.alloc (.cells #[.int .u8 (m : Int)] 5))
      have HC2 := hide hC2
      have HB2 := hide hb2
      clear hX2 o3 P1 P0 P2 hC2 hb2 hown2 hgr2 hat2 hkp2 HX1 O2 N2 Q0a Q1a HC1
      go_wp2_with (at_builtin; refine wpList_append_keep _ rfl (.tmp 39) (.tmp 41) 31 rfl lo 5 i5 (.int .u8 0) 1 1 Tryd.underlying31 hi5 hz50 hz51 hz52 rfl (by decide) (.slice (some ⟨g2, 0, none⟩) (xs.length + 1 + 1) c2) (xs.length + 1 + 1) X2 rfl (unhide O3) ⟨w3.heap.size, 0, none⟩ 1 1 [.int .u8 (m : Int)] rfl rfl (unhide N3) (by intro u hu; simp only [List.mem_singleton] at hu; subst hu; rfl) (by decide) (by unfold maxLen; omega) (by omega) (by simp; omega) (w3.heap.size + 1) (by simp) ?_)
      intro g3 c3 w4 hown3 hgr3 hat3 hlt3 hkp3
      have hC3 := ((unhide HC2).alloc (.cells #[.int .u8 (m : Int)] 5)).grown hgr3 (unhide HB2)
      have hs4 := hgr3.size
      simp only [World.size_alloc] at hs4
      rw [← unhide HX2, rep_succ] at hown3
      have P3 := own_pre hown3
      have P2 := (unhide Q2b).grown hgr3 hkp3 (by omega)
      have P1 := (unhide Q1b).grown hgr3 hkp3 (by omega)
      have P0 := (unhide Q0b).grown hgr3 hkp3 (by omega)
      have hb3 : ∀ g, (Value.slice (some ⟨g3, 0, none⟩) (xs.length + 1 + 1 + 1) c3).ownBlock = some g → (Value.slice av xs.length cv).ownBlock = some g ∨ wr.heap.size ≤ g := fun g hg => by
        obtain rfl : g3 = g := by simpa [Value.ownBlock] using hg
        rcases hat3 with h | h
        · exact unhide HB2 g3 h
        · exact Or.inr (by omega)
      have HC3 := hide hC3
      have HB3 := hide hb3
      have Q3 := hide P3
      have Q2 := hide P2
      have Q1 := hide P1
      have Q0 := hide P0
      clear P0 P1 P2 P3 hC3 hb3 hown3 hgr3 hat3 hkp3 HX2 O3 N3 Q0b Q1b Q2b HC2
      obtain ⟨g1v, hg1v⟩ : ∃ u, Value.slice (some ⟨g1, 0, none⟩) (xs.length + 1) c1 = u := ⟨_, rfl⟩
      have hbv : ∀ g, (Value.slice av xs.length cv).ownBlock = some g → Free ob n bs ks U g := unhide HFR
      -- from w on
      have hCw : Chg (fun b => (Value.slice av xs.length cv).ownBlock = some b ∨ b = ob) w w4 := by
        have h1 : Chg (fun b => (Value.slice av xs.length cv).ownBlock = some b ∨ b = ob) w w1 := by
          rw [← unhide HW1]
          exact (Chg.refl _ _).setCell _ _ (Or.inl (Or.inr rfl))
        exact (h1.trans ((unhide HON).chg.mono (fun k hk => Or.inl hk))).trans ((unhide HC3).mono (fun k hk => Or.inl hk))
      have hrow4 : w4.rowIs ob 27 3 (bookV bs ks (n + 1)) := by
        have h1 : w1.rowIs ob 27 3 (bookV bs ks (n + 1)) := by
          rw [← unhide HW1]
          refine ((unhide HBK).obj.set 2 _).congr (fun i hi => ?_)
          unfold bookV
          rcases (show i = 0 ∨ i = 1 ∨ i = 2 by omega) with rfl | rfl | rfl <;> simp
        exact rowIs_chg (rowIs_chg h1 (unhide HON).chg hobne) (unhide HC3) hobne
      have hbs4 := ownsRow_chg (unhide HBK).bsR hCw (fun g hg hX => hX.elim (fun h => (hbv g h).2.1 hg) (fun h => ((unhide HBK).lt_bs g hg).2.1 h))
      have hks4 := ownsRow_chg (unhide HBK).ksR hCw (fun g hg hX => hX.elim (fun h => (hbv g h).2.2.1 hg) (fun h => ((unhide HBK).lt_ks g hg).2 h))
      have hU4 : ∀ i, i < 4 * n → SlB w4 (U i) (List.replicate (Ln i) (noOf i % 256)) := fun i hi => slB_chg ((unhide HBK).ent i hi) hCw (fun g hg hX => hX.elim (fun h => (hbv g h).2.2.2 i hi hg) (fun h => ((unhide HBK).lt_U i hi g hg).2.1 h))
      have c0 := hrow4.cell (i := 0) (by omega)
      have f0 := hrow4.frozen 0
      simp only [bookV, if_true] at c0
      clear hg1v g1v
      obtain ⟨XU, hXU⟩ : ∃ XU, (List.range (4 * n)).map U = XU := ⟨_, rfl⟩
      rw [hXU] at hbs4
      have HXU := hide hXU
      have hal : Below w4.heap.size w4 (w4.alloc (.cells #[.slice av xs.length cv, .slice (some ⟨g1, 0, none⟩) (xs.length + 1) c1, .slice (some ⟨g2, 0, none⟩) (xs.length + 1 + 1) c2, .slice (some ⟨g3, 0, none⟩) (xs.length + 1 + 1 + 1) c3] 31)) := (Below.refl _ _).alloc (Nat.le_refl _) _
      have OB := hide (ownsRow_keep hbs4 hal)
      have NB := hide (four_new w4 (.slice av xs.length cv) (.slice (some ⟨g1, 0, none⟩) (xs.length + 1) c1) (.slice (some ⟨g2, 0, none⟩) (xs.length + 1 + 1) c2) (.slice (some ⟨g3, 0, none⟩) (xs.length + 1 + 1 + 1) c3) 31)
      have HCW := hide hCw
      have HR4 := hide hrow4
      have HK4 := hide hks4
      have HU4 := hide hU4
      have hs4lo : lo ≤ w4.heap.size := Nat.le_trans hlo (unhide HC3).size
      have hobw : ob < w4.heap.size := hrow4.lt
      have hbsob : bs.ownBlock ≠ some ob := fun e => ((unhide HBK).lt_bs ob e).2.1 rfl
      clear hXU hal hbs4 hCw hrow4 hks4 hU4 hbv
      go_wp2_with (at_builtin; refine wpList_append_keep _ rfl (.tmp 47) (.tmp 52) 24 rfl lo 31 iL (.slice none 0 0) 1 24 Tryd.underlying24 hiL hzL0 hzL1 hzL2 rfl (by decide) bs (4 * n) XU rfl (unhide OB) ⟨w4.heap.size, 0, none⟩ 4 4 [.slice av xs.length cv, .slice (some ⟨g1, 0, none⟩) (xs.length + 1) c1, .slice (some ⟨g2, 0, none⟩) (xs.length + 1 + 1) c2, .slice (some ⟨g3, 0, none⟩) (xs.length + 1 + 1 + 1) c3] rfl rfl (unhide NB) (by intro u hu; simp only [List.mem_cons, List.not_mem_nil, or_false] at hu; rcases hu with rfl | rfl | rfl | rfl <;> rfl) (by decide) (by unfold maxLen; omega) (by omega) (by simp; omega) (w4.heap.size + 1) (by simp) ?_)
      intro gb cb w5 hownb hgrb hatb hltb hkpb
      have hC5 : Chg (fun b => bs.ownBlock = some b) w4 w5 := ((Chg.refl _ _).alloc _).grown hgrb (fun g hg => Or.inl hg)
      have hs5 := hC5.size
      have hrow5 := rowIs_chg (unhide HR4) hC5 hbsob
      have hks5 := ownsRow_chg (unhide HK4) hC5 (fun g hg hX => ((unhide HBK).lt_bs g hX).2.2 hg)
      have hU5 : ∀ i, i < 4 * n → SlB w5 (U i) (List.replicate (Ln i) (noOf i % 256)) := fun i hi => slB_chg (unhide HU4 i hi) hC5 (fun g hg hX => ((unhide HBK).lt_U i hi g hg).2.2.1 hX)
      have hvb : ∀ g, (Value.slice av xs.length cv).ownBlock = some g ∨ wr.heap.size ≤ g → bs.ownBlock ≠ some g ∧ ks.ownBlock ≠ some g ∧ g ≠ ob := fun g hg => by
        have hws := unhide HWS
        rcases hg with hg | hg
        · exact ⟨(unhide HFR g hg).2.1, (unhide HFR g hg).2.2.1, (unhide HFR g hg).1⟩
        · refine ⟨fun e => ?_, fun e => ?_, fun e => ?_⟩
          · have := ((unhide HBK).lt_bs g e).1; omega
          · have := ((unhide HBK).lt_ks g e).1; omega
          · have := (unhide HBK).lt_ob; omega
      have q0 := pre_chg (unhide Q0) hC5 (fun g hg hX => (hvb g (Or.inl hg)).1 hX)
      have q1 := pre_chg (unhide Q1) hC5 (fun g hg hX => (hvb g (unhide HB1 g hg)).1 hX)
      have q2 := pre_chg (unhide Q2) hC5 (fun g hg hX => (hvb g (unhide HB2 g hg)).1 hX)
      have q3 := pre_chg (unhide Q3) hC5 (fun g hg hX => (hvb g (unhide HB3 g hg)).1 hX)
      have c0' := hrow5.cell (i := 0) (by omega)
      have f0' := hrow5.frozen 0
      simp only [bookV, if_true] at c0'
      -- the store of the new list
      have hgbx : gb ≠ ob := by
        rcases hatb with h | h
        · exact fun e => hbsob (by rw [h, e])
        · have := (unhide HBK).lt_ob; have := unhide HWS; have := (unhide HC3).size; omega
      have hrow6 : (w5.setCell ⟨ob, 0, none⟩ (.slice (some ⟨gb, 0, none⟩) (4 * n + 4) cb)).rowIs ob 27 3 (bookV (.slice (some ⟨gb, 0, none⟩) (4 * n + 4) cb) ks (n + 1)) := (hrow5.set 0 _).congr (fun i hi => by
        unfold bookV
        rcases (show i = 0 ∨ i = 1 ∨ i = 2 by omega) with rfl | rfl | rfl <;> simp)
      have hbs6 := ownsRow_other hownb ⟨ob, 0, none⟩ (.slice (some ⟨gb, 0, none⟩) (4 * n + 4) cb) (by simp [Value.ownBlock]; exact hgbx)
      have hks6 := ownsRow_other hks5 ⟨ob, 0, none⟩ (.slice (some ⟨gb, 0, none⟩) (4 * n + 4) cb) (fun e => ((unhide HBK).lt_ks ob e).2 rfl)
      have hU6 : ∀ i, i < 4 * n → SlB (w5.setCell ⟨ob, 0, none⟩ (.slice (some ⟨gb, 0, none⟩) (4 * n + 4) cb)) (U i) (List.replicate (Ln i) (noOf i % 256)) := fun i hi => slb_set' (hU5 i hi) _ _ (fun e => ((unhide HBK).lt_U i hi ob e).2.1 rfl)
      have p0 := q0.set ⟨ob, 0, none⟩ (.slice (some ⟨gb, 0, none⟩) (4 * n + 4) cb) hobne
      have p1 := q1.set ⟨ob, 0, none⟩ (.slice (some ⟨gb, 0, none⟩) (4 * n + 4) cb) (fun e => (hvb ob (unhide HB1 ob e)).2.2 rfl)
      have p2 := q2.set ⟨ob, 0, none⟩ (.slice (some ⟨gb, 0, none⟩) (4 * n + 4) cb) (fun e => (hvb ob (unhide HB2 ob e)).2.2 rfl)
      have p3 := q3.set ⟨ob, 0, none⟩ (.slice (some ⟨gb, 0, none⟩) (4 * n + 4) cb) (fun e => (hvb ob (unhide HB3 ob e)).2.2 rfl)
      have hC6 : Chg (fun b => (Value.slice av xs.length cv).ownBlock = some b ∨ bs.ownBlock = some b ∨ ks.ownBlock = some b ∨ b = ob) w (w5.setCell ⟨ob, 0, none⟩ (.slice (some ⟨gb, 0, none⟩) (4 * n + 4) cb)) :=
        (((unhide HCW).mono (fun k hk => hk.elim Or.inl (fun h => Or.inr (Or.inr (Or.inr h))))).trans (hC5.mono (fun k hk => Or.inr (Or.inl hk)))).setCell _ _ (Or.inl (Or.inr (Or.inr (Or.inr rfl))))
      have hgbN : bs.ownBlock = some gb ∨ w.heap.size ≤ gb := by
        rcases hatb with h | h
        · exact Or.inl h
        · have := unhide HWS; have := (unhide HC3).size; exact Or.inr (by omega)
      have HR6 := hide hrow6
      have HB6 := hide hbs6
      have HK6 := hide hks6
      have HU6 := hide hU6
      have HVB := hide hvb
      have E0 := hide p0
      have E1 := hide p1
      have E2 := hide p2
      have E3 := hide p3
      have HC6 := hide hC6
      have HGN := hide hgbN
      have hgblt : gb < w5.heap.size := hltb
      have HAT := hide hatb
      clear hC5 hrow5 hks5 hU5 hvb q0 q1 q2 q3 hrow6 hbs6 hks6 hU6 p0 p1 p2 p3 hC6 hownb hgrb hkpb hgbN Q0 Q1 Q2 Q3 HR4 HK4 HU4 OB NB hatb hltb
      go_wp2
      clear c0 f0 c0' f0'
      obtain ⟨w6, hw6⟩ : ∃ w6, w5.setCell ⟨ob, 0, none⟩ (.slice (some ⟨gb, 0, none⟩) (4 * n + 4) cb) = w6 := ⟨_, rfl⟩
      have hs6 : w6.heap.size = w5.heap.size := by rw [← hw6]; simp
      rw [hw6] at HR6 HB6 HK6 HU6 E0 E1 E2 E3 HC6 ⊢
      have d1 := (unhide HR6).cell (i := 1) (by omega)
      have d2 := (unhide HR6).cell (i := 2) (by omega)
      simp only [bookV, show ¬ (1 = 0) by omega, show ¬ (2 = 0) by omega, show ¬ (2 = 1) by omega, if_false, if_true] at d1 d2
      have D1 := hide d1
      have D2 : Hid (w6.cell? ⟨ob, 2, none⟩ = some (.int .i64 ((n : Int) + 1))) := d2
      have HS6 := hide hs6
      clear d1 d2 hw6 hs6
      refine wp_region_noPanic ?_
      refine orders_begin 25 (fun w' => w'.cell? ⟨ob, 1, none⟩ = some ks ∧ w'.cell? ⟨ob, 2, none⟩ = some (.int .i64 ((n : Int) + 1))) (by kernel_rfl) ?_
      refine orders_take 0 (some 56) (v := .pointer (some ⟨ob, 0, none⟩)) rfl (by kernel_rfl) (by kernel_rfl) (by kernel_rfl) (by kernel_rfl) (fun _ _ _ h => h) (Or.inl ⟨by rfl, fun _ _ => rfl⟩) ⟨unhide D1, unhide D2⟩ rfl ?_
      simp only [Act.put, List.setIfInBounds_toArray, List.set_cons_zero, List.set_cons_succ]
      refine orders_take 1 (some 57) (v := .pointer (some ⟨ob, 0, none⟩)) rfl (by kernel_rfl) (by kernel_rfl) (by kernel_rfl) (by kernel_rfl) (fun _ _ _ h => h) (Or.inl ⟨by rfl, fun _ _ => rfl⟩) ⟨unhide D1, unhide D2⟩ rfl ?_
      simp only [Act.put, List.setIfInBounds_toArray, List.set_cons_zero, List.set_cons_succ]
      refine orders_take 2 (some 58) (v := .pointer (some ⟨ob, 0, none⟩)) rfl (by kernel_rfl) (by kernel_rfl) (by kernel_rfl) (by kernel_rfl) (fun _ _ _ h => h) (Or.inl ⟨by rfl, fun _ _ => by go_simp⟩) ⟨unhide D1, unhide D2⟩ rfl ?_
      simp only [Act.put, List.setIfInBounds_toArray, List.set_cons_zero, List.set_cons_succ]
      refine orders_take 3 (some 59) (v := .pointer (some ⟨ob, 1, none⟩)) rfl (by kernel_rfl) (by kernel_rfl) (by kernel_rfl) (by kernel_rfl) (fun _ _ _ h => h) (Or.inl ⟨by rfl, fun _ _ => by go_simp⟩) ⟨unhide D1, unhide D2⟩ rfl ?_
      simp only [Act.put, List.setIfInBounds_toArray, List.set_cons_zero, List.set_cons_succ]
      refine orders_take 4 (some 60) (v := ks) rfl (by kernel_rfl) (by kernel_rfl) (by kernel_rfl) (by kernel_rfl) (fun _ _ _ h => h) (Or.inl ⟨by rfl, fun w' hw => by have h1 := hw.1; clear hw; go_simp⟩) ⟨unhide D1, unhide D2⟩ rfl ?_
      simp only [Act.put, List.setIfInBounds_toArray, List.set_cons_zero, List.set_cons_succ]
      refine orders_take 5 (some 61) (v := .pointer (some ⟨ob, 0, none⟩)) rfl (by kernel_rfl) (by kernel_rfl) (by kernel_rfl) (by kernel_rfl) (fun _ _ _ h => h) (Or.inl ⟨by rfl, fun _ _ => rfl⟩) ⟨unhide D1, unhide D2⟩ rfl ?_
      simp only [Act.put, List.setIfInBounds_toArray, List.set_cons_zero, List.set_cons_succ]
      refine orders_take 6 (some 62) (v := .pointer (some ⟨ob, 0, none⟩)) rfl (by kernel_rfl) (by kernel_rfl) (by kernel_rfl) (by kernel_rfl) (fun _ _ _ h => h) (Or.inl ⟨by rfl, fun _ _ => by go_simp⟩) ⟨unhide D1, unhide D2⟩ rfl ?_
      simp only [Act.put, List.setIfInBounds_toArray, List.set_cons_zero, List.set_cons_succ]
      refine orders_take 7 (some 63) (v := .pointer (some ⟨ob, 2, none⟩)) rfl (by kernel_rfl) (by kernel_rfl) (by kernel_rfl) (by kernel_rfl) (fun _ _ _ h => h) (Or.inl ⟨by rfl, fun _ _ => by go_simp⟩) ⟨unhide D1, unhide D2⟩ rfl ?_
      simp only [Act.put, List.setIfInBounds_toArray, List.set_cons_zero, List.set_cons_succ]
      refine orders_take 8 (some 64) (v := .int .i64 ((n : Int) + 1)) rfl (by kernel_rfl) (by kernel_rfl) (by kernel_rfl) (by kernel_rfl) (fun _ _ _ h => h) (Or.inl ⟨by rfl, fun w' hw => by have h1 := hw.2; clear hw; go_simp⟩) ⟨unhide D1, unhide D2⟩ rfl ?_
      simp only [Act.put, List.setIfInBounds_toArray, List.set_cons_zero, List.set_cons_succ]
      refine orders_take 9 (some 65) (v := .pointer (some ⟨ob, 0, none⟩)) rfl (by kernel_rfl) (by kernel_rfl) (by kernel_rfl) (by kernel_rfl) (fun _ _ _ h => h) (Or.inl ⟨by rfl, fun _ _ => rfl⟩) ⟨unhide D1, unhide D2⟩ rfl ?_
      simp only [Act.put, List.setIfInBounds_toArray, List.set_cons_zero, List.set_cons_succ]
      refine orders_take 10 (some 66) (v := .pointer (some ⟨ob, 0, none⟩)) rfl (by kernel_rfl) (by kernel_rfl) (by kernel_rfl) (by kernel_rfl) (fun _ _ _ h => h) (Or.inl ⟨by rfl, fun _ _ => by go_simp⟩) ⟨unhide D1, unhide D2⟩ rfl ?_
      simp only [Act.put, List.setIfInBounds_toArray, List.set_cons_zero, List.set_cons_succ]
      refine orders_take 11 (some 67) (v := .pointer (some ⟨ob, 2, none⟩)) rfl (by kernel_rfl) (by kernel_rfl) (by kernel_rfl) (by kernel_rfl) (fun _ _ _ h => h) (Or.inl ⟨by rfl, fun _ _ => by go_simp⟩) ⟨unhide D1, unhide D2⟩ rfl ?_
      simp only [Act.put, List.setIfInBounds_toArray, List.set_cons_zero, List.set_cons_succ]
      refine orders_take 12 (some 68) (v := .int .i64 ((n : Int) + 1)) rfl (by kernel_rfl) (by kernel_rfl) (by kernel_rfl) (by kernel_rfl) (fun _ _ _ h => h) (Or.inl ⟨by rfl, fun w' hw => by have h1 := hw.2; clear hw; go_simp⟩) ⟨unhide D1, unhide D2⟩ rfl ?_
      simp only [Act.put, List.setIfInBounds_toArray, List.set_cons_zero, List.set_cons_succ]
      refine orders_take 13 (some 69) (v := .pointer (some ⟨ob, 0, none⟩)) rfl (by kernel_rfl) (by kernel_rfl) (by kernel_rfl) (by kernel_rfl) (fun _ _ _ h => h) (Or.inl ⟨by rfl, fun _ _ => rfl⟩) ⟨unhide D1, unhide D2⟩ rfl ?_
      simp only [Act.put, List.setIfInBounds_toArray, List.set_cons_zero, List.set_cons_succ]
      refine orders_take 14 (some 70) (v := .pointer (some ⟨ob, 0, none⟩)) rfl (by kernel_rfl) (by kernel_rfl) (by kernel_rfl) (by kernel_rfl) (fun _ _ _ h => h) (Or.inl ⟨by rfl, fun _ _ => by go_simp⟩) ⟨unhide D1, unhide D2⟩ rfl ?_
      simp only [Act.put, List.setIfInBounds_toArray, List.set_cons_zero, List.set_cons_succ]
      refine orders_take 15 (some 71) (v := .pointer (some ⟨ob, 2, none⟩)) rfl (by kernel_rfl) (by kernel_rfl) (by kernel_rfl) (by kernel_rfl) (fun _ _ _ h => h) (Or.inl ⟨by rfl, fun _ _ => by go_simp⟩) ⟨unhide D1, unhide D2⟩ rfl ?_
      simp only [Act.put, List.setIfInBounds_toArray, List.set_cons_zero, List.set_cons_succ]
      refine orders_take 16 (some 72) (v := .int .i64 ((n : Int) + 1)) rfl (by kernel_rfl) (by kernel_rfl) (by kernel_rfl) (by kernel_rfl) (fun _ _ _ h => h) (Or.inl ⟨by rfl, fun w' hw => by have h1 := hw.2; clear hw; go_simp⟩) ⟨unhide D1, unhide D2⟩ rfl ?_
      simp only [Act.put, List.setIfInBounds_toArray, List.set_cons_zero, List.set_cons_succ]
      refine orders_take 17 (some 73) (v := .pointer (some ⟨ob, 0, none⟩)) rfl (by kernel_rfl) (by kernel_rfl) (by kernel_rfl) (by kernel_rfl) (fun _ _ _ h => h) (Or.inl ⟨by rfl, fun _ _ => rfl⟩) ⟨unhide D1, unhide D2⟩ rfl ?_
      simp only [Act.put, List.setIfInBounds_toArray, List.set_cons_zero, List.set_cons_succ]
      refine orders_take 18 (some 74) (v := .pointer (some ⟨ob, 0, none⟩)) rfl (by kernel_rfl) (by kernel_rfl) (by kernel_rfl) (by kernel_rfl) (fun _ _ _ h => h) (Or.inl ⟨by rfl, fun _ _ => by go_simp⟩) ⟨unhide D1, unhide D2⟩ rfl ?_
      simp only [Act.put, List.setIfInBounds_toArray, List.set_cons_zero, List.set_cons_succ]
      refine orders_take 19 (some 75) (v := .pointer (some ⟨ob, 2, none⟩)) rfl (by kernel_rfl) (by kernel_rfl) (by kernel_rfl) (by kernel_rfl) (fun _ _ _ h => h) (Or.inl ⟨by rfl, fun _ _ => by go_simp⟩) ⟨unhide D1, unhide D2⟩ rfl ?_
      simp only [Act.put, List.setIfInBounds_toArray, List.set_cons_zero, List.set_cons_succ]
      refine orders_take 20 (some 76) (v := .int .i64 ((n : Int) + 1)) rfl (by kernel_rfl) (by kernel_rfl) (by kernel_rfl) (by kernel_rfl) (fun _ _ _ h => h) (Or.inl ⟨by rfl, fun w' hw => by have h1 := hw.2; clear hw; go_simp⟩) ⟨unhide D1, unhide D2⟩ rfl ?_
      simp only [Act.put, List.setIfInBounds_toArray, List.set_cons_zero, List.set_cons_succ]
      have HR7 : Hid (w6.drew.rowIs ob 27 3 (bookV (.slice (some ⟨gb, 0, none⟩) (4 * n + 4) cb) ks (n + 1))) := unhide HR6
      have HB7 := hide (show w6.drew.ownsRow lo 31 1 (.slice (some ⟨gb, 0, none⟩) (4 * n + 4) cb) (4 * n + 4) _ from unhide HB6)
      have HK7 := hide (show w6.drew.ownsRow lo 3 1 ks (4 * n) _ from unhide HK6)
      have HU7 : Hid (∀ i, i < 4 * n → SlB w6.drew (U i) (List.replicate (Ln i) (noOf i % 256))) := unhide HU6
      have F0 : Hid (Pre w6.drew (.slice av xs.length cv) xs.length m) := unhide E0
      have F1 : Hid (Pre w6.drew (.slice (some ⟨g1, 0, none⟩) (xs.length + 1) c1) (xs.length + 1) m) := unhide E1
      have F2 : Hid (Pre w6.drew (.slice (some ⟨g2, 0, none⟩) (xs.length + 1 + 1) c2) (xs.length + 1 + 1) m) := unhide E2
      have F3 : Hid (Pre w6.drew (.slice (some ⟨g3, 0, none⟩) (xs.length + 1 + 1 + 1) c3) (xs.length + 1 + 1 + 1) m) := unhide E3
      have HC7 := hide (unhide HC6).drew
      have D1' : Hid (w6.drew.cell? ⟨ob, 1, none⟩ = some ks) := unhide D1
      have D2' : Hid (w6.drew.cell? ⟨ob, 2, none⟩ = some (.int .i64 ((n : Int) + 1))) := unhide D2
      have hs7 : w6.drew.heap.size = w5.heap.size := unhide HS6
      have HS7 := hide hs7
      clear HR6 HB6 HK6 HU6 E0 E1 E2 E3 HC6 D1 D2 hs7 HS6
      generalize w6.drew = w7 at *
      refine orders_one 21 (by kernel_rfl) rfl (by rfl) (fun K hK => ?_)
      go_simp
      refine hK.out _ _ (fun _ => ⟨by rw [World.cell?_alloc_past _ _ _ (block_lt_of_cell (unhide D1'))]; exact unhide D1', by rw [World.cell?_alloc_past _ _ _ (block_lt_of_cell (unhide D2'))]; exact unhide D2'⟩) ?_
      clear hK K
      obtain ⟨XK, hXK⟩ : ∃ XK, ((List.range (4 * n)).map fun i => Value.int .i64 ((noOf i : Nat) : Int)) = XK := ⟨_, rfl⟩
      rw [hXK] at HK7
      have hal7 : Below w7.heap.size w7 (w7.alloc (.cells #[.int .i64 ((n : Int) + 1), .int .i64 ((n : Int) + 1), .int .i64 ((n : Int) + 1), .int .i64 ((n : Int) + 1)] 3)) := (Below.refl _ _).alloc (Nat.le_refl _) _
      have hlo7 : lo ≤ w7.heap.size := by rw [unhide HS7]; omega
      refine orders_one 22 (by kernel_rfl) rfl (by rfl) (fun K hK => ?_)
      refine wp_append_keep _ (.tmp 60) (.tmp 77) 25 rfl lo 3 i3 (.int .i64 0) 1 8 Tryd.underlying25 hi3 hz30 hz31 hz32 rfl (by decide) ks (4 * n) XK rfl (ownsRow_keep (unhide HK7) hal7) ⟨w7.heap.size, 0, none⟩ 4 4 [.int .i64 ((n : Int) + 1), .int .i64 ((n : Int) + 1), .int .i64 ((n : Int) + 1), .int .i64 ((n : Int) + 1)] rfl rfl (four_new w7 _ _ _ _ 3) (by intro u hu; simp only [List.mem_cons, List.not_mem_nil, or_false, or_self] at hu; subst hu; rfl) (by decide) (by unfold maxLen; omega) (by omega) (by simp; omega) (w7.heap.size + 1) (by simp) ?_
      intro gk ck w8 hownk hgrk hatk hltk hkpk
      have hC8 : Chg (fun b => ks.ownBlock = some b) w7 w8 := ((Chg.refl _ _).alloc _).grown hgrk (fun g hg => Or.inl hg)
      have hs8 := hC8.size
      have hksob : ks.ownBlock ≠ some ob := fun e => ((unhide HBK).lt_ks ob e).2 rfl
      have hrow8 := rowIs_chg (unhide HR7) hC8 hksob
      have k1 := hrow8.cell (i := 1) (by omega)
      have k2 := hrow8.cell (i := 2) (by omega)
      have f1 := hrow8.frozen 1
      simp only [bookV, show ¬ (1 = 0) by omega, show ¬ (2 = 0) by omega, show ¬ (2 = 1) by omega, if_false, if_true] at k1 k2
      have k2' : w8.cell? ⟨ob, 2, none⟩ = some (.int .i64 ((n : Int) + 1)) := k2
      refine hK.out _ _ (fun _ => ⟨k1, k2'⟩) ?_
      clear hK K
      refine orders_one 23 (by kernel_rfl) rfl (by rfl) (fun K hK => ?_)
      go_simp
      refine hK.out _ _ (fun _ => ⟨k1, k2'⟩) ?_
      clear hK K
      refine orders_one 24 (by kernel_rfl) rfl (by rfl) (fun K hK => ?_)
      go_simp
      refine hK.out _ _ (fun _ => ⟨k1, k2'⟩) ?_
      clear hK K
      refine orders_one 25 (by kernel_rfl) rfl (by rfl) (fun K hK => ?_)
      go_simp
      refine hK.out _ _ (fun h => absurd rfl h) ?_
      clear hK K
      refine orders_end (by kernel_rfl) ?_
      refine NoPanic.normal ?_
      refine bodyPost_end (results_none rfl _ _ _) rfl ?_
      -- the book
      have hws := unhide HWS
      have hs7 := unhide HS7
      have hs34 := (unhide HC3).size
      have hlob := (unhide HBK).lt_ob
      have hvb := unhide HVB
      have hgkN : ks.ownBlock = some gk ∨ w7.heap.size ≤ gk := by
        rcases hatk with h | h
        · exact Or.inl h
        · exact Or.inr (by omega)
      have hgkob : gk ≠ ob := by
        rcases hgkN with h | h
        · exact ((unhide HBK).lt_ks gk h).2
        · omega
      have hgbgk : gb ≠ gk := by
        rcases hgkN with h | h
        · rcases unhide HGN with h' | h'
          · exact fun e => ((unhide HBK).lt_bs gb h').2.2 (by rw [h, e])
          · have := ((unhide HBK).lt_ks gk h).1; omega
        · omega
      have hkX : ∀ g, (Value.slice av xs.length cv).ownBlock = some g ∨ wr.heap.size ≤ g → ks.ownBlock ≠ some g := fun g hg => (hvb g hg).2.1
      have r0 := (pre_chg (unhide F0) hC8 (fun g hg hX => hkX g (Or.inl hg) hX)).set ⟨ob, 1, none⟩ (.slice (some ⟨gk, 0, none⟩) (4 * n + 4) ck) hobne
      have r1 := (pre_chg (unhide F1) hC8 (fun g hg hX => hkX g (unhide HB1 g hg) hX)).set ⟨ob, 1, none⟩ (.slice (some ⟨gk, 0, none⟩) (4 * n + 4) ck) (fun e => (hvb ob (unhide HB1 ob e)).2.2 rfl)
      have r2 := (pre_chg (unhide F2) hC8 (fun g hg hX => hkX g (unhide HB2 g hg) hX)).set ⟨ob, 1, none⟩ (.slice (some ⟨gk, 0, none⟩) (4 * n + 4) ck) (fun e => (hvb ob (unhide HB2 ob e)).2.2 rfl)
      have r3 := (pre_chg (unhide F3) hC8 (fun g hg hX => hkX g (unhide HB3 g hg) hX)).set ⟨ob, 1, none⟩ (.slice (some ⟨gk, 0, none⟩) (4 * n + 4) ck) (fun e => (hvb ob (unhide HB3 ob e)).2.2 rfl)
      have hlt : ∀ (u : Value) (len : Nat), Pre (w8.setCell ⟨ob, 1, none⟩ (.slice (some ⟨gk, 0, none⟩) (4 * n + 4) ck)) u len m → ∀ g, u.ownBlock = some g → g < (w8.setCell ⟨ob, 1, none⟩ (.slice (some ⟨gk, 0, none⟩) (4 * n + 4) ck)).heap.size := fun u len hp g hg => by
        rcases hp with ⟨rfl, _⟩ | ⟨g', c, rfl, hl, _⟩
        · cases hg
        · obtain rfl : g' = g := by simpa [Value.ownBlock] using hg
          exact hl
      have hsz9 : (w8.setCell ⟨ob, 1, none⟩ (.slice (some ⟨gk, 0, none⟩) (4 * n + 4) ck)).heap.size = w8.heap.size := by simp
      have hNw : N ≤ w8.heap.size := by omega
      -- what of the four
      have hfour : ∀ g, (Value.slice av xs.length cv).ownBlock = some g ∨ wr.heap.size ≤ g → g < w4.heap.size → g < w8.heap.size ∧ g ≠ ob ∧ (Value.slice (some ⟨gb, 0, none⟩) (4 * n + 4) cb).ownBlock ≠ some g ∧ (Value.slice (some ⟨gk, 0, none⟩) (4 * n + 4) ck).ownBlock ≠ some g := fun g hg hgl => by
        obtain ⟨a1, a2, a3⟩ := hvb g hg
        refine ⟨by omega, a3, fun e => ?_, fun e => ?_⟩
        · obtain rfl : gb = g := by simpa [Value.ownBlock] using e
          rcases unhide HAT with h | h
          · exact a1 h
          · omega
        · obtain rfl : gk = g := by simpa [Value.ownBlock] using e
          rcases hgkN with h | h
          · exact a2 h
          · omega
      have hv0 : ∀ g, (Value.slice av xs.length cv).ownBlock = some g → g < w4.heap.size := fun g hg => by have := unhide HVL g hg; omega
      have hv1 : ∀ g, (Value.slice (some ⟨g1, 0, none⟩) (xs.length + 1) c1).ownBlock = some g → g < w4.heap.size := fun g hg => by
        obtain rfl : g1 = g := by simpa [Value.ownBlock] using hg
        omega
      have hv2 : ∀ g, (Value.slice (some ⟨g2, 0, none⟩) (xs.length + 1 + 1) c2).ownBlock = some g → g < w4.heap.size := fun g hg => by
        obtain rfl : g2 = g := by simpa [Value.ownBlock] using hg
        omega
      have hv3 : ∀ g, (Value.slice (some ⟨g3, 0, none⟩) (xs.length + 1 + 1 + 1) c3).ownBlock = some g → g < w4.heap.size := fun g hg => by
        obtain rfl : g3 = g := by simpa [Value.ownBlock] using hg
        omega
      have hUold : ∀ i, i < 4 * n → ∀ g, (U i).ownBlock = some g → g < w8.heap.size ∧ g ≠ ob ∧ (Value.slice (some ⟨gb, 0, none⟩) (4 * n + 4) cb).ownBlock ≠ some g ∧ (Value.slice (some ⟨gk, 0, none⟩) (4 * n + 4) ck).ownBlock ≠ some g := fun i hi g hg => by
        obtain ⟨a1, a2, a3, a4⟩ := (unhide HBK).lt_U i hi g hg
        refine ⟨by omega, a2, fun e => ?_, fun e => ?_⟩
        · obtain rfl : gb = g := by simpa [Value.ownBlock] using e
          rcases unhide HAT with h | h
          · exact a3 h
          · omega
        · obtain rfl : gk = g := by simpa [Value.ownBlock] using e
          rcases hgkN with h | h
          · exact a4 h
          · omega
      have hm := unhide HM
      have hno : ∀ j, j < 4 → noOf (4 * n + j) % 256 = m := fun j hj => by
        rw [← hm]
        congr 1
        unfold noOf
        omega
      have hC9 := ((unhide HC7).trans (hC8.mono (fun k hk => Or.inr (Or.inr (Or.inl hk))))).setCell ⟨ob, 1, none⟩ (.slice (some ⟨gk, 0, none⟩) (4 * n + 4) ck) (Or.inl (Or.inr (Or.inr (Or.inr rfl))))
      have hbs8 := ownsRow_other (ownsRow_chg (unhide HB7) hC8 (fun g hg hX => by
        obtain rfl : gb = g := by simpa [Value.ownBlock] using hg
        rcases unhide HAT with h | h
        · exact ((unhide HBK).lt_bs gb h).2.2 hX
        · have := ((unhide HBK).lt_ks gb hX).1; omega)) ⟨ob, 1, none⟩ (.slice (some ⟨gk, 0, none⟩) (4 * n + 4) ck) (by simp [Value.ownBlock]; exact hgbx)
      have hks8 := ownsRow_other hownk ⟨ob, 1, none⟩ (.slice (some ⟨gk, 0, none⟩) (4 * n + 4) ck) (by simp [Value.ownBlock]; exact hgkob)
      rw [← unhide HXU, ← put4_list] at hbs8
      rw [← hXK, ← noOf_list] at hks8
      refine ⟨.slice (some ⟨gb, 0, none⟩) (4 * n + 4) cb, .slice (some ⟨gk, 0, none⟩) (4 * n + 4) ck, put4 U (4 * n) (.slice av xs.length cv) (.slice (some ⟨g1, 0, none⟩) (xs.length + 1) c1) (.slice (some ⟨g2, 0, none⟩) (xs.length + 1 + 1) c2) (.slice (some ⟨g3, 0, none⟩) (xs.length + 1 + 1 + 1) c3), putLn Ln (4 * n) xs.length, rfl, ?_, ?_, ?_⟩
      · refine ⟨(hrow8.set 1 _).congr (fun i hi => ?_), hbs8, hks8, fun i hi => ?_, (unhide HBK).lo_ob, by rw [hsz9]; omega, fun g hg => ?_, fun g hg => ?_, fun i hi g hg => ?_, fun i hi => ?_⟩
        · unfold bookV
          rcases (show i = 0 ∨ i = 1 ∨ i = 2 by omega) with rfl | rfl | rfl <;> simp
        · rcases put4_at U (4 * n) i (.slice av xs.length cv) (.slice (some ⟨g1, 0, none⟩) (xs.length + 1) c1) (.slice (some ⟨g2, 0, none⟩) (xs.length + 1 + 1) c2) (.slice (some ⟨g3, 0, none⟩) (xs.length + 1 + 1 + 1) c3) hi with ⟨h, e⟩ | ⟨rfl, e⟩ | ⟨rfl, e⟩ | ⟨rfl, e⟩ | ⟨rfl, e⟩
          · rw [e, putLn, if_pos h]
            exact slb_set' (slB_chg (unhide HU7 i h) hC8 (fun g hg hX => ((unhide HBK).lt_U i h g hg).2.2.2 hX)) _ _ (fun e' => ((unhide HBK).lt_U i h ob e').2.1 rfl)
          · rw [e, putLn, if_neg (Nat.lt_irrefl _), hm, Nat.sub_self]
            exact r0.slB
          · rw [e, putLn, if_neg (by omega), hno 1 (by omega), show 4 * n + 1 - 4 * n = 1 by omega]
            exact r1.slB
          · rw [e, putLn, if_neg (by omega), hno 2 (by omega), show 4 * n + 2 - 4 * n = 2 by omega]
            exact r2.slB
          · rw [e, putLn, if_neg (by omega), hno 3 (by omega), show 4 * n + 3 - 4 * n = 3 by omega]
            exact r3.slB
        · obtain rfl : gb = g := by simpa [Value.ownBlock] using hg
          refine ⟨by rw [hsz9]; omega, hgbx, fun e => ?_⟩
          exact hgbgk (by simpa [Value.ownBlock] using e.symm)
        · obtain rfl : gk = g := by simpa [Value.ownBlock] using hg
          exact ⟨by rw [hsz9]; exact hltk, hgkob⟩
        · rw [hsz9]
          rcases put4_at U (4 * n) i (.slice av xs.length cv) (.slice (some ⟨g1, 0, none⟩) (xs.length + 1) c1) (.slice (some ⟨g2, 0, none⟩) (xs.length + 1 + 1) c2) (.slice (some ⟨g3, 0, none⟩) (xs.length + 1 + 1 + 1) c3) hi with ⟨h, e⟩ | ⟨rfl, e⟩ | ⟨rfl, e⟩ | ⟨rfl, e⟩ | ⟨rfl, e⟩
          · rw [e] at hg; exact hUold i h g hg
          · rw [e] at hg; exact hfour g (Or.inl hg) (hv0 g hg)
          · rw [e] at hg; exact hfour g (unhide HB1 g hg) (hv1 g hg)
          · rw [e] at hg; exact hfour g (unhide HB2 g hg) (hv2 g hg)
          · rw [e] at hg; exact hfour g (unhide HB3 g hg) (hv3 g hg)
        · unfold putLn
          split
          · rename_i h; exact (unhide HBK).lens i h
          · omega
      · refine hC9.below lo (by have := (unhide HBK).lo_ob; omega) (fun k hk hX => ?_)
        rcases hX with h | h | h | h
        · have := (unhide HVLO k h); omega
        · have := ((unhide HBK).bsR.lt k h).1; omega
        · have := ((unhide HBK).ksR.lt k h).1; omega
        · have := (unhide HBK).lo_ob; omega
      · intro k hk hfk hvk
        obtain ⟨a1, a2, a3, a4⟩ := hfk
        have hold : ∀ g, (Value.slice av xs.length cv).ownBlock = some g ∨ wr.heap.size ≤ g → g ≠ k := fun g hg e => by
          subst e
          rcases hg with h | h
          · exact hvk h
          · omega
        refine ⟨⟨a1, fun e => ?_, fun e => ?_, fun i hi e => ?_⟩, hC9.block k hk (fun hX => hX.elim hvk (fun h => h.elim a2 (fun h => h.elim a3 a1)))⟩
        · obtain rfl : gb = k := by simpa [Value.ownBlock] using e
          rcases unhide HGN with h | h
          · exact a2 h
          · omega
        · obtain rfl : gk = k := by simpa [Value.ownBlock] using e
          rcases hgkN with h | h
          · exact a3 h
          · omega
        · rcases put4_at U (4 * n) i (.slice av xs.length cv) (.slice (some ⟨g1, 0, none⟩) (xs.length + 1) c1) (.slice (some ⟨g2, 0, none⟩) (xs.length + 1 + 1) c2) (.slice (some ⟨g3, 0, none⟩) (xs.length + 1 + 1 + 1) c3) hi with ⟨h, e'⟩ | ⟨rfl, e'⟩ | ⟨rfl, e'⟩ | ⟨rfl, e'⟩ | ⟨rfl, e'⟩
          · rw [e'] at e; exact a4 i h e
          · rw [e'] at e; exact hvk e
          · rw [e'] at e; exact hold k (unhide HB1 k e) rfl
          · rw [e'] at e; exact hold k (unhide HB2 k e) rfl
          · rw [e'] at e; exact hold k (unhide HB3 k e) rfl

end Go.Proofs.YtdcinlkkjbclmaaDoor
