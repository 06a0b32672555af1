/- The book: lists that came out, each full of a number of its own. -/
import Derived.Test.YtdcinlkkjbclmaaDoorLKeep
import Derived.Test.YtdcinlkkjbclmaaDoorRefCols
import Derived.Test.YtdcinlkkjbclmaaDoorOrders
namespace Go.Proofs.YtdcinlkkjbclmaaDoor
open Go.RowKit

theorem SlB.belowN {w w' : World} {v : Value} {xs : List Nat} {N : Nat} (h : SlB w v xs) (hN : ∀ g, v.ownBlock = some g → g < N) (hb : Below N w w') : SlB w' v xs := by
  obtain ⟨a, cap, rfl, h⟩ := h
  refine ⟨a, cap, rfl, ?_⟩
  rcases h with h | ⟨b, o, rfl, h⟩
  · exact Or.inl h
  · exact Or.inr ⟨b, o, rfl, range_below h hb (hN b rfl)⟩
theorem SlB.cells {w w' : World} {v : Value} {xs : List Nat} (h : SlB w v xs) (hc : ∀ b o : Nat, (∃ n c, v = .slice (some ⟨b, o, none⟩) n c) → ∀ j, j < xs.length → w'.cell? ⟨b, o + j, none⟩ = w.cell? ⟨b, o + j, none⟩) : SlB w' v xs := by
  obtain ⟨a, cap, rfl, h⟩ := h
  refine ⟨a, cap, rfl, ?_⟩
  rcases h with h | ⟨b, o, rfl, h⟩
  · exact Or.inl h
  · refine Or.inr ⟨b, o, rfl, fun j v hj => ?_⟩
    have hj' : j < xs.length := by have := (List.getElem?_eq_some_iff.1 hj).1; simpa using this
    rw [hc b o ⟨_, _, rfl⟩ j hj']
    exact h j v hj

/-- the number that entry i is full of -/
def noOf (i : Nat) : Nat := i / 4 + 1
def bookV (bs ks : Value) (n : Nat) (i : Nat) : Value := if i = 0 then bs else if i = 1 then ks else .int .i64 (n : Int)

structure Book (w : World) (N lo ob n : Nat) (bs ks : Value) (U : Nat → Value) (Ln : Nat → Nat) : Prop where
  obj : w.rowIs ob 27 3 (bookV bs ks n)
  bsR : w.ownsRow lo 31 1 bs (4 * n) ((List.range (4 * n)).map U)
  ksR : w.ownsRow lo 3 1 ks (4 * n) ((List.range (4 * n)).map fun i => Value.int .i64 ((noOf i : Nat) : Int))
  ent : ∀ i, i < 4 * n → SlB w (U i) (List.replicate (Ln i) (noOf i % 256))
  lo_ob : lo ≤ ob
  lt_ob : ob < N
  lt_bs : ∀ g, bs.ownBlock = some g → g < N ∧ g ≠ ob ∧ ks.ownBlock ≠ some g
  lt_ks : ∀ g, ks.ownBlock = some g → g < N ∧ g ≠ ob
  lt_U : ∀ i, i < 4 * n → ∀ g, (U i).ownBlock = some g → g < N ∧ g ≠ ob ∧ bs.ownBlock ≠ some g ∧ ks.ownBlock ≠ some g
  lens : ∀ i, i < 4 * n → Ln i ≤ 2000

/-- a block that is none of the book's -/
def Free (ob n : Nat) (bs ks : Value) (U : Nat → Value) (k : Nat) : Prop := k ≠ ob ∧ bs.ownBlock ≠ some k ∧ ks.ownBlock ≠ some k ∧ ∀ i, i < 4 * n → (U i).ownBlock ≠ some k
theorem Book.free {w : World} {N lo ob n : Nat} {bs ks : Value} {U : Nat → Value} {Ln : Nat → Nat} (h : Book w N lo ob n bs ks U Ln) (k : Nat) (hk : N ≤ k) : Free ob n bs ks U k :=
  ⟨fun e => by have := h.lt_ob; omega, fun e => by have := (h.lt_bs k e).1; omega, fun e => by have := (h.lt_ks k e).1; omega, fun i hi e => by have := (h.lt_U i hi k e).1; omega⟩

theorem ownsRow_belowN {w w' : World} {base : Nat} {e : TypeId} {size : Nat} {v : Value} {n : Nat} {xs : List Value} {N : Nat} (h : w.ownsRow base e size v n xs) (hN : ∀ g, v.ownBlock = some g → g < N) (hb : Below N w w') : w'.ownsRow base e size v n xs := by
  obtain ⟨h1, h2⟩ := h
  refine ⟨h1, ?_⟩
  rcases h2 with h2 | ⟨g, cap, cur, rfl, hg, hh, r⟩
  · exact Or.inl h2
  · exact Or.inr ⟨g, cap, cur, rfl, hg, (hb.block g (hN g rfl)).trans hh, r⟩
theorem Book.below {w w' : World} {N lo ob n : Nat} {bs ks : Value} {U : Nat → Value} {Ln : Nat → Nat} (h : Book w N lo ob n bs ks U Ln) (hb : Below N w w') : Book w' N lo ob n bs ks U Ln :=
  ⟨rowIs_below h.obj hb h.lt_ob, ownsRow_belowN h.bsR (fun g hg => (h.lt_bs g hg).1) hb, ownsRow_belowN h.ksR (fun g hg => (h.lt_ks g hg).1) hb,
   fun i hi => (h.ent i hi).belowN (fun g hg => (h.lt_U i hi g hg).1) hb, h.lo_ob, h.lt_ob, h.lt_bs, h.lt_ks, h.lt_U, h.lens⟩
theorem Book.mono {w : World} {N N' lo ob n : Nat} {bs ks : Value} {U : Nat → Value} {Ln : Nat → Nat} (h : Book w N lo ob n bs ks U Ln) (hN : N ≤ N') : Book w N' lo ob n bs ks U Ln :=
  ⟨h.obj, h.bsR, h.ksR, h.ent, h.lo_ob, Nat.lt_of_lt_of_le h.lt_ob hN, fun g hg => ⟨Nat.lt_of_lt_of_le (h.lt_bs g hg).1 hN, (h.lt_bs g hg).2⟩, fun g hg => ⟨Nat.lt_of_lt_of_le (h.lt_ks g hg).1 hN, (h.lt_ks g hg).2⟩, fun i hi g hg => ⟨Nat.lt_of_lt_of_le (h.lt_U i hi g hg).1 hN, (h.lt_U i hi g hg).2⟩, h.lens⟩

/-- a row of bytes that is owned, by its cells -/
theorem own_row {w : World} {base g L cap : Nat} {xs : List Value} (h : w.ownsRow base 5 1 (.slice (some ⟨g, 0, none⟩) L cap) L xs) : base ≤ g ∧ L ≤ cap ∧ cap ≤ maxLen ∧ ∃ f, w.rowIs g 5 cap f ∧ ∀ j, j < L → xs[j]? = some (f j) := by
  have h' := h
  rcases h.2 with ⟨h2, _⟩ | ⟨g', cap', cur, e, hg, hh, hn, hm, hs, ht⟩
  · simp at h2
  simp only [Value.slice.injEq, Option.some.injEq, Addr.mk.injEq] at e
  obtain ⟨⟨rfl, _, _⟩, _, rfl⟩ := e
  refine ⟨hg, hn, hm, fun j => cur.getD j undef, ⟨cur, hh, by omega, fun i hi => ?_⟩, fun j hj => ?_⟩
  · rw [Array.getElem?_eq_getElem (by omega)]
    simp [Array.getD, show i < cur.size by omega]
  · rw [← h'.cellAt j (by omega)]
    have : w.cell? ⟨g, j, none⟩ = cur[j]? := by simp [World.cell?, hh]
    rw [this, Array.getElem?_eq_getElem (by omega)]
    simp [Array.getD, show j < cur.size by omega]
theorem row_own {w : World} {base g L cap : Nat} {f : Nat → Value} (h : w.rowIs g 5 cap f) (hb : base ≤ g) (hL : L ≤ cap) (hm : cap ≤ maxLen) : w.ownsRow base 5 1 (.slice (some ⟨g, 0, none⟩) L cap) L ((List.range L).map f) := by
  obtain ⟨c, hh, hs, hc⟩ := h
  refine ⟨by simp, Or.inr ⟨g, cap, c, rfl, hb, hh, hL, hm, by omega, ?_⟩⟩
  apply List.ext_getElem?
  intro i
  rw [Nat.mul_one]
  rcases Nat.lt_or_ge i L with h | h
  · rw [List.getElem?_take, if_pos h, Array.getElem?_toList, hc i (by omega)]
    simp [h]
  · rw [List.getElem?_eq_none (by rw [List.length_take]; omega), List.getElem?_eq_none (by simp; exact h)]

end Go.Proofs.YtdcinlkkjbclmaaDoor
