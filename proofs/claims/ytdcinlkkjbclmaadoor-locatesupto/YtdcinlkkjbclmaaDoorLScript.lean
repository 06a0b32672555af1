/- A script of columns, as it is read; what given gives is what was given. -/
import Derived.Test.YtdcinlkkjbclmaaDoorLKept
import Derived.Test.YtdcinlkkjbclmaaDoorParNo
namespace Go.Proofs.YtdcinlkkjbclmaaDoor
open Go.RowKit

structure ColI where
  Ls : List (List Nat)
  zn : Bool
  z : Nat → Bool
  ms : List Int

structure ColOK (c : ColI) : Prop where
  len : c.Ls.length ≤ 1048576
  lens : ∀ i, i < c.Ls.length → (c.Ls.getD i []).length ≤ 1048576
  byte : ∀ i, i < c.Ls.length → ∀ x ∈ c.Ls.getD i [], x < 256
  mlen : c.ms.length ≤ 1048576

/-- a slice of numbers as it is read, with room for itself -/
def SlM (w : World) (m : Value) (ms : List Int) : Prop := SlI w m ms ∧ ∀ p n k, m = .slice p n k → n ≤ k
def SlC (w : World) (v : Value) (cs : List ColI) : Prop := ∃ (a : Option Addr) (cap : Nat), v = .slice a cs.length cap ∧ (cs = [] ∨ ∃ b o : Nat, a = some ⟨b, o, none⟩ ∧ ∀ i c, cs[i]? = some c → ∃ u m, w.cell? ⟨b, o + i * 2, none⟩ = some u ∧ w.cell? ⟨b, o + i * 2 + 1, none⟩ = some m ∧ SlLn w u c.Ls c.zn c.z ∧ SlM w m c.ms ∧ ∀ p n k, u = .slice p n k → n ≤ k)
theorem SlC.below {w w' : World} {v : Value} {cs : List ColI} (h : SlC w v cs) (hb : Below w.heap.size w w') : SlC w' v cs := by
  obtain ⟨a, cap, rfl, h⟩ := h
  refine ⟨a, cap, rfl, ?_⟩
  rcases h with h | ⟨b, o, rfl, h⟩
  · exact Or.inl h
  · refine Or.inr ⟨b, o, rfl, fun i c hi => ?_⟩
    obtain ⟨u, m, h1, h2, h3, h4⟩ := h i c hi
    exact ⟨u, m, (hb.cell (block_lt_of_cell h1)).trans h1, (hb.cell (block_lt_of_cell h2)).trans h2, h3.below hb, ⟨h4.1.1.below hb, h4.1.2⟩, h4.2⟩

theorem SlLn.nils {w : World} {v : Value} {Ls : List (List Nat)} {zn : Bool} {z : Nat → Bool} (h : SlLn w v Ls zn z) (i : Nat) (hi : i < Ls.length) (hz : z i = true) : Ls.getD i [] = [] := by
  rcases h with ⟨_, _, rfl⟩ | ⟨_, x, cap, rfl, h⟩
  · simp at hi
  · rcases h with h | ⟨b, o, rfl, h⟩
    · rw [h] at hi; simp at hi
    · obtain ⟨u, _, h2⟩ := h i hi
      rcases h2 with ⟨_, _, h3⟩ | ⟨h3, _⟩
      · exact h3
      · rw [hz] at h3; cases h3

theorem GivenTo.slL {w : World} {G cap : Nat} {Ls : List (List Nat)} {z : Nat → Bool} {Gf S : Nat → Nat} (h : GivenTo w G Ls.length Ls.length Ls z Gf S) (hz : ∀ i, i < Ls.length → z i = true → Ls.getD i [] = []) : SlL w (.slice (some ⟨G, 0, none⟩) Ls.length cap) Ls := by
  obtain ⟨F, h1, h2, _⟩ := h.row
  refine ⟨_, cap, rfl, Or.inr ⟨G, 0, rfl, fun i hi => ⟨_, by rw [Nat.zero_add]; exact h1.cell (by omega), ?_⟩⟩⟩
  rw [h2 i hi, gV]
  cases hzi : z i with
  | true =>
    rw [if_pos rfl, hz i hi hzi]
    exact ⟨none, 0, rfl, Or.inl rfl⟩
  | false =>
    rw [if_neg Bool.false_ne_true]
    exact ⟨_, _, rfl, Or.inr ⟨Gf i, 0, rfl, ext_range (h.col i hi hzi)⟩⟩

set_option maxHeartbeats 1000000 in
theorem clean_nil (w : World) : Calls Tryd.prog 10 #[.slice none 0 0, .slice none 0 0] w fun e w' => e = .returned (.bool true) ∧ Below w.heap.size w w' := by
  have hn1 := fun (w' : World) => run_neq_slice_nil_any (P := Tryd.prog) w' 24 31 none 0 0 0 0 Tryd.underlying24
  go_enter Tryd.func10, Tryd.ntmps10
  go_wp2
  go_loopw [7] (fun iv wr => iv = .int .i64 0 ∧ wr = w) (fun _ _ => 0)
  case atStart => exact ⟨rfl, rfl⟩
  case round =>
    obtain ⟨rfl, rfl⟩ := hrel
    go_wp2
    go_ret
    exact ⟨rfl, Below.refl _ _⟩

/-- given and clean, whatever is given -/
def Lent (w : World) (lo : Nat) (c : ColI) (h : Value) (Gf : Nat → Nat) : Prop :=
  (c.zn = true ∧ h = .slice none 0 0 ∧ c.Ls = []) ∨ (c.zn = false ∧ ∃ (G : Nat) (S : Nat → Nat), h = .slice (some ⟨G, 0, none⟩) c.Ls.length (c.Ls.length + 4) ∧ lo ≤ G ∧ GivenTo w G c.Ls.length c.Ls.length c.Ls c.z Gf S)
theorem Lent.below {w w' : World} {lo : Nat} {c : ColI} {h : Value} {Gf : Nat → Nat} (hl : Lent w lo c h Gf) (hb : Below w.heap.size w w') : Lent w' lo c h Gf := by
  rcases hl with h | ⟨h1, G, S, h2, h3, h4⟩
  · exact Or.inl h
  · exact Or.inr ⟨h1, G, S, h2, h3, h4.below hb⟩
theorem Lent.slL {w w0 : World} {lo : Nat} {c : ColI} {h u : Value} {Gf : Nat → Nat} (hl : Lent w lo c h Gf) (hu : SlLn w0 u c.Ls c.zn c.z) : SlL w h c.Ls := by
  rcases hl with ⟨_, rfl, h⟩ | ⟨_, G, S, rfl, _, h4⟩
  · rw [h]; exact ⟨none, 0, rfl, Or.inl rfl⟩
  · exact h4.slL (fun i hi hz => hu.nils i hi hz)
theorem lend_any (u : Value) (c : ColI) (w : World) (hc : ColOK c) (hu : SlLn w u c.Ls c.zn c.z) :
    Calls Tryd.prog 7 #[u] w fun e w' => ∃ h Gf, e = .returned h ∧ Lent w' w.heap.size c h Gf ∧ (∀ k, (∃ i, i < c.Ls.length ∧ c.z i = false ∧ k = Gf i) → c.zn = false → w.heap.size ≤ k ∧ k < w'.heap.size) ∧ Below w.heap.size w w' := by
  refine (given_any u c.Ls c.zn c.z w hu hc.len hc.lens).mono ?_
  rintro e w' ⟨hb, hh⟩
  rcases hh with ⟨h1, rfl⟩ | ⟨h1, Gf, S, rfl, h2⟩
  · refine ⟨_, fun _ => 0, rfl, Or.inl ⟨h1, rfl, ?_⟩, fun k _ h => (by rw [h1] at h; cases h), hb⟩
    rcases hu with ⟨_, _, h⟩ | ⟨h, _⟩
    · exact h
    · rw [h1] at h; cases h
  · refine ⟨_, Gf, rfl, Or.inr ⟨h1, _, S, rfl, Nat.le_refl _, h2⟩, fun k hk _ => ?_, hb⟩
    obtain ⟨i, hi, hz, rfl⟩ := hk
    have := h2.behind i hi hz
    exact ⟨by omega, (h2.col i hi hz).lt⟩
theorem back_any (h u : Value) (c : ColI) (Gf : Nat → Nat) (w0 w : World) (lo : Nat) (hc : ColOK c) (hl : Lent w lo c h Gf) (hu : SlLn w0 u c.Ls c.zn c.z) (h0 : w0.heap.size ≤ lo) (hb0 : Below w0.heap.size w0 w) :
    Calls Tryd.prog 10 #[h, u] w fun e w' => e = .returned (.bool true) ∧ Chg (fun k => c.zn = false ∧ ∃ i, i < c.Ls.length ∧ c.z i = false ∧ k = Gf i) w w' := by
  rcases hl with ⟨h1, rfl, h2⟩ | ⟨h1, G, S, rfl, h3, h4⟩
  · rcases hu with ⟨_, rfl, _⟩ | ⟨h, _⟩
    · refine (clean_nil w).mono ?_
      rintro e w' ⟨rfl, hb⟩
      exact ⟨rfl, hb.os, hb.tape, hb.output, hb.size, fun k hk _ => hb.block k hk⟩
    · rw [h1] at h; cases h
  · rw [h1] at hu
    refine (clean_any G u c.Ls c.z Gf S w0 w h4 hu (by omega) hb0 hc.len hc.lens hc.byte).mono ?_
    rintro e w' ⟨rfl, ho⟩
    exact ⟨rfl, (ho.chg).mono (fun k hk => ⟨h1, hk⟩)⟩

end Go.Proofs.YtdcinlkkjbclmaaDoor
