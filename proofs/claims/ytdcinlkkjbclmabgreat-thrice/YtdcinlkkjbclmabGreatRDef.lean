/- The disks of the statements' own: rows of sectors, each eight bytes that can be read; which are gone. -/
import Derived.Test.YtdcinlkkjbclmabGreatVResults
namespace Go.Proofs.YtdcinlkkjbclmabGreat
open Go.RowKit

/-- a sector -/
def Sec (w : World) (O : List Nat) (v : Value) : Prop := ∃ (b c : Nat) (bs : Array Value), v = .slice (some ⟨b, 0, none⟩) 8 c ∧ b ∉ O ∧ Blk w b bs 5 ∧ ∀ j, j < 8 → ∃ x : Nat, x < 256 ∧ bs[j]? = some (.int .u8 (x : Int))
/-- these blocks, and all below B: what the rig keeps off -/
def Pl (O : List Nat) (B : Nat) : List Nat := O ++ List.range B
theorem mem_pl {O : List Nat} {B b : Nat} : b ∈ Pl O B ↔ b ∈ O ∨ b < B := by unfold Pl; rw [List.mem_append, List.mem_range]
theorem not_pl {B b : Nat} (h : B ≤ b) : b ∉ Pl [] B := fun q => by rcases mem_pl.1 q with q | q; simp at q; omega
theorem Sec.mono {w : World} {O O' : List Nat} {v : Value} (h : Sec w O v) (hO : ∀ b, b ∉ O → b ∉ O') : Sec w O' v := by
  obtain ⟨b, c, bs, e, h1, h2⟩ := h
  exact ⟨b, c, bs, e, hO b h1, h2⟩
/-- a disk -/
def Dsk (w : World) (O : List Nat) (n : Nat) (v : Value) : Prop := ∃ (b c : Nat) (cs : Array Value), v = .slice (some ⟨b, 0, none⟩) n c ∧ b ∉ O ∧ Blk w b cs 35 ∧ n ≤ cs.size ∧ ∀ i u, i < n → cs[i]? = some u → Sec w O u
def Dsks (w : World) (O : List Nat) (D n : Nat) (v : Value) : Prop := ∃ (b c : Nat) (cs : Array Value), v = .slice (some ⟨b, 0, none⟩) D c ∧ b ∉ O ∧ Blk w b cs 25 ∧ D ≤ cs.size ∧ ∀ i u, i < D → cs[i]? = some u → Dsk w O n u
def Gone (w : World) (O : List Nat) (D : Nat) (L : Nat → Bool) (v : Value) : Prop := ∃ (b c : Nat) (cs : Array Value), v = .slice (some ⟨b, 0, none⟩) D c ∧ b ∉ O ∧ Blk w b cs 4 ∧ ∀ i, i < D → cs[i]? = some (.bool (L i))
/-- the types of blocks that the disks lie in -/
def diskT (t : TypeId) : Prop := t = 5 ∨ t = 35 ∨ t = 25 ∨ t = 4
theorem Sec.chg {X : Nat → Prop} {w w' : World} {O O' : List Nat} {v : Value} (h : Sec w O v) (hc : Chg X w w') (hX : ∀ b cs t, Blk w b cs t → diskT t → b ∉ O → ¬ X b) (hO : ∀ b, b < w.heap.size → b ∉ O → b ∉ O') : Sec w' O' v := by
  obtain ⟨b, c, bs, rfl, h1, h2, h3⟩ := h
  exact ⟨b, c, bs, rfl, hO b h2.lt h1, h2.chg hc (hX b _ _ h2 (Or.inl rfl) h1), h3⟩
theorem Dsk.chg {X : Nat → Prop} {w w' : World} {O O' : List Nat} {n : Nat} {v : Value} (h : Dsk w O n v) (hc : Chg X w w') (hX : ∀ b cs t, Blk w b cs t → diskT t → b ∉ O → ¬ X b) (hO : ∀ b, b < w.heap.size → b ∉ O → b ∉ O') : Dsk w' O' n v := by
  obtain ⟨b, c, bs, rfl, h1, h2, h4, h3⟩ := h
  exact ⟨b, c, bs, rfl, hO b h2.lt h1, h2.chg hc (hX b _ _ h2 (Or.inr (Or.inl rfl)) h1), h4, fun i u hi hu => (h3 i u hi hu).chg hc hX hO⟩
theorem Dsks.chg {X : Nat → Prop} {w w' : World} {O O' : List Nat} {D n : Nat} {v : Value} (h : Dsks w O D n v) (hc : Chg X w w') (hX : ∀ b cs t, Blk w b cs t → diskT t → b ∉ O → ¬ X b) (hO : ∀ b, b < w.heap.size → b ∉ O → b ∉ O') : Dsks w' O' D n v := by
  obtain ⟨b, c, bs, rfl, h1, h2, h4, h3⟩ := h
  exact ⟨b, c, bs, rfl, hO b h2.lt h1, h2.chg hc (hX b _ _ h2 (Or.inr (Or.inr (Or.inl rfl))) h1), h4, fun i u hi hu => (h3 i u hi hu).chg hc hX hO⟩
theorem Gone.chg {X : Nat → Prop} {w w' : World} {O O' : List Nat} {D : Nat} {L : Nat → Bool} {v : Value} (h : Gone w O D L v) (hc : Chg X w w') (hX : ∀ b cs t, Blk w b cs t → diskT t → b ∉ O → ¬ X b) (hO : ∀ b, b < w.heap.size → b ∉ O → b ∉ O') : Gone w' O' D L v := by
  obtain ⟨b, c, bs, rfl, h1, h2, h3⟩ := h
  exact ⟨b, c, bs, rfl, hO b h2.lt h1, h2.chg hc (hX b _ _ h2 (Or.inr (Or.inr (Or.inr rfl))) h1), h3⟩
/-- a sector is written anew -/
theorem Dsks.put {w : World} {O : List Nat} {D n : Nat} {v u : Value} {b i : Nat} {cs : Array Value} (h : Dsks w O D n v) (hb : Blk w b cs 35) (hu : Sec w O u) : Dsks (w.setCell ⟨b, i, none⟩ u) O D n v := by
  have hs : ∀ s, Sec w O s → Sec (w.setCell ⟨b, i, none⟩ u) O s := by
    rintro s ⟨b', c, bs, rfl, q1, q2, q3⟩
    refine ⟨b', c, bs, rfl, q1, q2.other _ _ (fun e => ?_), q3⟩
    have e' : b' = b := e
    subst e'
    have := (q2.same hb).2
    revert this; decide
  obtain ⟨ob, c, os, rfl, h1, h2, h4, h3⟩ := h
  refine ⟨ob, c, os, rfl, h1, h2.other _ _ (fun e => ?_), h4, fun d r hd hr => ?_⟩
  · have e' : ob = b := e
    subst e'
    have := (h2.same hb).2
    revert this; decide
  · obtain ⟨ib, c', is, rfl, g1, g2, g4, g3⟩ := h3 d r hd hr
    by_cases e : ib = b
    · subst e
      refine ⟨ib, c', is.setIfInBounds i u, rfl, g1, g2.set i u, by simpa using g4, fun j s hj hs' => ?_⟩
      by_cases e2 : i = j
      · subst e2
        rw [set_at (by omega)] at hs'
        cases hs'
        exact hs _ hu
      · rw [set_ne e2] at hs'
        exact hs _ (g3 j s hj hs')
    · exact ⟨ib, c', is, rfl, g1, g2.other _ _ e, g4, fun j s hj hs' => hs _ (g3 j s hj hs')⟩
/-- a rig, which done commands up to N -/
structure Rig (w : World) (gb D S pb vb : Nat) (O : List Nat) (L : Nat → Bool) (N : Nat) : Prop where
  dsk : 4 ≤ D ∧ D ≤ 8
  str : 1 ≤ S ∧ S ≤ 6
  own : ∃ (ss gs : Value) (dn : Nat), dn ≤ N ∧ Blk w gb #[.int .i64 (D : Int), .int .i64 (S : Int), .pointer (some ⟨pb, 0, none⟩), ss, gs, .int .i64 (dn : Int)] 32 ∧ Dsks w O D (17 + 2 * S) ss ∧ Gone w O D L gs
  gno : gb ∉ O
  pno : pb ∉ O
  vol : Blk w pb #[.pointer (some ⟨vb, 0, none⟩)] 61
/-- the types of blocks that a rig lies in -/
def rigT (t : TypeId) : Prop := diskT t ∨ t = 32 ∨ t = 61
theorem Rig.chg {X : Nat → Prop} {w w' : World} {gb D S pb vb : Nat} {O O' : List Nat} {L : Nat → Bool} {N : Nat} (h : Rig w gb D S pb vb O L N) (hc : Chg X w w') (hX : ∀ b cs t, Blk w b cs t → rigT t → b ∉ O → ¬ X b) (hO : ∀ b, b < w.heap.size → b ∉ O → b ∉ O') : Rig w' gb D S pb vb O' L N := by
  obtain ⟨ss, gs, dn, h1, h2, h3, h4⟩ := h.own
  have hX' : ∀ b cs t, Blk w b cs t → diskT t → b ∉ O → ¬ X b := fun b cs t hb ht ho => hX b cs t hb (Or.inl ht) ho
  exact ⟨h.dsk, h.str, ⟨ss, gs, dn, h1, h2.chg hc (hX _ _ _ h2 (Or.inr (Or.inl rfl)) h.gno), h3.chg hc hX' hO, h4.chg hc hX' hO⟩, hO _ h2.lt h.gno, hO _ h.vol.lt h.pno, h.vol.chg hc (hX _ _ _ h.vol (Or.inr (Or.inr rfl)) h.pno)⟩
/-- a call on the volume leaves the rig as it is -/
theorem Rig.step {w w' : World} {gb D S pb vb : Nat} {O O' : List Nat} {L : Nat → Bool} {N : Nat} (h : Rig w gb D S pb vb O L N) (hc : Chg (fun b => b ∈ O) w w') (ho : ∀ b ∈ O', b ∈ O ∨ w.heap.size ≤ b) : Rig w' gb D S pb vb O' L N :=
  h.chg hc (fun b cs t _ _ hb => hb) (fun b hb hb' ho' => by rcases ho b ho' with q | q; exact hb' q; omega)

end Go.Proofs.YtdcinlkkjbclmabGreat
