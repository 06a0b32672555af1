/- Memory for the volume's contracts: blocks by what they hold, what a call may change, the ring's places. -/
import Derived.Test.YtdcinlkkjbclmaaGreatProg
import Derived.WalkKit
import Derived.WalkSpells
import Derived.WalkLawsBesides
import Derived.BigQuiet
import Derived.Deep.MidRow
import Derived.Deep.OwnRows
import Derived.StillTailTactics
namespace Go.Proofs.YtdcinlkkjbclmaaGreat
open Go.RowKit

theorem hide {p : Prop} (h : p) : Hid p := h
theorem unhide {p : Prop} (h : Hid p) : p := h

/-- of what was there nothing but blocks of X is changed -/
structure Chg (X : Nat → Prop) (w w' : World) : Prop where
  os : w'.os = w.os
  tape : w'.tape = w.tape
  output : w'.output = w.output
  size : w.heap.size ≤ w'.heap.size
  block : ∀ k, k < w.heap.size → ¬ X k → w'.heap[k]? = w.heap[k]?
theorem Chg.refl (X : Nat → Prop) (w : World) : Chg X w w := ⟨rfl, rfl, rfl, Nat.le_refl _, fun _ _ _ => rfl⟩
theorem Chg.mono {X Y : Nat → Prop} {w w' : World} (h : Chg X w w') (hx : ∀ k, k < w.heap.size → X k → Y k) : Chg Y w w' := ⟨h.os, h.tape, h.output, h.size, fun k hk hy => h.block k hk (fun e => hy (hx k hk e))⟩
theorem Chg.drew {X : Nat → Prop} {w w' : World} (h : Chg X w w') : Chg X w w'.drew := ⟨h.os, h.tape, h.output, h.size, h.block⟩
theorem Chg.drewN {X : Nat → Prop} {w w' : World} (h : Chg X w w') (n : Nat) : Chg X w (w'.drewN n) := by
  induction n with
  | zero => exact h
  | succ n ih => exact ih.drew
theorem Chg.alloc {X : Nat → Prop} {w w' : World} (h : Chg X w w') (o : Obj) : Chg X w (w'.alloc o) :=
  ⟨h.os, h.tape, h.output, by have := h.size; simp; omega, fun k hk hx => (Below.heap_alloc w' o k (Nat.lt_of_lt_of_le hk h.size)).trans (h.block k hk hx)⟩
theorem Chg.setCell {X : Nat → Prop} {w w' : World} (h : Chg X w w') (a : Addr) (v : Value) (ha : X a.block ∨ w.heap.size ≤ a.block) : Chg X w (w'.setCell a v) :=
  ⟨h.os, h.tape, h.output, by simpa using h.size, fun k hk hx => (heap_setCell_other w' a k v (fun e => ha.elim (fun h' => hx (e ▸ h')) (fun h' => by omega))).trans (h.block k hk hx)⟩
theorem Chg.setCells {X : Nat → Prop} {w w' : World} (h : Chg X w w') (b o : Nat) (vs : List Value) (ha : X b ∨ w.heap.size ≤ b) : Chg X w (w'.setCells b o vs) := by
  induction vs generalizing o w' with
  | nil => exact h
  | cons v r ih => exact ih (h.setCell ⟨b, o, none⟩ v ha) (o + 1)
theorem Chg.grown {X : Nat → Prop} {w w' w'' : World} {row : Option Nat} (h : Chg X w w') (hg : w'.grownBy w'' row) (hr : ∀ g, row = some g → X g ∨ w.heap.size ≤ g) : Chg X w w'' :=
  ⟨hg.os.trans h.os, hg.tape.trans h.tape, hg.output.trans h.output, Nat.le_trans h.size hg.size, fun k hk hx => (hg.block k (Nat.lt_of_lt_of_le hk h.size) (fun e => (hr k e.symm).elim hx (fun h' => by omega))).trans (h.block k hk hx)⟩
theorem Chg.below {X : Nat → Prop} {w w' : World} (h : Chg X w w') (n : Nat) (hn : n ≤ w.heap.size) (hx : ∀ k, k < n → ¬ X k) : Below n w w' := ⟨h.os, h.tape, h.output, h.size, fun k hk => h.block k (by omega) (hx k hk)⟩
theorem Chg.of_below {X : Nat → Prop} {w w' : World} {n : Nat} (h : Below n w w') (hn : ∀ k, n ≤ k → k < w.heap.size → X k) : Chg X w w' := ⟨h.os, h.tape, h.output, h.size, fun k hk hx => h.block k (by
  rcases Nat.lt_or_ge k n with h1 | h1
  · exact h1
  · exact absurd (hn k h1 hk) hx)⟩
theorem Chg.of_new {X : Nat → Prop} {w w' : World} (h : Below w.heap.size w w') : Chg X w w' := Chg.of_below h (fun k h1 h2 => by omega)
/-- one call behind another: what the second changes is what the first might, or is new -/
theorem Chg.trans {X Y : Nat → Prop} {w w' w'' : World} (h : Chg X w w') (h' : Chg Y w' w'') (hy : ∀ k, Y k → X k ∨ w.heap.size ≤ k) : Chg X w w'' :=
  ⟨h'.os.trans h.os, h'.tape.trans h.tape, h'.output.trans h.output, Nat.le_trans h.size h'.size, fun k hk hx => (h'.block k (Nat.lt_of_lt_of_le hk h.size) (fun e => (hy k e).elim hx (fun h2 => by omega))).trans (h.block k hk hx)⟩

theorem chg_new {X : Nat → Prop} {w w' w'' : World} (h : Chg X w w') (hb : Below w'.heap.size w' w'') : Chg X w w'' := h.trans (Chg.of_new (X := fun _ => False) hb) (fun _ h => h.elim)
/-- block b holds cs -/
def Blk (w : World) (b : Nat) (cs : Array Value) (t : TypeId) : Prop := w.heap[b]? = some (.cells cs t (0, 0))
theorem Blk.lt {w : World} {b : Nat} {cs : Array Value} {t : TypeId} (h : Blk w b cs t) : b < w.heap.size := by
  rcases Nat.lt_or_ge b w.heap.size with h1 | h1
  · exact h1
  · have : w.heap[b]? = none := Array.getElem?_eq_none h1
    rw [Blk, this] at h; cases h
theorem Blk.cell {w : World} {b : Nat} {cs : Array Value} {t : TypeId} (h : Blk w b cs t) (i : Nat) : w.cell? ⟨b, i, none⟩ = cs[i]? := cell_of_row w b i _ _ _ h
theorem Blk.free {w : World} {b : Nat} {cs : Array Value} {t : TypeId} (h : Blk w b cs t) (i : Nat) : w.frozen? ⟨b, i, none⟩ = false := frozen_of_row w b i _ _ h
theorem Blk.set {w : World} {b : Nat} {cs : Array Value} {t : TypeId} (h : Blk w b cs t) (i : Nat) (v : Value) : Blk (w.setCell ⟨b, i, none⟩ v) b (cs.setIfInBounds i v) t := heap_setCell_same w b i _ _ _ h
theorem Blk.other {w : World} {b : Nat} {cs : Array Value} {t : TypeId} (h : Blk w b cs t) (a : Addr) (v : Value) (hne : b ≠ a.block) : Blk (w.setCell a v) b cs t := (heap_setCell_other w a b v hne).trans h
theorem Blk.alloc {w : World} {b : Nat} {cs : Array Value} {t : TypeId} (h : Blk w b cs t) (o : Obj) : Blk (w.alloc o) b cs t := (Below.heap_alloc w o b h.lt).trans h
theorem Blk.new (w : World) (cs : Array Value) (t : TypeId) : Blk (w.alloc (.cells cs t)) w.heap.size cs t := heap_alloc_new w _
theorem Blk.drew {w : World} {b : Nat} {cs : Array Value} {t : TypeId} (h : Blk w b cs t) : Blk w.drew b cs t := h
theorem Blk.chg {X : Nat → Prop} {w w' : World} {b : Nat} {cs : Array Value} {t : TypeId} (h : Blk w b cs t) (hc : Chg X w w') (hx : ¬ X b) : Blk w' b cs t := (hc.block b h.lt hx).trans h
theorem Blk.below {w w' : World} {b n : Nat} {cs : Array Value} {t : TypeId} (h : Blk w b cs t) (hb : Below n w w') (hn : b < n) : Blk w' b cs t := (hb.block b hn).trans h
/-- cells laid over a row, from o on -/
def lay (cs : Array Value) (o : Nat) : List Value → Array Value
  | [] => cs
  | v :: r => lay (cs.setIfInBounds o v) (o + 1) r
theorem lay_size (o : Nat) : ∀ (vs : List Value) (cs : Array Value), (lay cs o vs).size = cs.size := by
  intro vs
  induction vs generalizing o with
  | nil => intro cs; rfl
  | cons v r ih => intro cs; rw [lay, ih]; simp
theorem lay_at (vs : List Value) : ∀ (o : Nat) (cs : Array Value) (i : Nat), i < cs.size → (lay cs o vs)[i]? = if o ≤ i ∧ i < o + vs.length then vs[i - o]? else cs[i]? := by
  induction vs with
  | nil => intro o cs i hi; rw [lay, if_neg (by simp only [List.length_nil]; omega)]
  | cons v r ih =>
    intro o cs i hi
    rw [lay, ih (o + 1) _ i (by simpa using hi)]
    by_cases e : i = o
    · subst e
      rw [if_neg (by omega), if_pos (by simp)]
      simp [hi]
    · by_cases e2 : o + 1 ≤ i ∧ i < o + 1 + r.length
      · rw [if_pos e2, if_pos (by simp; omega), show i - o = (i - (o + 1)) + 1 from by omega, List.getElem?_cons_succ]
      · rw [if_neg e2, if_neg (by simp; omega), Array.getElem?_setIfInBounds_ne (by omega)]
theorem Blk.setCells {b : Nat} {t : TypeId} (vs : List Value) : ∀ {w : World} {cs : Array Value} (o : Nat), Blk w b cs t → Blk (w.setCells b o vs) b (lay cs o vs) t := by
  induction vs with
  | nil => intro w cs o h; exact h
  | cons v r ih => intro w cs o h; exact ih (o + 1) (h.set o v)
theorem Blk.setCells_other {w : World} {b : Nat} {cs : Array Value} {t : TypeId} (h : Blk w b cs t) (b' o : Nat) (vs : List Value) (hne : b ≠ b') : Blk (w.setCells b' o vs) b cs t := by
  induction vs generalizing o w with
  | nil => exact h
  | cons v r ih => exact ih (h.other ⟨b', o, none⟩ v hne) (o + 1)
theorem setCells_size (w : World) (b o : Nat) (vs : List Value) : (w.setCells b o vs).heap.size = w.heap.size := by
  induction vs generalizing o w with
  | nil => rfl
  | cons v r ih => rw [World.setCells, ih]; simp [World.setCell]
theorem Blk.there {w : World} {b : Nat} {cs : Array Value} {t : TypeId} (h : Blk w b cs t) (o n : Nat) (hn : o + n ≤ cs.size) : w.there b o n := fun j hj => by
  rw [h.cell, h.free, Array.getElem?_eq_getElem (by omega)]
  simp
theorem Blk.range {w : World} {b : Nat} {cs : Array Value} {t : TypeId} (h : Blk w b cs t) (o : Nat) (vs : List Value) (hv : ∀ j v, vs[j]? = some v → cs[o + j]? = some v) : w.rangeAt b o vs := fun j v hj => by
  rw [h.cell]; exact hv j v hj
theorem below_setCells {n : Nat} {w w' : World} (hb : Below n w w') (b o : Nat) (vs : List Value) (h : n ≤ b) : Below n w (w'.setCells b o vs) := by
  induction vs generalizing o w' with
  | nil => exact hb
  | cons v r ih => exact ih (hb.setCell (p := ⟨b, o, none⟩) h v) (o + 1)
/-- a block written whole -/
theorem Blk.whole {w : World} {b : Nat} {cs : Array Value} {t : TypeId} (h : Blk w b cs t) (vs : List Value) (hl : vs.length = cs.size) : Blk (w.setCells b 0 vs) b vs.toArray t := by
  have h1 := h.setCells vs 0
  have e : lay cs 0 vs = vs.toArray := by
    apply Array.ext_getElem?
    intro i
    rcases Nat.lt_or_ge i cs.size with hi | hi
    · rw [lay_at _ _ _ _ hi, if_pos (by omega)]
      simp
    · rw [Array.getElem?_eq_none (by rw [lay_size]; exact hi), Array.getElem?_eq_none (by simp; omega)]
  rw [e] at h1
  exact h1

/-- a statement that draws its order: it reads, and behind that does the rest, in turn -/
theorem region_tail {P : Program} {id : Nat} {Q : Exit → Act → World → Prop} {a : Act} {w : World} {l : List Oper} (n : Nat) (hm : P.follows .mixedOrders = true) (hB : Region.lexTailB .any l.toArray n = true)
    (h : ∀ Wd, Wd = w.drew → wpStill P l.toArray Wd (fun a' => wpList P l.toArray Q (l.drop n) a' Wd) (l.take n) a) : (Code.region id l.toArray true).wp P Q a w := wp_region_still_tail n hm hB (h _ rfl)
theorem still_load_mid {P : Program} {ops : Array Oper} {w : World} {Q : Act → Prop} {rest : List Oper} {op : Oper} {a : Act} (hgd : op.guard = none) (ty : TypeId) (x : Operand) (ho : op.op = .load ty x)
    (b o : Nat) (hx : a.eval x = .pointer (some ⟨b, o, none⟩)) (cs : List Value) (d : TypeDesc) (hc : w.rangeAt b o cs)
    (hu : P.underlying ty = some d) (hd : d.isRow = true) (hi : (P.info? ty).map (·.size) = some cs.length)
    (h : wpStill P ops w Q rest (a.put op.dst (.agg cs.toArray))) : wpStill P ops w Q (op :: rest) a := by
  unfold wpStill
  rw [if_pos (by unfold Region.wanted; rw [hgd])]
  unfold Oper.still execOp
  simp only [ho, hx, Instr.loadAt, Instr.sureAddr, Sem.run_bind, Sem.run_pure, Result.andThen_ok, run_loadVar_mid w b o ty cs d hc hu hd hi]
  exact ⟨rfl, h⟩

/-- the result (a struct, one more) -/
theorem results_cell_tmp {P : Program} {fn : Func} {p u : Tmp} {ty : TypeId} (h : fn.results = #[.cell p ty, .tmp u]) (tmps : Array Value) (w : World) (g : Nat) (t : TypeId) (cs : Array Value) (fr : Nat × Nat) (d : TypeDesc)
    (hp : tmps.getD p undef = .pointer (some ⟨g, 0, none⟩)) (hg : w.heap[g]? = some (.cells cs t fr))
    (hu : P.underlying ty = some d) (hd : (match d with | .struct _ | .array _ _ => true | _ => false) = true) (hi : (P.info? ty).map (·.size) = some cs.size) :
    (results fn tmps).run P w = .ok (.tuple #[.agg cs, tmps.getD u undef]) w := by
  have h1 : tmps[p]?.getD undef = .pointer (some ⟨g, 0, none⟩) := by simpa using hp
  simp [results, h, h1, asAddr, run_loadVar_row w g t ty cs fr d hg hu hd hi]

/-- the ring's slice -/
def plV (g n : Nat) : Value := if n = 0 then .slice none 0 0 else .slice (some ⟨g, 0, none⟩) n n
theorem set_at {cs : Array Value} {i : Nat} {v : Value} (h : i < cs.size) : (cs.setIfInBounds i v)[i]? = some v := by simp [h]
theorem set_ne {cs : Array Value} {i j : Nat} {v : Value} (h : i ≠ j) : (cs.setIfInBounds i v)[j]? = cs[j]? := Array.getElem?_setIfInBounds_ne h
theorem set_same {cs : Array Value} {i : Nat} {v : Value} (h : cs[i]? = some v) : cs.setIfInBounds i v = cs := by
  apply Array.ext_getElem?
  intro j
  by_cases e : i = j
  · subst e
    have := (Array.getElem?_eq_some_iff.1 h).1
    rw [h]
    simp [this]
  · rw [Array.getElem?_setIfInBounds_ne e]
/-- three cells of a row set anew -/
def upd3 (cs : Array Value) (o : Nat) (p f c : Value) : Array Value := ((cs.setIfInBounds o p).setIfInBounds (o + 1) f).setIfInBounds (o + 2) c
theorem upd3_set (cs : Array Value) (o : Nat) (p f c f' c' : Value) : ((upd3 cs o p f c).setIfInBounds (o + 1) f').setIfInBounds (o + 2) c' = upd3 cs o p f' c' := by
  unfold upd3
  rw [Array.setIfInBounds_comm (i := o + 2) (j := o + 1) _ _ (by omega), Array.setIfInBounds_setIfInBounds, Array.setIfInBounds_setIfInBounds]
theorem upd3_upd3 (cs : Array Value) (o : Nat) (p f c p' f' c' : Value) : upd3 (upd3 cs o p f c) o p' f' c' = upd3 cs o p' f' c' := by
  unfold upd3
  rw [Array.setIfInBounds_comm (i := o + 2) (j := o) _ _ (by omega), Array.setIfInBounds_comm (i := o + 1) (j := o) _ _ (by omega), Array.setIfInBounds_setIfInBounds, Array.setIfInBounds_comm (i := o + 2) (j := o + 1) _ _ (by omega), Array.setIfInBounds_setIfInBounds, Array.setIfInBounds_setIfInBounds]
theorem upd3_size (cs : Array Value) (o : Nat) (p f c : Value) : (upd3 cs o p f c).size = cs.size := by simp [upd3]
theorem upd3_at0 {cs : Array Value} {o : Nat} (p f c : Value) (h : o + 2 < cs.size) : (upd3 cs o p f c)[o]? = some p := (set_ne (by omega)).trans ((set_ne (by omega)).trans (set_at (by omega)))
theorem upd3_at1 {cs : Array Value} {o : Nat} (p f c : Value) (h : o + 2 < cs.size) : (upd3 cs o p f c)[o + 1]? = some f := (set_ne (by omega)).trans (set_at (by rw [Array.size_setIfInBounds]; omega))
theorem upd3_at2 {cs : Array Value} {o : Nat} (p f c : Value) (h : o + 2 < cs.size) : (upd3 cs o p f c)[o + 2]? = some c := set_at (by rw [Array.size_setIfInBounds, Array.size_setIfInBounds]; omega)
theorem upd3_ne {cs : Array Value} {o i : Nat} (p f c : Value) (h : i < o ∨ o + 2 < i) : (upd3 cs o p f c)[i]? = cs[i]? := by
  unfold upd3
  rw [Array.getElem?_setIfInBounds_ne (by omega), Array.getElem?_setIfInBounds_ne (by omega), Array.getElem?_setIfInBounds_ne (by omega)]
/-- what waits in the ring: things of k cells each, n places, the first one at f -/
structure RingB (w : World) (t : TypeId) (k g n f : Nat) (xs : List (List Value)) : Prop where
  len : xs.length ≤ n
  fst : f < n ∨ (n = 0 ∧ f = 0)
  blk : 0 < n → ∃ cs, Blk w g cs t ∧ cs.size = n * k
  el : ∀ i x, xs[i]? = some x → w.rangeAt g ((f + i) % n * k) x
  each : ∀ x ∈ xs, x.length = k ∧ ∀ v ∈ x, v.oneCell' = true
theorem RingB.chg {X : Nat → Prop} {w w' : World} {t : TypeId} {k g n f : Nat} {xs : List (List Value)} (h : RingB w t k g n f xs) (hc : Chg X w w') (hx : ¬ X g) : RingB w' t k g n f xs :=
  ⟨h.len, h.fst, fun hn => by
    obtain ⟨cs, h1, h2⟩ := h.blk hn
    exact ⟨cs, h1.chg hc hx, h2⟩, fun i x hi j v hj => by
    have h3 := h.el i x hi j v hj
    rw [World.cell?_of_block (w := w) (hc.block g (block_lt_of_cell h3) hx)]
    exact h3, h.each⟩
theorem mod_once {a n : Nat} (h : a < 2 * n) : a % n = if a < n then a else a - n := by
  split
  · rename_i h1; exact Nat.mod_eq_of_lt h1
  · rename_i h1
    rw [Nat.mod_eq_sub_mod (by omega), Nat.mod_eq_of_lt (by omega)]
theorem cell_gs {w : World} {g : Nat} {gs : Array Value} {t : TypeId} (h : Blk w g gs t) {o : Nat} {x : List Value} (hx : w.rangeAt g o x) (j : Nat) (v : Value) (hj : x[j]? = some v) : gs[o + j]? = some v := by
  rw [← h.cell]; exact hx j v hj
/-- the first is taken, its place laid over -/
theorem RingB.took {w w' : World} {t : TypeId} {k g n f : Nat} {x : List Value} {r : List (List Value)} {gs : Array Value} {L : List Value} (h : RingB w t k g n f (x :: r)) (hgs : Blk w g gs t) (hz : gs.size = n * k) (hg' : Blk w' g (lay gs (f * k) L) t) (hL : L.length = k) : RingB w' t k g n ((f + 1) % n) r := by
  have hl := h.len
  simp only [List.length_cons] at hl
  have hf : f < n := by rcases h.fst with h | ⟨h, _⟩ <;> omega
  refine ⟨by omega, Or.inl (Nat.mod_lt _ (by omega)), fun _ => ⟨_, hg', by rw [lay_size, hz]⟩, fun i y hi => ?_, fun y hy => h.each y (by simp [hy])⟩
  have hi' : i < r.length := (List.getElem?_eq_some_iff.1 hi).1
  have h1 := h.el (i + 1) y (by simpa using hi)
  have e : ((f + 1) % n + i) % n = (f + (i + 1)) % n := by rw [Nat.mod_add_mod]; congr 1; omega
  rw [e]
  have hm := mod_once (a := f + (i + 1)) (n := n) (by omega)
  have hy := (h.each y (by simp [List.mem_of_getElem? hi])).1
  generalize (f + (i + 1)) % n = p at *
  have hp : p < n ∧ p ≠ f := by split at hm <;> omega
  intro j v hj
  have hj' : j < k := by have := (List.getElem?_eq_some_iff.1 hj).1; omega
  have h2 := cell_gs hgs h1 j v hj
  have h3 : p * k + j < gs.size := (Array.getElem?_eq_some_iff.1 h2).1
  rw [hg'.cell, lay_at _ _ _ _ h3, if_neg, h2]
  rw [hL]
  intro ⟨q1, q2⟩
  rcases Nat.lt_or_gt_of_ne hp.2 with q | q
  · have := Nat.mul_le_mul_right k (show p + 1 ≤ f by omega)
    rw [Nat.add_mul] at this; omega
  · have := Nat.mul_le_mul_right k (show f + 1 ≤ p by omega)
    rw [Nat.add_mul] at this; omega
/-- one more waits behind the others -/
theorem RingB.put {w w' : World} {t : TypeId} {k g n f : Nat} {x : List Value} {xs : List (List Value)} {gs : Array Value} (h : RingB w t k g n f xs) (hgs : Blk w g gs t) (hz : gs.size = n * k) (hlt : xs.length < n) (hx : x.length = k ∧ ∀ v ∈ x, v.oneCell' = true)
    (hg' : Blk w' g (lay gs ((f + xs.length) % n * k) x) t) : RingB w' t k g n f (xs ++ [x]) := by
  have hf : f < n := by rcases h.fst with h | ⟨h, _⟩ <;> omega
  have hm0 := mod_once (a := f + xs.length) (n := n) (by omega)
  refine ⟨by simp; omega, Or.inl hf, fun _ => ⟨_, hg', by rw [lay_size, hz]⟩, fun i y hi => ?_, fun y hy => ?_⟩
  · have hi' : i < xs.length + 1 := by have := (List.getElem?_eq_some_iff.1 hi).1; simpa using this
    have hm := mod_once (a := f + i) (n := n) (by omega)
    rcases Nat.lt_or_ge i xs.length with hl | hl
    · rw [List.getElem?_append_left hl] at hi
      have h1 := h.el i y hi
      have hy := (h.each y (List.mem_of_getElem? hi)).1
      generalize (f + i) % n = p at *
      generalize (f + xs.length) % n = p0 at *
      have hp : p < n ∧ p ≠ p0 := by split at hm <;> split at hm0 <;> omega
      intro j v hj
      have hj' : j < k := by have := (List.getElem?_eq_some_iff.1 hj).1; omega
      have h2 := cell_gs hgs h1 j v hj
      have h3 : p * k + j < gs.size := (Array.getElem?_eq_some_iff.1 h2).1
      rw [hg'.cell, lay_at _ _ _ _ h3, if_neg, h2]
      rw [hx.1]
      intro ⟨q1, q2⟩
      rcases Nat.lt_or_gt_of_ne hp.2 with q | q
      · have := Nat.mul_le_mul_right k (show p + 1 ≤ p0 by omega)
        rw [Nat.add_mul] at this; omega
      · have := Nat.mul_le_mul_right k (show p0 + 1 ≤ p by omega)
        rw [Nat.add_mul] at this; omega
    · obtain rfl : i = xs.length := by omega
      rw [List.getElem?_append_right (Nat.le_refl _)] at hi
      simp at hi
      subst hi
      intro j v hj
      have hj' : j < k := by have := (List.getElem?_eq_some_iff.1 hj).1; omega
      have hpn : (f + xs.length) % n < n := Nat.mod_lt _ (by omega)
      generalize (f + xs.length) % n = p at *
      have h3 : p * k + j < gs.size := by
        rw [hz]
        have := Nat.mul_le_mul_right k (show p + 1 ≤ n by omega)
        rw [Nat.add_mul] at this; omega
      rw [hg'.cell, lay_at _ _ _ _ h3, if_pos (by omega), show p * k + j - p * k = j by omega]
      exact hj
  · rcases List.mem_append.1 hy with hy | hy
    · exact h.each y hy
    · rw [List.mem_singleton] at hy; subst hy; exact hx
theorem RingB.nil (w : World) (t : TypeId) (k g : Nat) : RingB w t k g 0 0 [] :=
  ⟨by simp, Or.inr ⟨rfl, rfl⟩, fun h => by omega, fun i x h => by simp at h, fun x h => by simp at h⟩

end Go.Proofs.YtdcinlkkjbclmaaGreat
