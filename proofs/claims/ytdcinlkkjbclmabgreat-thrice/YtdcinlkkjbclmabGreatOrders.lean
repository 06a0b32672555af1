/- A law on statements that leave their order open: a load may be taken first though the statement's last operation, which waits for it, writes what was loaded. -/
import Derived.OrdersHeld
import Derived.StillTail
import Derived.RegionTactic
import Derived.Deep.RegionHeld3
namespace Go.Proofs.YtdcinlkkjbclmabGreat
open Go

section
variable {P : Program} {ops : Array Oper} {Q : Exit → Act → World → Prop} {S : World → Prop} {z : Nat}

/-- whatever order comes, S holding behind each operation but number z -/
def Orders (P : Program) (ops : Array Oper) (Q : Exit → Act → World → Prop) (S : World → Prop) (z : Nat) : Nat → Array Bool → Act → World → Prop
  | 0, l, a, w => Region.ready .any ops l = [] ∧ Q .normal a w
  | n + 1, l, a, w => (Region.ready .any ops l = [] → Q .normal a w) ∧
      ∀ j ∈ Region.ready .any ops l, wpOp P ops Q j (fun a' w' => (j ≠ z → S w') ∧ Orders P ops Q S z n (l.setIfInBounds j true) a' w') a w

theorem Orders.any : ∀ (n : Nat) (l : Array Bool) (a : Act) (w : World), Orders P ops Q S z n l a w → wpAny P .any ops Q n l a w
  | 0, _, _, _, h => h
  | n + 1, _, _, _, h => ⟨h.1, fun j hj => wpOp_mono (fun a' w' k => Orders.any n _ a' w' k.2) (h.2 j hj)⟩

/-- a ready operation that nobody waits for comes behind those that wait for it -/
theorem not_ready {i j : Nat} {l : Array Bool} (hi : i ∈ Region.ready .any ops l) (hj : j ∈ Region.ready .any ops l) {oj : Oper} (hoj : ops[j]? = some oj) :
    ∀ e ∈ oj.after, Region.binds .any e = true → e.on ≠ i := by
  intro e he hb heq
  obtain ⟨_, o, ho, hall⟩ := mem_ready.1 hj
  have hoo : o = oj := by rw [hoj] at ho; exact (Option.some.inj ho).symm
  subst hoo
  have h1 := hall e he hb
  have h0 := (mem_ready.1 hi).1
  rw [heq] at h1
  rw [Array.getD_eq_getD_getElem?] at h0 h1
  cases hx : l[i]? with
  | none => rw [hx] at h0; simp at h0
  | some u => rw [hx] at h0 h1; simp at h0 h1; rw [h0] at h1; cases h1

theorem Orders.front {i : Nat} {oi : Oper} {v : Value} (hi : ops[i]? = some oi) (hsel : ∀ (j : Nat) (o : Oper) cs b, ops[j]? = some o → o.op ≠ .select cs b)
    (notz : ∀ {l : Array Bool} {j : Nat}, i ∈ Region.ready .any ops l → j ∈ Region.ready .any ops l → j ≠ z) (hQ : ∀ c a w, Q (.panic c) (a.put oi.dst v) w → Q (.panic c) a w) (n : Nat) :
    ∀ (l : Array Bool) (a : Act) (w : World),
      (∀ j oj, ops[j]? = some oj → j ≠ i → l.getD j true = false → (∀ e ∈ oj.after, Region.binds .any e = true → e.on ≠ i) → oi.apart ops oj = true) →
      i ∈ Region.ready .any ops l → YieldsIf P ops S oi v a → S w →
      Orders P ops Q S z n (l.setIfInBounds i true) (a.put oi.dst v) w → Orders P ops Q S z (n + 1) l a w := by
  induction n with
  | zero =>
    intro l a w _ hr hy hS H
    constructor
    · intro h0; rw [h0] at hr; cases hr
    · intro j hj
      rcases Decidable.em (j = i) with e | e
      · subst e; exact hy.wpOp hi hS ⟨fun _ => hS, H⟩
      · have k := ready_mono hj e
        rw [H.1] at k; cases k
  | succ n ih =>
    intro l a w hfree hr hy hS H
    constructor
    · intro h0; rw [h0] at hr; cases hr
    · intro j hj
      rcases Decidable.em (j = i) with e | e
      · subst e; exact hy.wpOp hi hS ⟨fun _ => hS, H⟩
      · obtain ⟨hjun, oj, hoj, _⟩ := mem_ready.1 hj
        have hjz := notz hr hj
        have step := wpOp_putIf hoj (hfree j oj hoj e hjun (not_ready hr hj hoj)) (fun cs b => hsel i oi cs b hi) (fun cs b => hsel j oj cs b hoj) hQ hy (H.2 j (ready_mono hj e))
        refine wpOp_mono (fun a' w' k => ⟨k.2.1, ?_⟩) step
        refine ih (l.setIfInBounds j true) a' w' (fun m om hm hmi hun hno => hfree m om hm hmi ?_ hno) (ready_mono hr (fun h => e h.symm)) k.1 (k.2.1 hjz) ?_
        · rcases Decidable.em (j = m) with q | q
          · subst q; exact hjun
          · rw [getD_set_ne true q] at hun; exact hun
        · rw [Array.setIfInBounds_comm _ _ e]; exact k.2.2

/-- THE MOVES. Begin. -/
theorem orders_begin (z : Nat) (S : World → Prop) {id : Nat} {a : Act} {w : World} (hm : P.follows .mixedOrders = true)
    (h : Orders P ops Q S z ops.size (Array.replicate ops.size false) a w.drew) : (Code.region id ops true).wp P Q a w :=
  wp_region_any hm (Orders.any _ _ _ _ h)
/-- Take number i first. -/
theorem orders_take (i : Nat) (d : Option Tmp) {oi : Oper} {v : Value} {n : Nat} {l : Array Bool} {a : Act} {w : World} (hi : ops[i]? = some oi) (hs : Region.noSelect ops = true)
    (hz : Region.waitsFor .any ops z i = true) (hf : Region.free .any ops l i = true) (hr : (Region.ready .any ops l).contains i = true)
    (hQ : ∀ c a w, Q (.panic c) (a.put oi.dst v) w → Q (.panic c) a w) (hy : YieldsIf P ops S oi v a) (hS : S w) (hd : oi.dst = d)
    (h : Orders P ops Q S z n (l.setIfInBounds i true) (a.put d v) w) : Orders P ops Q S z (n + 1) l a w := by
  subst hd
  have notz : ∀ {l : Array Bool} {j : Nat}, i ∈ Region.ready .any ops l → j ∈ Region.ready .any ops l → j ≠ z := by
    intro l j h1 h2 e
    subst e
    obtain ⟨oj, hoj, e, he, hb, heq⟩ := Region.waitsFor_spec hz
    exact not_ready h1 h2 hoj e he hb heq
  exact Orders.front hi (Region.noSelect_spec hs) notz hQ n l a w (Region.free_spec hi hf) (by simpa using hr) hy hS h
/-- The same, where z is none of the operations: S holds behind each. -/
theorem orders_take_any (i : Nat) (d : Option Tmp) {oi : Oper} {v : Value} {n : Nat} {l : Array Bool} {a : Act} {w : World} (hi : ops[i]? = some oi) (hs : Region.noSelect ops = true)
    (hz : (List.range ops.size).all (fun j => j != z) = true) (hf : Region.free .any ops l i = true) (hr : (Region.ready .any ops l).contains i = true)
    (hQ : ∀ c a w, Q (.panic c) (a.put oi.dst v) w → Q (.panic c) a w) (hy : YieldsIf P ops S oi v a) (hS : S w) (hd : oi.dst = d)
    (h : Orders P ops Q S z n (l.setIfInBounds i true) (a.put d v) w) : Orders P ops Q S z (n + 1) l a w := by
  subst hd
  have notz : ∀ {l : Array Bool} {j : Nat}, i ∈ Region.ready .any ops l → j ∈ Region.ready .any ops l → j ≠ z := by
    intro l j _ h2 e
    subst e
    obtain ⟨_, oj, hoj, _⟩ := mem_ready.1 h2
    have hlt : j < ops.size := (Array.getElem?_eq_some_iff.1 hoj).1
    rw [List.all_eq_true] at hz
    have := hz j (List.mem_range.2 hlt)
    simp at this
  exact Orders.front hi (Region.noSelect_spec hs) notz hQ n l a w (Region.free_spec hi hf) (by simpa using hr) hy hS h
/-- Number i alone may come. -/
theorem orders_one (i : Nat) {oi : Oper} {n : Nat} {l : Array Bool} {a : Act} {w : World} (hr : Region.ready .any ops l = [i]) (hi : ops[i]? = some oi) (hw : Region.wanted oi (yielded ops a.tmps) = true)
    (h : ∀ K : Act → World → Prop, Shut (∀ a' w', (i ≠ z → S w') → Orders P ops Q S z n (l.setIfInBounds i true) a' w' → K a' w') → Oper.wp P oi a w K Q) : Orders P ops Q S z (n + 1) l a w := by
  constructor
  · intro h0; rw [h0] at hr; cases hr
  · intro j hj
    rw [hr] at hj
    obtain rfl : j = i := by simpa using hj
    refine wpOp_step hi (fun K hK => ?_)
    rw [if_pos hw]
    exact h K (fun a' w' hS hO => hK a' w' ⟨hS, hO⟩)
/-- All have come. -/
theorem orders_end {n : Nat} {l : Array Bool} {a : Act} {w : World} (hr : Region.ready .any ops l = []) (h : Q .normal a w) : Orders P ops Q S z n l a w := by
  cases n with
  | zero => exact ⟨hr, h⟩
  | succ n => exact ⟨fun _ => h, by rw [hr]; intro j hj; cases hj⟩
/-- Each of those that may come. -/
def Each (P : Program) (ops : Array Oper) (Q : Exit → Act → World → Prop) (S : World → Prop) (z n : Nat) (l : Array Bool) (a : Act) (w : World) (rs : List Nat) : Prop :=
  ∀ j ∈ rs, wpOp P ops Q j (fun a' w' => (j ≠ z → S w') ∧ Orders P ops Q S z n (l.setIfInBounds j true) a' w') a w
theorem orders_each (rs : List Nat) {n : Nat} {l : Array Bool} {a : Act} {w : World} (hr : Region.ready .any ops l = rs) (hne : rs ≠ []) (h : Each P ops Q S z n l a w rs) : Orders P ops Q S z (n + 1) l a w :=
  ⟨fun h0 => absurd (hr ▸ h0) hne, hr ▸ h⟩
theorem each_nil {n : Nat} {l : Array Bool} {a : Act} {w : World} : Each P ops Q S z n l a w [] := fun _ h => by cases h
theorem each_cons (i : Nat) {oi : Oper} {rs : List Nat} {n : Nat} {l : Array Bool} {a : Act} {w : World} (hi : ops[i]? = some oi) (hw : Region.wanted oi (yielded ops a.tmps) = true)
    (h : ∀ K : Act → World → Prop, Shut (∀ a' w', (i ≠ z → S w') → Orders P ops Q S z n (l.setIfInBounds i true) a' w' → K a' w') → Oper.wp P oi a w K Q) (hs : Each P ops Q S z n l a w rs) : Each P ops Q S z n l a w (i :: rs) := by
  intro j hj
  rcases List.mem_cons.1 hj with e | hj
  · subst e
    refine wpOp_step hi (fun K hK => ?_)
    rw [if_pos hw]
    exact h K (fun a' w' hS hO => hK a' w' ⟨hS, hO⟩)
  · exact hs j hj
/-- The ways meet again: whatever they leave is told by F. -/
theorem ways_meet {id : Nat} {a : Act} {w : World} (F : Nat → Nat → World → Prop) (act : Act → Nat → Nat → Act) (h2 : ∀ g g' W, F g g' W → Q .normal (act a g g') W)
    (h1 : ∀ Q' : Exit → Act → World → Prop, Shut (∀ g g' W, F g g' W → Q' .normal (act a g g') W) → (Code.region id ops true).wp P (NoPanic Q') a w) : (Code.region id ops true).wp P Q a w :=
  wp_region_noPanic (h1 Q h2)
end
end Go.Proofs.YtdcinlkkjbclmabGreat
