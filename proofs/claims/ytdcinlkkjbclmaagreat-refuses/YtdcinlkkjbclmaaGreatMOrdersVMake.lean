/- A law on statements that leave their order open: a load may be taken first though the statement's last operation, which waits for it, writes what was loaded. -/
import Derived.OrdersHeld
import Derived.StillTail
import Derived.RegionTactic
import Derived.Deep.RegionHeld3
import Derived.Test.YtdcinlkkjbclmaaGreatMVRunVBegin
namespace Go.Proofs.YtdcinlkkjbclmaaGreat
open Go

section
variable {P : Program} {ops : Array Oper} {Q : Exit → Act → World → Prop} {S : World → Prop} {z : Nat}

/-- whatever order comes, S holding behind each operation but number z -/
def Orders (P : Program) (ops : Array Oper) (Q : Exit → Act → World → Prop) (S : World → Prop) (z : Nat) : Nat → Array Bool → Act → World → Prop
  | 0, l, a, w => Region.ready .any ops l = [] ∧ Q .normal a w
  | n + 1, l, a, w => (Region.ready .any ops l = [] → Q .normal a w) ∧
      ∀ j ∈ Region.ready .any ops l, wpOp P ops Q j (fun a' w' => (j ≠ z → S w') ∧ Orders P ops Q S z n (l.setIfInBounds j true) a' w') a w

theorem Orders.any : ∀ (n : Nat) (l : Array Bool) (a : Act) (w : World), Orders P ops Q S z n l a w → wpAny P .any ops Q n l a w
  | 0, _, _, _, h => h
  | n + 1, _, _, _, h => ⟨h.1, fun j hj => wpOp_mono (fun a' w' k => Orders.any n _ a' w' k.2) (h.2 j hj)⟩

/-- a ready operation that nobody waits for comes behind those that wait for it -/
theorem not_ready {i j : Nat} {l : Array Bool} (hi : i ∈ Region.ready .any ops l) (hj : j ∈ Region.ready .any ops l) {oj : Oper} (hoj : ops[j]? = some oj) :
    ∀ e ∈ oj.after, Region.binds .any e = true → e.on ≠ i := by
  intro e he hb heq
  obtain ⟨_, o, ho, hall⟩ := mem_ready.1 hj
  have hoo : o = oj := by rw [hoj] at ho; exact (Option.some.inj ho).symm
  subst hoo
  have h1 := hall e he hb
  have h0 := (mem_ready.1 hi).1
  rw [heq] at h1
  rw [Array.getD_eq_getD_getElem?] at h0 h1
  cases hx : l[i]? with
  | none => rw [hx] at h0; simp at h0
  | some u => rw [hx] at h0 h1; simp at h0 h1; rw [h0] at h1; cases h1

theorem Orders.front {i : Nat} {oi : Oper} {v : Value} (hi : ops[i]? = some oi) (hsel : ∀ (j : Nat) (o : Oper) cs b, ops[j]? = some o → o.op ≠ .select cs b)
    (notz : ∀ {l : Array Bool} {j : Nat}, i ∈ Region.ready .any ops l → j ∈ Region.ready .any ops l → j ≠ z) (hQ : ∀ c a w, Q (.panic c) (a.put oi.dst v) w → Q (.panic c) a w) (n : Nat) :
    ∀ (l : Array Bool) (a : Act) (w : World),
      (∀ j oj, ops[j]? = some oj → j ≠ i → l.getD j true = false → (∀ e ∈ oj.after, Region.binds .any e = true → e.on ≠ i) → oi.apart ops oj = true) →
      i ∈ Region.ready .any ops l → YieldsIf P ops S oi v a → S w →
      Orders P ops Q S z n (l.setIfInBounds i true) (a.put oi.dst v) w → Orders P ops Q S z (n + 1) l a w := by
  induction n with
  | zero =>
    intro l a w _ hr hy hS H
    constructor
    · intro h0; rw [h0] at hr; cases hr
    · intro j hj
      rcases Decidable.em (j = i) with e | e
      · subst e; exact hy.wpOp hi hS ⟨fun _ => hS, H⟩
      · have k := ready_mono hj e
        rw [H.1] at k; cases k
  | succ n ih =>
    intro l a w hfree hr hy hS H
    constructor
    · intro h0; rw [h0] at hr; cases hr
    · intro j hj
      rcases Decidable.em (j = i) with e | e
      · subst e; exact hy.wpOp hi hS ⟨fun _ => hS, H⟩
      · obtain ⟨hjun, oj, hoj, _⟩ := mem_ready.1 hj
        have hjz := notz hr hj
        have step := wpOp_putIf hoj (hfree j oj hoj e hjun (not_ready hr hj hoj)) (fun cs b => hsel i oi cs b hi) (fun cs b => hsel j oj cs b hoj) hQ hy (H.2 j (ready_mono hj e))
        refine wpOp_mono (fun a' w' k => ⟨k.2.1, ?_⟩) step
        refine ih (l.setIfInBounds j true) a' w' (fun m om hm hmi hun hno => hfree m om hm hmi ?_ hno) (ready_mono hr (fun h => e h.symm)) k.1 (k.2.1 hjz) ?_
        · rcases Decidable.em (j = m) with q | q
          · subst q; exact hjun
          · rw [getD_set_ne true q] at hun; exact hun
        · rw [Array.setIfInBounds_comm _ _ e]; exact k.2.2

/-- THE MOVES. Begin. -/
theorem orders_begin (z : Nat) (S : World → Prop) {id : Nat} {a : Act} {w : World} (hm : P.follows .mixedOrders = true)
    (h : Orders P ops Q S z ops.size (Array.replicate ops.size false) a w.drew) : (Code.region id ops true).wp P Q a w :=
  wp_region_any hm (Orders.any _ _ _ _ h)
/-- Take number i first. -/
theorem orders_take (i : Nat) (d : Option Tmp) {oi : Oper} {v : Value} {n : Nat} {l : Array Bool} {a : Act} {w : World} (hi : ops[i]? = some oi) (hs : Region.noSelect ops = true)
    (hz : Region.waitsFor .any ops z i = true) (hf : Region.free .any ops l i = true) (hr : (Region.ready .any ops l).contains i = true)
    (hQ : ∀ c a w, Q (.panic c) (a.put oi.dst v) w → Q (.panic c) a w) (hy : YieldsIf P ops S oi v a) (hS : S w) (hd : oi.dst = d)
    (h : Orders P ops Q S z n (l.setIfInBounds i true) (a.put d v) w) : Orders P ops Q S z (n + 1) l a w := by
  subst hd
  have notz : ∀ {l : Array Bool} {j : Nat}, i ∈ Region.ready .any ops l → j ∈ Region.ready .any ops l → j ≠ z := by
    intro l j h1 h2 e
    subst e
    obtain ⟨oj, hoj, e, he, hb, heq⟩ := Region.waitsFor_spec hz
    exact not_ready h1 h2 hoj e he hb heq
  exact Orders.front hi (Region.noSelect_spec hs) notz hQ n l a w (Region.free_spec hi hf) (by simpa using hr) hy hS h
/-- The same, where z is none of the operations: S holds behind each. -/
theorem orders_take_any (i : Nat) (d : Option Tmp) {oi : Oper} {v : Value} {n : Nat} {l : Array Bool} {a : Act} {w : World} (hi : ops[i]? = some oi) (hs : Region.noSelect ops = true)
    (hz : (List.range ops.size).all (fun j => j != z) = true) (hf : Region.free .any ops l i = true) (hr : (Region.ready .any ops l).contains i = true)
    (hQ : ∀ c a w, Q (.panic c) (a.put oi.dst v) w → Q (.panic c) a w) (hy : YieldsIf P ops S oi v a) (hS : S w) (hd : oi.dst = d)
    (h : Orders P ops Q S z n (l.setIfInBounds i true) (a.put d v) w) : Orders P ops Q S z (n + 1) l a w := by
  subst hd
  have notz : ∀ {l : Array Bool} {j : Nat}, i ∈ Region.ready .any ops l → j ∈ Region.ready .any ops l → j ≠ z := by
    intro l j _ h2 e
    subst e
    obtain ⟨_, oj, hoj, _⟩ := mem_ready.1 h2
    have hlt : j < ops.size := (Array.getElem?_eq_some_iff.1 hoj).1
    rw [List.all_eq_true] at hz
    have := hz j (List.mem_range.2 hlt)
    simp at this
  exact Orders.front hi (Region.noSelect_spec hs) notz hQ n l a w (Region.free_spec hi hf) (by simpa using hr) hy hS h
/-- Number i alone may come. -/
theorem orders_one (i : Nat) {oi : Oper} {n : Nat} {l : Array Bool} {a : Act} {w : World} (hr : Region.ready .any ops l = [i]) (hi : ops[i]? = some oi) (hw : Region.wanted oi (yielded ops a.tmps) = true)
    (h : ∀ K : Act → World → Prop, Shut (∀ a' w', (i ≠ z → S w') → Orders P ops Q S z n (l.setIfInBounds i true) a' w' → K a' w') → Oper.wp P oi a w K Q) : Orders P ops Q S z (n + 1) l a w := by
  constructor
  · intro h0; rw [h0] at hr; cases hr
  · intro j hj
    rw [hr] at hj
    obtain rfl : j = i := by simpa using hj
    refine wpOp_step hi (fun K hK => ?_)
    rw [if_pos hw]
    exact h K (fun a' w' hS hO => hK a' w' ⟨hS, hO⟩)
/-- All have come. -/
theorem orders_end {n : Nat} {l : Array Bool} {a : Act} {w : World} (hr : Region.ready .any ops l = []) (h : Q .normal a w) : Orders P ops Q S z n l a w := by
  cases n with
  | zero => exact ⟨hr, h⟩
  | succ n => exact ⟨fun _ => h, by rw [hr]; intro j hj; cases hj⟩
/-- Each of those that may come. -/
def Each (P : Program) (ops : Array Oper) (Q : Exit → Act → World → Prop) (S : World → Prop) (z n : Nat) (l : Array Bool) (a : Act) (w : World) (rs : List Nat) : Prop :=
  ∀ j ∈ rs, wpOp P ops Q j (fun a' w' => (j ≠ z → S w') ∧ Orders P ops Q S z n (l.setIfInBounds j true) a' w') a w
theorem orders_each (rs : List Nat) {n : Nat} {l : Array Bool} {a : Act} {w : World} (hr : Region.ready .any ops l = rs) (hne : rs ≠ []) (h : Each P ops Q S z n l a w rs) : Orders P ops Q S z (n + 1) l a w :=
  ⟨fun h0 => absurd (hr ▸ h0) hne, hr ▸ h⟩
theorem each_nil {n : Nat} {l : Array Bool} {a : Act} {w : World} : Each P ops Q S z n l a w [] := fun _ h => by cases h
theorem each_cons (i : Nat) {oi : Oper} {rs : List Nat} {n : Nat} {l : Array Bool} {a : Act} {w : World} (hi : ops[i]? = some oi) (hw : Region.wanted oi (yielded ops a.tmps) = true)
    (h : ∀ K : Act → World → Prop, Shut (∀ a' w', (i ≠ z → S w') → Orders P ops Q S z n (l.setIfInBounds i true) a' w' → K a' w') → Oper.wp P oi a w K Q) (hs : Each P ops Q S z n l a w rs) : Each P ops Q S z n l a w (i :: rs) := by
  intro j hj
  rcases List.mem_cons.1 hj with e | hj
  · subst e
    refine wpOp_step hi (fun K hK => ?_)
    rw [if_pos hw]
    exact h K (fun a' w' hS hO => hK a' w' ⟨hS, hO⟩)
  · exact hs j hj
/-- The ways meet again: whatever they leave is told by F. -/
theorem ways_meet {id : Nat} {a : Act} {w : World} (F : Nat → Nat → World → Prop) (act : Act → Nat → Nat → Act) (h2 : ∀ g g' W, F g g' W → Q .normal (act a g g') W)
    (h1 : ∀ Q' : Exit → Act → World → Prop, Shut (∀ g g' W, F g g' W → Q' .normal (act a g g') W) → (Code.region id ops true).wp P (NoPanic Q') a w) : (Code.region id ops true).wp P Q a w :=
  wp_region_noPanic (h1 Q h2)
end
end Go.Proofs.YtdcinlkkjbclmaaGreat

/- A row of zeros; a volume is made. -/
namespace Go.Proofs.YtdcinlkkjbclmaaGreat
open Go.RowKit

set_option maxRecDepth 100000 in
set_option maxHeartbeats 1000000 in
theorem mul64_small (d : Nat) (h1 : 4 ≤ d) (h2 : d ≤ 8) (w : World) :
    Calls Tryz.prog 118 #[.int .u64 1, .int .u64 (d : Int)] w fun e w' => e = .returned (.tuple #[.int .u64 0, .int .u64 (d : Int)]) ∧ w' = w := by
  obtain rfl | rfl | rfl | rfl | rfl : d = 4 ∨ d = 5 ∨ d = 6 ∨ d = 7 ∨ d = 8 := by omega
  all_goals
    go_enter Tryz.func118, Tryz.ntmps118
    go_wp2
    refine bodyPost_ret (results_tmp2 rfl _ _ _) rfl ⟨rfl, rfl⟩
set_option maxRecDepth 100000 in
set_option maxHeartbeats 1000000 in
theorem mul_small (d : Nat) (h1 : 4 ≤ d) (h2 : d ≤ 8) (w : World) :
    Calls Tryz.prog 95 #[.int .u64 1, .int .u64 (d : Int)] w fun e w' => e = .returned (.tuple #[.int .u64 0, .int .u64 (d : Int)]) ∧ w' = w := by
  have hd : (d : Int) ≤ 8 := by omega
  have hd0 : (0 : Int) ≤ (d : Int) := by omega
  go_enter Tryz.func95, Tryz.ntmps95
  go_wp2_with (go_at_call 118; refine (mul64_small d h1 h2 _).mono ?_; rintro e w1 ⟨rfl, rfl⟩)
  refine bodyPost_ret (results_tmp2 rfl _ _ _) rfl ⟨rfl, rfl⟩

theorem wp_copy_splice {P : Program} {o : Oper} {a : Act} {w : World} {K : Act → World → Prop} {Q : Exit → Act → World → Prop} (hgd : o.guard = none) (d s : Operand) (dT sT : TypeId)
    (ho : o.op = .call { callee := .builtin .copy, args := #[d, s], argTypes := #[dT, sT] }) (elem : TypeId) (hu : P.underlying dT = some (.slice elem)) (hsz : (P.info? elem).map (·.size) = some 1)
    (dp sp : Option Addr) (dLen dCap sLen sCap : Nat) (hd : a.eval d = .slice dp dLen dCap) (hs : a.eval s = .slice sp sLen sCap)
    (g off : Nat) (cur : List Value) (t : TypeId) (hg : w.heap[g]? = some (.cells cur.toArray t (0, 0))) (cs : List Value) (hn : cs.length = Nat.min sLen dLen)
    (hpos : 0 < cs.length → dp = some ⟨g, off, none⟩ ∧ ∃ ad, sp = some ad ∧ ∀ j v, cs[j]? = some v → w.cell? (ad.add j) = some v)
    (hfit : off + cs.length ≤ cur.length) (h1 : ∀ v ∈ cs, v.oneCell' = true) (B : Nat) (w0 : World) (hb : Below B w0 w) (hBg : B ≤ g)
    (h : ∀ w', Hid (w'.heap[g]? = some (.cells (splice cur off cs).toArray t (0, 0))) → Below B w0 w' → K (a.put o.dst (goInt cs.length)) w') : Oper.wp P o a w K Q := by
  have q := step_copy_splice (ops := #[]) (E := True) (Q := Q) hgd d s dT sT ho elem hu hsz dp sp dLen dCap sLen sCap hd hs g off cur t hg cs hn hpos hfit h1 B w0 hb hBg h
  rwa [if_pos (by simp [Region.wanted, hgd])] at q
/-- m zeros -/
def zeros (m : Nat) : List Value := List.replicate m (.int .i64 0)
theorem madeI (m : Nat) (hm : m ≤ 8) (w : World) : (Instr.makeSlice 50 (.int .i64 (m : Int)) (.int .i64 (m : Int))).run Tryz.prog w = .ok (.slice (some ⟨w.heap.size, 0, none⟩) m m) (w.alloc (.cells (zeros m).toArray 3)) := by
  obtain ⟨i, hi, hz, hs, hb⟩ := info_parts Tryz.infoI
  have hr := run_make (P := Tryz.prog) w 50 3 i (.int .i64 0) Tryz.underlying50 hi hz .i64 .i64 m m (by omega) (Int.le_refl _) (by rw [hb]; omega) (by omega)
  simp only [Int.toNat_natCast, hs] at hr
  rw [hr]
  have e : madeCells (Value.int .i64 0).cells (m * 1) = (zeros m).toArray := by
    apply Array.ext
    · simp [madeCells, zeros]
    · intro j h1 h2
      simp [madeCells, zeros, Value.cells, Nat.mod_one]
  rw [e]
theorem zero_src {w : World} {xb : Nat} (hx : w.cell? ⟨xb, 0, none⟩ = some (.int .i64 0)) : ∀ j v, (zeros 1)[j]? = some v → w.cell? ((⟨xb, 0, none⟩ : Addr).add j) = some v := fun j v hj => by
  have hj0 : j = 0 := by have := (List.getElem?_eq_some_iff.1 hj).1; simp [zeros] at this; omega
  subst hj0
  simp [zeros] at hj
  rw [Addr.add_mid, ← hj]
  exact hx
theorem zeros_min (d : Nat) (h : 4 ≤ d) : (zeros 1).length = Nat.min 1 d := by
  show 1 = min 1 d
  omega
theorem zeros_fit (d : Nat) (h : 4 ≤ d) : 0 + (zeros 1).length ≤ (zeros d).length := by simp [zeros]; omega
theorem zeros_one (m : Nat) : ∀ v ∈ zeros m, v.oneCell' = true := fun v hv => by rw [List.eq_of_mem_replicate hv]; rfl
theorem splice_zeros (d o m : Nat) (h : o + m ≤ d) : splice (zeros d) o (zeros m) = zeros d := by
  unfold splice zeros
  rw [List.take_replicate, List.drop_replicate, List.length_replicate, List.replicate_append_replicate, List.replicate_append_replicate]
  congr 1
  omega
theorem int_size : (Tryz.prog.info? 3).map (·.size) = some 1 := by kernel_rfl
set_option maxRecDepth 100000 in
set_option maxHeartbeats 2000000 in
theorem repeat_any (d xb : Nat) (h1 : 4 ≤ d) (h2 : d ≤ 8) (w : World) (hx : w.cell? ⟨xb, 0, none⟩ = some (.int .i64 0)) :
    Calls Tryz.prog 70 #[.slice (some ⟨xb, 0, none⟩) 1 1, .int .i64 (d : Int)] w fun e w' => ∃ g, e = .returned (.slice (some ⟨g, 0, none⟩) d d) ∧ w.heap.size ≤ g ∧ Blk w' g (zeros d).toArray 3 ∧ Below w.heap.size w w' := by
  have hd : (d : Int) ≤ 8 := by omega
  have hd0 : (4 : Int) ≤ (d : Int) := by omega
  have hmk := madeI d h2
  have hxl := block_lt_of_cell hx
  have HX := hide hx
  have HB := hide ((Below.refl w.heap.size w).alloc (Nat.le_refl _) (.cells (zeros d).toArray 3))
  have HK := hide (Blk.new w (zeros d).toArray 3)
  clear hx
  go_enter Tryz.func70, Tryz.ntmps70
  have HX1 : Hid ((w.alloc (.cells (zeros d).toArray 3)).cell? ⟨xb, 0, none⟩ = some (.int .i64 0)) := ((unhide HB).cell (by exact hxl)).trans (unhide HX)
  go_wp2_with (first | (go_at_call 95; refine (mul_small d h1 h2 _).mono ?_; rintro e w1 ⟨rfl, hw1⟩; obtain rfl := hw1) | (show wpList _ _ _ (Oper.mk _ (Op.call (Call.mk (Callee.builtin Builtin.copy) _ _)) _ _ _ _ :: _) _ _; refine wpList_copy_splice rfl (.tmp 31) (.tmp 32) 50 50 rfl 3 Tryz.underlying50 int_size _ _ _ _ _ _ rfl rfl _ 0 (zeros d) 3 (unhide HK) (zeros 1) (zeros_min d h1) (fun _ => ⟨rfl, _, rfl, zero_src (unhide HX1)⟩) (zeros_fit d h1) (zeros_one 1) _ _ (unhide HB) (Nat.le_refl _) ?_; intro w2 hg2 hb2; have HB2 := hide hb2; clear hb2))
  have hz1 : Blk w2 w1.heap.size (zeros d).toArray 3 := by
    have := hg2.out
    rw [splice_zeros d 0 1 (by omega)] at this
    exact this
  have HZ := hide hz1
  clear hz1 hg2
  obtain ⟨w, hw⟩ : ∃ w, w = w1 := ⟨_, rfl⟩
  subst hw
  have hzl : (zeros 1).length = 1 := rfl
  go_loopw [8] (fun nv wr => ∃ k : Nat, 1 ≤ k ∧ k ≤ d ∧ nv = .int .i64 (k : Int) ∧ Blk wr w.heap.size (zeros d).toArray 3 ∧ Below w.heap.size w wr) (fun i _ => d - (intOf i).toNat)
  case atStart => exact ⟨1, by omega, by omega, rfl, unhide HZ, unhide HB2⟩
  case round =>
    obtain ⟨k, hk1, hk, rfl, hz, hbw⟩ := hrel
    have HZk := hide hz
    have HBk := hide hbw
    clear hz hbw HZ HB2 HX HX1 HB HK hmk hzl
    rcases Nat.lt_or_ge k d with hlt | hge
    · have i1 : (k : Int) < (d : Int) := by omega
      have i0 : (0 : Int) ≤ (k : Int) := by omega
      have HSRC : Hid (∀ j v, (zeros (min k (d - k)))[j]? = some v → wr.cell? ((⟨w.heap.size, 0, none⟩ : Addr).add j) = some v) := fun j v hj => by
        have hj' : j < min k (d - k) := by have := (List.getElem?_eq_some_iff.1 hj).1; simpa [zeros] using this
        have hjd : j < d := by have := Nat.min_le_right k (d - k); omega
        rw [Addr.add_mid, Nat.zero_add, (unhide HZk).cell]
        have hv : v = .int .i64 0 := List.eq_of_mem_replicate (List.mem_of_getElem? hj)
        rw [hv]
        simp [zeros, hjd]
      have hne : ¬ d = k := by omega
      go_wp2
      refine wp_region_noPanic ?_
      refine orders_begin 9 (fun w' => Blk w' w.heap.size (zeros d).toArray 3 ∧ Below w.heap.size w w') (by kernel_rfl) ?_
      refine orders_take 0 (some 38) (v := .int .i64 (k : Int)) rfl (by kernel_rfl) (by kernel_rfl) (by kernel_rfl) (by kernel_rfl) (fun _ _ _ h => h) (Or.inl ⟨by rfl, fun _ _ => rfl⟩) ⟨(unhide HZk).drew, (unhide HBk).drew⟩ rfl ?_
      simp only [Act.put, List.setIfInBounds_toArray, List.set_cons_succ, List.set_cons_zero]
      refine orders_take 1 (some 39) (v := .slice (some ⟨w.heap.size, 0, none⟩) d d) rfl (by kernel_rfl) (by kernel_rfl) (by kernel_rfl) (by kernel_rfl) (fun _ _ _ h => h) (Or.inl ⟨by rfl, fun _ _ => rfl⟩) ⟨(unhide HZk).drew, (unhide HBk).drew⟩ rfl ?_
      simp only [Act.put, List.setIfInBounds_toArray, List.set_cons_succ, List.set_cons_zero]
      refine orders_take 2 (some 40) (v := .int .i64 (k : Int)) rfl (by kernel_rfl) (by kernel_rfl) (by kernel_rfl) (by kernel_rfl) (fun _ _ _ h => h) (Or.inl ⟨by rfl, fun _ _ => rfl⟩) ⟨(unhide HZk).drew, (unhide HBk).drew⟩ rfl ?_
      simp only [Act.put, List.setIfInBounds_toArray, List.set_cons_succ, List.set_cons_zero]
      refine orders_take 3 (some 41) (v := .slice (some ⟨w.heap.size, k, none⟩) (d - k) (d - k)) rfl (by kernel_rfl) (by kernel_rfl) (by kernel_rfl) (by kernel_rfl) (fun _ _ _ h => h) (Or.inl ⟨by rfl, fun _ _ => by go_simp; (try go_ints)⟩) ⟨(unhide HZk).drew, (unhide HBk).drew⟩ rfl ?_
      simp only [Act.put, List.setIfInBounds_toArray, List.set_cons_succ, List.set_cons_zero]
      refine orders_take 4 (some 42) (v := .slice (some ⟨w.heap.size, 0, none⟩) d d) rfl (by kernel_rfl) (by kernel_rfl) (by kernel_rfl) (by kernel_rfl) (fun _ _ _ h => h) (Or.inl ⟨by rfl, fun _ _ => rfl⟩) ⟨(unhide HZk).drew, (unhide HBk).drew⟩ rfl ?_
      simp only [Act.put, List.setIfInBounds_toArray, List.set_cons_succ, List.set_cons_zero]
      refine orders_take 5 (some 43) (v := .int .i64 (k : Int)) rfl (by kernel_rfl) (by kernel_rfl) (by kernel_rfl) (by kernel_rfl) (fun _ _ _ h => h) (Or.inl ⟨by rfl, fun _ _ => rfl⟩) ⟨(unhide HZk).drew, (unhide HBk).drew⟩ rfl ?_
      simp only [Act.put, List.setIfInBounds_toArray, List.set_cons_succ, List.set_cons_zero]
      refine orders_take 6 (some 44) (v := .slice (some ⟨w.heap.size, 0, none⟩) k d) rfl (by kernel_rfl) (by kernel_rfl) (by kernel_rfl) (by kernel_rfl) (fun _ _ _ h => h) (Or.inl ⟨by rfl, fun _ _ => by go_simp; (try go_ints)⟩) ⟨(unhide HZk).drew, (unhide HBk).drew⟩ rfl ?_
      simp only [Act.put, List.setIfInBounds_toArray, List.set_cons_succ, List.set_cons_zero]
      refine orders_one 7 (by kernel_rfl) rfl (by rfl) (fun K hK => ?_)
      simp only [List.getElem_toArray, List.getElem_cons_succ, List.getElem_cons_zero]
      refine wp_copy_splice rfl (.tmp 41) (.tmp 44) 50 50 rfl 3 Tryz.underlying50 int_size (some ⟨w.heap.size, k, none⟩) (some ⟨w.heap.size, 0, none⟩) (d - k) (d - k) k d (by rfl) (by rfl) w.heap.size k (zeros d) 3 (unhide HZk) (zeros (min k (d - k))) (by rw [zeros, List.length_replicate]) (fun _ => ⟨rfl, _, rfl, unhide HSRC⟩) (by simp only [zeros, List.length_replicate]; omega) (zeros_one _) w.heap.size w (unhide HBk).drew (Nat.le_refl _) ?_
      intro w5 hg5 hb5
      have hz5 : Blk w5 w.heap.size (zeros d).toArray 3 := by
        have := hg5.out
        rw [splice_zeros d k _ (by omega)] at this
        exact this
      refine hK.out _ _ (fun _ => ⟨hz5, hb5⟩) ?_
      clear hK K
      have HZ5 := hide hz5
      have HB5 := hide hb5
      have hzl : (zeros (min k (d - k))).length = min k (d - k) := by simp [zeros]
      have hml : min k (d - k) ≤ d - k := Nat.min_le_right _ _
      have hmk : 1 ≤ min k (d - k) := by omega
      rw [hzl]
      clear HSRC HZk HBk hzl hg5 hz5 hb5
      generalize min k (d - k) = m at *
      have im : (m : Int) ≤ 8 := by omega
      have im0 : (0 : Int) ≤ (m : Int) := by omega
      refine orders_one 8 (by kernel_rfl) rfl (by rfl) (fun K hK => ?_)
      go_simp
      (try go_ints)
      refine hK.out _ _ (fun _ => ⟨unhide HZ5, unhide HB5⟩) ?_
      clear hK K
      refine orders_one 9 (by kernel_rfl) rfl (by rfl) (fun K hK => ?_)
      go_simp
      refine hK.out _ _ (fun h => absurd rfl h) ?_
      clear hK K
      refine orders_end (by kernel_rfl) ?_
      refine NoPanic.normal ?_
      go_wp2
      go_roundw
      case rel => exact ⟨k + m, by omega, by omega, by go_num, unhide HZ5, unhide HB5⟩
      case measure => simp [intOf]; omega
    · obtain rfl : k = d := by omega
      go_wp2
      go_ret
      exact ⟨_, rfl, Nat.le_refl _, unhide HZk, unhide HBk⟩

end Go.Proofs.YtdcinlkkjbclmaaGreat
