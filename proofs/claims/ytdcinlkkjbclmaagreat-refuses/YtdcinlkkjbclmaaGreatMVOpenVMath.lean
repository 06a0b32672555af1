/- A task that opens a volume: its cells; what it has heard. -/
import Derived.Test.YtdcinlkkjbclmaaGreatMVStripeVTaskVFail
import Derived.Laws.StructEq
namespace Go.Proofs.YtdcinlkkjbclmaaGreat
open Go.RowKit

theorem spot_under : Tryz.prog.underlying 147 = some (.struct (Tryz.prog.fieldsOf 147)) := by kernel_rfl
theorem spot_held : Tryz.prog.stoodInHeld 147 = false := by kernel_rfl
theorem int_under : Tryz.prog.underlying 3 = some (.int .i64) := by kernel_rfl
theorem heard_under : Tryz.prog.underlying 128 = some (.map 147 149) := by kernel_rfl
theorem spot_shape : (match (Tryz.prog.fieldsOf 147).toList with | [f, g] => (f.type == 3) && (f.offset == 0) && (g.type == 3) && (g.offset == 1) && (f.name != "_") && (g.name != "_") | _ => false) = true := by kernel_rfl
theorem spot_fields : ∃ f g : Field, (Tryz.prog.fieldsOf 147).toList = [f, g] ∧ f.type = 3 ∧ f.offset = 0 ∧ g.type = 3 ∧ g.offset = 1 ∧ (f.name ≠ "_") ∧ (g.name ≠ "_") := by
  have h := spot_shape
  split at h
  · rename_i f g e
    simp only [Bool.and_eq_true, beq_iff_eq, bne_iff_ne] at h
    exact ⟨f, g, e, h.1.1.1.1.1, h.1.1.1.1.2, h.1.1.1.2, h.1.1.2, h.1.2, h.2⟩
  · cases h
def spotV (a b : Int) : Value := .agg #[.int .i64 a, .int .i64 b]
theorem part_spot0 (a b : Int) (w : World) : (part 3 #[.int .i64 a, .int .i64 b] 0).run Tryz.prog w = .ok (.int .i64 a) w := by kernel_rfl
theorem part_spot1 (a b : Int) (w : World) : (part 3 #[.int .i64 a, .int .i64 b] 1).run Tryz.prog w = .ok (.int .i64 b) w := by kernel_rfl
theorem equal_spot (a b c d : Int) (w : World) : (Op.equal 147 (spotV a b) (spotV c d)).run Tryz.prog w = .ok ((a == c) && (b == d)) w := by
  obtain ⟨f, g, h1, h2, h3, h4, h5, h6, h7⟩ := spot_fields
  unfold Op.equal Op.maxDepth spotV
  rw [run_equalIn_agg w 9999 _ _ _ spot_under spot_held, h1]
  simp only [Op.eqFields, h2, h3, h4, h5, h6, h7, Sem.run_bind, part_spot0, Result.andThen_ok, ne_eq, not_false_eq_true, if_true, run_equalIn_int w 9998 3 .i64 .i64 _ _ int_under]
  cases a == c
  · simp
  · simp only [Bool.not_true, Bool.false_eq_true, if_false, Result.andThen_ok, Sem.run_bind, part_spot1, run_equalIn_int w 9998 3 .i64 .i64 _ _ int_under]
    cases b == d <;> simp
/-- every key is a spot -/
def Spots (es : Array MapEntry) : Prop := ∀ e ∈ es.toList, ∃ a b : Int, e.key = spotV a b
theorem find_spot (a b : Int) (w : World) : ∀ (l : List MapEntry) (i : Nat), (∀ e ∈ l, ∃ a b : Int, e.key = spotV a b) →
    (Instr.findAsking 147 (spotV a b) l i).run Tryz.prog w = .ok none w ∨ ∃ j e, (Instr.findAsking 147 (spotV a b) l i).run Tryz.prog w = .ok (some (i + j, e.val)) w ∧ l[j]? = some e ∧ e.key = spotV a b := by
  intro l
  induction l with
  | nil => intro i h; exact Or.inl rfl
  | cons e r ih =>
    intro i h
    obtain ⟨c, d, he⟩ := h e (by simp)
    unfold Instr.findAsking
    rw [Sem.run_bind, he, equal_spot]
    cases hq : ((a == c) && (b == d))
    · rw [Result.andThen_ok]
      rcases ih (i + 1) (fun e he => h e (by simp [he])) with q | ⟨j, e', q1, q2, q3⟩
      · exact Or.inl q
      · exact Or.inr ⟨j + 1, e', by rw [show i + (j + 1) = i + 1 + j by omega]; exact q1, by simpa using q2, q3⟩
    · rw [Result.andThen_ok]
      simp only [Bool.and_eq_true, beq_iff_eq] at hq
      exact Or.inr ⟨0, e, rfl, rfl, by rw [he, hq.1, hq.2]⟩

/-- the block is a map of spots -/
def HeardB (w : World) (hb : Nat) : Prop := ∃ (es : Array MapEntry) (clock : Nat), w.heap[hb]? = some (.map es clock) ∧ Spots es
theorem HeardB.lt {w : World} {hb : Nat} (h : HeardB w hb) : hb < w.heap.size := by
  obtain ⟨es, clock, h, _⟩ := h
  exact (Array.getElem?_eq_some_iff.1 h).1
theorem HeardB.chg {X : Nat → Prop} {w w' : World} {hb : Nat} (h : HeardB w hb) (hc : Chg X w w') (hx : ¬ X hb) : HeardB w' hb := by
  have hl := h.lt
  obtain ⟨es, clock, h, hs⟩ := h
  exact ⟨es, clock, (hc.block hb hl hx).trans h, hs⟩
theorem HeardB.new (w : World) : HeardB (w.alloc (.map #[] 0)) w.heap.size := ⟨#[], 0, heap_alloc_new w _, fun e he => by simp at he⟩
theorem spots_modify {es : Array MapEntry} (h : Spots es) (i : Nat) (a b : Int) (v : Value) : Spots (es.modify i fun e => { e with key := spotV a b, val := v }) := by
  intro e he
  obtain ⟨j, hj, rfl⟩ := Array.mem_iff_getElem.1 (Array.mem_toList_iff.1 he)
  rw [Array.getElem_modify]
  split
  · exact ⟨a, b, rfl⟩
  · exact h _ (by simp)
theorem spots_push {es : Array MapEntry} (h : Spots es) (a b : Int) (v : Value) (c : Nat) : Spots (es.push { key := spotV a b, val := v, born := c }) := by
  intro e he
  simp only [Array.toList_push, List.mem_append, List.mem_singleton] at he
  rcases he with he | rfl
  · exact h e he
  · exact ⟨a, b, rfl⟩
theorem check_spot (a b : Int) (w : World) : (Instr.checkKey false 10000 147 (spotV a b)).run Tryz.prog w = .ok () w := by kernel_rfl
theorem now_spot (a b : Int) (l : List MapEntry) (h : ∀ e ∈ l, ∃ a b : Int, e.key = spotV a b) : ∀ i, Instr.findNow (.struct (Tryz.prog.fieldsOf 147)) (spotV a b) l i = if l = [] then some none else none := by
  intro i
  cases l with
  | nil => rfl
  | cons e r =>
    obtain ⟨c, d, he⟩ := h e (by simp)
    unfold Instr.findNow
    rw [he]
    rfl
theorem putMap_at (w : World) (b : Nat) (o : Obj) (h : b < w.heap.size) : (putMap w b o).heap[b]? = some o := by
  show (w.heap.setIfInBounds b o)[b]? = some o
  simp [h]
theorem update_heard {w : World} {hb : Nat} (h : HeardB w hb) (a b : Int) (v : Value) :
    ∃ o, (Instr.mapUpdate 128 (.map (some hb)) (spotV a b) v).run Tryz.prog w = .ok () (putMap w hb o) ∧ HeardB (putMap w hb o) hb := by
  have hl := h.lt
  obtain ⟨es, clock, hb', hs⟩ := h
  have key : (Instr.findKey 147 (spotV a b) es.toList).run Tryz.prog w = .ok none w ∨ ∃ j e, (Instr.findKey 147 (spotV a b) es.toList).run Tryz.prog w = .ok (some (j, e.val)) w ∧ es.toList[j]? = some e ∧ e.key = spotV a b := by
    unfold Instr.findKey
    rw [Sem.run_bind, run_underlying spot_under, Result.andThen_ok, now_spot a b es.toList hs]
    by_cases e0 : es.toList = []
    · rw [if_pos e0]
      exact Or.inl rfl
    · rw [if_neg e0]
      rcases find_spot a b w es.toList 0 hs with q | ⟨j, e, q1, q2, q3⟩
      · exact Or.inl q
      · exact Or.inr ⟨j, e, by rw [Nat.zero_add] at q1; exact q1, q2, q3⟩
  rcases key with q | ⟨j, e, q1, q2, q3⟩
  · refine ⟨.map (es.push { key := spotV a b, val := v, born := clock }) (clock + 1), ?_, _, _, putMap_at w hb _ hl, spots_push hs a b v clock⟩
    simp only [Instr.mapUpdate, Sem.run_bind, run_underlying heard_under, Result.andThen_ok, Go.MapKept.run_getObj_map hb', check_spot, q, Go.MapKept.run_setObj_map _ hb']
    rfl
  · refine ⟨.map (es.modify j fun e => { e with key := spotV a b, val := v }) clock, ?_, _, _, putMap_at w hb _ hl, spots_modify hs j a b v⟩
    have e1 : ((es[j]?).map (·.key)).getD (spotV a b) = spotV a b := by
      rw [← Array.getElem?_toList, q2]
      exact q3
    have e2 : (Instr.keyThatStays (spotV a b) (spotV a b)).run Tryz.prog w = .ok (spotV a b) w := by
      unfold Instr.keyThatStays
      rw [if_pos (by simp [spotV, Instr.sameBits])]
      rfl
    simp only [Instr.mapUpdate, Sem.run_bind, run_underlying heard_under, Result.andThen_ok, Go.MapKept.run_getObj_map hb', check_spot, q1, e1, e2, Go.MapKept.run_setObj_map _ hb']
    rfl

/-- a task that opens: its volume, what it heard, its next step -/
structure OpenT (w : World) (tb hb vb : Nat) (nx : Value) (fr : Bool) : Prop where
  blk : ∃ cs, Blk w tb cs 139 ∧ cs[0]? = some (.pointer (some ⟨vb, 0, none⟩)) ∧ cs[1]? = some (.map (some hb)) ∧ cs[2]? = some nx ∧ cs[53]? = some (.bool fr)
  map : HeardB w hb
theorem OpenT.chg {X : Nat → Prop} {w w' : World} {tb hb vb : Nat} {nx : Value} {fr : Bool} (h : OpenT w tb hb vb nx fr) (hc : Chg X w w') (h1 : ¬ X tb) (h2 : ¬ X hb) : OpenT w' tb hb vb nx fr := by
  obtain ⟨⟨cs, q1, q2⟩, q3⟩ := h
  exact ⟨⟨cs, q1.chg hc h1, q2⟩, q3.chg hc h2⟩
theorem OpenT.next {w : World} {tb hb vb : Nat} {nx : Value} {fr : Bool} (h : OpenT w tb hb vb nx fr) (v : Value) : OpenT (w.setCell ⟨tb, 2, none⟩ v) tb hb vb v fr := by
  obtain ⟨⟨cs, q1, q2, q3, q4, q5⟩, q6⟩ := h
  have hlt := (Array.getElem?_eq_some_iff.1 q4).1
  refine ⟨⟨cs.setIfInBounds 2 v, q1.set 2 v, (set_ne (by decide)).trans q2, (set_ne (by decide)).trans q3, set_at hlt, (set_ne (by decide)).trans q5⟩, ?_⟩
  obtain ⟨es, clock, e1, e2⟩ := q6
  refine ⟨es, clock, (heap_setCell_other _ _ _ _ (fun e => ?_)).trans e1, e2⟩
  have e' : hb = tb := e
  subst e'
  rw [Blk, e1] at q1
  cases q1
theorem OpenT.c0 {w : World} {tb hb vb : Nat} {nx : Value} {fr : Bool} (h : OpenT w tb hb vb nx fr) : w.cell? ⟨tb, 0, none⟩ = some (.pointer (some ⟨vb, 0, none⟩)) := by
  obtain ⟨⟨cs, q1, q2, _⟩, _⟩ := h
  exact (q1.cell 0).trans q2
theorem OpenT.c1 {w : World} {tb hb vb : Nat} {nx : Value} {fr : Bool} (h : OpenT w tb hb vb nx fr) : w.cell? ⟨tb, 1, none⟩ = some (.map (some hb)) := by
  obtain ⟨⟨cs, q1, _, q2, _⟩, _⟩ := h
  exact (q1.cell 1).trans q2
theorem OpenT.c2 {w : World} {tb hb vb : Nat} {nx : Value} {fr : Bool} (h : OpenT w tb hb vb nx fr) : w.cell? ⟨tb, 2, none⟩ = some nx ∧ w.frozen? ⟨tb, 2, none⟩ = false := by
  obtain ⟨⟨cs, q1, _, _, q2, _⟩, _⟩ := h
  exact ⟨(q1.cell 2).trans q2, q1.free 2⟩
theorem OpenT.c53 {w : World} {tb hb vb : Nat} {nx : Value} {fr : Bool} (h : OpenT w tb hb vb nx fr) : w.cell? ⟨tb, 53, none⟩ = some (.bool fr) := by
  obtain ⟨⟨cs, q1, _, _, _, q2⟩, _⟩ := h
  exact (q1.cell 53).trans q2
theorem OpenT.ne {w : World} {tb hb vb : Nat} {nx : Value} {fr : Bool} (h : OpenT w tb hb vb nx fr) : hb ≠ tb := fun e => by
  obtain ⟨⟨cs, q1, _⟩, ⟨es, clock, e1, _⟩⟩ := h
  subst e
  rw [Blk, e1] at q1
  cases q1

end Go.Proofs.YtdcinlkkjbclmaaGreat

/- What the calls of Thrice come to, in plain lists. -/
namespace Go.Proofs.YtdcinlkkjbclmaaGreat
open Go.RowKit

theorem gave_one (A : VA) (kind : Int) (d : Nat) (s : Int) (v : Value) (h : A.stand.getD d 0 ≠ 1) : gaveA A kind d s v = { A with wait := A.wait ++ [⟨0, kind, (d : Int), s, v⟩] } := by
  unfold gaveA
  rw [if_neg (by simpa using h)]
theorem safe_all (L : List Nat) : ∀ (A : VA), (∀ d ∈ L, A.stand.getD d 0 ≠ 1) → safeA A L = { A with wait := A.wait ++ L.map (fun d => ⟨0, 3, (d : Int), 0, .slice none 0 0⟩) } := by
  induction L with
  | nil => intro A _; simp [safeA]
  | cons d r ih =>
    intro A h
    have h1 : safeA A (d :: r) = safeA (gaveA A 3 d 0 (.slice none 0 0)) r := rfl
    rw [h1, gave_one _ _ _ _ _ (h d (by simp))]
    refine (ih _ (fun e he => ?_)).trans ?_
    · exact h e (by simp [he])
    · simp
theorem label_all (L : List (Nat × Value)) : ∀ (A : VA), (∀ p ∈ L, A.stand.getD p.1 0 ≠ 1) → labelA A L = { A with wait := A.wait ++ L.map (fun p => ⟨0, 2, (p.1 : Int), 0, p.2⟩) } := by
  induction L with
  | nil => intro A _; simp [labelA]
  | cons d r ih =>
    intro A h
    have h1 : labelA A (d :: r) = labelA (gaveA A 2 d.1 0 d.2) r := rfl
    rw [h1, gave_one _ _ _ _ _ (h d (by simp))]
    refine (ih _ (fun e he => ?_)).trans ?_
    · exact h e (by simp [he])
    · simp
theorem stripe_all (s : Int) (L : List Nat) : ∀ (A : VA), (∀ d ∈ L, A.stand.getD d 0 ≠ 1) → stripeRead A s L = { A with wait := A.wait ++ L.flatMap (fun d => [⟨0, 1, (d : Int), 17 + 2 * s, .slice none 0 0⟩, ⟨0, 1, (d : Int), 17 + 2 * s + 1, .slice none 0 0⟩]) } := by
  induction L with
  | nil => intro A _; simp [stripeRead]
  | cons d r ih =>
    intro A h
    have h1 : stripeRead A s (d :: r) = stripeRead (colRead A s d) s r := rfl
    have h2 := h d (by simp)
    rw [h1, colRead, gave_one _ _ _ _ _ h2, gave_one]
    · refine (ih _ (fun e he => ?_)).trans ?_
      · exact h e (by simp [he])
      · simp
    · exact h2
/-- labels are read of the first k disks -/
def looked (A : VA) (k : Nat) : VA := (List.range k).foldl (fun A d => gaveA A 1 d 0 (.slice none 0 0)) A
theorem looked_succ (A : VA) (k : Nat) : looked A (k + 1) = gaveA (looked A k) 1 k 0 (.slice none 0 0) := by unfold looked; rw [List.range_succ, List.foldl_append]; rfl
theorem looked_facts (A : VA) (k : Nat) : (looked A k).stand = A.stand ∧ (looked A k).wait.length ≤ A.wait.length + k := by
  induction k with
  | zero => exact ⟨rfl, Nat.le_refl _⟩
  | succ k ih =>
    rw [looked_succ]
    have h3 := gaveA_wait (looked A k) 1 k 0 (.slice none 0 0)
    exact ⟨(gaveA_stand _ _ _ _ _).trans ih.1, by omega⟩
theorem looked_all (A : VA) (k : Nat) (h : ∀ d, d < k → A.stand.getD d 0 ≠ 1) : looked A k = { A with wait := A.wait ++ (List.range k).map (fun d => ⟨0, 1, (d : Int), 0, .slice none 0 0⟩) } := by
  induction k with
  | zero => simp [looked]
  | succ k ih =>
    rw [looked_succ, ih (fun d hd => h d (by omega)), gave_one, List.range_succ]
    · simp
    · exact h k (by omega)
/-- commands are numbered behind k -/
def numb : Nat → List Cmd → List Cmd
  | _, [] => []
  | k, c :: r => { c with id := ((k : Int) + 1) } :: numb (k + 1) r
theorem numb_len (k : Nat) (l : List Cmd) : (numb k l).length = l.length := by
  induction l generalizing k with
  | nil => rfl
  | cons c r ih => simp [numb, ih]
theorem numb_snoc (k : Nat) (l : List Cmd) (c : Cmd) : numb k (l ++ [c]) = numb k l ++ [{ c with id := ((k + l.length : Nat) : Int) + 1 }] := by
  induction l generalizing k with
  | nil => simp [numb]
  | cons d r ih => simp only [List.cons_append, numb, ih, List.length_cons]; congr 4; omega
theorem numb_id (k : Nat) (l : List Cmd) (c : Cmd) (h : c ∈ numb k l) : (k : Int) < c.id ∧ c.id ≤ (k : Int) + l.length := by
  induction l generalizing k with
  | nil => simp [numb] at h
  | cons d r ih =>
    simp only [numb, List.mem_cons] at h
    rcases h with rfl | h
    · simp only [List.length_cons]; omega
    · have := ih (k + 1) h
      simp only [List.length_cons]; omega
def noData (c : Cmd) : Cmd := { c with data := .slice none 0 0 }

/-- a disk is lost: what waits for it is forgotten; if too many are, all ends -/
def failed (x : List Value) : List Value := [x.getD 0 undef, .int .i64 3, .slice none 0 0, .int .i64 0, .int .i64 0]
def lostA (A : VA) (d : Nat) : VA := { A with stand := A.stand.set d 1, wait := A.wait.filter (fun c => c.disk != (d : Int)) }
def endA (A : VA) : VA := { A with state := 2, at' := .nilIface, wait := [], reqs := [], ress := A.ress ++ A.reqs.map failed }
def failA (A : VA) : VA := if (A.stand.length : Int) - 2 ≤ ((cur A.stand).length : Int) then A else endA A

end Go.Proofs.YtdcinlkkjbclmaaGreat
