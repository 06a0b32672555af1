/- The map of commands that were told: looked up, laid down, struck out, counted. -/
import Derived.Test.YtdcinlkkjbclmabGreatRKeep
import Derived.MapKept
namespace Go.Proofs.YtdcinlkkjbclmabGreat
open Go.RowKit

/-- block mb is a map of these commands, by their numbers -/
def MapB (w : World) (mb : Nat) (ts : List Cmd) : Prop := ∃ (es : Array MapEntry) (clock : Nat), w.heap[mb]? = some (.map es clock) ∧ es.toList.map (fun e => (e.key, e.val)) = ts.map (fun c => (Value.int .i64 c.id, Value.agg c.cells.toArray))
theorem MapB.lt {w : World} {mb : Nat} {ts : List Cmd} (h : MapB w mb ts) : mb < w.heap.size := by
  obtain ⟨es, clock, h, _⟩ := h
  exact (Array.getElem?_eq_some_iff.1 h).1
theorem MapB.chg {X : Nat → Prop} {w w' : World} {mb : Nat} {ts : List Cmd} (h : MapB w mb ts) (hc : Chg X w w') (hx : ¬ X mb) : MapB w' mb ts := by
  have hl := h.lt
  obtain ⟨es, clock, h, e⟩ := h
  exact ⟨es, clock, (hc.block mb hl hx).trans h, e⟩
theorem MapB.new (w : World) : MapB (w.alloc (.map #[] 0)) w.heap.size [] := ⟨#[], 0, heap_alloc_new w _, rfl⟩
theorem eraseIdx_map' {α β : Type} (f : α → β) : ∀ (l : List α) (j : Nat), (l.map f).eraseIdx j = (l.eraseIdx j).map f
  | [], _ => by simp
  | a :: r, 0 => by simp
  | a :: r, j + 1 => by simp [eraseIdx_map' f r j]
theorem find_told (id : Int) : ∀ (l : List MapEntry) (ts : List Cmd) (i : Nat), l.map (fun e => (e.key, e.val)) = ts.map (fun c => (Value.int .i64 c.id, Value.agg c.cells.toArray)) →
    Instr.findNow (.int .i64) (.int .i64 id) l i = some ((ts.findIdx? (fun c => c.id == id)).map fun j => (i + j, Value.agg ((ts.getD j ⟨0, 0, 0, 0, undef⟩).cells.toArray))) := by
  intro l
  induction l with
  | nil => intro ts i h; cases ts with
    | nil => rfl
    | cons c r => simp at h
  | cons e r ih =>
    intro ts i h
    cases ts with
    | nil => simp at h
    | cons c r' =>
      simp only [List.map_cons, List.cons.injEq, Prod.mk.injEq] at h
      obtain ⟨⟨h1, h2⟩, h3⟩ := h
      unfold Instr.findNow
      rw [h1]
      simp only [Instr.sameNow, if_true]
      by_cases e1 : id = c.id
      · subst e1
        simp [h2, List.findIdx?_cons]
      · have e2 : (id == c.id) = false := by simp [e1]
        have e3 : (c.id == id) = false := by simp; exact fun h => e1 h.symm
        rw [e2]
        simp only
        rw [ih r' (i + 1) h3, List.findIdx?_cons, e3]
        cases r'.findIdx? (fun c => c.id == id) with
        | none => rfl
        | some j => simp; omega

section
variable {P : Program} {w : World} {mt kt et : TypeId}
theorem run_lookup_told (hm : P.underlying mt = some (.map kt et)) (hk : P.underlying kt = some (.int .i64)) {mb : Nat} {ts : List Cmd} (h : MapB w mb ts) (id : Int) (j : Nat) (c : Cmd) (hj : ts.findIdx? (fun c => c.id == id) = some j) (hc : ts[j]? = some c) :
    (Instr.lookup mt (.map (some mb)) (.int .i64 id) true).run P w = .ok (.tuple #[.agg c.cells.toArray, .bool true]) w := by
  obtain ⟨es, clock, hb, he⟩ := h
  have hf := find_told id es.toList ts 0 he
  rw [hj] at hf
  have hg : ts.getD j ⟨0, 0, 0, 0, undef⟩ = c := by rw [List.getD_eq_getElem?_getD, hc]; rfl
  simp only [Option.map_some, hg] at hf
  simp only [Instr.lookup, Sem.run_bind, run_underlying hm, Result.andThen, Go.MapKept.run_getObj_map hb, Sem.run_pure, Go.MapKept.run_checkKey (k := .int .i64 id) hk (by simp [Go.MapKept.IsKey]), Go.MapKept.run_findKey hk hf]
  rfl
theorem run_lookup_none (hm : P.underlying mt = some (.map kt et)) (hk : P.underlying kt = some (.int .i64)) {mb : Nat} {ts : List Cmd} (h : MapB w mb ts) (id : Int) (hj : ts.findIdx? (fun c => c.id == id) = none) {z : Value} (hz : (zeroValue et).run P w = .ok z w) :
    (Instr.lookup mt (.map (some mb)) (.int .i64 id) true).run P w = .ok (.tuple #[z, .bool false]) w := by
  obtain ⟨es, clock, hb, he⟩ := h
  have hf := find_told id es.toList ts 0 he
  rw [hj] at hf
  simp only [Option.map_none] at hf
  simp only [Instr.lookup, Sem.run_bind, run_underlying hm, Result.andThen, Go.MapKept.run_getObj_map hb, Sem.run_pure, Go.MapKept.run_checkKey (k := .int .i64 id) hk (by simp [Go.MapKept.IsKey]), Go.MapKept.run_findKey hk hf, hz]
  rfl
/-- the world with block mb anew -/
def putMap (w : World) (mb : Nat) (o : Obj) : World := { w with heap := w.heap.setIfInBounds mb o }
theorem chg_putMap {X : Nat → Prop} {w0 : World} (h : Chg X w0 w) (mb : Nat) (o : Obj) (hx : X mb ∨ w0.heap.size ≤ mb) : Chg X w0 (putMap w mb o) :=
  ⟨h.os, h.tape, h.output, by show _ ≤ (w.heap.setIfInBounds mb o).size; rw [Array.size_setIfInBounds]; exact h.size, fun k hk hn => by
    have hne : mb ≠ k := fun e => hx.elim (fun h' => hn (e ▸ h')) (fun h' => by omega)
    show (w.heap.setIfInBounds mb o)[k]? = _
    rw [Array.getElem?_setIfInBounds_ne hne]
    exact h.block k hk hn⟩
theorem run_update_told (hm : P.underlying mt = some (.map kt et)) (hk : P.underlying kt = some (.int .i64)) {mb : Nat} {ts : List Cmd} (h : MapB w mb ts) (c : Cmd) (hj : ts.findIdx? (fun d => d.id == c.id) = none) :
    ∃ o, (Instr.mapUpdate mt (.map (some mb)) (.int .i64 c.id) (.agg c.cells.toArray)).run P w = .ok () (putMap w mb o) ∧ MapB (putMap w mb o) mb (ts ++ [c]) := by
  obtain ⟨es, clock, hb, he⟩ := h
  have hf := find_told c.id es.toList ts 0 he
  rw [hj] at hf
  simp only [Option.map_none] at hf
  have hl : mb < w.heap.size := (Array.getElem?_eq_some_iff.1 hb).1
  refine ⟨.map (es.push { key := .int .i64 c.id, val := .agg c.cells.toArray, born := clock }) (clock + 1), ?_, ?_⟩
  · simp only [Instr.mapUpdate, Sem.run_bind, run_underlying hm, Result.andThen, Go.MapKept.run_getObj_map hb, Go.MapKept.run_checkKey (k := .int .i64 c.id) hk (by simp [Go.MapKept.IsKey]), Go.MapKept.run_findKey hk hf, Go.MapKept.run_setObj_map _ hb]
    rfl
  · refine ⟨_, _, by show (w.heap.setIfInBounds mb _)[mb]? = _; simp [hl]; exact ⟨rfl, rfl⟩, ?_⟩
    simp [he]
theorem run_delete_told (hm : P.underlying mt = some (.map kt et)) (hk : P.underlying kt = some (.int .i64)) {mb : Nat} {ts : List Cmd} (h : MapB w mb ts) (id : Int) (j : Nat) (hj : ts.findIdx? (fun c => c.id == id) = some j) (ty : TypeId) :
    ∃ o, (Builtin.delete_ #[mt, kt] ty #[.map (some mb), .int .i64 id]).run P w = .ok (.tuple #[]) (putMap w mb o) ∧ MapB (putMap w mb o) mb (ts.eraseIdx j) := by
  obtain ⟨es, clock, hb, he⟩ := h
  have hf := find_told id es.toList ts 0 he
  rw [hj] at hf
  simp only [Option.map_some, Nat.zero_add] at hf
  have hl : mb < w.heap.size := (Array.getElem?_eq_some_iff.1 hb).1
  have hjl : j < es.size := by
    have h1 := (List.findIdx?_eq_some_iff_getElem.1 hj).1
    have h2 := congrArg List.length he
    simp at h2
    omega
  refine ⟨.map (es.eraseIdxIfInBounds j) clock, ?_, ?_⟩
  · simp only [Builtin.delete_, List.getElem?_toArray, List.getElem?_cons_zero, List.getElem?_cons_succ, Sem.run_bind, run_underlying hm, Result.andThen, Go.MapKept.run_getObj_map hb, Go.MapKept.run_checkKey (k := .int .i64 id) hk (by simp [Go.MapKept.IsKey]), Go.MapKept.run_findKey hk hf, Go.MapKept.run_setObj_map _ hb, Sem.run_pure]
    rfl
  · refine ⟨_, _, by show (w.heap.setIfInBounds mb _)[mb]? = _; simp [hl]; exact ⟨rfl, rfl⟩, ?_⟩
    have e1 : (es.eraseIdxIfInBounds j).toList = es.toList.eraseIdx j := by
      unfold Array.eraseIdxIfInBounds
      rw [dif_pos hjl, Array.toList_eraseIdx]
    rw [e1, ← eraseIdx_map', ← eraseIdx_map', he]
theorem run_len_told (hm : P.underlying mt = some (.map kt et)) {mb : Nat} {ts : List Cmd} (h : MapB w mb ts) (ty : TypeId) : (Builtin.len_ #[mt] ty #[.map (some mb)]).run P w = .ok (.int .i64 (ts.length : Int)) w := by
  obtain ⟨es, clock, hb, he⟩ := h
  have h2 := congrArg List.length he
  simp at h2
  simp only [Builtin.len_, List.getElem?_toArray, List.getElem?_cons_zero, Sem.run_bind, run_underlying hm, Result.andThen, Go.MapKept.run_getObj_map hb, Sem.run_pure, h2]
  rfl
end

end Go.Proofs.YtdcinlkkjbclmabGreat
