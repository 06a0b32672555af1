/- The ring of commands: those that are wanted wait on. -/
import Derived.Test.YtdcinlkkjbclmaaGreatRingC
import Derived.MapKept
namespace Go.Proofs.YtdcinlkkjbclmaaGreat
open Go.RowKit

/-- a command -/
structure Cmd where
  id : Int
  kind : Int
  disk : Int
  sector : Int
  data : Value
def Cmd.cells (c : Cmd) : List Value := [.int .i64 c.id, .int .i64 c.kind, .int .i64 c.disk, .int .i64 c.sector, c.data]
/-- a slice, whatever it is -/
def IsSl (v : Value) : Prop := ∃ a n c, v = .slice a n c
theorem IsSl.one {v : Value} (h : IsSl v) : v.oneCell' = true := by obtain ⟨a, n, c, rfl⟩ := h; rfl

set_option maxHeartbeats 1000000 in
theorem wanted_any (c : Cmd) (d : Int) (db : Nat) (w : World) (hd : Blk w db #[.int .i64 d] 3) :
    Calls Tryz.prog 102 #[.agg c.cells.toArray, .pointer (some ⟨db, 0, none⟩)] w fun e w' => e = .returned (.bool (c.disk != d)) ∧ Below w.heap.size w w' := by
  have h0 := hd.cell 0
  simp only [List.getElem?_toArray, List.getElem?_cons_zero] at h0
  have hl := hd.lt
  unfold Cmd.cells
  clear hd
  go_enter Tryz.func102, Tryz.ntmps102
  go_wp2
  go_ret
  exact ⟨rfl, (Below.refl _ _).alloc (Nat.le_refl _) _⟩

/-- those that wait behind j rounds -/
def roundL (xs : List Cmd) (d : Int) (j : Nat) : List Cmd := xs.drop j ++ (xs.take j).filter (fun c => c.disk != d)
theorem roundL_len (xs : List Cmd) (d : Int) (j : Nat) : (roundL xs d j).length ≤ xs.length := by
  unfold roundL
  have h := List.length_filter_le (fun c : Cmd => c.disk != d) (xs.take j)
  rw [List.length_append, List.length_drop]
  rw [List.length_take] at h
  omega
theorem roundL_next (xs : List Cmd) (d : Int) (j : Nat) (c : Cmd) (h : xs[j]? = some c) : ∃ r, roundL xs d j = c :: r ∧ roundL xs d (j + 1) = if (c.disk != d) = true then r ++ [c] else r := by
  have hj : j < xs.length := (List.getElem?_eq_some_iff.1 h).1
  have hc : xs[j] = c := by rw [List.getElem?_eq_getElem hj] at h; exact Option.some.inj h
  refine ⟨xs.drop (j + 1) ++ (xs.take j).filter (fun c => c.disk != d), ?_, ?_⟩
  · unfold roundL
    rw [List.drop_eq_getElem_cons hj, hc]
    rfl
  · unfold roundL
    rw [List.take_succ_eq_append_getElem hj, List.filter_append, hc]
    split
    · rename_i h1; simp [h1]
    · rename_i h1; simp [h1]

theorem list5 {x : List Value} (h : x.length = 5) : ∃ a b c d e, x = [a, b, c, d, e] := by
  rcases x with _ | ⟨a, _ | ⟨b, _ | ⟨c, _ | ⟨d, _ | ⟨e, _ | ⟨f, r⟩⟩⟩⟩⟩⟩
  all_goals first | (simp at h; done) | exact ⟨_, _, _, _, _, rfl⟩

set_option maxRecDepth 100000 in
set_option maxHeartbeats 4000000 in
theorem keepC_any (vb o : Nat) (cs : Array Value) (t0 : TypeId) (g n f : Nat) (xs : List Cmd) (d : Int) (db : Nat) (w : World) (hb : Blk w vb cs t0)
    (h0 : cs[o]? = some (plV g n)) (h1 : cs[o + 1]? = some (.int .i64 (f : Int))) (h2 : cs[o + 2]? = some (.int .i64 (xs.length : Int))) (hr : RingB w 91 5 g n f (xs.map Cmd.cells)) (hn : n ≤ 400000) (hvg : vb ≠ g) (hd : Blk w db #[.int .i64 d] 3) (hdv : db ≠ vb) (hdg : db ≠ g) :
    Calls Tryz.prog 101 #[.pointer (some ⟨vb, o, none⟩), .func (.func 102) #[] #[.pointer (some ⟨db, 0, none⟩)]] w fun e w' => e = .returned (.tuple #[]) ∧ ∃ f' : Nat,
      Blk w' vb (upd3 cs o (plV g n) (.int .i64 (f' : Int)) (.int .i64 ((xs.filter (fun c => c.disk != d)).length : Int))) t0 ∧ RingB w' 91 5 g n f' ((xs.filter (fun c => c.disk != d)).map Cmd.cells) ∧ Chg (fun b => b = vb ∨ b = g) w w' := by
  have ho := (Array.getElem?_eq_some_iff.1 h2).1
  have hl := hr.len
  rw [List.length_map] at hl
  have hvl := hb.lt
  have c2 := hb.cell (o + 2)
  rw [h2] at c2
  have hcs : cs = upd3 cs o (plV g n) (.int .i64 (f : Int)) (.int .i64 ((roundL xs d 0).length : Int)) := by
    unfold upd3
    rw [set_same h0, set_same h1, set_same]
    simpa [roundL] using h2
  have HST : Hid (∃ f0 : Nat, Blk w vb (upd3 cs o (plV g n) (.int .i64 (f0 : Int)) (.int .i64 ((roundL xs d 0).length : Int))) t0 ∧ RingB w 91 5 g n f0 ((roundL xs d 0).map Cmd.cells) ∧ Chg (fun b => b = vb ∨ b = g) w w) :=
    ⟨f, by rw [← hcs]; exact hb, by simpa [roundL] using hr, Chg.refl _ _⟩
  have HEA := hide hr.each
  have HD := hide hd
  clear hr hb h0 h1 h2 hcs hd
  go_enter Tryz.func101, Tryz.ntmps101
  go_wp2
  clear c2
  go_loopw [10] (fun iv wr => ∃ j f0 : Nat, j ≤ xs.length ∧ iv = .int .i64 (j : Int) ∧ Blk wr vb (upd3 cs o (plV g n) (.int .i64 (f0 : Int)) (.int .i64 ((roundL xs d j).length : Int))) t0 ∧ RingB wr 91 5 g n f0 ((roundL xs d j).map Cmd.cells) ∧ Chg (fun b => b = vb ∨ b = g) w wr) (fun i _ => xs.length - (intOf i).toNat)
  case atStart =>
    obtain ⟨f0, q1, q2, q3⟩ := unhide HST
    exact ⟨0, f0, Nat.zero_le _, rfl, q1, q2, q3⟩
  case round =>
    obtain ⟨j, f0, hj, rfl, hb, hr, hc⟩ := hrel
    clear HST
    rcases Nat.lt_or_ge j xs.length with hlt | hge
    · obtain ⟨c, hxc⟩ : ∃ c, xs[j]? = some c := ⟨xs[j], List.getElem?_eq_getElem hlt⟩
      obtain ⟨r, hr1, hr2⟩ := roundL_next xs d j c hxc
      have hrl := roundL_len xs d j
      rw [hr1] at hb hr hrl
      simp only [List.length_cons] at hrl
      have hea := unhide HEA c.cells (List.mem_map_of_mem (List.mem_of_getElem? hxc))
      have HB := hide hb
      have HR : Hid (RingB wr 91 5 g n f0 (c.cells :: r.map Cmd.cells)) := hr
      have HC := hide hc
      have HR2 := hide hr2
      have HE := hide hea
      have hsw := hc.size
      have hj1 : (j : Int) < (xs.length : Int) := by omega
      clear hb hr hc hr1 hr2 hxc hea
      go_wp2_with fail
      refine (takeC_some vb o _ t0 g n f0 c.cells (r.map Cmd.cells) wr (unhide HB) (upd3_at0 _ _ _ ho) (upd3_at1 _ _ _ ho) (by rw [List.length_map]; exact upd3_at2 _ _ _ ho) (unhide HR) (by omega) hvg).mono ?_
      rintro e w1 ⟨rfl, hb1, hr1, hc1⟩
      rw [upd3_set, List.length_map] at hb1
      have hs1 := hc1.size
      generalize (f0 + 1) % n = f1 at *
      have HW : Hid (∀ w', Blk w' db #[.int .i64 d] 3 → Calls Tryz.prog 102 #[.agg c.cells.toArray, .pointer (some ⟨db, 0, none⟩)] w' fun e w'' => e = .returned (.bool (c.disk != d)) ∧ Below w'.heap.size w' w'') := fun w' h => wanted_any c d db w' h
      generalize hx : c.cells = x at *
      have HXC := hide hx
      clear hx
      have hcw1 := (unhide HC).trans hc1 (fun k h => Or.inl h)
      have hgl : 0 < n := by have := (unhide HR).len; simp at this; omega
      have HB1 := hide hb1
      have HR1 := hide hr1
      have HC1 := hide hcw1
      have HN1 := hide (Blk.new w1 #[.int .i64 0, .int .i64 0, .int .i64 0, .int .i64 0, .slice none 0 0] 91)
      have HT1 : Hid ((w1.alloc (.cells #[.int .i64 0, .int .i64 0, .int .i64 0, .int .i64 0, .slice none 0 0] 91)).there w1.heap.size 0 x.toArray.size) := (by rw [show x.toArray.size = 5 from (unhide HE).1]; exact (unhide HN1).there 0 5 (by simp))
      have hszx : (Tryz.prog.info? 91).map (·.size) = some x.toArray.size := by rw [List.size_toArray, (unhide HE).1]; exact elInfoC
      have HSX := hide hszx
      have HOX := hide (all_oneCell_toArray (unhide HE).2)
      have HB2 : Hid (Blk ((w1.alloc (.cells #[.int .i64 0, .int .i64 0, .int .i64 0, .int .i64 0, .slice none 0 0] 91)).setCells w1.heap.size 0 x) vb (upd3 cs o (plV g n) (.int .i64 (f1 : Int)) (.int .i64 (r.length : Int))) t0) := ((unhide HB1).alloc _).setCells_other _ _ _ (by omega)
      have HC2 : Hid (Chg (fun b => b = vb ∨ b = g) w ((w1.alloc (.cells #[.int .i64 0, .int .i64 0, .int .i64 0, .int .i64 0, .slice none 0 0] 91)).setCells w1.heap.size 0 x)) := ((unhide HC1).alloc _).setCells _ _ _ (Or.inr (by omega))
      have HR2' : Hid (RingB ((w1.alloc (.cells #[.int .i64 0, .int .i64 0, .int .i64 0, .int .i64 0, .slice none 0 0] 91)).setCells w1.heap.size 0 x) 91 5 g n f1 (r.map Cmd.cells)) := (unhide HR1).chg (X := fun _ => False) (((Chg.refl _ _).alloc _).setCells _ _ _ (Or.inr (Nat.le_refl _))) id
      have HL2 : Hid (Blk ((w1.alloc (.cells #[.int .i64 0, .int .i64 0, .int .i64 0, .int .i64 0, .slice none 0 0] 91)).setCells w1.heap.size 0 x) w1.heap.size x.toArray 91) := (unhide HN1).whole x (by rw [(unhide HE).1]; rfl)
      have hs2 : ((w1.alloc (.cells #[.int .i64 0, .int .i64 0, .int .i64 0, .int .i64 0, .slice none 0 0] 91)).setCells w1.heap.size 0 x).heap.size = w1.heap.size + 1 := by rw [setCells_size, World.size_alloc]
      clear hb1 hr1 hc1 hcw1 HB HR HC hszx HB1 HR1 HC1 HN1
      have HLX := hide (list5 (unhide HE).1)
      go_wp2_with (show wpList _ _ _ (Oper.mk none (Op.store 91 (Operand.tmp 4) _) _ _ _ _ :: _) _ _; refine wpList_store_mid rfl 91 _ _ rfl w1.heap.size 0 x.toArray rfl rfl (unhide HT1) (unhide HSX) (unhide HOX) ?_; generalize (w1.alloc (.cells #[.int .i64 0, .int .i64 0, .int .i64 0, .int .i64 0, .slice none 0 0] 91)).setCells w1.heap.size 0 x = w2 at *; obtain ⟨v0, v1, v2, v3, v4, hxv⟩ := unhide HLX; subst hxv; have C0 := (unhide HL2).cell 0; have C1 := (unhide HL2).cell 1; have C2 := (unhide HL2).cell 2; have C3 := (unhide HL2).cell 3; have C4 := (unhide HL2).cell 4; simp only [List.getElem?_toArray, List.getElem?_cons_zero, List.getElem?_cons_succ] at C0 C1 C2 C3 C4)
      have hvl2 : vb < w2.heap.size := by omega
      refine (unhide HW w2 ((unhide HD).chg (unhide HC2) (by rintro (h | h); exact hdv h; exact hdg h))).mono ?_
      rintro e w3 ⟨rfl, hb3⟩
      have hs3 := hb3.size
      have HB3 := hide ((unhide HB2).below hb3 hvl2)
      have HR3 := hide ((unhide HR2').chg (X := fun _ => False) (Chg.of_new hb3) id)
      have HC3 := hide (chg_new (unhide HC2) hb3)
      have HL3 := hide ((unhide HL2).below hb3 (by omega))
      have D0 := (unhide HL3).cell 0
      have D1 := (unhide HL3).cell 1
      have D2 := (unhide HL3).cell 2
      have D3 := (unhide HL3).cell 3
      have D4 := (unhide HL3).cell 4
      simp only [List.getElem?_toArray, List.getElem?_cons_zero, List.getElem?_cons_succ] at D0 D1 D2 D3 D4
      clear hb3 HB2 HR2' HC2 HL2 C0 C1 C2 C3 C4 HW
      cases hk : (c.disk != d)
      · have hrn := unhide HR2
        rw [hk, if_neg (by decide)] at hrn
        have HRN := hide hrn
        clear hk hrn HR2 D0 D1 D2 D3 D4
        go_wp2
        go_roundw
        case rel => exact ⟨j + 1, f1, by omega, by go_num, by rw [unhide HRN]; exact unhide HB3, by rw [unhide HRN]; exact unhide HR3, unhide HC3⟩
        case measure => simp [intOf]; omega
      · have hrn := unhide HR2
        rw [hk, if_pos rfl] at hrn
        have HRN := hide hrn
        clear hk hrn HR2
        go_wp2_with fail
        clear D0 D1 D2 D3 D4
        refine (putC_any vb o _ t0 g n f1 (r.map Cmd.cells) [v0, v1, v2, v3, v4] w3 (unhide HB3) (upd3_at0 _ _ _ ho) (upd3_at1 _ _ _ ho) (by rw [List.length_map]; exact upd3_at2 _ _ _ ho) (unhide HR3) hn hvg (unhide HE)).mono ?_
        rintro e w4 ⟨rfl, g', n', f', hb4, hr4, _, hgn, hc4⟩
        have hgn' : g' = g ∧ n' = n := by
          rcases hgn with ⟨_, h1, h2⟩ | ⟨h, _⟩
          · exact ⟨h1, h2⟩
          · rw [List.length_map] at h; omega
        obtain ⟨rfl, rfl⟩ := hgn'
        rw [upd3_upd3, List.length_map] at hb4
        have HB4 : Hid (Blk w4 vb (upd3 cs o (plV g' n') (.int .i64 (f' : Int)) (.int .i64 ((roundL xs d (j + 1)).length : Int))) t0) := by
          rw [unhide HRN, List.length_append]
          exact hb4
        have HR4 : Hid (RingB w4 91 5 g' n' f' ((roundL xs d (j + 1)).map Cmd.cells)) := by
          rw [unhide HRN, List.map_append, List.map_cons, List.map_nil, unhide HXC]
          exact hr4
        have HC4 := hide ((unhide HC3).trans hc4 (fun k h => Or.inl h))
        clear hb4 hr4 hc4 hgn
        go_wp2
        go_roundw
        case rel => exact ⟨j + 1, f', by omega, by go_num, unhide HB4, unhide HR4, unhide HC4⟩
        case measure => simp [intOf]; omega
    · obtain rfl : j = xs.length := by omega
      have HB := hide hb
      have HR := hide hr
      have HC := hide hc
      clear hb hr hc
      go_wp2
      refine bodyPost_end (results_none rfl _ _ _) rfl ⟨rfl, f0, ?_, ?_, unhide HC⟩
      · have := unhide HB
        rw [show roundL xs d xs.length = xs.filter (fun c => c.disk != d) by simp [roundL]] at this
        exact this
      · have := unhide HR
        rw [show roundL xs d xs.length = xs.filter (fun c => c.disk != d) by simp [roundL]] at this
        exact this

end Go.Proofs.YtdcinlkkjbclmaaGreat

/- The map of commands that were told: looked up, laid down, struck out, counted. -/
namespace Go.Proofs.YtdcinlkkjbclmaaGreat
open Go.RowKit

/-- block mb is a map of these commands, by their numbers -/
def MapB (w : World) (mb : Nat) (ts : List Cmd) : Prop := ∃ (es : Array MapEntry) (clock : Nat), w.heap[mb]? = some (.map es clock) ∧ es.toList.map (fun e => (e.key, e.val)) = ts.map (fun c => (Value.int .i64 c.id, Value.agg c.cells.toArray))
theorem MapB.lt {w : World} {mb : Nat} {ts : List Cmd} (h : MapB w mb ts) : mb < w.heap.size := by
  obtain ⟨es, clock, h, _⟩ := h
  exact (Array.getElem?_eq_some_iff.1 h).1
theorem MapB.chg {X : Nat → Prop} {w w' : World} {mb : Nat} {ts : List Cmd} (h : MapB w mb ts) (hc : Chg X w w') (hx : ¬ X mb) : MapB w' mb ts := by
  have hl := h.lt
  obtain ⟨es, clock, h, e⟩ := h
  exact ⟨es, clock, (hc.block mb hl hx).trans h, e⟩
theorem MapB.new (w : World) : MapB (w.alloc (.map #[] 0)) w.heap.size [] := ⟨#[], 0, heap_alloc_new w _, rfl⟩
theorem eraseIdx_map' {α β : Type} (f : α → β) : ∀ (l : List α) (j : Nat), (l.map f).eraseIdx j = (l.eraseIdx j).map f
  | [], _ => by simp
  | a :: r, 0 => by simp
  | a :: r, j + 1 => by simp [eraseIdx_map' f r j]
theorem find_told (id : Int) : ∀ (l : List MapEntry) (ts : List Cmd) (i : Nat), l.map (fun e => (e.key, e.val)) = ts.map (fun c => (Value.int .i64 c.id, Value.agg c.cells.toArray)) →
    Instr.findNow (.int .i64) (.int .i64 id) l i = some ((ts.findIdx? (fun c => c.id == id)).map fun j => (i + j, Value.agg ((ts.getD j ⟨0, 0, 0, 0, undef⟩).cells.toArray))) := by
  intro l
  induction l with
  | nil => intro ts i h; cases ts with
    | nil => rfl
    | cons c r => simp at h
  | cons e r ih =>
    intro ts i h
    cases ts with
    | nil => simp at h
    | cons c r' =>
      simp only [List.map_cons, List.cons.injEq, Prod.mk.injEq] at h
      obtain ⟨⟨h1, h2⟩, h3⟩ := h
      unfold Instr.findNow
      rw [h1]
      simp only [Instr.sameNow, if_true]
      by_cases e1 : id = c.id
      · subst e1
        simp [h2, List.findIdx?_cons]
      · have e2 : (id == c.id) = false := by simp [e1]
        have e3 : (c.id == id) = false := by simp; exact fun h => e1 h.symm
        rw [e2]
        simp only
        rw [ih r' (i + 1) h3, List.findIdx?_cons, e3]
        cases r'.findIdx? (fun c => c.id == id) with
        | none => rfl
        | some j => simp; omega

section
variable {P : Program} {w : World} {mt kt et : TypeId}
theorem run_lookup_told (hm : P.underlying mt = some (.map kt et)) (hk : P.underlying kt = some (.int .i64)) {mb : Nat} {ts : List Cmd} (h : MapB w mb ts) (id : Int) (j : Nat) (c : Cmd) (hj : ts.findIdx? (fun c => c.id == id) = some j) (hc : ts[j]? = some c) :
    (Instr.lookup mt (.map (some mb)) (.int .i64 id) true).run P w = .ok (.tuple #[.agg c.cells.toArray, .bool true]) w := by
  obtain ⟨es, clock, hb, he⟩ := h
  have hf := find_told id es.toList ts 0 he
  rw [hj] at hf
  have hg : ts.getD j ⟨0, 0, 0, 0, undef⟩ = c := by rw [List.getD_eq_getElem?_getD, hc]; rfl
  simp only [Option.map_some, hg] at hf
  simp only [Instr.lookup, Sem.run_bind, run_underlying hm, Result.andThen, Go.MapKept.run_getObj_map hb, Sem.run_pure, Go.MapKept.run_checkKey (k := .int .i64 id) hk (by simp [Go.MapKept.IsKey]), Go.MapKept.run_findKey hk hf]
  rfl
theorem run_lookup_none (hm : P.underlying mt = some (.map kt et)) (hk : P.underlying kt = some (.int .i64)) {mb : Nat} {ts : List Cmd} (h : MapB w mb ts) (id : Int) (hj : ts.findIdx? (fun c => c.id == id) = none) {z : Value} (hz : (zeroValue et).run P w = .ok z w) :
    (Instr.lookup mt (.map (some mb)) (.int .i64 id) true).run P w = .ok (.tuple #[z, .bool false]) w := by
  obtain ⟨es, clock, hb, he⟩ := h
  have hf := find_told id es.toList ts 0 he
  rw [hj] at hf
  simp only [Option.map_none] at hf
  simp only [Instr.lookup, Sem.run_bind, run_underlying hm, Result.andThen, Go.MapKept.run_getObj_map hb, Sem.run_pure, Go.MapKept.run_checkKey (k := .int .i64 id) hk (by simp [Go.MapKept.IsKey]), Go.MapKept.run_findKey hk hf, hz]
  rfl
/-- the world with block mb anew -/
def putMap (w : World) (mb : Nat) (o : Obj) : World := { w with heap := w.heap.setIfInBounds mb o }
theorem chg_putMap {X : Nat → Prop} {w0 : World} (h : Chg X w0 w) (mb : Nat) (o : Obj) (hx : X mb ∨ w0.heap.size ≤ mb) : Chg X w0 (putMap w mb o) :=
  ⟨h.os, h.tape, h.output, by show _ ≤ (w.heap.setIfInBounds mb o).size; rw [Array.size_setIfInBounds]; exact h.size, fun k hk hn => by
    have hne : mb ≠ k := fun e => hx.elim (fun h' => hn (e ▸ h')) (fun h' => by omega)
    show (w.heap.setIfInBounds mb o)[k]? = _
    rw [Array.getElem?_setIfInBounds_ne hne]
    exact h.block k hk hn⟩
theorem run_update_told (hm : P.underlying mt = some (.map kt et)) (hk : P.underlying kt = some (.int .i64)) {mb : Nat} {ts : List Cmd} (h : MapB w mb ts) (c : Cmd) (hj : ts.findIdx? (fun d => d.id == c.id) = none) :
    ∃ o, (Instr.mapUpdate mt (.map (some mb)) (.int .i64 c.id) (.agg c.cells.toArray)).run P w = .ok () (putMap w mb o) ∧ MapB (putMap w mb o) mb (ts ++ [c]) := by
  obtain ⟨es, clock, hb, he⟩ := h
  have hf := find_told c.id es.toList ts 0 he
  rw [hj] at hf
  simp only [Option.map_none] at hf
  have hl : mb < w.heap.size := (Array.getElem?_eq_some_iff.1 hb).1
  refine ⟨.map (es.push { key := .int .i64 c.id, val := .agg c.cells.toArray, born := clock }) (clock + 1), ?_, ?_⟩
  · simp only [Instr.mapUpdate, Sem.run_bind, run_underlying hm, Result.andThen, Go.MapKept.run_getObj_map hb, Go.MapKept.run_checkKey (k := .int .i64 c.id) hk (by simp [Go.MapKept.IsKey]), Go.MapKept.run_findKey hk hf, Go.MapKept.run_setObj_map _ hb]
    rfl
  · refine ⟨_, _, by show (w.heap.setIfInBounds mb _)[mb]? = _; simp [hl]; exact ⟨rfl, rfl⟩, ?_⟩
    simp [he]
theorem run_delete_told (hm : P.underlying mt = some (.map kt et)) (hk : P.underlying kt = some (.int .i64)) {mb : Nat} {ts : List Cmd} (h : MapB w mb ts) (id : Int) (j : Nat) (hj : ts.findIdx? (fun c => c.id == id) = some j) (ty : TypeId) :
    ∃ o, (Builtin.delete_ #[mt, kt] ty #[.map (some mb), .int .i64 id]).run P w = .ok (.tuple #[]) (putMap w mb o) ∧ MapB (putMap w mb o) mb (ts.eraseIdx j) := by
  obtain ⟨es, clock, hb, he⟩ := h
  have hf := find_told id es.toList ts 0 he
  rw [hj] at hf
  simp only [Option.map_some, Nat.zero_add] at hf
  have hl : mb < w.heap.size := (Array.getElem?_eq_some_iff.1 hb).1
  have hjl : j < es.size := by
    have h1 := (List.findIdx?_eq_some_iff_getElem.1 hj).1
    have h2 := congrArg List.length he
    simp at h2
    omega
  refine ⟨.map (es.eraseIdxIfInBounds j) clock, ?_, ?_⟩
  · simp only [Builtin.delete_, List.getElem?_toArray, List.getElem?_cons_zero, List.getElem?_cons_succ, Sem.run_bind, run_underlying hm, Result.andThen, Go.MapKept.run_getObj_map hb, Go.MapKept.run_checkKey (k := .int .i64 id) hk (by simp [Go.MapKept.IsKey]), Go.MapKept.run_findKey hk hf, Go.MapKept.run_setObj_map _ hb, Sem.run_pure]
    rfl
  · refine ⟨_, _, by show (w.heap.setIfInBounds mb _)[mb]? = _; simp [hl]; exact ⟨rfl, rfl⟩, ?_⟩
    have e1 : (es.eraseIdxIfInBounds j).toList = es.toList.eraseIdx j := by
      unfold Array.eraseIdxIfInBounds
      rw [dif_pos hjl, Array.toList_eraseIdx]
    rw [e1, ← eraseIdx_map', ← eraseIdx_map', he]
theorem run_len_told (hm : P.underlying mt = some (.map kt et)) {mb : Nat} {ts : List Cmd} (h : MapB w mb ts) (ty : TypeId) : (Builtin.len_ #[mt] ty #[.map (some mb)]).run P w = .ok (.int .i64 (ts.length : Int)) w := by
  obtain ⟨es, clock, hb, he⟩ := h
  have h2 := congrArg List.length he
  simp at h2
  simp only [Builtin.len_, List.getElem?_toArray, List.getElem?_cons_zero, Sem.run_bind, run_underlying hm, Result.andThen, Go.MapKept.run_getObj_map hb, Sem.run_pure, h2]
  rfl
end

end Go.Proofs.YtdcinlkkjbclmaaGreat
